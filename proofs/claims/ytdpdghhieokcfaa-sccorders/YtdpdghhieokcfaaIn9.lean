/- The reference's in and Comp. -/
import Derived.Test.YtdpdghhieokcfaaSame9
namespace Go.Proofs.Ytdpdghhieokcfaa
open Go.RowKit Go.Maps T9
/-- The place of the list that has it, or -1. -/
def compAt (xss : List (List Int)) (x : Int) : Int := match xss.findIdx? (fun l => decide (x ∈ l)) with | some i => (i : Nat) | none => -1
theorem compAt_some {xss : List (List Int)} {x : Int} {i : Nat} {y : List Int} (hy : xss[i]? = some y) (hx : x ∈ y) (hS : ∀ (j : Nat) (l : List Int), j < i → xss[j]? = some l → x ∉ l) : compAt xss x = (i : Int) := by
  obtain ⟨hl, e⟩ := List.getElem?_eq_some_iff.1 hy
  have : xss.findIdx? (fun l => decide (x ∈ l)) = some i := by
    rw [List.findIdx?_eq_some_iff_getElem]
    refine ⟨hl, by rw [e]; exact decide_eq_true hx, fun j hj => ?_⟩
    have := hS j xss[j] hj (List.getElem?_eq_getElem (by omega))
    simpa using this
  unfold compAt; rw [this]
theorem compAt_none {xss : List (List Int)} {x : Int} (hS : ∀ (j : Nat) (l : List Int), xss[j]? = some l → x ∉ l) : compAt xss x = -1 := by
  have : xss.findIdx? (fun l => decide (x ∈ l)) = none := by
    rw [List.findIdx?_eq_none_iff]
    intro l hl
    obtain ⟨j, hj⟩ := List.mem_iff_getElem?.1 hl
    exact decide_eq_false (hS j l hj)
  unfold compAt; rw [this]
set_option maxHeartbeats 4000000 in
set_option maxRecDepth 100000 in
theorem inS {w : World} {v : Value} {ks : List Int} {x : Int} (h : NRow w v ks) (hl : ks.length ≤ 1000000) :
    Calls Try.prog 28 #[v, .int .i64 x] w fun e w' => e = .returned (.bool (decide (x ∈ ks))) ∧ w' = w := by
  obtain ⟨x1, c1, e1, -⟩ := brow_shape h
  obtain ⟨n1, hn1⟩ : ∃ n1, n1 = ks.length := ⟨_, rfl⟩
  rw [← hn1] at e1
  have HN : Hid (n1 = ks.length ∧ n1 ≤ 1000000) := ⟨hn1, by omega⟩
  have HC := hide h
  clear h hl hn1
  subst e1
  generalize hrr : decide (x ∈ ks) = rr
  have HRR := hide hrr
  clear hrr
  go_enter Try.func28, Try.ntmps28
  go_wp2_with fail
  go_loopw [5] (fun s5 wr => ∃ i : Nat, s5 = .int .i64 (i : Nat) ∧ wr = w ∧ i ≤ n1 ∧ Hid (∀ j : Nat, j < i → ks[j]? ≠ some x)) (fun s5 _ => n1 - (intOf s5).toNat)
  case atStart => exact ⟨0, rfl, rfl, Nat.zero_le _, fun j hj => absurd hj (Nat.not_lt_zero _)⟩
  case round =>
    obtain ⟨i, rfl, rfl, hi, hS⟩ := hrel
    obtain ⟨l1, l2⟩ := unhide HN
    by_cases hlt : i < n1
    · obtain ⟨y, hy⟩ : ∃ y, ks[i]? = some y := ⟨_, List.getElem?_eq_getElem (by omega)⟩
      obtain ⟨g1, hg1⟩ := brow_some (unhide HC) (by omega)
      subst hg1
      have k1 := brow_at (unhide HC) hy
      have z1 : (i : Int) < (n1 : Int) := by omega
      by_cases hyy : y = x
      · subst hyy
        have HG : Hid (rr = true) := by
          show rr = true
          rw [← unhide HRR]; exact decide_eq_true (List.mem_of_getElem? hy)
        clear hy hlt hi hS l1 l2
        go_wp2_with fail
        go_ret
        exact ⟨by rw [unhide HG]; rfl, rfl⟩
      · have hz : (y == x) = false := by simpa using hyy
        obtain ⟨i1, hi1⟩ : ∃ i1, i1 = i + 1 := ⟨_, rfl⟩
        have zw : Hid (wrap64 ((i : Int) + 1) = (i1 : Int)) := by show wrap64 ((i : Int) + 1) = (i1 : Int); unfold wrap64; omega
        have HJ : Hid ((∀ j : Nat, j < i1 → ks[j]? ≠ some x) ∧ i1 ≤ n1 ∧ n1 - i1 < n1 - i) := ⟨fun j hj => by
            by_cases e : j = i
            · rw [e, hy]; exact fun q => hyy (by injection q)
            · exact unhide hS j (by omega), by omega, by omega⟩
        clear hy hlt hi hS l1 l2 hyy hi1
        go_wp2_with fail
        rw [unhide zw]
        exact ⟨⟨i1, rfl, trivial, (unhide HJ).2.1, (unhide HJ).1⟩, by have := (unhide HJ).2.2; simp [intOf]; omega⟩
    · have HG : Hid (rr = false) := by
        show rr = false
        rw [← unhide HRR]
        refine decide_eq_false (fun e => ?_)
        obtain ⟨j, hj⟩ := List.mem_iff_getElem?.1 e
        exact unhide hS j (by have := (List.getElem?_eq_some_iff.1 hj).1; omega) hj
      have z1 : ¬ (i : Int) < (n1 : Int) := by omega
      clear hlt hi hS l1 l2
      go_wp2_with fail
      go_ret
      exact ⟨by rw [unhide HG]; rfl, rfl⟩
set_option maxHeartbeats 4000000 in
set_option maxRecDepth 100000 in
theorem compS {w : World} {v : Value} {xss : List (List Int)} {x : Int} (h : LLr w v xss) (hl : xss.length ≤ 1000000) (hll : ∀ l ∈ xss, l.length ≤ 1000000) :
    Calls Try.prog 20 #[v, .int .i64 x] w fun e w' => e = .returned (.int .i64 (compAt xss x)) ∧ w' = w := by
  obtain ⟨x1, c1, e1, H1⟩ := h
  obtain ⟨n1, hn1⟩ : ∃ n1, n1 = xss.length := ⟨_, rfl⟩
  rw [← hn1] at e1
  have HN : Hid (n1 = xss.length ∧ n1 ≤ 1000000 ∧ ∀ l ∈ xss, l.length ≤ 1000000) := ⟨hn1, by omega, hll⟩
  have HC := hide H1
  clear H1 hl hn1 hll
  subst e1
  generalize hrr : compAt xss x = rr
  have HRR := hide hrr
  clear hrr
  go_enter Try.func20, Try.ntmps20
  go_wp2_with fail
  go_loopw [5] (fun s5 wr => ∃ i : Nat, s5 = .int .i64 (i : Nat) ∧ wr = w ∧ i ≤ n1 ∧ Hid (∀ (j : Nat) (l : List Int), j < i → xss[j]? = some l → x ∉ l)) (fun s5 _ => n1 - (intOf s5).toNat)
  case atStart => exact ⟨0, rfl, rfl, Nat.zero_le _, fun j l hj => absurd hj (Nat.not_lt_zero _)⟩
  case round =>
    obtain ⟨i, rfl, rfl, hi, hS⟩ := hrel
    obtain ⟨l1, l2, l3⟩ := unhide HN
    by_cases hlt : i < n1
    · obtain ⟨y, hy⟩ : ∃ y, xss[i]? = some y := ⟨_, List.getElem?_eq_getElem (by omega)⟩
      obtain ⟨g1, u1, hg1, k1, r1⟩ := unhide HC i y hy
      subst hg1
      have CI := hide (inS (x := x) r1 (l3 y (List.mem_of_getElem? hy)))
      obtain ⟨ux1, uc1, ue1, -⟩ := brow_shape r1
      subst ue1
      have z1 : (i : Int) < (n1 : Int) := by omega
      by_cases hyy : x ∈ y
      · have HG : Hid (rr = (i : Int)) := by
          show rr = (i : Int)
          rw [← unhide HRR]; exact compAt_some hy hyy (unhide hS)
        rw [decide_eq_true hyy] at CI
        clear hy hlt hi hS l1 l2 l3 r1 hyy
        generalize y.length = m1 at *
        go_wp2_with fail
        refine (unhide CI).mono ?_
        rintro e w' ⟨rfl, rfl⟩
        go_wp2_with fail
        go_ret
        exact ⟨by rw [unhide HG]; rfl, rfl⟩
      · rw [decide_eq_false hyy] at CI
        obtain ⟨i1, hi1⟩ : ∃ i1, i1 = i + 1 := ⟨_, rfl⟩
        have zw : Hid (wrap64 ((i : Int) + 1) = (i1 : Int)) := by show wrap64 ((i : Int) + 1) = (i1 : Int); unfold wrap64; omega
        have HJ : Hid ((∀ (j : Nat) (l : List Int), j < i1 → xss[j]? = some l → x ∉ l) ∧ i1 ≤ n1 ∧ n1 - i1 < n1 - i) := ⟨fun j l hj hl => by
            by_cases e : j = i
            · rw [e, hy] at hl; injection hl with hl; rw [← hl]; exact hyy
            · exact unhide hS j l (by omega) hl, by omega, by omega⟩
        clear hy hlt hi hS l1 l2 l3 r1 hyy hi1
        generalize y.length = m1 at *
        go_wp2_with fail
        refine (unhide CI).mono ?_
        rintro e w' ⟨rfl, rfl⟩
        clear CI
        go_wp2_with fail
        rw [unhide zw]
        exact ⟨⟨i1, rfl, trivial, (unhide HJ).2.1, (unhide HJ).1⟩, by have := (unhide HJ).2.2; simp [intOf]; omega⟩
    · have HG : Hid (rr = -1) := by
        show rr = -1
        rw [← unhide HRR]
        exact compAt_none (fun j l hl => unhide hS j l (by have := (List.getElem?_eq_some_iff.1 hl).1; omega) hl)
      have z1 : ¬ (i : Int) < (n1 : Int) := by omega
      clear hlt hi hS l1 l2 l3
      go_wp2_with fail
      go_ret
      exact ⟨by rw [unhide HG]; rfl, rfl⟩
end Go.Proofs.Ytdpdghhieokcfaa
