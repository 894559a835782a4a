/- The reference's SameInts and SameLists. -/
import Derived.Test.YtdpdghhieokcfaaApi92
namespace Go.Proofs.Ytdpdghhieokcfaa
open Go.RowKit Go.Maps T9
set_option maxHeartbeats 4000000 in
set_option maxRecDepth 100000 in
theorem sameInts9 {w : World} {v1 v2 : Value} {a b : List Int} (h1 : NRow w v1 a) (h2 : NRow w v2 b) (hl : a.length ≤ 1000000) :
    Calls Try.prog 17 #[v1, v2] w fun e w' => e = .returned (.bool (decide (a = b))) ∧ ∃ q, w' = w.drewN q := by
  obtain ⟨x1, c1, e1, -⟩ := brow_shape h1
  obtain ⟨x2, c2, e2, -⟩ := brow_shape h2
  obtain ⟨n1, hn1⟩ : ∃ n1, n1 = a.length := ⟨_, rfl⟩
  obtain ⟨n2, hn2⟩ : ∃ n2, n2 = b.length := ⟨_, rfl⟩
  rw [← hn1] at e1
  rw [← hn2] at e2
  have HN : Hid (n1 = a.length ∧ n2 = b.length ∧ n1 ≤ 1000000) := ⟨hn1, hn2, by omega⟩
  have HC := hide (And.intro h1 h2)
  clear h1 h2 hl hn1 hn2
  subst e1 e2
  generalize hrr : decide (a = b) = rr
  have HRR := hide hrr
  clear hrr
  by_cases hlen : n1 = n2
  · subst hlen
    go_enter Try.func17, Try.ntmps17
    go_wp2_with fail
    go_loopw [13] (fun s13 wr => ∃ i q : Nat, s13 = .int .i64 (i : Nat) ∧ wr = w.drewN q ∧ i ≤ n1 ∧ Hid (∀ j, j < i → a[j]? = b[j]?)) (fun s13 _ => n1 - (intOf s13).toNat)
    case atStart => exact ⟨0, 0, rfl, rfl, Nat.zero_le _, fun j hj => absurd hj (Nat.not_lt_zero _)⟩
    case round =>
      obtain ⟨i, q, rfl, rfl, hi, hS⟩ := hrel
      obtain ⟨l1, l2, l3⟩ := unhide HN
      by_cases hlt : i < n1
      · obtain ⟨y1, hy1⟩ : ∃ y, a[i]? = some y := ⟨_, List.getElem?_eq_getElem (by omega)⟩
        obtain ⟨y2, hy2⟩ : ∃ y, b[i]? = some y := ⟨_, List.getElem?_eq_getElem (by omega)⟩
        obtain ⟨g1, hg1⟩ := brow_some (unhide HC).1 (by omega)
        subst hg1
        obtain ⟨g2, hg2⟩ := brow_some (unhide HC).2 (by omega)
        subst hg2
        have k1 := brow_at (unhide HC).1 hy1
        have k2 := brow_at (unhide HC).2 hy2
        have z1 : (i : Int) < (n1 : Int) := by omega
        obtain ⟨i1, hi1⟩ : ∃ i1, i1 = i + 1 := ⟨_, rfl⟩
        have zw : Hid (wrap64 ((i : Int) + 1) = (i1 : Int)) := by show wrap64 ((i : Int) + 1) = (i1 : Int); unfold wrap64; omega
        by_cases hyy : y1 = y2
        · subst hyy
          have HJ : Hid ((∀ j, j < i1 → a[j]? = b[j]?) ∧ i1 ≤ n1 ∧ n1 - i1 < n1 - i) := ⟨fun j hj => by
            by_cases e : j = i
            · rw [e, hy1, hy2]
            · exact unhide hS j (by omega), by omega, by omega⟩
          clear hy1 hy2 hi1 hlt hi hS l1 l2 l3
          go_wp2_with fail
          go_quiet (fail)
          go_wp2_with fail
          rw [unhide zw]
          exact ⟨⟨i1, _, rfl, rfl, (unhide HJ).2.1, (unhide HJ).1⟩, by have := (unhide HJ).2.2; simp [intOf]; omega⟩
        · have hz : (y1 == y2) = false := by simpa using hyy
          have HG : Hid (rr = false) := by
            rw [← unhide HRR]
            refine decide_eq_false (fun e => ?_)
            rw [e, hy2] at hy1
            injection hy1 with hy1
            exact hyy hy1.symm
          clear hy1 hy2 hi1 hlt hi hS l1 l2 l3 hyy
          go_wp2_with fail
          go_quiet (fail)
          go_wp2_with fail
          go_ret
          exact ⟨by rw [unhide HG]; rfl, _, World.drewN_drewN _ _ _⟩
      · have z1 : ¬ (i : Int) < (n1 : Int) := by omega
        have HG : Hid (rr = true) := by
          rw [← unhide HRR]
          refine decide_eq_true (List.ext_getElem? (fun j => ?_))
          by_cases hj : j < n1
          · exact unhide hS j (by omega)
          · rw [List.getElem?_eq_none (by omega), List.getElem?_eq_none (by omega)]
        clear hlt hi hS l1 l2 l3
        go_wp2_with fail
        go_ret
        exact ⟨by rw [unhide HG]; rfl, _, rfl⟩
  · have hz : ((n1 : Int) == (n2 : Int)) = false := by simp; omega
    have HG : Hid (rr = false) := by
      rw [← unhide HRR]
      refine decide_eq_false (fun e => ?_)
      obtain ⟨l1, l2, -⟩ := unhide HN
      rw [e] at l1; omega
    clear hlen
    go_enter Try.func17, Try.ntmps17
    go_wp2_with fail
    go_ret
    exact ⟨by rw [unhide HG]; rfl, 0, rfl⟩
/-- A list of lists that can be read. -/
def LLr (w : World) (v : Value) (xss : List (List Int)) : Prop := ∃ x c, v = .slice x xss.length c ∧ ∀ (i : Nat) (ks : List Int), xss[i]? = some ks → ∃ g y, x = some ⟨g, 0, none⟩ ∧ w.cell? ⟨g, i, none⟩ = some y ∧ NRow w y ks
theorem LLat.r {B a : Nat} {L : Nat → Nat} {w : World} {v : Value} {vs : List Value} {xss : List (List Int)} (h : LLat B L a w v vs xss) : LLr w v xss := by
  obtain ⟨x, c, e, -⟩ := h.shape
  subst e
  refine ⟨x, c, rfl, fun i ks hi => ?_⟩
  obtain ⟨g, hg⟩ := h.some_ (by have := (List.getElem?_eq_some_iff.1 hi).1; omega)
  subst hg
  obtain ⟨y, h1, h2⟩ := h.inrow hi
  exact ⟨g, y, rfl, h.cell h1, brow_at0 h2⟩
theorem llr_below {w w' : World} {v : Value} {xss : List (List Int)} (h : LLr w v xss) (hb : Below w.heap.size w w') : LLr w' v xss := by
  obtain ⟨x, c, e, hh⟩ := h
  refine ⟨x, c, e, fun i ks hi => ?_⟩
  obtain ⟨g, y, e1, e2, e3⟩ := hh i ks hi
  have hl : g < w.heap.size := by
    have h2 := e2
    unfold World.cell? at h2
    rcases Nat.lt_or_ge g w.heap.size with q | q
    · exact q
    · rw [Array.getElem?_eq_none q] at h2; cases h2
  exact ⟨g, y, e1, (hb.cell (p := ⟨g, i, none⟩) hl).trans e2, nrow_below e3 hb⟩
theorem llr_drew {w : World} {v : Value} {xss : List (List Int)} (h : LLr w v xss) (q : Nat) : LLr (w.drewN q) v xss := llr_below h ⟨rfl, rfl, rfl, Nat.le_refl _, fun _ _ => rfl⟩
set_option maxHeartbeats 4000000 in
set_option maxRecDepth 100000 in
theorem sameLists9 {w : World} {v1 v2 : Value} {a b : List (List Int)} (h1 : LLr w v1 a) (h2 : LLr w v2 b) (hl : a.length ≤ 1000000) (hll : ∀ l ∈ a, l.length ≤ 1000000) :
    Calls Try.prog 15 #[v1, v2] w fun e w' => e = .returned (.bool (decide (a = b))) ∧ ∃ q, w' = w.drewN q := by
  obtain ⟨x1, c1, e1, H1⟩ := h1
  obtain ⟨x2, c2, e2, H2⟩ := h2
  obtain ⟨n1, hn1⟩ : ∃ n1, n1 = a.length := ⟨_, rfl⟩
  obtain ⟨n2, hn2⟩ : ∃ n2, n2 = b.length := ⟨_, rfl⟩
  rw [← hn1] at e1
  rw [← hn2] at e2
  have HN : Hid (n1 = a.length ∧ n2 = b.length ∧ n1 ≤ 1000000 ∧ ∀ l ∈ a, l.length ≤ 1000000) := ⟨hn1, hn2, by omega, hll⟩
  have HC := hide (And.intro H1 H2)
  clear H1 H2 hl hn1 hn2 hll
  subst e1 e2
  generalize hrr : decide (a = b) = rr
  have HRR := hide hrr
  clear hrr
  by_cases hlen : n1 = n2
  · subst hlen
    go_enter Try.func15, Try.ntmps15
    go_wp2_with fail
    go_loopw [13] (fun s13 wr => ∃ i q : Nat, s13 = .int .i64 (i : Nat) ∧ wr = w.drewN q ∧ i ≤ n1 ∧ Hid (∀ j, j < i → a[j]? = b[j]?)) (fun s13 _ => n1 - (intOf s13).toNat)
    case atStart => exact ⟨0, 0, rfl, rfl, Nat.zero_le _, fun j hj => absurd hj (Nat.not_lt_zero _)⟩
    case round =>
      obtain ⟨i, q, rfl, hwr, hi, hS⟩ := hrel
      have HWR := hide hwr
      obtain ⟨l1, l2, l3, l4⟩ := unhide HN
      by_cases hlt : i < n1
      · obtain ⟨y1, hy1⟩ : ∃ y, a[i]? = some y := ⟨_, List.getElem?_eq_getElem (by omega)⟩
        obtain ⟨y2, hy2⟩ : ∃ y, b[i]? = some y := ⟨_, List.getElem?_eq_getElem (by omega)⟩
        obtain ⟨g1, u1, hg1, k1, r1⟩ := (unhide HC).1 i y1 hy1
        subst hg1
        obtain ⟨g2, u2, hg2, k2, r2⟩ := (unhide HC).2 i y2 hy2
        subst hg2
        have k1 : wr.cell? ⟨g1, i, none⟩ = some u1 := by rw [hwr]; exact k1
        have k2 : wr.cell? ⟨g2, i, none⟩ = some u2 := by rw [hwr]; exact k2
        have CS : Hid (∀ Q, Calls Try.prog 17 #[u1, u2] (wr.drewN Q) fun e w' => e = .returned (.bool (decide (y1 = y2))) ∧ ∃ m, w' = wr.drewN m) := fun Q => by
          rw [hwr]
          exact Calls.quiet_of (sameInts9 (nrow_kept r1 (fun _ _ => rfl)) (nrow_kept r2 (fun _ _ => rfl)) (l4 y1 (List.mem_of_getElem? hy1)))
        obtain ⟨ux1, uc1, ue1, -⟩ := brow_shape r1
        obtain ⟨ux2, uc2, ue2, -⟩ := brow_shape r2
        subst ue1 ue2
        have z1 : (i : Int) < (n1 : Int) := by omega
        obtain ⟨i1, hi1⟩ : ∃ i1, i1 = i + 1 := ⟨_, rfl⟩
        have zw : Hid (wrap64 ((i : Int) + 1) = (i1 : Int)) := by show wrap64 ((i : Int) + 1) = (i1 : Int); unfold wrap64; omega
        by_cases hyy : y1 = y2
        · have HJ : Hid ((∀ j, j < i1 → a[j]? = b[j]?) ∧ i1 ≤ n1 ∧ n1 - i1 < n1 - i) := ⟨fun j hj => by
            by_cases e : j = i
            · rw [e, hy1, hy2, hyy]
            · exact unhide hS j (by omega), by omega, by omega⟩
          rw [decide_eq_true hyy] at CS
          clear hy1 hy2 hi1 hlt hi hS l1 l2 l3 l4 r1 r2 hyy hwr
          generalize y1.length = m1 at *
          generalize y2.length = m2 at *
          go_wp2_with fail
          go_quiet ((go_at_call 17; exact unhide CS _))
          go_wp2_with fail
          rw [unhide zw]
          exact ⟨⟨i1, _, rfl, by rw [unhide HWR]; exact World.drewN_drewN _ _ _, (unhide HJ).2.1, (unhide HJ).1⟩, by have := (unhide HJ).2.2; simp [intOf]; omega⟩
        · have HG : Hid (rr = false) := by
            rw [← unhide HRR]
            refine decide_eq_false (fun e => ?_)
            rw [e, hy2] at hy1
            injection hy1 with hy1
            exact hyy hy1.symm
          rw [decide_eq_false hyy] at CS
          clear hy1 hy2 hi1 hlt hi hS l1 l2 l3 l4 r1 r2 hyy hwr
          generalize y1.length = m1 at *
          generalize y2.length = m2 at *
          go_wp2_with fail
          go_quiet ((go_at_call 17; exact unhide CS _))
          go_wp2_with fail
          go_ret
          exact ⟨by rw [unhide HG]; rfl, _, by rw [unhide HWR]; exact World.drewN_drewN _ _ _⟩
      · have z1 : ¬ (i : Int) < (n1 : Int) := by omega
        have HG : Hid (rr = true) := by
          rw [← unhide HRR]
          refine decide_eq_true (List.ext_getElem? (fun j => ?_))
          by_cases hj : j < n1
          · exact unhide hS j (by omega)
          · rw [List.getElem?_eq_none (by omega), List.getElem?_eq_none (by omega)]
        clear hlt hi hS l1 l2 l3 l4 hwr
        go_wp2_with fail
        go_ret
        exact ⟨by rw [unhide HG]; rfl, _, unhide HWR⟩
  · have hz : ((n1 : Int) == (n2 : Int)) = false := by simp; omega
    have HG : Hid (rr = false) := by
      rw [← unhide HRR]
      refine decide_eq_false (fun e => ?_)
      obtain ⟨l1, l2, -⟩ := unhide HN
      rw [e] at l1; omega
    clear hlen
    go_enter Try.func15, Try.ntmps15
    go_wp2_with fail
    go_ret
    exact ⟨by rw [unhide HG]; rfl, 0, rfl⟩
end Go.Proofs.Ytdpdghhieokcfaa
