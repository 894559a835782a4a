/- slices.Equal over runs, Same, Clone. -/
import Derived.Test.YtdalghfhpekcfaaLiveK
import Derived.Deep.QuietTactic
namespace Go.Proofs.Ytdalghfhpekcfaa
open Go.RowKit Go.Shelf

theorem runs_ext {rs ss : List (Int × Int)} (hl : rs.length = ss.length) (h : ∀ i, i < rs.length → lo rs i = lo ss i ∧ hi rs i = hi ss i) : rs = ss := by
  apply List.ext_getElem hl
  intro i h1 h2
  have := h i h1
  simp only [lo, hi, List.getD_eq_getElem?_getD, List.getElem?_eq_getElem h1, List.getElem?_eq_getElem h2, Option.getD_some] at this
  exact Prod.ext this.1 this.2

theorem row_shape {w : World} {v : Value} {e : TypeId} {s n : Nat} {xs : List Value} (h : w.ownsRow 0 e s v n xs) : ∃ a c, v = .slice a n c := by
  rcases h.2 with ⟨rfl, h3⟩ | ⟨g, cap, cur, rfl, -⟩
  · exact ⟨none, 0, by rw [h3]⟩
  · exact ⟨_, _, rfl⟩

set_option maxHeartbeats 1000000 in
set_option maxRecDepth 100000 in
theorem equalK {va vb : Value} {rs ss : List (Int × Int)} (w : World) (ha : w.ownsRow 0 107 2 va rs.length (enc .i8 rs)) (hb : w.ownsRow 0 107 2 vb ss.length (enc .i8 ss)) (hn : rs.length ≤ 1099511627776) :
    Calls Try.prog 80 #[va, vb] w fun e w' => Says e (rs = ss) ∧ ∃ q, w' = w.drewN q := by
  by_cases hl : rs.length = ss.length
  · rcases Nat.eq_zero_or_pos rs.length with h0 | h0
    · obtain ⟨a, c, rfl⟩ := row_shape ha
      obtain ⟨a2, c2, rfl⟩ := row_shape hb
      have e1 : rs = [] := List.length_eq_zero_iff.1 h0
      have e2 : ss = [] := List.length_eq_zero_iff.1 (by omega)
      subst e1 e2
      clear ha hb hn hl h0
      go_enter Try.func80, Try.ntmps80
      go_wp2_with fail
      refine wp_loop_rounds 1 ?_
      rw [rounds_succ]
      go_wp2_with fail
      go_ret
      exact ⟨⟨true, rfl, by simp⟩, 0, rfl⟩
    · obtain ⟨g, c, cur, rfl, -⟩ := owns_rowed ha h0
      obtain ⟨g2, c2, cur2, rfl, -⟩ := owns_rowed hb (by omega)
      have HA := hide (owns_cells ha)
      have HB := hide (owns_cells hb)
      have HL := hide hl
      rw [← hl]
      generalize hL : rs.length = L at *
      have HLL := hide hL
      clear ha hb hl hL
      go_enter Try.func80, Try.ntmps80
      go_wp2_with fail
      go_loopw [13] (fun s13 wr => ∃ (k q : Nat), k ≤ L ∧ s13 = .int .i64 k ∧ wr = w.drewN q ∧ Hid (∀ i, i < k → lo rs i = lo ss i ∧ hi rs i = hi ss i)) (fun s13 _ => L - (intOf s13).toNat)
      case atStart => exact ⟨0, 0, Nat.zero_le _, rfl, rfl, fun i hi => absurd hi (Nat.not_lt_zero _)⟩
      case round =>
        obtain ⟨k, q, hk, rfl, rfl, HE⟩ := hrel
        by_cases hlt : k < L
        · have hltz : (k : Int) < (L : Int) := by omega
          have c1 := (unhide HA k hlt).1
          have c3 := (unhide HA k hlt).2
          have d1 := (unhide HB k (by have := unhide HL; omega)).1
          have d3 := (unhide HB k (by have := unhide HL; omega)).2
          obtain ⟨a1, e1⟩ : ∃ x, lo rs k = x := ⟨_, rfl⟩
          obtain ⟨a2, e2⟩ : ∃ x, hi rs k = x := ⟨_, rfl⟩
          obtain ⟨b1, e3⟩ : ∃ x, lo ss k = x := ⟨_, rfl⟩
          obtain ⟨b2, e4⟩ : ∃ x, hi ss k = x := ⟨_, rfl⟩
          rw [e1] at c1
          rw [e2] at c3
          rw [e3] at d1
          rw [e4] at d3
          have HEE : Hid ((lo rs k = a1 ∧ hi rs k = a2) ∧ lo ss k = b1 ∧ hi ss k = b2) := ⟨⟨e1, e2⟩, e3, e4⟩
          clear e1 e2 e3 e4
          by_cases h1 : a1 = b1 ∧ a2 = b2
          · obtain ⟨rfl, rfl⟩ := h1
            go_wp2_with fail
            go_quiet (fail)
            go_wp2_with fail
            go_roundw
            case rel => exact ⟨k + 1, _, by omega, by go_num, rfl, fun i hi1 => by
              rcases Nat.lt_or_ge i k with h | h
              · exact unhide HE i h
              · have : i = k := by omega
                subst this
                obtain ⟨⟨g1, g2⟩, g3, g4⟩ := unhide HEE
                exact ⟨g1.trans g3.symm, g2.trans g4.symm⟩⟩
            case measure => simp [intOf]; omega
          · have hne : (a1 == b1 && a2 == b2) = false := by simp; intro e1 e2; exact h1 ⟨e1, e2⟩
            have HNE : Hid (rs ≠ ss) := fun e => by
              subst e
              obtain ⟨⟨g1, g2⟩, g3, g4⟩ := unhide HEE
              exact h1 ⟨g1.symm.trans g3, g2.symm.trans g4⟩
            by_cases h2 : a1 = b1
            · subst h2
              have h3 : (a2 == b2) = false := by simp; intro e; exact h1 ⟨rfl, e⟩
              clear h1 hne
              go_wp2_with fail
              go_quiet (fail)
              go_wp2_with fail
              go_ret
              exact ⟨⟨false, rfl, by simpa using unhide HNE⟩, _, World.drewN_drewN _ _ _⟩
            · have h3 : (a1 == b1) = false := by simpa using h2
              clear h1 hne
              go_wp2_with fail
              go_quiet (fail)
              go_wp2_with fail
              go_ret
              exact ⟨⟨false, rfl, by simpa using unhide HNE⟩, _, World.drewN_drewN _ _ _⟩
        · have hltz : ¬ (k : Int) < (L : Int) := by omega
          obtain rfl : k = L := by omega
          go_wp2_with fail
          go_ret
          exact ⟨⟨true, rfl, by
            have := runs_ext ((unhide HLL).trans ((unhide HL))) (fun i hi1 => unhide HE i (by rw [unhide HLL] at hi1; exact hi1))
            simpa using this⟩, q, rfl⟩
  · obtain ⟨a, c, rfl⟩ := row_shape ha
    obtain ⟨a2, c2, rfl⟩ := row_shape hb
    have hlz : ((rs.length : Int) == (ss.length : Int)) = false := by simp; omega
    have HNE : Hid (rs ≠ ss) := fun e => hl (by rw [e])
    generalize rs.length = L at *
    generalize ss.length = M at *
    clear ha hb
    go_enter Try.func80, Try.ntmps80
    go_wp2_with fail
    go_ret
    exact ⟨⟨false, rfl, by simpa using unhide HNE⟩, 0, rfl⟩

set_option maxHeartbeats 1000000 in
set_option maxRecDepth 100000 in
theorem sameK {p1 p2 : Nat} {va vb : Value} {rs ss : List (Int × Int)} (w : World) (ha : SetK w p1 va rs) (hb : SetK w p2 vb ss) (hn : rs.length ≤ 1099511627776) :
    Calls Try.prog 56 #[.pointer (some ⟨p1, 0, none⟩), .pointer (some ⟨p2, 0, none⟩)] w fun e w' => Says e (rs = ss) ∧ ∃ q, w' = w.drewN q := by
  have c1 := ha.cell
  have c2 := hb.cell
  obtain ⟨r, hr⟩ : ∃ r : Bool, (r = true ↔ rs = ss) := ⟨decide (rs = ss), by simp⟩
  have HE : Hid (∀ q, Calls Try.prog 80 #[va, vb] (w.drewN q) fun e w' => e = .returned (.bool r) ∧ ∃ q', w' = w.drewN q') := fun q => by
    refine (equalK (w.drewN q) (ha.kept rfl (fun _ _ => rfl)).row (hb.kept rfl (fun _ _ => rfl)).row hn).mono ?_
    rintro e w' ⟨⟨r', rfl, h1⟩, q', rfl⟩
    refine ⟨?_, _, World.drewN_drewN _ _ _⟩
    have : r' = r := by rw [Bool.eq_iff_iff, h1, hr]
    rw [this]
  obtain ⟨a, ca, rfl⟩ := row_shape ha.row
  obtain ⟨a2, cb, rfl⟩ := row_shape hb.row
  have HR := hide hr
  clear ha hb hr hn
  go_enter Try.func56, Try.ntmps56
  go_wp2_with fail
  go_quiet ((go_at_call 80; exact unhide HE _))
  go_wp2_with fail
  go_ret
  exact ⟨⟨r, rfl, unhide HR⟩, _, rfl⟩

set_option maxHeartbeats 400000 in
set_option maxRecDepth 100000 in
theorem cloneK {p : Nat} {v : Value} {rs : List (Int × Int)} (w : World) (hS : SetK w p v rs) (hn : rs.length ≤ 1099511627776) :
    Calls Try.prog 55 #[.pointer (some ⟨p, 0, none⟩)] w fun e w' => ∃ p2 v2, e = .returned (.pointer (some ⟨p2, 0, none⟩)) ∧ Hid (SetK w' p2 v2 rs ∧ w.heap.size ≤ p2 ∧ (∀ k, v2.ownBlock = some k → w.heap.size ≤ k) ∧ Below w.heap.size w w') := by
  have HC := hide (runsK w hS hn)
  clear hS
  go_enter Try.func55, Try.ntmps55
  go_wp2_with fail
  refine (unhide HC).mono ?_
  rintro e w1 ⟨v2, rfl, h1⟩
  obtain ⟨a, c, hv⟩ := row_shape (owns_weaken (unhide h1).1)
  subst hv
  clear HC
  go_wp2_with fail
  go_ret
  obtain ⟨hown, hb⟩ := unhide h1
  have hlt := hown.lt
  refine ⟨w1.heap.size, _, rfl, ⟨heap_alloc_new w1 _, ?_, fun e => ?_⟩, hb.size, fun k hk => (hlt k hk).1, hb.trans (((Below.refl _ _).alloc (Nat.le_refl _) _).mono hb.size)⟩
  · have h0 := owns_weaken hown
    refine ⟨h0.1, ?_⟩
    rcases h0.2 with hn | ⟨g, cap, cur, e1, hb1, hgg, rest⟩
    · exact .inl hn
    · exact .inr ⟨g, cap, cur, e1, hb1, (((Below.refl w1.heap.size w1).alloc (Nat.le_refl _) _).block g (Array.getElem?_eq_some_iff.1 hgg).1).trans hgg, rest⟩
  · have := (hlt _ e).2
    omega
end Go.Proofs.Ytdalghfhpekcfaa
