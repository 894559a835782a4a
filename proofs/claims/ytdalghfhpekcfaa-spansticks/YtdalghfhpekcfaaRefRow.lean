/- Runs of the reference in memory; the reference's Same. -/
import Derived.Test.YtdalghfhpekcfaaMath
import Derived.Test.YtdalghfhpekcfaaLaws
import Derived.Deep.QuietTactic
namespace Go.Proofs.Ytdalghfhpekcfaa
open Go.RowKit Go.Shelf

theorem take_next {rs : List (Int × Int)} {k : Nat} (hk : k < rs.length) : rs.take (k + 1) = rs.take k ++ [(lo rs k, hi rs k)] := by
  rw [List.take_add_one, List.getElem?_eq_getElem hk]
  simp only [lo, hi, List.getD_eq_getElem?_getD, List.getElem?_eq_getElem hk, Option.getD_some, Option.toList_some]

theorem infoR : (Try.prog.info? 47).map (fun i => (i.zero, i.size, i.bytes)) = some (some (.agg #[.int .i64 0, .int .i64 0]), 2, 16) := by kernel_rfl

/-- Runs of the reference that lie in a block of their own, at B or behind. -/
structure NewR (B : Nat) (w0 w : World) (v : Value) (rs : List (Int × Int)) : Prop where
  row : w.ownsRow 0 47 2 v rs.length (enc .i64 rs)
  blk : ∀ k, v.ownBlock = some k → B ≤ k
  below : Below B w0 w
  size : B ≤ w.heap.size

theorem NewR.nil (w : World) : NewR w.heap.size w w (.slice none 0 0) [] := ⟨World.ownsRow_nil _ _ _ _, fun k hk => by simp [Value.ownBlock] at hk, Below.refl _ _, Nat.le_refl _⟩
theorem NewR.alloc {B : Nat} {w0 w : World} {v : Value} {rs : List (Int × Int)} (h : NewR B w0 w v rs) (o : Obj) : NewR B w0 (w.alloc o) v rs :=
  ⟨h.row.alloc _, h.blk, h.below.alloc h.size _, by have := h.size; simp; omega⟩
theorem NewR.drew {B : Nat} {w0 w : World} {v : Value} {rs : List (Int × Int)} (h : NewR B w0 w v rs) (q : Nat) : NewR B w0 (w.drewN q) v rs :=
  ⟨h.row, h.blk, below_drewN h.below q, h.size⟩
theorem NewR.shape {B : Nat} {w0 W : World} {v : Value} {rs : List (Int × Int)} (h : NewR B w0 W v rs) : ∃ a c, v = .slice a rs.length c := by
  rcases h.row.2 with ⟨rfl, h3⟩ | ⟨g, cap, cur, rfl, -⟩
  · exact ⟨none, 0, by rw [h3]⟩
  · exact ⟨_, _, rfl⟩
theorem litRowR (w : World) (l h : Int) : (w.alloc (.cells #[.int .i64 l, .int .i64 h] 47)).ownsRow 0 47 2 (.slice (some ⟨w.heap.size, 0, none⟩) 1 1) 1 (enc .i64 [(l, h)]) :=
  ⟨by simp [enc], .inr ⟨w.heap.size, 1, #[.int .i64 l, .int .i64 h], rfl, Nat.zero_le _, heap_alloc_new w _, Nat.le_refl _, by unfold maxLen; omega, rfl, rfl⟩⟩
theorem NewR.append {B : Nat} {w0 W : World} {v : Value} {rs : List (Int × Int)} (h : NewR B w0 W v rs) (y z : Int) (hn : rs.length ≤ 1099511627776) :
    ∃ g' cap' w', (Builtin.append_ #[44, 44] 44 #[v, .slice (some ⟨W.heap.size, 0, none⟩) 1 1]).run Try.prog (W.alloc (.cells #[.int .i64 y, .int .i64 z] 47)) = .ok (.slice (some ⟨g', 0, none⟩) (rs.length + 1) cap') w' ∧ Hid (NewR B w0 w' (.slice (some ⟨g', 0, none⟩) (rs.length + 1) cap') (rs ++ [(y, z)])) := by
  obtain ⟨i0, hi0, hz0, hzs, hzb⟩ := info_parts infoR
  obtain ⟨g', cap', w', hr, h1, h2, h3⟩ := run_append2 (P := Try.prog) (w := W.alloc (.cells #[.int .i64 y, .int .i64 z] 47)) 44 44 47 i0 _ Try.underlying44 hi0 hz0 hzs rfl (by rw [hzb]; omega) v rs.length _ (h.row.alloc _) ⟨W.heap.size, 0, none⟩ 1 1 (enc .i64 [(y, z)]) rfl
    (fun j u hj => by
      have := (litRowR W y z).cells (g := W.heap.size) rfl j u hj
      exact this) (enc_one _ _) (by omega) (by omega)
  refine ⟨g', cap', w', hr, ?_, ?_, ?_, ?_⟩
  · rw [enc_append, List.length_append]; exact h1
  · intro k hk
    simp only [Value.ownBlock, Option.some.injEq] at hk
    subst hk
    rcases h3.out with h4 | h4
    · exact h.blk _ h4
    · have := h.size; simp at h4; omega
  · exact (h.below.alloc h.size _).grown h2 (by have := h.size; simp; omega) h.blk
  · have e1 := h2.size; have := h.size; simp only [World.alloc, Array.size_push] at e1; omega

theorem runs_extR {rs ss : List (Int × Int)} (hl : rs.length = ss.length) (h : ∀ i, i < rs.length → lo rs i = lo ss i ∧ hi rs i = hi ss i) : rs = ss := by
  apply List.ext_getElem hl
  intro i h1 h2
  have := h i h1
  simp only [lo, hi, List.getD_eq_getElem?_getD, List.getElem?_eq_getElem h1, List.getElem?_eq_getElem h2, Option.getD_some] at this
  exact Prod.ext this.1 this.2

theorem row_shapeR {w : World} {v : Value} {e : TypeId} {s n : Nat} {xs : List Value} (h : w.ownsRow 0 e s v n xs) : ∃ a c, v = .slice a n c := by
  rcases h.2 with ⟨rfl, h3⟩ | ⟨g, cap, cur, rfl, -⟩
  · exact ⟨none, 0, by rw [h3]⟩
  · exact ⟨_, _, rfl⟩

set_option maxHeartbeats 1000000 in
set_option maxRecDepth 100000 in
theorem sameR {va vb : Value} {rs ss : List (Int × Int)} (w : World) (ha : w.ownsRow 0 47 2 va rs.length (enc .i64 rs)) (hb : w.ownsRow 0 47 2 vb ss.length (enc .i64 ss)) (hn : rs.length ≤ 1099511627776) :
    Calls Try.prog 26 #[va, vb] w fun e w' => Says e (rs = ss) ∧ ∃ q, w' = w.drewN q := by
  by_cases hl : rs.length = ss.length
  · rcases Nat.eq_zero_or_pos rs.length with h0 | h0
    · obtain ⟨a, c, rfl⟩ := row_shapeR ha
      obtain ⟨a2, c2, rfl⟩ := row_shapeR hb
      have e1 : rs = [] := List.length_eq_zero_iff.1 h0
      have e2 : ss = [] := List.length_eq_zero_iff.1 (by omega)
      subst e1 e2
      clear ha hb hn hl h0
      go_enter Try.func26, Try.ntmps26
      go_wp2_with fail
      refine wp_loop_rounds 1 ?_
      rw [rounds_succ]
      go_wp2_with fail
      go_ret
      exact ⟨⟨true, rfl, by simp⟩, 0, rfl⟩
    · obtain ⟨g, c, cur, rfl, -⟩ := owns_rowed ha h0
      obtain ⟨g2, c2, cur2, rfl, -⟩ := owns_rowed hb (by omega)
      have HA := hide (owns_cells ha)
      have HB := hide (owns_cells hb)
      have HL := hide hl
      rw [← hl]
      generalize hL : rs.length = L at *
      have HLL := hide hL
      clear ha hb hl hL
      go_enter Try.func26, Try.ntmps26
      go_wp2_with fail
      go_loopw [13] (fun s13 wr => ∃ (k q : Nat), k ≤ L ∧ s13 = .int .i64 k ∧ wr = w.drewN q ∧ Hid (∀ i, i < k → lo rs i = lo ss i ∧ hi rs i = hi ss i)) (fun s13 _ => L - (intOf s13).toNat)
      case atStart => exact ⟨0, 0, Nat.zero_le _, rfl, rfl, fun i hi => absurd hi (Nat.not_lt_zero _)⟩
      case round =>
        obtain ⟨k, q, hk, rfl, rfl, HE⟩ := hrel
        by_cases hlt : k < L
        · have hltz : (k : Int) < (L : Int) := by omega
          have c1 := (unhide HA k hlt).1
          have c3 := (unhide HA k hlt).2
          have d1 := (unhide HB k (by have := unhide HL; omega)).1
          have d3 := (unhide HB k (by have := unhide HL; omega)).2
          obtain ⟨a1, e1⟩ : ∃ x, lo rs k = x := ⟨_, rfl⟩
          obtain ⟨a2, e2⟩ : ∃ x, hi rs k = x := ⟨_, rfl⟩
          obtain ⟨b1, e3⟩ : ∃ x, lo ss k = x := ⟨_, rfl⟩
          obtain ⟨b2, e4⟩ : ∃ x, hi ss k = x := ⟨_, rfl⟩
          rw [e1] at c1
          rw [e2] at c3
          rw [e3] at d1
          rw [e4] at d3
          have HEE : Hid ((lo rs k = a1 ∧ hi rs k = a2) ∧ lo ss k = b1 ∧ hi ss k = b2) := ⟨⟨e1, e2⟩, e3, e4⟩
          clear e1 e2 e3 e4
          by_cases h1 : a1 = b1 ∧ a2 = b2
          · obtain ⟨rfl, rfl⟩ := h1
            go_wp2_with fail
            go_quiet (fail)
            go_wp2_with fail
            go_roundw
            case rel => exact ⟨k + 1, _, by omega, by go_num, rfl, fun i hi1 => by
              rcases Nat.lt_or_ge i k with h | h
              · exact unhide HE i h
              · have : i = k := by omega
                subst this
                obtain ⟨⟨g1, g2⟩, g3, g4⟩ := unhide HEE
                exact ⟨g1.trans g3.symm, g2.trans g4.symm⟩⟩
            case measure => simp [intOf]; omega
          · have hne : (a1 == b1 && a2 == b2) = false := by simp; intro e1 e2; exact h1 ⟨e1, e2⟩
            have HNE : Hid (rs ≠ ss) := fun e => by
              subst e
              obtain ⟨⟨g1, g2⟩, g3, g4⟩ := unhide HEE
              exact h1 ⟨g1.symm.trans g3, g2.symm.trans g4⟩
            by_cases h2 : a1 = b1
            · subst h2
              have h3 : (a2 == b2) = false := by simp; intro e; exact h1 ⟨rfl, e⟩
              clear h1 hne
              go_wp2_with fail
              go_quiet (fail)
              go_wp2_with fail
              go_ret
              exact ⟨⟨false, rfl, by simpa using unhide HNE⟩, _, World.drewN_drewN _ _ _⟩
            · have h3 : (a1 == b1) = false := by simpa using h2
              clear h1 hne
              go_wp2_with fail
              go_quiet (fail)
              go_wp2_with fail
              go_ret
              exact ⟨⟨false, rfl, by simpa using unhide HNE⟩, _, World.drewN_drewN _ _ _⟩
        · have hltz : ¬ (k : Int) < (L : Int) := by omega
          obtain rfl : k = L := by omega
          go_wp2_with fail
          go_ret
          exact ⟨⟨true, rfl, by
            have := runs_extR ((unhide HLL).trans ((unhide HL))) (fun i hi1 => unhide HE i (by rw [unhide HLL] at hi1; exact hi1))
            simpa using this⟩, q, rfl⟩
  · obtain ⟨a, c, rfl⟩ := row_shapeR ha
    obtain ⟨a2, c2, rfl⟩ := row_shapeR hb
    have hlz : ((rs.length : Int) == (ss.length : Int)) = false := by simp; omega
    have HNE : Hid (rs ≠ ss) := fun e => hl (by rw [e])
    generalize rs.length = L at *
    generalize ss.length = M at *
    clear ha hb
    go_enter Try.func26, Try.ntmps26
    go_wp2_with fail
    go_ret
    exact ⟨⟨false, rfl, by simpa using unhide HNE⟩, 0, rfl⟩


end Go.Proofs.Ytdalghfhpekcfaa
