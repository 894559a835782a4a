/- Four lists of numbers beside a store, written into and grown: nothing else changes. -/
import Derived.Test.YtanbnipndkmnlaaGreatPlaysW7
namespace Go.Proofs.YtanbnipndkmnlaaGreat
open Go.RowKit Go.Maps

theorem infoIS : (Tryz.prog.info? 24).map (fun i => (i.zero, i.size, i.bytes)) = some (some (.slice none 0 0), 1, 24) := by kernel_rfl
theorem brow_low {B B' : Nat} {w : World} {v : Value} {ks : List Int} (h : BRow B' w v ks) (hb : B ≤ B') : BRow B w v ks := ⟨h.1, h.2.imp id (fun ⟨g, cap, cur, e, q, r⟩ => ⟨g, cap, cur, e, Nat.le_trans hb q, r⟩)⟩
theorem owns_kept {B e n : Nat} {w w' : World} {v : Value} {xs : List Value} (h : w.ownsRow B e 1 v n xs) (hk : ∀ b, v.ownBlock = some b → w'.heap[b]? = w.heap[b]?) : w'.ownsRow B e 1 v n xs := by
  refine ⟨h.1, ?_⟩
  rcases h.2 with hn | ⟨g, cap, cur, e, hb, hgg, rest⟩
  · exact .inl hn
  · exact .inr ⟨g, cap, cur, e, hb, (hk g (by rw [e]; rfl)).trans hgg, rest⟩

/-- The lists L in block bl; rows R with numbers K; the slice gv of gs; whose block is it. All of it lies from B on; W0 stays below B. -/
structure Lz (B : Nat) (W0 : World) (bl : Nat) (L R : Nat → Value) (K : Nat → List Int) (gv : Value) (gs : List Value) (lab : Nat → Option Nat) (W : World) : Prop where
  out : Below B W0 W
  ge : B ≤ W.heap.size
  lst : W.heap[bl]? = some (.cells #[L 0, L 1, L 2, L 3] 24 (0, 0))
  row : ∀ i, i < 4 → BRow B W (R i) (K i)
  grown : W.ownsRow B 24 1 gv gs.length gs
  lbl : lab bl = some 4
  lrow : ∀ i b, i < 4 → (R i).ownBlock = some b → lab b = some i
  lgr : ∀ b, gv.ownBlock = some b → lab b = some 5
  lge : ∀ b, lab b ≠ none → B ≤ b ∧ b < W.heap.size
section
variable {B : Nat} {W0 : World} {bl : Nat} {L R : Nat → Value} {K : Nat → List Int} {gv : Value} {gs : List Value} {lab : Nat → Option Nat} {W W' : World}

theorem Lz.kept (h : Lz B W0 bl L R K gv gs lab W) (hb : Below B W W') (hk : ∀ b, lab b ≠ none → W'.heap[b]? = W.heap[b]?) : Lz B W0 bl L R K gv gs lab W' := by
  refine ⟨h.out.trans hb, Nat.le_trans h.ge hb.size, (hk bl (by rw [h.lbl]; simp)).trans h.lst, fun i hi => brow_kept (h.row i hi) (fun b e => hk b (by rw [h.lrow i b hi e]; simp)), owns_kept h.grown (fun b e => hk b (by rw [h.lgr b e]; simp)), h.lbl, h.lrow, h.lgr, fun b hb' => ⟨(h.lge b hb').1, Nat.lt_of_lt_of_le (h.lge b hb').2 hb.size⟩⟩
theorem Lz.below (h : Lz B W0 bl L R K gv gs lab W) (hb : Below W.heap.size W W') : Lz B W0 bl L R K gv gs lab W' :=
  h.kept (hb.mono h.ge) (fun b e => hb.block b (h.lge b e).2)
theorem Lz.cell (h : Lz B W0 bl L R K gv gs lab W) {i : Nat} (hi : i < 4) : W.cell? ⟨bl, i, none⟩ = some (L i) := by
  rw [cell_of_row _ _ i _ _ (0, 0) h.lst]
  obtain rfl | rfl | rfl | rfl : i = 0 ∨ i = 1 ∨ i = 2 ∨ i = 3 := by omega
  all_goals rfl
theorem Lz.at_ (h : Lz B W0 bl L R K gv gs lab W) {i k : Nat} {x : Int} (hi : i < 4) (hk : (K i)[k]? = some x) : ∃ g c, R i = .slice (some ⟨g, 0, none⟩) (K i).length c ∧ W.cell? ⟨g, k, none⟩ = some (.int .i64 x) := by
  have h1 := h.row i hi
  have hl := (List.getElem?_eq_some_iff.1 hk).1
  obtain ⟨a, c, e, -⟩ := brow_shape h1
  rw [e] at h1
  obtain ⟨g, rfl⟩ := brow_some h1 (by omega)
  exact ⟨g, c, e, brow_at h1 hk⟩
theorem Lz.gat (h : Lz B W0 bl L R K gv gs lab W) {k : Nat} {x : Value} (hk : gs[k]? = some x) : ∃ g c, gv = .slice (some ⟨g, 0, none⟩) gs.length c ∧ W.cell? ⟨g, k, none⟩ = some x := by
  have hl := (List.getElem?_eq_some_iff.1 hk).1
  rcases h.grown.2 with ⟨-, h0⟩ | ⟨g, cap, cur, e, r⟩
  · omega
  · refine ⟨g, cap, e, ?_⟩
    have := h.grown.cells (g := g) (by rw [e]; rfl) k x hk
    rwa [show (⟨g, 0, none⟩ : Addr).add k = ⟨g, k, none⟩ by unfold Addr.add; split <;> simp_all] at this
theorem Lz.write (h : Lz B W0 bl L R K gv gs lab W) {i k g n c : Nat} (x : Int) (hi : i < 4) (hR : R i = .slice (some ⟨g, 0, none⟩) n c) (hk : k < (K i).length) :
    (∀ o, W.frozen? ⟨g, o, none⟩ = false) ∧ Lz B W0 bl L R (upd K i ((K i).set k x)) gv gs lab (W.setCell ⟨g, k, none⟩ (.int .i64 x)) := by
  have hg : lab g = some i := h.lrow i g hi (by rw [hR]; rfl)
  have hgB := (h.lge g (by rw [hg]; simp)).1
  have hoth : ∀ b, b ≠ g → (W.setCell ⟨g, k, none⟩ (.int .i64 x)).heap[b]? = W.heap[b]? := fun b hb => heap_setCell_other W ⟨g, k, none⟩ b _ hb
  have hrow := h.row i hi
  rcases hrow.2 with ⟨e, -⟩ | ⟨g', cap, cur, e, hb, hgg, hc, hm, hs, ht⟩
  · rw [hR] at e; cases e
  · obtain rfl : g = g' := by rw [hR] at e; injection e with e1; injection e1 with e1; injection e1
    refine ⟨fun o => frozen_of_row W _ o _ _ hgg, ⟨h.out.trans ⟨rfl, rfl, rfl, by simp, fun b hb' => hoth b (by omega)⟩, by simpa using h.ge, ?_, fun j hj => ?_, owns_kept h.grown (fun b eb => hoth b (fun e2 => ?_)), h.lbl, h.lrow, h.lgr, fun b hb' => ?_⟩⟩
    · rw [hoth bl (fun e2 => by have := h.lbl; rw [e2, hg] at this; injection this with this; omega)]; exact h.lst
    · by_cases hj' : j = i
      · subst hj'
        rw [upd_self]
        refine ⟨by simp, .inr ⟨g, cap, _, ?_, hb, heap_setCell_same W g k cur 3 _ hgg, ?_, hm, by simpa using hs, ?_⟩⟩
        · rw [List.length_set]; exact e
        · rw [List.length_set]; exact hc
        · rw [List.length_set, Array.toList_setIfInBounds, List.take_set, ht, List.map_set]
      · rw [upd_ne _ _ hj']
        exact brow_kept (h.row j hj) (fun b eb => hoth b (fun e2 => by have := h.lrow j b hj eb; rw [e2, hg] at this; injection this with this; exact hj' this.symm))
    · have := h.lgr b eb; rw [e2, hg] at this; injection this with this; omega
    · have := h.lge b hb'; simpa using this
/-- Labels behind an append. -/
def labOf (lab : Nat → Option Nat) (v : Value) (t : Nat) : Nat → Option Nat := fun b => if v.ownBlock = some b then some t else lab b
theorem Lz.app (h : Lz B W0 bl L R K gv gs lab W) {i : Nat} (x : Int) (hi : i < 4) (hl : (K i).length ≤ 2000000) :
    ∃ a' n' c' w' lab', (∀ ty, (Builtin.append_ #[24, 24] ty #[R i, .slice (some ⟨W.heap.size, 0, none⟩) 1 1]).run Tryz.prog (W.alloc (.cells #[.int .i64 x] 3)) = .ok (.slice a' n' c') w') ∧ Lz B W0 bl L (upd R i (.slice a' n' c')) (upd K i (K i ++ [x])) gv gs lab' w' := by
  have hb1 := below_new W (.cells #[.int .i64 x] 3)
  have h2 : NRow (W.alloc (.cells #[.int .i64 x] 3)) (.slice (some ⟨W.heap.size, 0, none⟩) 1 1) [x] := ⟨rfl, .inr ⟨W.heap.size, 1, #[.int .i64 x], rfl, Nat.zero_le _, heap_alloc_new _ _, Nat.le_refl _, by unfold maxLen; omega, rfl, rfl⟩⟩
  have h1 := h.below hb1
  generalize hW1 : W.alloc (.cells #[.int .i64 x] 3) = W1 at *
  obtain ⟨ii, hi1, hz, hs, hb⟩ := info_parts info3
  obtain ⟨v', w', hr, g1, g2, -, g5⟩ := run_append_own_at (P := Tryz.prog) W1 B 24 0 3 ii _ 1 8 Tryz.underlying24 hi1 hz hs hb rfl (by omega) (R i) (K i).length ((K i).map (Value.int .i64)) (h1.row i hi) ⟨W.heap.size, 0, none⟩ 1 1 ([x].map (Value.int .i64)) (by simp)
      (h2.cells (g := W.heap.size) rfl) (ints_one [x]) (by unfold maxLen; omega) (by omega) h1.ge
  have e1 : (K i).map (Value.int .i64) ++ [x].map (Value.int .i64) = (K i ++ [x]).map (Value.int .i64) := by simp
  have e2 : (K i).length + 1 = (K i ++ [x]).length := by simp
  rw [e1, e2] at g1
  have g1' : BRow B w' v' (K i ++ [x]) := g1
  obtain ⟨a', c', e, -⟩ := brow_shape g1'
  have hnew : ∀ b, lab b ≠ none → lab b ≠ some i → v'.ownBlock ≠ some b := fun b hb' hne e3 => by
    rcases g5 with q | q
    · exact hne (h1.lrow i b hi (by rw [← q]; exact e3))
    · rw [q] at e3; injection e3 with e3; have := (h1.lge b hb').2; omega
  have hold : ∀ b, lab b ≠ none → lab b ≠ some i → w'.heap[b]? = W1.heap[b]? := fun b hb' hne => g2.block b (h1.lge b hb').2 (fun e3 => hne (h1.lrow i b hi e3.symm))
  refine ⟨a', _, c', w', labOf lab v' i, fun ty => by rw [← e]; exact hr, ⟨h1.out.trans ⟨g2.os, g2.tape, g2.output, g2.size, fun b hb' => g2.block b (Nat.lt_of_lt_of_le hb' h1.ge) (fun e3 => ?_)⟩, Nat.le_trans h1.ge g2.size, ?_, fun j hj => ?_, owns_kept h1.grown (fun b eb => hold b ?_ ?_), ?_, fun j b hj eb => ?_, fun b eb => ?_, fun b hb' => ?_⟩⟩
  · have := ((h1.row i hi).lt b e3.symm).1; omega
  · rw [hold bl (by rw [h.lbl]; simp) (by rw [h.lbl]; intro e3; injection e3 with e3; omega)]; exact h1.lst
  · by_cases hj' : j = i
    · subst hj'
      rw [upd_self, upd_self, ← e]
      exact g1'
    · rw [upd_ne _ _ hj', upd_ne _ _ hj']
      exact brow_kept (h1.row j hj) (fun b eb => hold b (by rw [h.lrow j b hj eb]; simp) (by rw [h.lrow j b hj eb]; intro e3; injection e3 with e3; exact hj' e3))
  · rw [h.lgr b eb]; simp
  · rw [h.lgr b eb]; intro e3; injection e3 with e3; omega
  · unfold labOf
    rw [if_neg (hnew bl (by rw [h.lbl]; simp) (by rw [h.lbl]; intro e3; injection e3 with e3; omega))]; exact h.lbl
  · unfold labOf
    by_cases hj' : j = i
    · subst hj'
      rw [upd_self, ← e] at eb
      rw [if_pos eb]
    · rw [upd_ne _ _ hj'] at eb
      rw [if_neg (hnew b (by rw [h.lrow j b hj eb]; simp) (by rw [h.lrow j b hj eb]; intro e3; injection e3 with e3; exact hj' e3))]
      exact h.lrow j b hj eb
  · unfold labOf
    rw [if_neg (hnew b (by rw [h.lgr b eb]; simp) (by rw [h.lgr b eb]; intro e3; injection e3 with e3; omega))]; exact h.lgr b eb
  · unfold labOf at hb'
    by_cases hv : v'.ownBlock = some b
    · exact g1.lt b hv
    · rw [if_neg hv] at hb'
      exact ⟨(h1.lge b hb').1, Nat.lt_of_lt_of_le (h1.lge b hb').2 g2.size⟩
theorem Lz.push (h : Lz B W0 bl L R K gv gs lab W) (a : Option Addr) (n c : Nat) (hl : gs.length ≤ 2000000) :
    ∃ a' n' c' w' lab', (∀ ty, (Builtin.append_ #[55, 55] ty #[gv, .slice (some ⟨W.heap.size, 0, none⟩) 1 1]).run Tryz.prog (W.alloc (.cells #[.slice a n c] 24)) = .ok (.slice a' n' c') w') ∧ Lz B W0 bl L R K (.slice a' n' c') (gs ++ [.slice a n c]) lab' w' := by
  have hb1 := below_new W (.cells #[.slice a n c] 24)
  have hc1 : ∀ j u, [Value.slice a n c][j]? = some u → (W.alloc (.cells #[.slice a n c] 24)).cell? ((⟨W.heap.size, 0, none⟩ : Addr).add j) = some u := fun j u hj => by
    obtain rfl : j = 0 := by have := (List.getElem?_eq_some_iff.1 hj).1; simp at this; omega
    have : u = .slice a n c := by simpa using hj.symm
    subst this
    exact (cell_of_row _ _ 0 _ _ (0, 0) (heap_alloc_new W (.cells #[.slice a n c] 24))).trans rfl
  have h1 := h.below hb1
  generalize hW1 : W.alloc (.cells #[.slice a n c] 24) = W1 at *
  obtain ⟨ii, hi1, hz, hs, hb⟩ := info_parts infoIS
  obtain ⟨v', w', hr, g1, g2, -, g5⟩ := run_append_own_at (P := Tryz.prog) W1 B 55 0 24 ii _ 1 24 Tryz.underlying55 hi1 hz hs hb rfl (by omega) gv gs.length gs h1.grown ⟨W.heap.size, 0, none⟩ 1 1 [.slice a n c] (by simp)
      hc1 (fun u hu => by rw [List.mem_singleton.1 hu]; rfl) (by unfold maxLen; omega) (by omega) h1.ge
  have e2 : gs.length + 1 = (gs ++ [Value.slice a n c]).length := by simp
  rw [e2] at g1
  obtain ⟨a', c', e⟩ : ∃ a' c', v' = .slice a' (gs ++ [Value.slice a n c]).length c' := by
    rcases g1.2 with ⟨-, h0⟩ | ⟨g, cap, cur, e, -⟩
    · simp at h0
    · exact ⟨_, _, e⟩
  have hnew : ∀ b, lab b ≠ none → lab b ≠ some 5 → v'.ownBlock ≠ some b := fun b hb' hne e3 => by
    rcases g5 with q | q
    · exact hne (h1.lgr b (by rw [← q]; exact e3))
    · rw [q] at e3; injection e3 with e3; have := (h1.lge b hb').2; omega
  have hold : ∀ b, lab b ≠ none → lab b ≠ some 5 → w'.heap[b]? = W1.heap[b]? := fun b hb' hne => g2.block b (h1.lge b hb').2 (fun e3 => hne (h1.lgr b e3.symm))
  refine ⟨a', _, c', w', labOf lab v' 5, fun ty => by rw [← e]; exact hr, ⟨h1.out.trans ⟨g2.os, g2.tape, g2.output, g2.size, fun b hb' => g2.block b (Nat.lt_of_lt_of_le hb' h1.ge) (fun e3 => ?_)⟩, Nat.le_trans h1.ge g2.size, ?_, fun j hj => ?_, by rw [← e]; exact g1, ?_, fun j b hj eb => ?_, fun b eb => ?_, fun b hb' => ?_⟩⟩
  · have := (h1.grown.lt b e3.symm).1; omega
  · rw [hold bl (by rw [h.lbl]; simp) (by rw [h.lbl]; simp)]; exact h1.lst
  · exact brow_kept (h1.row j hj) (fun b eb => hold b (by rw [h.lrow j b hj eb]; simp) (by rw [h.lrow j b hj eb]; intro e3; injection e3 with e3; omega))
  · unfold labOf
    rw [if_neg (hnew bl (by rw [h.lbl]; simp) (by rw [h.lbl]; simp))]; exact h.lbl
  · unfold labOf
    rw [if_neg (hnew b (by rw [h.lrow j b hj eb]; simp) (by rw [h.lrow j b hj eb]; intro e3; injection e3 with e3; omega))]
    exact h.lrow j b hj eb
  · unfold labOf
    rw [← e] at eb
    rw [if_pos eb]
  · unfold labOf at hb'
    by_cases hv : v'.ownBlock = some b
    · exact g1.lt b hv
    · rw [if_neg hv] at hb'
      exact ⟨(h1.lge b hb').1, Nat.lt_of_lt_of_le (h1.lge b hb').2 g2.size⟩
/-- Behind the four calls and the list of their answers. -/
theorem lz_start {w0 w1 w2 w3 w4 : World} {L : Nat → Value} {K : Nat → List Int} (r0 : BRow w0.heap.size w1 (L 0) (K 0)) (b1 : Below w0.heap.size w0 w1) (r1 : BRow w1.heap.size w2 (L 1) (K 1)) (b2 : Below w1.heap.size w1 w2) (r2 : BRow w2.heap.size w3 (L 2) (K 2)) (b3 : Below w2.heap.size w2 w3) (r3 : BRow w3.heap.size w4 (L 3) (K 3)) (b4 : Below w3.heap.size w3 w4) :
    ∃ lab, Lz w0.heap.size w0 w4.heap.size L L K (.slice none 0 0) [] lab (w4.alloc (.cells #[L 0, L 1, L 2, L 3] 24)) := by
  have b5 := below_new w4 (.cells #[L 0, L 1, L 2, L 3] 24)
  have s1 := b1.size
  have s2 := b2.size
  have s3 := b3.size
  have s4 := b4.size
  have s5 := b5.size
  have q0 : ∀ b, (L 0).ownBlock = some b → w0.heap.size ≤ b ∧ b < w1.heap.size := fun b e => r0.lt b e
  have q1 : ∀ b, (L 1).ownBlock = some b → w1.heap.size ≤ b ∧ b < w2.heap.size := fun b e => r1.lt b e
  have q2 : ∀ b, (L 2).ownBlock = some b → w2.heap.size ≤ b ∧ b < w3.heap.size := fun b e => r2.lt b e
  have q3 : ∀ b, (L 3).ownBlock = some b → w3.heap.size ≤ b ∧ b < w4.heap.size := fun b e => r3.lt b e
  refine ⟨fun b => if b = w4.heap.size then some 4 else if w3.heap.size ≤ b then (if b < w4.heap.size then some 3 else none) else if w2.heap.size ≤ b then some 2 else if w1.heap.size ≤ b then some 1 else if w0.heap.size ≤ b then some 0 else none, ⟨?_, by omega, heap_alloc_new _ _, fun i hi => ?_, ⟨rfl, .inl ⟨rfl, rfl⟩⟩, if_pos rfl, fun i b hi e => ?_, fun b e => (by cases e), fun b hb => ?_⟩⟩
  · exact b1.trans ((b2.mono s1).trans ((b3.mono (by omega)).trans ((b4.mono (by omega)).trans (b5.mono (by omega)))))
  · have k5 : ∀ (v : Value) (ks : List Int) (m : Nat), w0.heap.size ≤ m → BRow m w4 v ks → BRow w0.heap.size (w4.alloc (.cells #[L 0, L 1, L 2, L 3] 24)) v ks := fun v ks m hm r => brow_low (brow_kept r (fun b e => b5.block b (r.lt b e).2)) hm
    obtain rfl | rfl | rfl | rfl : i = 0 ∨ i = 1 ∨ i = 2 ∨ i = 3 := by omega
    · exact k5 _ _ _ (Nat.le_refl _) (brow_kept (brow_kept (brow_kept r0 (fun b e => b2.block b (r0.lt b e).2)) (fun b e => b3.block b (by have := q0 b e; omega))) (fun b e => b4.block b (by have := q0 b e; omega)))
    · exact k5 _ _ _ s1 (brow_kept (brow_kept r1 (fun b e => b3.block b (r1.lt b e).2)) (fun b e => b4.block b (by have := q1 b e; omega)))
    · exact k5 _ _ _ (by omega) (brow_kept r2 (fun b e => b4.block b (r2.lt b e).2))
    · exact k5 _ _ _ (by omega) r3
  · obtain rfl | rfl | rfl | rfl : i = 0 ∨ i = 1 ∨ i = 2 ∨ i = 3 := by omega
    · have := q0 b e
      show (if b = w4.heap.size then _ else _) = _
      rw [if_neg (by omega), if_neg (by omega), if_neg (by omega), if_neg (by omega), if_pos (by omega)]
    · have := q1 b e
      show (if b = w4.heap.size then _ else _) = _
      rw [if_neg (by omega), if_neg (by omega), if_neg (by omega), if_pos (by omega)]
    · have := q2 b e
      show (if b = w4.heap.size then _ else _) = _
      rw [if_neg (by omega), if_neg (by omega), if_pos (by omega)]
    · have := q3 b e
      show (if b = w4.heap.size then _ else _) = _
      rw [if_neg (by omega), if_pos (by omega), if_pos (by omega)]
  · have hsz : (w4.alloc (.cells #[L 0, L 1, L 2, L 3] 24)).heap.size = w4.heap.size + 1 := by simp
    rw [hsz]
    by_cases c1 : b = w4.heap.size
    · omega
    · by_cases c2 : w0.heap.size ≤ b ∧ b < w4.heap.size
      · omega
      · exfalso
        apply hb
        show (if b = w4.heap.size then _ else _) = _
        rw [if_neg c1]
        by_cases c3 : w3.heap.size ≤ b
        · rw [if_pos c3, if_neg (by omega)]
        · rw [if_neg c3, if_neg (by omega), if_neg (by omega), if_neg (by omega)]
end
end Go.Proofs.YtanbnipndkmnlaaGreat
