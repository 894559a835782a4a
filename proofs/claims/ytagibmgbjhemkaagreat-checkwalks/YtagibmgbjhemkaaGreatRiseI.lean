/- rise: an entry goes towards the root. -/
import Derived.Test.YtagibmgbjhemkaaGreatAtI
namespace Go.Proofs.YtagibmgbjhemkaaGreat

section
open Go.RowKit Go.Maps
theorem stored3I {w : World} {b c L i : Nat} {es : List EntI} (e : EntI) (h : w.ownsRow 0 190 3 (.slice (some ⟨b, 0, none⟩) L c) L (encI es)) :
    (((w.setCell ⟨b, i * 3, none⟩ (.int .i64 (e.key))).setCell ⟨b, i * 3 + 1, none⟩ (.int .i64 e.rank)).setCell ⟨b, i * 3 + 2, none⟩ (.int .i64 e.turn)).ownsRow 0 190 3 (.slice (some ⟨b, 0, none⟩) L c) L (encI (es.set i e)) := by
  unfold encI; rw [enc3_set]; exact ((((h.stored _ _).1.stored _ _).1.stored _ _).1)
set_option maxHeartbeats 2000000 in
set_option maxRecDepth 100000 in
theorem swapCI (p m b L c i j N : Nat) (ki kj : Int) (ri rj ti tj : Int) (D : DataW Unit) (w : World) (hi : i < L) (hj : j < L) (hL : L ≤ 1099511627776) (hN : N ≤ 1099511627776) (_hne : ¬ j = i) (hne' : ¬ i = j)
    (hbp : b ≠ p) (hbm : b ≠ m) (hmp : m ≠ p)
    (c1 : w.cell? ⟨p, 1, none⟩ = some (.slice (some ⟨b, 0, none⟩) L c)) (c2 : w.cell? ⟨p, 2, none⟩ = some (.map (some m)))
    (ik : w.cell? ⟨b, i * 3, none⟩ = some (.int .i64 (ki))) (ir : w.cell? ⟨b, i * 3 + 1, none⟩ = some (.int .i64 ri)) (it : w.cell? ⟨b, i * 3 + 2, none⟩ = some (.int .i64 ti))
    (jk : w.cell? ⟨b, j * 3, none⟩ = some (.int .i64 (kj))) (jr : w.cell? ⟨b, j * 3 + 1, none⟩ = some (.int .i64 rj)) (jt : w.cell? ⟨b, j * 3 + 2, none⟩ = some (.int .i64 tj))
    (fr : ∀ o, w.frozen? ⟨b, o, none⟩ = false) (hki : KeyOkI ki) (hkj : KeyOkI kj) (W : World)
    (HW : Hid (W = ((((((w.setCell ⟨b, i * 3, none⟩ (.int .i64 (kj))).setCell ⟨b, i * 3 + 1, none⟩ (.int .i64 rj)).setCell ⟨b, i * 3 + 2, none⟩ (.int .i64 tj)).setCell ⟨b, j * 3, none⟩ (.int .i64 (ki))).setCell ⟨b, j * 3 + 1, none⟩ (.int .i64 ri)).setCell ⟨b, j * 3 + 2, none⟩ (.int .i64 ti))))
    (HM : Hid (W.ownsMap Tryz.prog 3 (plainElem Tryz.prog 3) m N D)) :
    Calls Tryz.prog 134 #[.pointer (some ⟨p, 0, none⟩), .int .i64 i, .int .i64 j] w fun e w' => e = .returned (.tuple #[]) ∧
      Hid (w'.ownsMap Tryz.prog 3 (plainElem Tryz.prog 3) m (N + 1 + 1) ((D.put (klI kj) (.lit (.int .i64 i))).put (klI ki) (.lit (.int .i64 j))) ∧ W.grownBy w' (some m)) := by
  have hiz : (i : Int) < (L : Int) := by omega
  have hjz : (j : Int) < (L : Int) := by omega
  have other : ∀ (x : Addr), x.block ≠ b → W.cell? x = w.cell? x := fun x hx => by
    rw [unhide HW]; exact cell_of_heap (by rw [heap_setCell_other _ _ _ _ hx, heap_setCell_other _ _ _ _ hx, heap_setCell_other _ _ _ _ hx, heap_setCell_other _ _ _ _ hx, heap_setCell_other _ _ _ _ hx, heap_setCell_other _ _ _ _ hx])
  have d1 : W.cell? ⟨p, 1, none⟩ = some (.slice (some ⟨b, 0, none⟩) L c) := (other _ (Ne.symm hbp)).trans c1; have d2 : W.cell? ⟨p, 2, none⟩ = some (.map (some m)) := (other _ (Ne.symm hbp)).trans c2; have d3 : W.cell? ⟨b, i * 3, none⟩ = some (.int .i64 (kj)) := by
    rw [unhide HW]
    iterate 5 rw [World.cell?_setCell_other _ _ _ _ (by simp <;> omega)]
    exact World.cell?_setCell_same _ _ _ ik
  have d4 : W.cell? ⟨b, j * 3, none⟩ = some (.int .i64 (ki)) := by
    rw [unhide HW]
    iterate 2 rw [World.cell?_setCell_other _ _ _ _ (by simp <;> omega)]
    refine World.cell?_setCell_same _ _ _ (?_ : _ = some (.int .i64 (kj)))
    iterate 3 rw [World.cell?_setCell_other _ _ _ _ (by simp <;> omega)]
    exact jk
  clear other
  go_enter Tryz.func134, Tryz.ntmps134
  go_wp2_with fail
  go_region
  rw [← unhide HW]; clear c1 c2 ik ir it jk jr jt fr HW
  go_wp2_with fail
  refine region_still_tail 13 mixed (by kernel_rfl) ?_
  simp only [List.take_succ_cons, List.take_zero, List.drop_succ_cons, List.drop_zero]
  repeat still_step
  refine wpStill_nil ?_; refine wpList_mapUpdate_in W.drew.drew rfl _ _ _ 180 rfl 3 3 lawI Tryz.underlying180 _ m N D rfl (World.ownsMap.drew (World.ownsMap.drew (unhide HM))) (by unfold maxLen; omega) _ _ _ rfl rfl (keyI hkj) _ [] (plainElem_int Tryz.underlying3 (WalkArith.wf_i64 (by omega))) ?_
  intro w1 hown1 hturn1; have HO1 := hide hown1; have HT1 := hide (grown_drew (grown_drew hturn1.grown)); have other : ∀ (x : Addr), x.block ≠ m → w1.cell? x = W.cell? x := fun x hx => by
    obtain ⟨es, cl, es', cl', hb', rfl⟩ := hturn1; exact cell_of_heap ((ChangeMaps.heap_setBlock_other hb' _ hx).trans rfl)
  have g1 : w1.cell? ⟨p, 1, none⟩ = some (.slice (some ⟨b, 0, none⟩) L c) := (other _ (Ne.symm hmp)).trans d1; have g2 : w1.cell? ⟨p, 2, none⟩ = some (.map (some m)) := (other _ (Ne.symm hmp)).trans d2; have g4 : w1.cell? ⟨b, j * 3, none⟩ = some (.int .i64 (ki)) := (other _ hbm).trans d4; clear other hown1 hturn1 d1 d2 d3 d4 HM
  go_wp2_with fail
  refine region_still_tail 13 mixed (by kernel_rfl) ?_
  simp only [List.take_succ_cons, List.take_zero, List.drop_succ_cons, List.drop_zero]
  repeat still_step
  refine wpStill_nil ?_; refine wpList_mapUpdate_in w1.drew rfl _ _ _ 180 rfl 3 3 lawI Tryz.underlying180 _ m (N + 1) _ rfl (World.ownsMap.drew (unhide HO1)) (by unfold maxLen; omega) _ _ _ rfl rfl (keyI hki) _ [] (plainElem_int Tryz.underlying3 (WalkArith.wf_i64 (by omega))) ?_
  intro w2 hown2 hturn2; have HO2 := hide hown2; have HT2 := hide ((unhide HT1).trans (grown_drew hturn2.grown)); clear hown2 hturn2 g1 g2 g4 HO1 HT1
  go_wp2_with fail
  go_end0
  exact ⟨rfl, unhide HO2, unhide HT2⟩
set_option maxHeartbeats 2000000 in
set_option maxRecDepth 100000 in
theorem swapDI (p m b L c i N : Nat) (ki : Int) (ri ti : Int) (D : DataW Unit) (w : World) (hi : i < L) (hL : L ≤ 1099511627776) (hN : N ≤ 1099511627776)
    (hbp : b ≠ p) (hbm : b ≠ m) (hmp : m ≠ p)
    (c1 : w.cell? ⟨p, 1, none⟩ = some (.slice (some ⟨b, 0, none⟩) L c)) (c2 : w.cell? ⟨p, 2, none⟩ = some (.map (some m)))
    (ik : w.cell? ⟨b, i * 3, none⟩ = some (.int .i64 (ki))) (ir : w.cell? ⟨b, i * 3 + 1, none⟩ = some (.int .i64 ri)) (it : w.cell? ⟨b, i * 3 + 2, none⟩ = some (.int .i64 ti))
    (fr : ∀ o, w.frozen? ⟨b, o, none⟩ = false) (hki : KeyOkI ki) (W : World)
    (HW : Hid (W = ((((((w.setCell ⟨b, i * 3, none⟩ (.int .i64 (ki))).setCell ⟨b, i * 3 + 1, none⟩ (.int .i64 ri)).setCell ⟨b, i * 3 + 2, none⟩ (.int .i64 ti)).setCell ⟨b, i * 3, none⟩ (.int .i64 (ki))).setCell ⟨b, i * 3 + 1, none⟩ (.int .i64 ri)).setCell ⟨b, i * 3 + 2, none⟩ (.int .i64 ti))))
    (HM : Hid (W.ownsMap Tryz.prog 3 (plainElem Tryz.prog 3) m N D)) :
    Calls Tryz.prog 134 #[.pointer (some ⟨p, 0, none⟩), .int .i64 i, .int .i64 i] w fun e w' => e = .returned (.tuple #[]) ∧
      Hid (w'.ownsMap Tryz.prog 3 (plainElem Tryz.prog 3) m (N + 1 + 1) ((D.put (klI ki) (.lit (.int .i64 i))).put (klI ki) (.lit (.int .i64 i))) ∧ W.grownBy w' (some m)) := by
  have hiz : (i : Int) < (L : Int) := by omega
  have other : ∀ (x : Addr), x.block ≠ b → W.cell? x = w.cell? x := fun x hx => by
    rw [unhide HW]; exact cell_of_heap (by rw [heap_setCell_other _ _ _ _ hx, heap_setCell_other _ _ _ _ hx, heap_setCell_other _ _ _ _ hx, heap_setCell_other _ _ _ _ hx, heap_setCell_other _ _ _ _ hx, heap_setCell_other _ _ _ _ hx])
  have d1 : W.cell? ⟨p, 1, none⟩ = some (.slice (some ⟨b, 0, none⟩) L c) := (other _ (Ne.symm hbp)).trans c1; have d2 : W.cell? ⟨p, 2, none⟩ = some (.map (some m)) := (other _ (Ne.symm hbp)).trans c2; have d3 : W.cell? ⟨b, i * 3, none⟩ = some (.int .i64 (ki)) := by
    rw [unhide HW]
    iterate 2 rw [World.cell?_setCell_other _ _ _ _ (by simp <;> omega)]
    refine World.cell?_setCell_same _ _ _ (?_ : _ = some (.int .i64 (ki)))
    iterate 2 rw [World.cell?_setCell_other _ _ _ _ (by simp <;> omega)]
    exact World.cell?_setCell_same _ _ _ ik
  clear other
  go_enter Tryz.func134, Tryz.ntmps134
  go_wp2_with fail
  go_region
  rw [← unhide HW]; clear c1 c2 ik ir it fr HW
  go_wp2_with fail
  refine region_still_tail 13 mixed (by kernel_rfl) ?_
  simp only [List.take_succ_cons, List.take_zero, List.drop_succ_cons, List.drop_zero]
  repeat still_step
  refine wpStill_nil ?_; refine wpList_mapUpdate_in W.drew.drew rfl _ _ _ 180 rfl 3 3 lawI Tryz.underlying180 _ m N D rfl (World.ownsMap.drew (World.ownsMap.drew (unhide HM))) (by unfold maxLen; omega) _ _ _ rfl rfl (keyI hki) _ [] (plainElem_int Tryz.underlying3 (WalkArith.wf_i64 (by omega))) ?_
  intro w1 hown1 hturn1; have HO1 := hide hown1; have HT1 := hide (grown_drew (grown_drew hturn1.grown)); have other : ∀ (x : Addr), x.block ≠ m → w1.cell? x = W.cell? x := fun x hx => by
    obtain ⟨es, cl, es', cl', hb', rfl⟩ := hturn1; exact cell_of_heap ((ChangeMaps.heap_setBlock_other hb' _ hx).trans rfl)
  have g1 : w1.cell? ⟨p, 1, none⟩ = some (.slice (some ⟨b, 0, none⟩) L c) := (other _ (Ne.symm hmp)).trans d1; have g2 : w1.cell? ⟨p, 2, none⟩ = some (.map (some m)) := (other _ (Ne.symm hmp)).trans d2; have g4 : w1.cell? ⟨b, i * 3, none⟩ = some (.int .i64 (ki)) := (other _ hbm).trans d3; clear other hown1 hturn1 d1 d2 d3 HM
  go_wp2_with fail
  refine region_still_tail 13 mixed (by kernel_rfl) ?_
  simp only [List.take_succ_cons, List.take_zero, List.drop_succ_cons, List.drop_zero]
  repeat still_step
  refine wpStill_nil ?_; refine wpList_mapUpdate_in w1.drew rfl _ _ _ 180 rfl 3 3 lawI Tryz.underlying180 _ m (N + 1) _ rfl (World.ownsMap.drew (unhide HO1)) (by unfold maxLen; omega) _ _ _ rfl rfl (keyI hki) _ [] (plainElem_int Tryz.underlying3 (WalkArith.wf_i64 (by omega))) ?_
  intro w2 hown2 hturn2; have HO2 := hide hown2; have HT2 := hide ((unhide HT1).trans (grown_drew hturn2.grown)); clear hown2 hturn2 g1 g2 g4 HO1 HT1
  go_wp2_with fail
  go_end0
  exact ⟨rfl, unhide HO2, unhide HT2⟩
end

section
open Go.RowKit Go.Maps
theorem row_keptI {w w' : World} {v : Value} {L : Nat} {xs : List Value} (h : w.ownsRow 0 190 3 v L xs) (hk : ∀ k, v.ownBlock = some k → w'.heap[k]? = w.heap[k]?) : w'.ownsRow 0 190 3 v L xs := by
  refine ⟨h.1, ?_⟩; rcases h.2 with hn | ⟨g, cap, cur, rfl, hb, hgg, rest⟩
  · exact .inl hn
  · exact .inr ⟨g, cap, cur, rfl, hb, (hk g rfl).trans hgg, rest⟩
theorem swapI [Inhabited EntI] {p m : Nat} {lv v : Value} {es : List EntI} {n : Nat} (i j : Nat) (w : World) (h : HAtI w p m lv v es n) (hi : i < es.length) (hj : j < es.length) (hn : es.length ≤ 1099511627776) :
    Calls Tryz.prog 134 #[.pointer (some ⟨p, 0, none⟩), .int .i64 i, .int .i64 j] w fun e w' => e = .returned (.tuple #[]) ∧ Hid (HAtI w' p m lv v (swapL es i j) n ∧ Turned (Foot p m v) w w') := by
  obtain ⟨b, c, rfl, hbp, hbm, -, -, fr, hc⟩ := h.some_ (by omega)
  obtain ⟨-, c1, c2, -, -⟩ := h.cells; obtain ⟨D, hD, hM⟩ := h.map; have hmp := h.ne3; have hrow := stored3I (i := j) (at_ es i) (stored3I (i := i) (at_ es j) h.row); have key : ∀ W : World, W = (((((w.setCell ⟨b, i * 3, none⟩ (.int .i64 ((at_ es j).key))).setCell ⟨b, i * 3 + 1, none⟩ (.int .i64 (at_ es j).rank)).setCell ⟨b, i * 3 + 2, none⟩ (.int .i64 (at_ es j).turn)).setCell ⟨b, j * 3, none⟩ (.int .i64 ((at_ es i).key))).setCell ⟨b, j * 3 + 1, none⟩ (.int .i64 (at_ es i).rank)).setCell ⟨b, j * 3 + 2, none⟩ (.int .i64 (at_ es i).turn) →
      ∀ w', w'.ownsMap Tryz.prog 3 (plainElem Tryz.prog 3) m (es.length + 1 + 1) ((D.put (klI (at_ es j).key) (.lit (.int .i64 i))).put (klI (at_ es i).key) (.lit (.int .i64 j))) → W.grownBy w' (some m) → HAtI w' p m lv (.slice (some ⟨b, 0, none⟩) es.length c) (swapL es i j) n ∧ Turned (Foot p m (.slice (some ⟨b, 0, none⟩) es.length c)) w w' := by
    intro W hW w' hmap hg; have hWo : ∀ k, k ≠ b → W.heap[k]? = w.heap[k]? := fun k hk => by
      rw [hW, heap_setCell_other _ _ _ _ hk, heap_setCell_other _ _ _ _ hk, heap_setCell_other _ _ _ _ hk, heap_setCell_other _ _ _ _ hk, heap_setCell_other _ _ _ _ hk, heap_setCell_other _ _ _ _ hk]
    have hS : ∀ (V : World) (o : Nat) (u : Value), Turned (Foot p m (.slice (some ⟨b, 0, none⟩) es.length c)) V (V.setCell ⟨b, o, none⟩ u) := fun V o u => turned_setCell V _ u (.inr (.inr rfl))
    have hTW : Turned (Foot p m (.slice (some ⟨b, 0, none⟩) es.length c)) w W := by
      rw [hW]; exact (((((hS _ _ _).trans (hS _ _ _)).trans (hS _ _ _)).trans (hS _ _ _)).trans (hS _ _ _)).trans (hS _ _ _)
    have hWs := hTW.size; have hT : Turned (Foot p m (.slice (some ⟨b, 0, none⟩) es.length c)) w w' := hTW.trans (turned_grown hg (.inr (.inl rfl))); have hpl := h.lt (.inl rfl); have hbl := h.lt (k := b) (.inr (.inr rfl)); have hMI : MapIs klI ((D.put (klI (at_ es j).key) (.lit (.int .i64 i))).put (klI (at_ es i).key) (.lit (.int .i64 j))) (swapL es i j) := by
      have := mapIs_swap injI litI hM hi hj; have ai : at_ (swapL es i j) i = at_ es j := by
        rw [at_swap _ _ _ _ hi hj]
        by_cases e : i = j
        · rw [if_pos e, e]
        · rw [if_neg e, if_pos rfl]
      have aj : at_ (swapL es i j) j = at_ es i := by rw [at_swap _ _ _ _ hi hj, if_pos rfl]
      rw [ai, aj] at this; exact this
    refine ⟨⟨?_, ?_, ⟨_, by rw [← hMI.size]; exact ownsMap_size hmap, hMI⟩, ?_, h.ne1, h.ne2, hmp⟩, hT⟩
    · rw [hg.block p (by omega) (fun e => hmp (by simpa using e.symm)), hWo p (Ne.symm hbp)]; exact h.box
    · rw [swapL_length]; refine row_keptI (w := W) (by rw [hW]; exact hrow) (fun k hk => ?_)
      have : k = b := by simpa [Value.ownBlock, eq_comm] using hk
      subst this; exact hg.block k (by omega) (fun e => hbm (by simpa using e))
    · intro k hk; rw [swapL_length] at hk; rw [at_swap _ _ _ _ hi hj]; split
      · exact h.keys i hi
      · split
        · exact h.keys j hj
        · exact h.keys k hk
  have hmapW : ∀ W : World, (∀ k, k ≠ b → W.heap[k]? = w.heap[k]?) → W.ownsMap Tryz.prog 3 (plainElem Tryz.prog 3) m es.length D := fun W hW => by
    obtain ⟨es', clock, h1, h2⟩ := hD; exact ⟨es', clock, (hW m (Ne.symm hbm)).trans h1, h2⟩
  by_cases e : i = j
  · subst e; exact (swapDI p m b es.length c i es.length (at_ es i).key (at_ es i).rank (at_ es i).turn D w hi hn hn hbp hbm hmp c1 c2 (hc i hi).1 (hc i hi).2.1 (hc i hi).2.2 fr (h.keys i hi) _ rfl
      (hmapW _ (fun k hk => by rw [heap_setCell_other _ _ _ _ hk, heap_setCell_other _ _ _ _ hk, heap_setCell_other _ _ _ _ hk, heap_setCell_other _ _ _ _ hk, heap_setCell_other _ _ _ _ hk, heap_setCell_other _ _ _ _ hk]))).mono fun e w' ⟨h1, h2⟩ => ⟨h1, key _ rfl w' h2.out.1 h2.out.2⟩
  · exact (swapCI p m b es.length c i j es.length (at_ es i).key (at_ es j).key (at_ es i).rank (at_ es j).rank (at_ es i).turn (at_ es j).turn D w hi hj hn hn (Ne.symm e) e hbp hbm hmp c1 c2 (hc i hi).1 (hc i hi).2.1 (hc i hi).2.2 (hc j hj).1 (hc j hj).2.1 (hc j hj).2.2 fr (h.keys i hi) (h.keys j hj) _ rfl
      (hmapW _ (fun k hk => by rw [heap_setCell_other _ _ _ _ hk, heap_setCell_other _ _ _ _ hk, heap_setCell_other _ _ _ _ hk, heap_setCell_other _ _ _ _ hk, heap_setCell_other _ _ _ _ hk, heap_setCell_other _ _ _ _ hk]))).mono fun e w' ⟨h1, h2⟩ => ⟨h1, key _ rfl w' h2.out.1 h2.out.2⟩
end

section
open Go.RowKit
set_option maxHeartbeats 1000000 in
set_option maxRecDepth 100000 in
theorem aheadCI (p b g n c i j : Nat) (cb : Array Value) (ri rj : Int) (ti tj : Nat) (lt : Int → Int → Bool) (w : World) (hi : i < n) (hj : j < n)
    (eg : ∀ args w, (callFunc g args).run Tryz.prog w = .ok (.enter g args) w)
    (HL : Hid (∀ x y (w : World), Calls Tryz.prog g (#[.int .i64 x, .int .i64 y] ++ cb) w fun e w' => e = .returned (.bool (lt x y)) ∧ w' = w))
    (c0 : w.cell? ⟨p, 0, none⟩ = some (.func (.func g) #[] cb)) (c1 : w.cell? ⟨p, 1, none⟩ = some (.slice (some ⟨b, 0, none⟩) n c))
    (ir : w.cell? ⟨b, i * 3 + 1, none⟩ = some (.int .i64 ri)) (it : w.cell? ⟨b, i * 3 + 2, none⟩ = some (.int .i64 ti))
    (jr : w.cell? ⟨b, j * 3 + 1, none⟩ = some (.int .i64 rj)) (jt : w.cell? ⟨b, j * 3 + 2, none⟩ = some (.int .i64 tj)) :
    Calls Tryz.prog 133 #[.pointer (some ⟨p, 0, none⟩), .int .i64 i, .int .i64 j] w fun e w' => e = .returned (.bool (if ti < tj then !lt rj ri else lt ri rj)) ∧ ∃ q, w' = w.drewN q := by
  have hiz : (i : Int) < (n : Int) := by omega
  have hjz : (j : Int) < (n : Int) := by omega
  by_cases ht : ti < tj
  · have htz : (ti : Int) < (tj : Int) := by omega
    rw [if_pos ht]; have HC := hide (unhide HL rj ri); generalize lt rj ri = r at *; clear HL ht
    go_enter Tryz.func133, Tryz.ntmps133
    go_wp2_with fail
    go_quiet (fail)
    go_wp2_with fail
    go_quiet (fail)
    go_wp2_with fail
    go_quiet ((exact (unhide HC _).mono (fun _ _ h => ⟨h.1, _, h.2⟩)))
    go_wp2_with fail
    go_ret
    exact ⟨rfl, _, by rw [World.drewN_drewN, World.drewN_drewN]⟩
  · have htz : ¬ (ti : Int) < (tj : Int) := by omega
    rw [if_neg ht]; have HC := hide (unhide HL ri rj); generalize lt ri rj = r at *; clear HL
    go_enter Tryz.func133, Tryz.ntmps133
    go_wp2_with fail
    go_quiet (fail)
    go_wp2_with fail
    go_quiet (fail)
    go_wp2_with fail
    go_quiet ((exact (unhide HC _).mono (fun _ _ h => ⟨h.1, _, h.2⟩)))
    go_wp2_with fail
    go_ret
    exact ⟨rfl, _, by rw [World.drewN_drewN, World.drewN_drewN]⟩
theorem aheadI [Inhabited EntI] {p m : Nat} {lv v : Value} {es : List EntI} {n : Nat} {gg : Int → Int} (i j : Nat) (w : World) (h : HAtI w p m lv v es n) (hl : Less lv gg) (hi : i < es.length) (hj : j < es.length) :
    Calls Tryz.prog 133 #[.pointer (some ⟨p, 0, none⟩), .int .i64 i, .int .i64 j] w fun e w' => e = .returned (.bool (aheadB gg (at_ es i) (at_ es j))) ∧ ∃ q, w' = w.drewN q := by
  obtain ⟨g, cb, rfl, eg, HL⟩ := hl; obtain ⟨b, c, rfl, -, -, -, -, -, hc⟩ := h.some_ (by omega)
  obtain ⟨c0, c1, -⟩ := h.cells; exact aheadCI p b g es.length c i j cb _ _ _ _ (fun x y => decide (gg x < gg y)) w hi hj eg HL c0 c1 (hc i hi).2.1 (hc i hi).2.2 (hc j hj).2.1 (hc j hj).2.2
end

section
open Go.RowKit Go.Maps
set_option maxHeartbeats 1000000 in
set_option maxRecDepth 100000 in
theorem riseI [Inhabited EntI] {p m : Nat} {lv v : Value} {es : List EntI} {n : Nat} {gg : Int → Int} (i : Nat) (w : World) (h : HAtI w p m lv v es n) (hl : Less lv gg) (hi : i < es.length) (hn : es.length ≤ 1099511627776) :
    Calls Tryz.prog 123 #[.pointer (some ⟨p, 0, none⟩), .int .i64 i] w fun e w' => e = .returned (.tuple #[]) ∧ Hid (∃ es', es'.Perm es ∧ HAtI w' p m lv v es' n ∧ Turned (Foot p m v) w w' ∧
      ∀ full, RiseAt (le gg) full i i es → (full → HeapOrd (le gg) es') ∧ SinkAt (le gg) i es') := by
  have HL := hide hl; have H0 := hide h; have hlen : i < 1099511627776 := by omega
  have HI := hide hi; have HN := hide hn; clear hl h hi hn
  go_enter Tryz.func123, Tryz.ntmps123
  go_wp2_with fail
  go_loopw [1] (fun s1 wr => ∃ (k : Nat) (es' : List EntI), s1 = .int .i64 k ∧ k ≤ i ∧ Hid (es'.Perm es ∧ HAtI wr p m lv v es' n ∧ Turned (Foot p m v) w wr ∧ ∀ full, RiseAt (le gg) full i i es → RiseAt (le gg) full i k es')) (fun s1 _ => (intOf s1).toNat)
  case atStart => exact ⟨i, es, rfl, Nat.le_refl _, List.Perm.refl _, unhide H0, Turned.refl _ _, fun _ h => h⟩
  case round =>
    obtain ⟨k, es', rfl, hki, hS⟩ := hrel
    by_cases hk : k = 0
    · subst hk
      go_wp2_with fail
      go_end0
      obtain ⟨h1, h2, h3, h4⟩ := unhide hS; exact ⟨rfl, es', h1, h2, h3, fun full hf => rise_end (le_trans gg) (h4 full hf) (.inl rfl)⟩
    · have hkp : 0 < k := by omega
      have hkz : (0 : Int) < (k : Int) := by omega
      have hk2 : k < es'.length := by rw [(unhide hS).1.length_eq]; have := unhide HI; omega
      have hpk : par k < es'.length := by unfold par; omega
      have CA := hide (aheadI k (par k) wr (unhide hS).2.1 (unhide HL) hk2 hpk); rw [par_int hkp] at CA; have CS : Hid (∀ q, Calls Tryz.prog 134 #[.pointer (some ⟨p, 0, none⟩), .int .i64 k, .int .i64 (par k)] (wr.drewN q) fun e w' => e = .returned (.tuple #[]) ∧ Hid (HAtI w' p m lv v (swapL es' k (par k)) n ∧ Turned (Foot p m v) (wr.drewN q) w')) := fun q =>
        swapI k (par k) (wr.drewN q) ((unhide hS).2.1.drewN q) hk2 hpk (by rw [(unhide hS).1.length_eq]; exact unhide HN)
      rw [par_int hkp] at CS
      cases ha : aheadB gg (at_ es' k) (at_ es' (par k)) with
      | false =>
        rw [ha] at CA; have HA := hide ha; clear ha CS
        go_wp2_with fail
        refine (unhide CA).mono ?_
        rintro e w' ⟨rfl, q, rfl⟩
        clear CA
        go_wp2_with fail
        go_end0
        obtain ⟨h1, h2, h3, h4⟩ := unhide hS; exact ⟨rfl, es', h1, h2.drewN q, h3.drewN q, fun full hf => rise_end (le_trans gg) (h4 full hf) (.inr (le_of_not_ahead gg (unhide HA)))⟩
      | true =>
        rw [ha] at CA; have HA := hide ha; clear ha
        go_wp2_with fail
        refine (unhide CA).mono ?_
        rintro e w' ⟨rfl, q, rfl⟩
        clear CA
        go_wp2_with fail
        refine (unhide CS q).mono ?_
        rintro e w' ⟨rfl, hs2⟩
        clear CS
        go_wp2_with fail
        go_roundw
        case rel =>
          obtain ⟨h1, h2, h3, h4⟩ := unhide hS; obtain ⟨g1, g2⟩ := unhide hs2; refine ⟨par k, swapL es' k (par k), by rw [par_int hkp], by unfold par; omega, (swap_perm es' k (par k) hk2 hpk).trans h1, g1, (h3.drewN q).trans g2, fun full hf => rise_step (le_trans gg) (h4 full hf) hkp (le_of_ahead gg (unhide HA))⟩
        case measure => simp [intOf]; omega
end

end Go.Proofs.YtagibmgbjhemkaaGreat
