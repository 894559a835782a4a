/- swap, of a heap as a whole. -/
import Derived.Test.YtkdlhnfagghppaaAtI
namespace Go.Proofs.Ytkdlhnfagghppaa

section
open Go.RowKit Go.Maps
/-- What two stores of an entry leave. -/
theorem stored3I {w : World} {b c L i : Nat} {es : List EntI} (e : EntI) (h : w.ownsRow 0 83 3 (.slice (some ⟨b, 0, none⟩) L c) L (encI es)) :
    (((w.setCell ⟨b, i * 3, none⟩ (.int .i64 (e.key))).setCell ⟨b, i * 3 + 1, none⟩ (.int .i64 e.rank)).setCell ⟨b, i * 3 + 2, none⟩ (.int .i64 e.turn)).ownsRow 0 83 3 (.slice (some ⟨b, 0, none⟩) L c) L (encI (es.set i e)) := by
  unfold encI
  rw [enc3_set]
  exact ((((h.stored _ _).1.stored _ _).1.stored _ _).1)

set_option maxHeartbeats 2000000 in
set_option maxRecDepth 100000 in
/-- The walk, over cells: W is the world behind the exchange. -/
theorem swapCI (p m b L c i j N : Nat) (ki kj : Int) (ri rj ti tj : Int) (D : DataW Unit) (w : World) (hi : i < L) (hj : j < L) (hL : L ≤ 1099511627776) (hN : N ≤ 1099511627776) (_hne : ¬ j = i) (hne' : ¬ i = j)
    (hbp : b ≠ p) (hbm : b ≠ m) (hmp : m ≠ p)
    (c1 : w.cell? ⟨p, 1, none⟩ = some (.slice (some ⟨b, 0, none⟩) L c)) (c2 : w.cell? ⟨p, 2, none⟩ = some (.map (some m)))
    (ik : w.cell? ⟨b, i * 3, none⟩ = some (.int .i64 (ki))) (ir : w.cell? ⟨b, i * 3 + 1, none⟩ = some (.int .i64 ri)) (it : w.cell? ⟨b, i * 3 + 2, none⟩ = some (.int .i64 ti))
    (jk : w.cell? ⟨b, j * 3, none⟩ = some (.int .i64 (kj))) (jr : w.cell? ⟨b, j * 3 + 1, none⟩ = some (.int .i64 rj)) (jt : w.cell? ⟨b, j * 3 + 2, none⟩ = some (.int .i64 tj))
    (fr : ∀ o, w.frozen? ⟨b, o, none⟩ = false) (hki : KeyOkI ki) (hkj : KeyOkI kj) (W : World)
    (HW : Hid (W = ((((((w.setCell ⟨b, i * 3, none⟩ (.int .i64 (kj))).setCell ⟨b, i * 3 + 1, none⟩ (.int .i64 rj)).setCell ⟨b, i * 3 + 2, none⟩ (.int .i64 tj)).setCell ⟨b, j * 3, none⟩ (.int .i64 (ki))).setCell ⟨b, j * 3 + 1, none⟩ (.int .i64 ri)).setCell ⟨b, j * 3 + 2, none⟩ (.int .i64 ti))))
    (HM : Hid (W.ownsMap Try.prog 3 (plainElem Try.prog 3) m N D)) :
    Calls Try.prog 52 #[.pointer (some ⟨p, 0, none⟩), .int .i64 i, .int .i64 j] w fun e w' => e = .returned (.tuple #[]) ∧
      Hid (w'.ownsMap Try.prog 3 (plainElem Try.prog 3) m (N + 1 + 1) ((D.put (klI kj) (.lit (.int .i64 i))).put (klI ki) (.lit (.int .i64 j))) ∧ W.grownBy w' (some m)) := by
  have hiz : (i : Int) < (L : Int) := by omega
  have hjz : (j : Int) < (L : Int) := by omega
  have other : ∀ (x : Addr), x.block ≠ b → W.cell? x = w.cell? x := fun x hx => by
    rw [unhide HW]
    exact cell_of_heap (by rw [heap_setCell_other _ _ _ _ hx, heap_setCell_other _ _ _ _ hx, heap_setCell_other _ _ _ _ hx, heap_setCell_other _ _ _ _ hx, heap_setCell_other _ _ _ _ hx, heap_setCell_other _ _ _ _ hx])
  have d1 : W.cell? ⟨p, 1, none⟩ = some (.slice (some ⟨b, 0, none⟩) L c) := (other _ (Ne.symm hbp)).trans c1
  have d2 : W.cell? ⟨p, 2, none⟩ = some (.map (some m)) := (other _ (Ne.symm hbp)).trans c2
  have d3 : W.cell? ⟨b, i * 3, none⟩ = some (.int .i64 (kj)) := by
    rw [unhide HW]
    iterate 5 rw [World.cell?_setCell_other _ _ _ _ (by simp <;> omega)]
    exact World.cell?_setCell_same _ _ _ ik
  have d4 : W.cell? ⟨b, j * 3, none⟩ = some (.int .i64 (ki)) := by
    rw [unhide HW]
    iterate 2 rw [World.cell?_setCell_other _ _ _ _ (by simp <;> omega)]
    refine World.cell?_setCell_same _ _ _ (?_ : _ = some (.int .i64 (kj)))
    iterate 3 rw [World.cell?_setCell_other _ _ _ _ (by simp <;> omega)]
    exact jk
  clear other
  go_enter Try.func52, Try.ntmps52
  go_wp2_with fail
  go_region
  rw [← unhide HW]
  clear c1 c2 ik ir it jk jr jt fr HW
  go_wp2_with fail
  refine region_still_tail 13 mixed (by kernel_rfl) ?_
  simp only [List.take_succ_cons, List.take_zero, List.drop_succ_cons, List.drop_zero]
  repeat still_step
  refine wpStill_nil ?_
  refine wpList_mapUpdate_in W.drew.drew rfl _ _ _ 78 rfl 3 3 lawI Try.underlying78 _ m N D rfl (World.ownsMap.drew (World.ownsMap.drew (unhide HM))) (by unfold maxLen; omega) _ _ _ rfl rfl (keyI hkj) _ [] (plainElem_int Try.underlying3 (WalkArith.wf_i64 (by omega))) ?_
  intro w1 hown1 hturn1
  have HO1 := hide hown1
  have HT1 := hide (grown_drew (grown_drew hturn1.grown))
  have other : ∀ (x : Addr), x.block ≠ m → w1.cell? x = W.cell? x := fun x hx => by
    obtain ⟨es, cl, es', cl', hb', rfl⟩ := hturn1
    exact cell_of_heap ((ChangeMaps.heap_setBlock_other hb' _ hx).trans rfl)
  have g1 : w1.cell? ⟨p, 1, none⟩ = some (.slice (some ⟨b, 0, none⟩) L c) := (other _ (Ne.symm hmp)).trans d1
  have g2 : w1.cell? ⟨p, 2, none⟩ = some (.map (some m)) := (other _ (Ne.symm hmp)).trans d2
  have g4 : w1.cell? ⟨b, j * 3, none⟩ = some (.int .i64 (ki)) := (other _ hbm).trans d4
  clear other hown1 hturn1 d1 d2 d3 d4 HM
  go_wp2_with fail
  refine region_still_tail 13 mixed (by kernel_rfl) ?_
  simp only [List.take_succ_cons, List.take_zero, List.drop_succ_cons, List.drop_zero]
  repeat still_step
  refine wpStill_nil ?_
  refine wpList_mapUpdate_in w1.drew rfl _ _ _ 78 rfl 3 3 lawI Try.underlying78 _ m (N + 1) _ rfl (World.ownsMap.drew (unhide HO1)) (by unfold maxLen; omega) _ _ _ rfl rfl (keyI hki) _ [] (plainElem_int Try.underlying3 (WalkArith.wf_i64 (by omega))) ?_
  intro w2 hown2 hturn2
  have HO2 := hide hown2
  have HT2 := hide ((unhide HT1).trans (grown_drew hturn2.grown))
  clear hown2 hturn2 g1 g2 g4 HO1 HT1
  go_wp2_with fail
  go_end0
  exact ⟨rfl, unhide HO2, unhide HT2⟩
set_option maxHeartbeats 2000000 in
set_option maxRecDepth 100000 in
/-- The walk, over cells: W is the world behind the exchange. -/
theorem swapDI (p m b L c i N : Nat) (ki : Int) (ri ti : Int) (D : DataW Unit) (w : World) (hi : i < L) (hL : L ≤ 1099511627776) (hN : N ≤ 1099511627776)
    (hbp : b ≠ p) (hbm : b ≠ m) (hmp : m ≠ p)
    (c1 : w.cell? ⟨p, 1, none⟩ = some (.slice (some ⟨b, 0, none⟩) L c)) (c2 : w.cell? ⟨p, 2, none⟩ = some (.map (some m)))
    (ik : w.cell? ⟨b, i * 3, none⟩ = some (.int .i64 (ki))) (ir : w.cell? ⟨b, i * 3 + 1, none⟩ = some (.int .i64 ri)) (it : w.cell? ⟨b, i * 3 + 2, none⟩ = some (.int .i64 ti))
    (fr : ∀ o, w.frozen? ⟨b, o, none⟩ = false) (hki : KeyOkI ki) (W : World)
    (HW : Hid (W = ((((((w.setCell ⟨b, i * 3, none⟩ (.int .i64 (ki))).setCell ⟨b, i * 3 + 1, none⟩ (.int .i64 ri)).setCell ⟨b, i * 3 + 2, none⟩ (.int .i64 ti)).setCell ⟨b, i * 3, none⟩ (.int .i64 (ki))).setCell ⟨b, i * 3 + 1, none⟩ (.int .i64 ri)).setCell ⟨b, i * 3 + 2, none⟩ (.int .i64 ti))))
    (HM : Hid (W.ownsMap Try.prog 3 (plainElem Try.prog 3) m N D)) :
    Calls Try.prog 52 #[.pointer (some ⟨p, 0, none⟩), .int .i64 i, .int .i64 i] w fun e w' => e = .returned (.tuple #[]) ∧
      Hid (w'.ownsMap Try.prog 3 (plainElem Try.prog 3) m (N + 1 + 1) ((D.put (klI ki) (.lit (.int .i64 i))).put (klI ki) (.lit (.int .i64 i))) ∧ W.grownBy w' (some m)) := by
  have hiz : (i : Int) < (L : Int) := by omega
  have other : ∀ (x : Addr), x.block ≠ b → W.cell? x = w.cell? x := fun x hx => by
    rw [unhide HW]
    exact cell_of_heap (by rw [heap_setCell_other _ _ _ _ hx, heap_setCell_other _ _ _ _ hx, heap_setCell_other _ _ _ _ hx, heap_setCell_other _ _ _ _ hx, heap_setCell_other _ _ _ _ hx, heap_setCell_other _ _ _ _ hx])
  have d1 : W.cell? ⟨p, 1, none⟩ = some (.slice (some ⟨b, 0, none⟩) L c) := (other _ (Ne.symm hbp)).trans c1
  have d2 : W.cell? ⟨p, 2, none⟩ = some (.map (some m)) := (other _ (Ne.symm hbp)).trans c2
  have d3 : W.cell? ⟨b, i * 3, none⟩ = some (.int .i64 (ki)) := by
    rw [unhide HW]
    iterate 2 rw [World.cell?_setCell_other _ _ _ _ (by simp <;> omega)]
    refine World.cell?_setCell_same _ _ _ (?_ : _ = some (.int .i64 (ki)))
    iterate 2 rw [World.cell?_setCell_other _ _ _ _ (by simp <;> omega)]
    exact World.cell?_setCell_same _ _ _ ik
  clear other
  go_enter Try.func52, Try.ntmps52
  go_wp2_with fail
  go_region
  rw [← unhide HW]
  clear c1 c2 ik ir it fr HW
  go_wp2_with fail
  refine region_still_tail 13 mixed (by kernel_rfl) ?_
  simp only [List.take_succ_cons, List.take_zero, List.drop_succ_cons, List.drop_zero]
  repeat still_step
  refine wpStill_nil ?_
  refine wpList_mapUpdate_in W.drew.drew rfl _ _ _ 78 rfl 3 3 lawI Try.underlying78 _ m N D rfl (World.ownsMap.drew (World.ownsMap.drew (unhide HM))) (by unfold maxLen; omega) _ _ _ rfl rfl (keyI hki) _ [] (plainElem_int Try.underlying3 (WalkArith.wf_i64 (by omega))) ?_
  intro w1 hown1 hturn1
  have HO1 := hide hown1
  have HT1 := hide (grown_drew (grown_drew hturn1.grown))
  have other : ∀ (x : Addr), x.block ≠ m → w1.cell? x = W.cell? x := fun x hx => by
    obtain ⟨es, cl, es', cl', hb', rfl⟩ := hturn1
    exact cell_of_heap ((ChangeMaps.heap_setBlock_other hb' _ hx).trans rfl)
  have g1 : w1.cell? ⟨p, 1, none⟩ = some (.slice (some ⟨b, 0, none⟩) L c) := (other _ (Ne.symm hmp)).trans d1
  have g2 : w1.cell? ⟨p, 2, none⟩ = some (.map (some m)) := (other _ (Ne.symm hmp)).trans d2
  have g4 : w1.cell? ⟨b, i * 3, none⟩ = some (.int .i64 (ki)) := (other _ hbm).trans d3
  clear other hown1 hturn1 d1 d2 d3 HM
  go_wp2_with fail
  refine region_still_tail 13 mixed (by kernel_rfl) ?_
  simp only [List.take_succ_cons, List.take_zero, List.drop_succ_cons, List.drop_zero]
  repeat still_step
  refine wpStill_nil ?_
  refine wpList_mapUpdate_in w1.drew rfl _ _ _ 78 rfl 3 3 lawI Try.underlying78 _ m (N + 1) _ rfl (World.ownsMap.drew (unhide HO1)) (by unfold maxLen; omega) _ _ _ rfl rfl (keyI hki) _ [] (plainElem_int Try.underlying3 (WalkArith.wf_i64 (by omega))) ?_
  intro w2 hown2 hturn2
  have HO2 := hide hown2
  have HT2 := hide ((unhide HT1).trans (grown_drew hturn2.grown))
  clear hown2 hturn2 g1 g2 g4 HO1 HT1
  go_wp2_with fail
  go_end0
  exact ⟨rfl, unhide HO2, unhide HT2⟩
end

section
open Go.RowKit Go.Maps
theorem row_keptI {w w' : World} {v : Value} {L : Nat} {xs : List Value} (h : w.ownsRow 0 83 3 v L xs) (hk : ∀ k, v.ownBlock = some k → w'.heap[k]? = w.heap[k]?) : w'.ownsRow 0 83 3 v L xs := by
  refine ⟨h.1, ?_⟩
  rcases h.2 with hn | ⟨g, cap, cur, rfl, hb, hgg, rest⟩
  · exact .inl hn
  · exact .inr ⟨g, cap, cur, rfl, hb, (hk g rfl).trans hgg, rest⟩

theorem swapI [Inhabited EntI] {p m : Nat} {lv v : Value} {es : List EntI} {n : Nat} (i j : Nat) (w : World) (h : HAtI w p m lv v es n) (hi : i < es.length) (hj : j < es.length) (hn : es.length ≤ 1099511627776) :
    Calls Try.prog 52 #[.pointer (some ⟨p, 0, none⟩), .int .i64 i, .int .i64 j] w fun e w' => e = .returned (.tuple #[]) ∧ Hid (HAtI w' p m lv v (swapL es i j) n ∧ Turned (Foot p m v) w w') := by
  obtain ⟨b, c, rfl, hbp, hbm, -, -, fr, hc⟩ := h.some_ (by omega)
  obtain ⟨-, c1, c2, -, -⟩ := h.cells
  obtain ⟨D, hD, hM⟩ := h.map
  have hmp := h.ne3
  have hrow := stored3I (i := j) (at_ es i) (stored3I (i := i) (at_ es j) h.row)
  have key : ∀ W : World, W = (((((w.setCell ⟨b, i * 3, none⟩ (.int .i64 ((at_ es j).key))).setCell ⟨b, i * 3 + 1, none⟩ (.int .i64 (at_ es j).rank)).setCell ⟨b, i * 3 + 2, none⟩ (.int .i64 (at_ es j).turn)).setCell ⟨b, j * 3, none⟩ (.int .i64 ((at_ es i).key))).setCell ⟨b, j * 3 + 1, none⟩ (.int .i64 (at_ es i).rank)).setCell ⟨b, j * 3 + 2, none⟩ (.int .i64 (at_ es i).turn) →
      ∀ w', w'.ownsMap Try.prog 3 (plainElem Try.prog 3) m (es.length + 1 + 1) ((D.put (klI (at_ es j).key) (.lit (.int .i64 i))).put (klI (at_ es i).key) (.lit (.int .i64 j))) → W.grownBy w' (some m) → HAtI w' p m lv (.slice (some ⟨b, 0, none⟩) es.length c) (swapL es i j) n ∧ Turned (Foot p m (.slice (some ⟨b, 0, none⟩) es.length c)) w w' := by
    intro W hW w' hmap hg
    have hWo : ∀ k, k ≠ b → W.heap[k]? = w.heap[k]? := fun k hk => by
      rw [hW, heap_setCell_other _ _ _ _ hk, heap_setCell_other _ _ _ _ hk, heap_setCell_other _ _ _ _ hk, heap_setCell_other _ _ _ _ hk, heap_setCell_other _ _ _ _ hk, heap_setCell_other _ _ _ _ hk]
    have hS : ∀ (V : World) (o : Nat) (u : Value), Turned (Foot p m (.slice (some ⟨b, 0, none⟩) es.length c)) V (V.setCell ⟨b, o, none⟩ u) := fun V o u => turned_setCell V _ u (.inr (.inr rfl))
    have hTW : Turned (Foot p m (.slice (some ⟨b, 0, none⟩) es.length c)) w W := by
      rw [hW]
      exact (((((hS _ _ _).trans (hS _ _ _)).trans (hS _ _ _)).trans (hS _ _ _)).trans (hS _ _ _)).trans (hS _ _ _)
    have hWs := hTW.size
    have hT : Turned (Foot p m (.slice (some ⟨b, 0, none⟩) es.length c)) w w' := hTW.trans (turned_grown hg (.inr (.inl rfl)))
    have hpl := h.lt (.inl rfl)
    have hbl := h.lt (k := b) (.inr (.inr rfl))
    have hMI : MapIs klI ((D.put (klI (at_ es j).key) (.lit (.int .i64 i))).put (klI (at_ es i).key) (.lit (.int .i64 j))) (swapL es i j) := by
      have := mapIs_swap injI litI hM hi hj
      have ai : at_ (swapL es i j) i = at_ es j := by
        rw [at_swap _ _ _ _ hi hj]
        by_cases e : i = j
        · rw [if_pos e, e]
        · rw [if_neg e, if_pos rfl]
      have aj : at_ (swapL es i j) j = at_ es i := by rw [at_swap _ _ _ _ hi hj, if_pos rfl]
      rw [ai, aj] at this
      exact this
    refine ⟨⟨?_, ?_, ⟨_, by rw [← hMI.size]; exact ownsMap_size hmap, hMI⟩, ?_, h.ne1, h.ne2, hmp⟩, hT⟩
    · rw [hg.block p (by omega) (fun e => hmp (by simpa using e.symm)), hWo p (Ne.symm hbp)]; exact h.box
    · rw [swapL_length]
      refine row_keptI (w := W) (by rw [hW]; exact hrow) (fun k hk => ?_)
      have : k = b := by simpa [Value.ownBlock, eq_comm] using hk
      subst this
      exact hg.block k (by omega) (fun e => hbm (by simpa using e))
    · intro k hk
      rw [swapL_length] at hk
      rw [at_swap _ _ _ _ hi hj]
      split
      · exact h.keys i hi
      · split
        · exact h.keys j hj
        · exact h.keys k hk
  have hmapW : ∀ W : World, (∀ k, k ≠ b → W.heap[k]? = w.heap[k]?) → W.ownsMap Try.prog 3 (plainElem Try.prog 3) m es.length D := fun W hW => by
    obtain ⟨es', clock, h1, h2⟩ := hD
    exact ⟨es', clock, (hW m (Ne.symm hbm)).trans h1, h2⟩
  by_cases e : i = j
  · subst e
    exact (swapDI p m b es.length c i es.length (at_ es i).key (at_ es i).rank (at_ es i).turn D w hi hn hn hbp hbm hmp c1 c2 (hc i hi).1 (hc i hi).2.1 (hc i hi).2.2 fr (h.keys i hi) _ rfl
      (hmapW _ (fun k hk => by rw [heap_setCell_other _ _ _ _ hk, heap_setCell_other _ _ _ _ hk, heap_setCell_other _ _ _ _ hk, heap_setCell_other _ _ _ _ hk, heap_setCell_other _ _ _ _ hk, heap_setCell_other _ _ _ _ hk]))).mono fun e w' ⟨h1, h2⟩ => ⟨h1, key _ rfl w' h2.out.1 h2.out.2⟩
  · exact (swapCI p m b es.length c i j es.length (at_ es i).key (at_ es j).key (at_ es i).rank (at_ es j).rank (at_ es i).turn (at_ es j).turn D w hi hj hn hn (Ne.symm e) e hbp hbm hmp c1 c2 (hc i hi).1 (hc i hi).2.1 (hc i hi).2.2 (hc j hj).1 (hc j hj).2.1 (hc j hj).2.2 fr (h.keys i hi) (h.keys j hj) _ rfl
      (hmapW _ (fun k hk => by rw [heap_setCell_other _ _ _ _ hk, heap_setCell_other _ _ _ _ hk, heap_setCell_other _ _ _ _ hk, heap_setCell_other _ _ _ _ hk, heap_setCell_other _ _ _ _ hk, heap_setCell_other _ _ _ _ hk]))).mono fun e w' ⟨h1, h2⟩ => ⟨h1, key _ rfl w' h2.out.1 h2.out.2⟩
end

end Go.Proofs.Ytkdlhnfagghppaa
