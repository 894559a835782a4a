/- swap: two entries change places. -/
import Derived.Test.YtagibmgbjhemkaaGreatAtI
namespace Go.Proofs.YtagibmgbjhemkaaGreat
open Go.RowKit Go.Maps

/-- What two stores of an entry leave. -/
theorem stored3I {w : World} {b c L i : Nat} {es : List EntI} (e : EntI) (h : w.ownsRow 0 190 3 (.slice (some ⟨b, 0, none⟩) L c) L (encI es)) :
    (((w.setCell ⟨b, i * 3, none⟩ (.int .i64 (e.key))).setCell ⟨b, i * 3 + 1, none⟩ (.int .i64 e.rank)).setCell ⟨b, i * 3 + 2, none⟩ (.int .i64 e.turn)).ownsRow 0 190 3 (.slice (some ⟨b, 0, none⟩) L c) L (encI (es.set i e)) := by
  unfold encI
  rw [enc3_set]
  exact ((((h.stored _ _).1.stored _ _).1.stored _ _).1)

set_option maxHeartbeats 2000000 in
set_option maxRecDepth 100000 in
/-- The walk, over cells: W is the world behind the exchange. -/
theorem swapCI (p m b L c i j N : Nat) (ki kj : Int) (ri rj ti tj : Int) (D : DataW Unit) (w : World) (hi : i < L) (hj : j < L) (hL : L ≤ 1099511627776) (hN : N ≤ 1099511627776) (_hne : ¬ j = i) (hne' : ¬ i = j)
    (hbp : b ≠ p) (hbm : b ≠ m) (hmp : m ≠ p)
    (c1 : w.cell? ⟨p, 1, none⟩ = some (.slice (some ⟨b, 0, none⟩) L c)) (c2 : w.cell? ⟨p, 2, none⟩ = some (.map (some m)))
    (ik : w.cell? ⟨b, i * 3, none⟩ = some (.int .i64 (ki))) (ir : w.cell? ⟨b, i * 3 + 1, none⟩ = some (.int .i64 ri)) (it : w.cell? ⟨b, i * 3 + 2, none⟩ = some (.int .i64 ti))
    (jk : w.cell? ⟨b, j * 3, none⟩ = some (.int .i64 (kj))) (jr : w.cell? ⟨b, j * 3 + 1, none⟩ = some (.int .i64 rj)) (jt : w.cell? ⟨b, j * 3 + 2, none⟩ = some (.int .i64 tj))
    (fr : ∀ o, w.frozen? ⟨b, o, none⟩ = false) (hki : KeyOkI ki) (hkj : KeyOkI kj) (W : World)
    (HW : Hid (W = ((((((w.setCell ⟨b, i * 3, none⟩ (.int .i64 (kj))).setCell ⟨b, i * 3 + 1, none⟩ (.int .i64 rj)).setCell ⟨b, i * 3 + 2, none⟩ (.int .i64 tj)).setCell ⟨b, j * 3, none⟩ (.int .i64 (ki))).setCell ⟨b, j * 3 + 1, none⟩ (.int .i64 ri)).setCell ⟨b, j * 3 + 2, none⟩ (.int .i64 ti))))
    (HM : Hid (W.ownsMap Tryz.prog 3 (plainElem Tryz.prog 3) m N D)) :
    Calls Tryz.prog 134 #[.pointer (some ⟨p, 0, none⟩), .int .i64 i, .int .i64 j] w fun e w' => e = .returned (.tuple #[]) ∧
      Hid (w'.ownsMap Tryz.prog 3 (plainElem Tryz.prog 3) m (N + 1 + 1) ((D.put (klI kj) (.lit (.int .i64 i))).put (klI ki) (.lit (.int .i64 j))) ∧ W.grownBy w' (some m)) := by
  have hiz : (i : Int) < (L : Int) := by omega
  have hjz : (j : Int) < (L : Int) := by omega
  have other : ∀ (x : Addr), x.block ≠ b → W.cell? x = w.cell? x := fun x hx => by
    rw [unhide HW]
    exact cell_of_heap (by rw [heap_setCell_other _ _ _ _ hx, heap_setCell_other _ _ _ _ hx, heap_setCell_other _ _ _ _ hx, heap_setCell_other _ _ _ _ hx, heap_setCell_other _ _ _ _ hx, heap_setCell_other _ _ _ _ hx])
  have d1 : W.cell? ⟨p, 1, none⟩ = some (.slice (some ⟨b, 0, none⟩) L c) := (other _ (Ne.symm hbp)).trans c1
  have d2 : W.cell? ⟨p, 2, none⟩ = some (.map (some m)) := (other _ (Ne.symm hbp)).trans c2
  have d3 : W.cell? ⟨b, i * 3, none⟩ = some (.int .i64 (kj)) := by
    rw [unhide HW]
    iterate 5 rw [World.cell?_setCell_other _ _ _ _ (by simp <;> omega)]
    exact World.cell?_setCell_same _ _ _ ik
  have d4 : W.cell? ⟨b, j * 3, none⟩ = some (.int .i64 (ki)) := by
    rw [unhide HW]
    iterate 2 rw [World.cell?_setCell_other _ _ _ _ (by simp <;> omega)]
    refine World.cell?_setCell_same _ _ _ (?_ : _ = some (.int .i64 (kj)))
    iterate 3 rw [World.cell?_setCell_other _ _ _ _ (by simp <;> omega)]
    exact jk
  clear other
  go_enter Tryz.func134, Tryz.ntmps134
  go_wp2_with fail
  go_region
  rw [← unhide HW]
  clear c1 c2 ik ir it jk jr jt fr HW
  go_wp2_with fail
  refine region_still_tail 13 mixed (by kernel_rfl) ?_
  simp only [List.take_succ_cons, List.take_zero, List.drop_succ_cons, List.drop_zero]
  repeat still_step
  refine wpStill_nil ?_
  refine wpList_mapUpdate_in W.drew.drew rfl _ _ _ 180 rfl 3 3 lawI Tryz.underlying180 _ m N D rfl (World.ownsMap.drew (World.ownsMap.drew (unhide HM))) (by unfold maxLen; omega) _ _ _ rfl rfl (keyI hkj) _ [] (plainElem_int Tryz.underlying3 (WalkArith.wf_i64 (by omega))) ?_
  intro w1 hown1 hturn1
  have HO1 := hide hown1
  have HT1 := hide (grown_drew (grown_drew hturn1.grown))
  have other : ∀ (x : Addr), x.block ≠ m → w1.cell? x = W.cell? x := fun x hx => by
    obtain ⟨es, cl, es', cl', hb', rfl⟩ := hturn1
    exact cell_of_heap ((ChangeMaps.heap_setBlock_other hb' _ hx).trans rfl)
  have g1 : w1.cell? ⟨p, 1, none⟩ = some (.slice (some ⟨b, 0, none⟩) L c) := (other _ (Ne.symm hmp)).trans d1
  have g2 : w1.cell? ⟨p, 2, none⟩ = some (.map (some m)) := (other _ (Ne.symm hmp)).trans d2
  have g4 : w1.cell? ⟨b, j * 3, none⟩ = some (.int .i64 (ki)) := (other _ hbm).trans d4
  clear other hown1 hturn1 d1 d2 d3 d4 HM
  go_wp2_with fail
  refine region_still_tail 13 mixed (by kernel_rfl) ?_
  simp only [List.take_succ_cons, List.take_zero, List.drop_succ_cons, List.drop_zero]
  repeat still_step
  refine wpStill_nil ?_
  refine wpList_mapUpdate_in w1.drew rfl _ _ _ 180 rfl 3 3 lawI Tryz.underlying180 _ m (N + 1) _ rfl (World.ownsMap.drew (unhide HO1)) (by unfold maxLen; omega) _ _ _ rfl rfl (keyI hki) _ [] (plainElem_int Tryz.underlying3 (WalkArith.wf_i64 (by omega))) ?_
  intro w2 hown2 hturn2
  have HO2 := hide hown2
  have HT2 := hide ((unhide HT1).trans (grown_drew hturn2.grown))
  clear hown2 hturn2 g1 g2 g4 HO1 HT1
  go_wp2_with fail
  go_end0
  exact ⟨rfl, unhide HO2, unhide HT2⟩
set_option maxHeartbeats 2000000 in
set_option maxRecDepth 100000 in
/-- The walk, over cells: W is the world behind the exchange. -/
theorem swapDI (p m b L c i N : Nat) (ki : Int) (ri ti : Int) (D : DataW Unit) (w : World) (hi : i < L) (hL : L ≤ 1099511627776) (hN : N ≤ 1099511627776)
    (hbp : b ≠ p) (hbm : b ≠ m) (hmp : m ≠ p)
    (c1 : w.cell? ⟨p, 1, none⟩ = some (.slice (some ⟨b, 0, none⟩) L c)) (c2 : w.cell? ⟨p, 2, none⟩ = some (.map (some m)))
    (ik : w.cell? ⟨b, i * 3, none⟩ = some (.int .i64 (ki))) (ir : w.cell? ⟨b, i * 3 + 1, none⟩ = some (.int .i64 ri)) (it : w.cell? ⟨b, i * 3 + 2, none⟩ = some (.int .i64 ti))
    (fr : ∀ o, w.frozen? ⟨b, o, none⟩ = false) (hki : KeyOkI ki) (W : World)
    (HW : Hid (W = ((((((w.setCell ⟨b, i * 3, none⟩ (.int .i64 (ki))).setCell ⟨b, i * 3 + 1, none⟩ (.int .i64 ri)).setCell ⟨b, i * 3 + 2, none⟩ (.int .i64 ti)).setCell ⟨b, i * 3, none⟩ (.int .i64 (ki))).setCell ⟨b, i * 3 + 1, none⟩ (.int .i64 ri)).setCell ⟨b, i * 3 + 2, none⟩ (.int .i64 ti))))
    (HM : Hid (W.ownsMap Tryz.prog 3 (plainElem Tryz.prog 3) m N D)) :
    Calls Tryz.prog 134 #[.pointer (some ⟨p, 0, none⟩), .int .i64 i, .int .i64 i] w fun e w' => e = .returned (.tuple #[]) ∧
      Hid (w'.ownsMap Tryz.prog 3 (plainElem Tryz.prog 3) m (N + 1 + 1) ((D.put (klI ki) (.lit (.int .i64 i))).put (klI ki) (.lit (.int .i64 i))) ∧ W.grownBy w' (some m)) := by
  have hiz : (i : Int) < (L : Int) := by omega
  have other : ∀ (x : Addr), x.block ≠ b → W.cell? x = w.cell? x := fun x hx => by
    rw [unhide HW]
    exact cell_of_heap (by rw [heap_setCell_other _ _ _ _ hx, heap_setCell_other _ _ _ _ hx, heap_setCell_other _ _ _ _ hx, heap_setCell_other _ _ _ _ hx, heap_setCell_other _ _ _ _ hx, heap_setCell_other _ _ _ _ hx])
  have d1 : W.cell? ⟨p, 1, none⟩ = some (.slice (some ⟨b, 0, none⟩) L c) := (other _ (Ne.symm hbp)).trans c1
  have d2 : W.cell? ⟨p, 2, none⟩ = some (.map (some m)) := (other _ (Ne.symm hbp)).trans c2
  have d3 : W.cell? ⟨b, i * 3, none⟩ = some (.int .i64 (ki)) := by
    rw [unhide HW]
    iterate 2 rw [World.cell?_setCell_other _ _ _ _ (by simp <;> omega)]
    refine World.cell?_setCell_same _ _ _ (?_ : _ = some (.int .i64 (ki)))
    iterate 2 rw [World.cell?_setCell_other _ _ _ _ (by simp <;> omega)]
    exact World.cell?_setCell_same _ _ _ ik
  clear other
  go_enter Tryz.func134, Tryz.ntmps134
  go_wp2_with fail
  go_region
  rw [← unhide HW]
  clear c1 c2 ik ir it fr HW
  go_wp2_with fail
  refine region_still_tail 13 mixed (by kernel_rfl) ?_
  simp only [List.take_succ_cons, List.take_zero, List.drop_succ_cons, List.drop_zero]
  repeat still_step
  refine wpStill_nil ?_
  refine wpList_mapUpdate_in W.drew.drew rfl _ _ _ 180 rfl 3 3 lawI Tryz.underlying180 _ m N D rfl (World.ownsMap.drew (World.ownsMap.drew (unhide HM))) (by unfold maxLen; omega) _ _ _ rfl rfl (keyI hki) _ [] (plainElem_int Tryz.underlying3 (WalkArith.wf_i64 (by omega))) ?_
  intro w1 hown1 hturn1
  have HO1 := hide hown1
  have HT1 := hide (grown_drew (grown_drew hturn1.grown))
  have other : ∀ (x : Addr), x.block ≠ m → w1.cell? x = W.cell? x := fun x hx => by
    obtain ⟨es, cl, es', cl', hb', rfl⟩ := hturn1
    exact cell_of_heap ((ChangeMaps.heap_setBlock_other hb' _ hx).trans rfl)
  have g1 : w1.cell? ⟨p, 1, none⟩ = some (.slice (some ⟨b, 0, none⟩) L c) := (other _ (Ne.symm hmp)).trans d1
  have g2 : w1.cell? ⟨p, 2, none⟩ = some (.map (some m)) := (other _ (Ne.symm hmp)).trans d2
  have g4 : w1.cell? ⟨b, i * 3, none⟩ = some (.int .i64 (ki)) := (other _ hbm).trans d3
  clear other hown1 hturn1 d1 d2 d3 HM
  go_wp2_with fail
  refine region_still_tail 13 mixed (by kernel_rfl) ?_
  simp only [List.take_succ_cons, List.take_zero, List.drop_succ_cons, List.drop_zero]
  repeat still_step
  refine wpStill_nil ?_
  refine wpList_mapUpdate_in w1.drew rfl _ _ _ 180 rfl 3 3 lawI Tryz.underlying180 _ m (N + 1) _ rfl (World.ownsMap.drew (unhide HO1)) (by unfold maxLen; omega) _ _ _ rfl rfl (keyI hki) _ [] (plainElem_int Tryz.underlying3 (WalkArith.wf_i64 (by omega))) ?_
  intro w2 hown2 hturn2
  have HO2 := hide hown2
  have HT2 := hide ((unhide HT1).trans (grown_drew hturn2.grown))
  clear hown2 hturn2 g1 g2 g4 HO1 HT1
  go_wp2_with fail
  go_end0
  exact ⟨rfl, unhide HO2, unhide HT2⟩
end Go.Proofs.YtagibmgbjhemkaaGreat
