/- Push. -/
import Derived.Test.YtbmcibofecigeaaGreatAtF
import Derived.Test.YtbmcibofecigeaaGreatLaws2
namespace Go.Proofs.YtbmcibofecigeaaGreat

section
open Go.RowKit Go.Maps
attribute [local go_sem] run_storeF

/-- What two stores of an entry leave. -/
theorem stored3F {w : World} {b c L i : Nat} {es : List EntF} (e : EntF) (h : w.ownsRow 0 162 3 (.slice (some ⟨b, 0, none⟩) L c) L (encF es)) :
    (((w.setCell ⟨b, i * 3, none⟩ (.int .i64 (e.key))).setCell ⟨b, i * 3 + 1, none⟩ (.float .f32 (cfl e.rank))).setCell ⟨b, i * 3 + 2, none⟩ (.int .i64 e.turn)).ownsRow 0 162 3 (.slice (some ⟨b, 0, none⟩) L c) L (encF (es.set i e)) := by
  unfold encF
  rw [enc3_set]
  exact ((((h.stored _ _).1.stored _ _).1.stored _ _).1)

set_option maxHeartbeats 2000000 in
set_option maxRecDepth 100000 in
/-- The walk, over cells: W is the world behind the exchange. -/
theorem swapCF (p m b L c i j N : Nat) (ki kj : Int) (ri rj : Nat) (ti tj : Int) (D : DataW Unit) (w : World) (hi : i < L) (hj : j < L) (hL : L ≤ 1099511627776) (hN : N ≤ 1099511627776) (_hne : ¬ j = i) (hne' : ¬ i = j)
    (hbp : b ≠ p) (hbm : b ≠ m) (hmp : m ≠ p)
    (c1 : w.cell? ⟨p, 1, none⟩ = some (.slice (some ⟨b, 0, none⟩) L c)) (c2 : w.cell? ⟨p, 2, none⟩ = some (.map (some m)))
    (ik : w.cell? ⟨b, i * 3, none⟩ = some (.int .i64 (ki))) (ir : w.cell? ⟨b, i * 3 + 1, none⟩ = some (.float .f32 (cfl ri))) (it : w.cell? ⟨b, i * 3 + 2, none⟩ = some (.int .i64 ti))
    (jk : w.cell? ⟨b, j * 3, none⟩ = some (.int .i64 (kj))) (jr : w.cell? ⟨b, j * 3 + 1, none⟩ = some (.float .f32 (cfl rj))) (jt : w.cell? ⟨b, j * 3 + 2, none⟩ = some (.int .i64 tj))
    (fr : ∀ o, w.frozen? ⟨b, o, none⟩ = false) (hki : KeyOkF ki) (hkj : KeyOkF kj) (W : World)
    (HW : Hid (W = ((((((w.setCell ⟨b, i * 3, none⟩ (.int .i64 (kj))).setCell ⟨b, i * 3 + 1, none⟩ (.float .f32 (cfl rj))).setCell ⟨b, i * 3 + 2, none⟩ (.int .i64 tj)).setCell ⟨b, j * 3, none⟩ (.int .i64 (ki))).setCell ⟨b, j * 3 + 1, none⟩ (.float .f32 (cfl ri))).setCell ⟨b, j * 3 + 2, none⟩ (.int .i64 ti))))
    (HM : Hid (W.ownsMap Tryz.prog 3 (plainElem Tryz.prog 3) m N D)) :
    Calls Tryz.prog 129 #[.pointer (some ⟨p, 0, none⟩), .int .i64 i, .int .i64 j] w fun e w' => e = .returned (.tuple #[]) ∧
      Hid (w'.ownsMap Tryz.prog 3 (plainElem Tryz.prog 3) m (N + 1 + 1) ((D.put (klF kj) (.lit (.int .i64 i))).put (klF ki) (.lit (.int .i64 j))) ∧ W.grownBy w' (some m)) := by
  have hiz : (i : Int) < (L : Int) := by omega
  have hjz : (j : Int) < (L : Int) := by omega
  have other : ∀ (x : Addr), x.block ≠ b → W.cell? x = w.cell? x := fun x hx => by
    rw [unhide HW]
    exact cell_of_heap (by rw [heap_setCell_other _ _ _ _ hx, heap_setCell_other _ _ _ _ hx, heap_setCell_other _ _ _ _ hx, heap_setCell_other _ _ _ _ hx, heap_setCell_other _ _ _ _ hx, heap_setCell_other _ _ _ _ hx])
  have d1 : W.cell? ⟨p, 1, none⟩ = some (.slice (some ⟨b, 0, none⟩) L c) := (other _ (Ne.symm hbp)).trans c1
  have d2 : W.cell? ⟨p, 2, none⟩ = some (.map (some m)) := (other _ (Ne.symm hbp)).trans c2
  have d3 : W.cell? ⟨b, i * 3, none⟩ = some (.int .i64 (kj)) := by
    rw [unhide HW]
    iterate 5 rw [World.cell?_setCell_other _ _ _ _ (by simp <;> omega)]
    exact World.cell?_setCell_same _ _ _ ik
  have d4 : W.cell? ⟨b, j * 3, none⟩ = some (.int .i64 (ki)) := by
    rw [unhide HW]
    iterate 2 rw [World.cell?_setCell_other _ _ _ _ (by simp <;> omega)]
    refine World.cell?_setCell_same _ _ _ (?_ : _ = some (.int .i64 (kj)))
    iterate 3 rw [World.cell?_setCell_other _ _ _ _ (by simp <;> omega)]
    exact jk
  clear other
  go_enter Tryz.func129, Tryz.ntmps129
  go_wp2_with fail
  go_region
  rw [← unhide HW]
  clear c1 c2 ik ir it jk jr jt fr HW
  go_wp2_with fail
  refine region_still_tail 13 mixed (by kernel_rfl) ?_
  simp only [List.take_succ_cons, List.take_zero, List.drop_succ_cons, List.drop_zero]
  repeat still_step
  refine wpStill_nil ?_
  refine wpList_mapUpdate_in W.drew.drew rfl _ _ _ 157 rfl 3 3 lawF Tryz.underlying157 _ m N D rfl (World.ownsMap.drew (World.ownsMap.drew (unhide HM))) (by unfold maxLen; omega) _ _ _ rfl rfl (keyF hkj) _ [] (plainElem_int Tryz.underlying3 (WalkArith.wf_i64 (by omega))) ?_
  intro w1 hown1 hturn1
  have HO1 := hide hown1
  have HT1 := hide (grown_drew (grown_drew hturn1.grown))
  have other : ∀ (x : Addr), x.block ≠ m → w1.cell? x = W.cell? x := fun x hx => by
    obtain ⟨es, cl, es', cl', hb', rfl⟩ := hturn1
    exact cell_of_heap ((ChangeMaps.heap_setBlock_other hb' _ hx).trans rfl)
  have g1 : w1.cell? ⟨p, 1, none⟩ = some (.slice (some ⟨b, 0, none⟩) L c) := (other _ (Ne.symm hmp)).trans d1
  have g2 : w1.cell? ⟨p, 2, none⟩ = some (.map (some m)) := (other _ (Ne.symm hmp)).trans d2
  have g4 : w1.cell? ⟨b, j * 3, none⟩ = some (.int .i64 (ki)) := (other _ hbm).trans d4
  clear other hown1 hturn1 d1 d2 d3 d4 HM
  go_wp2_with fail
  refine region_still_tail 13 mixed (by kernel_rfl) ?_
  simp only [List.take_succ_cons, List.take_zero, List.drop_succ_cons, List.drop_zero]
  repeat still_step
  refine wpStill_nil ?_
  refine wpList_mapUpdate_in w1.drew rfl _ _ _ 157 rfl 3 3 lawF Tryz.underlying157 _ m (N + 1) _ rfl (World.ownsMap.drew (unhide HO1)) (by unfold maxLen; omega) _ _ _ rfl rfl (keyF hki) _ [] (plainElem_int Tryz.underlying3 (WalkArith.wf_i64 (by omega))) ?_
  intro w2 hown2 hturn2
  have HO2 := hide hown2
  have HT2 := hide ((unhide HT1).trans (grown_drew hturn2.grown))
  clear hown2 hturn2 g1 g2 g4 HO1 HT1
  go_wp2_with fail
  go_end0
  exact ⟨rfl, unhide HO2, unhide HT2⟩
set_option maxHeartbeats 2000000 in
set_option maxRecDepth 100000 in
/-- The walk, over cells: W is the world behind the exchange. -/
theorem swapDF (p m b L c i N : Nat) (ki : Int) (ri : Nat) (ti : Int) (D : DataW Unit) (w : World) (hi : i < L) (hL : L ≤ 1099511627776) (hN : N ≤ 1099511627776)
    (hbp : b ≠ p) (hbm : b ≠ m) (hmp : m ≠ p)
    (c1 : w.cell? ⟨p, 1, none⟩ = some (.slice (some ⟨b, 0, none⟩) L c)) (c2 : w.cell? ⟨p, 2, none⟩ = some (.map (some m)))
    (ik : w.cell? ⟨b, i * 3, none⟩ = some (.int .i64 (ki))) (ir : w.cell? ⟨b, i * 3 + 1, none⟩ = some (.float .f32 (cfl ri))) (it : w.cell? ⟨b, i * 3 + 2, none⟩ = some (.int .i64 ti))
    (fr : ∀ o, w.frozen? ⟨b, o, none⟩ = false) (hki : KeyOkF ki) (W : World)
    (HW : Hid (W = ((((((w.setCell ⟨b, i * 3, none⟩ (.int .i64 (ki))).setCell ⟨b, i * 3 + 1, none⟩ (.float .f32 (cfl ri))).setCell ⟨b, i * 3 + 2, none⟩ (.int .i64 ti)).setCell ⟨b, i * 3, none⟩ (.int .i64 (ki))).setCell ⟨b, i * 3 + 1, none⟩ (.float .f32 (cfl ri))).setCell ⟨b, i * 3 + 2, none⟩ (.int .i64 ti))))
    (HM : Hid (W.ownsMap Tryz.prog 3 (plainElem Tryz.prog 3) m N D)) :
    Calls Tryz.prog 129 #[.pointer (some ⟨p, 0, none⟩), .int .i64 i, .int .i64 i] w fun e w' => e = .returned (.tuple #[]) ∧
      Hid (w'.ownsMap Tryz.prog 3 (plainElem Tryz.prog 3) m (N + 1 + 1) ((D.put (klF ki) (.lit (.int .i64 i))).put (klF ki) (.lit (.int .i64 i))) ∧ W.grownBy w' (some m)) := by
  have hiz : (i : Int) < (L : Int) := by omega
  have other : ∀ (x : Addr), x.block ≠ b → W.cell? x = w.cell? x := fun x hx => by
    rw [unhide HW]
    exact cell_of_heap (by rw [heap_setCell_other _ _ _ _ hx, heap_setCell_other _ _ _ _ hx, heap_setCell_other _ _ _ _ hx, heap_setCell_other _ _ _ _ hx, heap_setCell_other _ _ _ _ hx, heap_setCell_other _ _ _ _ hx])
  have d1 : W.cell? ⟨p, 1, none⟩ = some (.slice (some ⟨b, 0, none⟩) L c) := (other _ (Ne.symm hbp)).trans c1
  have d2 : W.cell? ⟨p, 2, none⟩ = some (.map (some m)) := (other _ (Ne.symm hbp)).trans c2
  have d3 : W.cell? ⟨b, i * 3, none⟩ = some (.int .i64 (ki)) := by
    rw [unhide HW]
    iterate 2 rw [World.cell?_setCell_other _ _ _ _ (by simp <;> omega)]
    refine World.cell?_setCell_same _ _ _ (?_ : _ = some (.int .i64 (ki)))
    iterate 2 rw [World.cell?_setCell_other _ _ _ _ (by simp <;> omega)]
    exact World.cell?_setCell_same _ _ _ ik
  clear other
  go_enter Tryz.func129, Tryz.ntmps129
  go_wp2_with fail
  go_region
  rw [← unhide HW]
  clear c1 c2 ik ir it fr HW
  go_wp2_with fail
  refine region_still_tail 13 mixed (by kernel_rfl) ?_
  simp only [List.take_succ_cons, List.take_zero, List.drop_succ_cons, List.drop_zero]
  repeat still_step
  refine wpStill_nil ?_
  refine wpList_mapUpdate_in W.drew.drew rfl _ _ _ 157 rfl 3 3 lawF Tryz.underlying157 _ m N D rfl (World.ownsMap.drew (World.ownsMap.drew (unhide HM))) (by unfold maxLen; omega) _ _ _ rfl rfl (keyF hki) _ [] (plainElem_int Tryz.underlying3 (WalkArith.wf_i64 (by omega))) ?_
  intro w1 hown1 hturn1
  have HO1 := hide hown1
  have HT1 := hide (grown_drew (grown_drew hturn1.grown))
  have other : ∀ (x : Addr), x.block ≠ m → w1.cell? x = W.cell? x := fun x hx => by
    obtain ⟨es, cl, es', cl', hb', rfl⟩ := hturn1
    exact cell_of_heap ((ChangeMaps.heap_setBlock_other hb' _ hx).trans rfl)
  have g1 : w1.cell? ⟨p, 1, none⟩ = some (.slice (some ⟨b, 0, none⟩) L c) := (other _ (Ne.symm hmp)).trans d1
  have g2 : w1.cell? ⟨p, 2, none⟩ = some (.map (some m)) := (other _ (Ne.symm hmp)).trans d2
  have g4 : w1.cell? ⟨b, i * 3, none⟩ = some (.int .i64 (ki)) := (other _ hbm).trans d3
  clear other hown1 hturn1 d1 d2 d3 HM
  go_wp2_with fail
  refine region_still_tail 13 mixed (by kernel_rfl) ?_
  simp only [List.take_succ_cons, List.take_zero, List.drop_succ_cons, List.drop_zero]
  repeat still_step
  refine wpStill_nil ?_
  refine wpList_mapUpdate_in w1.drew rfl _ _ _ 157 rfl 3 3 lawF Tryz.underlying157 _ m (N + 1) _ rfl (World.ownsMap.drew (unhide HO1)) (by unfold maxLen; omega) _ _ _ rfl rfl (keyF hki) _ [] (plainElem_int Tryz.underlying3 (WalkArith.wf_i64 (by omega))) ?_
  intro w2 hown2 hturn2
  have HO2 := hide hown2
  have HT2 := hide ((unhide HT1).trans (grown_drew hturn2.grown))
  clear hown2 hturn2 g1 g2 g4 HO1 HT1
  go_wp2_with fail
  go_end0
  exact ⟨rfl, unhide HO2, unhide HT2⟩
end

section
open Go.RowKit Go.Maps
attribute [local go_sem] run_storeF

theorem row_keptF {w w' : World} {v : Value} {L : Nat} {xs : List Value} (h : w.ownsRow 0 162 3 v L xs) (hk : ∀ k, v.ownBlock = some k → w'.heap[k]? = w.heap[k]?) : w'.ownsRow 0 162 3 v L xs := by
  refine ⟨h.1, ?_⟩
  rcases h.2 with hn | ⟨g, cap, cur, rfl, hb, hgg, rest⟩
  · exact .inl hn
  · exact .inr ⟨g, cap, cur, rfl, hb, (hk g rfl).trans hgg, rest⟩

theorem swapF [Inhabited EntF] {p m : Nat} {lv v : Value} {es : List EntF} {n : Nat} (i j : Nat) (w : World) (h : HAtF w p m lv v es n) (hi : i < es.length) (hj : j < es.length) (hn : es.length ≤ 1099511627776) :
    Calls Tryz.prog 129 #[.pointer (some ⟨p, 0, none⟩), .int .i64 i, .int .i64 j] w fun e w' => e = .returned (.tuple #[]) ∧ Hid (HAtF w' p m lv v (swapL es i j) n ∧ Turned (Foot p m v) w w') := by
  obtain ⟨b, c, rfl, hbp, hbm, -, -, fr, hc⟩ := h.some_ (by omega)
  obtain ⟨-, c1, c2, -, -⟩ := h.cells
  obtain ⟨D, hD, hM⟩ := h.map
  have hmp := h.ne3
  have hrow := stored3F (i := j) (at_ es i) (stored3F (i := i) (at_ es j) h.row)
  have key : ∀ W : World, W = (((((w.setCell ⟨b, i * 3, none⟩ (.int .i64 ((at_ es j).key))).setCell ⟨b, i * 3 + 1, none⟩ (.float .f32 (cfl (at_ es j).rank))).setCell ⟨b, i * 3 + 2, none⟩ (.int .i64 (at_ es j).turn)).setCell ⟨b, j * 3, none⟩ (.int .i64 ((at_ es i).key))).setCell ⟨b, j * 3 + 1, none⟩ (.float .f32 (cfl (at_ es i).rank))).setCell ⟨b, j * 3 + 2, none⟩ (.int .i64 (at_ es i).turn) →
      ∀ w', w'.ownsMap Tryz.prog 3 (plainElem Tryz.prog 3) m (es.length + 1 + 1) ((D.put (klF (at_ es j).key) (.lit (.int .i64 i))).put (klF (at_ es i).key) (.lit (.int .i64 j))) → W.grownBy w' (some m) → HAtF w' p m lv (.slice (some ⟨b, 0, none⟩) es.length c) (swapL es i j) n ∧ Turned (Foot p m (.slice (some ⟨b, 0, none⟩) es.length c)) w w' := by
    intro W hW w' hmap hg
    have hWo : ∀ k, k ≠ b → W.heap[k]? = w.heap[k]? := fun k hk => by
      rw [hW, heap_setCell_other _ _ _ _ hk, heap_setCell_other _ _ _ _ hk, heap_setCell_other _ _ _ _ hk, heap_setCell_other _ _ _ _ hk, heap_setCell_other _ _ _ _ hk, heap_setCell_other _ _ _ _ hk]
    have hS : ∀ (V : World) (o : Nat) (u : Value), Turned (Foot p m (.slice (some ⟨b, 0, none⟩) es.length c)) V (V.setCell ⟨b, o, none⟩ u) := fun V o u => turned_setCell V _ u (.inr (.inr rfl))
    have hTW : Turned (Foot p m (.slice (some ⟨b, 0, none⟩) es.length c)) w W := by
      rw [hW]
      exact (((((hS _ _ _).trans (hS _ _ _)).trans (hS _ _ _)).trans (hS _ _ _)).trans (hS _ _ _)).trans (hS _ _ _)
    have hWs := hTW.size
    have hT : Turned (Foot p m (.slice (some ⟨b, 0, none⟩) es.length c)) w w' := hTW.trans (turned_grown hg (.inr (.inl rfl)))
    have hpl := h.lt (.inl rfl)
    have hbl := h.lt (k := b) (.inr (.inr rfl))
    have hMI : MapIs klF ((D.put (klF (at_ es j).key) (.lit (.int .i64 i))).put (klF (at_ es i).key) (.lit (.int .i64 j))) (swapL es i j) := by
      have := mapIs_swap injF litF hM hi hj
      have ai : at_ (swapL es i j) i = at_ es j := by
        rw [at_swap _ _ _ _ hi hj]
        by_cases e : i = j
        · rw [if_pos e, e]
        · rw [if_neg e, if_pos rfl]
      have aj : at_ (swapL es i j) j = at_ es i := by rw [at_swap _ _ _ _ hi hj, if_pos rfl]
      rw [ai, aj] at this
      exact this
    refine ⟨⟨?_, ?_, ⟨_, by rw [← hMI.size]; exact ownsMap_size hmap, hMI⟩, ?_, h.ne1, h.ne2, hmp⟩, hT⟩
    · rw [hg.block p (by omega) (fun e => hmp (by simpa using e.symm)), hWo p (Ne.symm hbp)]; exact h.box
    · rw [swapL_length]
      refine row_keptF (w := W) (by rw [hW]; exact hrow) (fun k hk => ?_)
      have : k = b := by simpa [Value.ownBlock, eq_comm] using hk
      subst this
      exact hg.block k (by omega) (fun e => hbm (by simpa using e))
    · intro k hk
      rw [swapL_length] at hk
      rw [at_swap _ _ _ _ hi hj]
      split
      · exact h.keys i hi
      · split
        · exact h.keys j hj
        · exact h.keys k hk
  have hmapW : ∀ W : World, (∀ k, k ≠ b → W.heap[k]? = w.heap[k]?) → W.ownsMap Tryz.prog 3 (plainElem Tryz.prog 3) m es.length D := fun W hW => by
    obtain ⟨es', clock, h1, h2⟩ := hD
    exact ⟨es', clock, (hW m (Ne.symm hbm)).trans h1, h2⟩
  by_cases e : i = j
  · subst e
    exact (swapDF p m b es.length c i es.length (at_ es i).key (at_ es i).rank (at_ es i).turn D w hi hn hn hbp hbm hmp c1 c2 (hc i hi).1 (hc i hi).2.1 (hc i hi).2.2 fr (h.keys i hi) _ rfl
      (hmapW _ (fun k hk => by rw [heap_setCell_other _ _ _ _ hk, heap_setCell_other _ _ _ _ hk, heap_setCell_other _ _ _ _ hk, heap_setCell_other _ _ _ _ hk, heap_setCell_other _ _ _ _ hk, heap_setCell_other _ _ _ _ hk]))).mono fun e w' ⟨h1, h2⟩ => ⟨h1, key _ rfl w' h2.out.1 h2.out.2⟩
  · exact (swapCF p m b es.length c i j es.length (at_ es i).key (at_ es j).key (at_ es i).rank (at_ es j).rank (at_ es i).turn (at_ es j).turn D w hi hj hn hn (Ne.symm e) e hbp hbm hmp c1 c2 (hc i hi).1 (hc i hi).2.1 (hc i hi).2.2 (hc j hj).1 (hc j hj).2.1 (hc j hj).2.2 fr (h.keys i hi) (h.keys j hj) _ rfl
      (hmapW _ (fun k hk => by rw [heap_setCell_other _ _ _ _ hk, heap_setCell_other _ _ _ _ hk, heap_setCell_other _ _ _ _ hk, heap_setCell_other _ _ _ _ hk, heap_setCell_other _ _ _ _ hk, heap_setCell_other _ _ _ _ hk]))).mono fun e w' ⟨h1, h2⟩ => ⟨h1, key _ rfl w' h2.out.1 h2.out.2⟩
end

section
open Go.RowKit
attribute [local go_sem] run_storeF

set_option maxHeartbeats 1000000 in
set_option maxRecDepth 100000 in
theorem aheadCF (p b g n c i j : Nat) (cb : Array Value) (ri rj : Nat) (ti tj : Nat) (lt : Nat → Nat → Bool) (w : World) (hi : i < n) (hj : j < n)
    (eg : ∀ args w, (callFunc g args).run Tryz.prog w = .ok (.enter g args) w)
    (HL : Hid (∀ x y (w : World), Calls Tryz.prog g (#[.float .f32 (cfl x), .float .f32 (cfl y)] ++ cb) w fun e w' => e = .returned (.bool (lt x y)) ∧ w' = w))
    (c0 : w.cell? ⟨p, 0, none⟩ = some (.func (.func g) #[] cb)) (c1 : w.cell? ⟨p, 1, none⟩ = some (.slice (some ⟨b, 0, none⟩) n c))
    (ir : w.cell? ⟨b, i * 3 + 1, none⟩ = some (.float .f32 (cfl ri))) (it : w.cell? ⟨b, i * 3 + 2, none⟩ = some (.int .i64 ti))
    (jr : w.cell? ⟨b, j * 3 + 1, none⟩ = some (.float .f32 (cfl rj))) (jt : w.cell? ⟨b, j * 3 + 2, none⟩ = some (.int .i64 tj)) :
    Calls Tryz.prog 128 #[.pointer (some ⟨p, 0, none⟩), .int .i64 i, .int .i64 j] w fun e w' => e = .returned (.bool (if ti < tj then !lt rj ri else lt ri rj)) ∧ ∃ q, w' = w.drewN q := by
  have hiz : (i : Int) < (n : Int) := by omega
  have hjz : (j : Int) < (n : Int) := by omega
  by_cases ht : ti < tj
  · have htz : (ti : Int) < (tj : Int) := by omega
    rw [if_pos ht]
    have HC := hide (unhide HL rj ri)
    generalize lt rj ri = r at *
    clear HL ht
    go_enter Tryz.func128, Tryz.ntmps128
    go_wp2_with fail
    go_quiet (fail)
    go_wp2_with fail
    go_quiet (fail)
    go_wp2_with fail
    go_quiet ((exact (unhide HC _).mono (fun _ _ h => ⟨h.1, _, h.2⟩)))
    go_wp2_with fail
    go_ret
    exact ⟨rfl, _, by rw [World.drewN_drewN, World.drewN_drewN]⟩
  · have htz : ¬ (ti : Int) < (tj : Int) := by omega
    rw [if_neg ht]
    have HC := hide (unhide HL ri rj)
    generalize lt ri rj = r at *
    clear HL
    go_enter Tryz.func128, Tryz.ntmps128
    go_wp2_with fail
    go_quiet (fail)
    go_wp2_with fail
    go_quiet (fail)
    go_wp2_with fail
    go_quiet ((exact (unhide HC _).mono (fun _ _ h => ⟨h.1, _, h.2⟩)))
    go_wp2_with fail
    go_ret
    exact ⟨rfl, _, by rw [World.drewN_drewN, World.drewN_drewN]⟩

theorem aheadF [Inhabited EntF] {p m : Nat} {lv v : Value} {es : List EntF} {n : Nat} {gg : Nat → Int} (i j : Nat) (w : World) (h : HAtF w p m lv v es n) (hl : LessF lv gg) (hi : i < es.length) (hj : j < es.length) :
    Calls Tryz.prog 128 #[.pointer (some ⟨p, 0, none⟩), .int .i64 i, .int .i64 j] w fun e w' => e = .returned (.bool (aheadB gg (at_ es i) (at_ es j))) ∧ ∃ q, w' = w.drewN q := by
  obtain ⟨g, cb, rfl, eg, HL⟩ := hl
  obtain ⟨b, c, rfl, -, -, -, -, -, hc⟩ := h.some_ (by omega)
  obtain ⟨c0, c1, -⟩ := h.cells
  exact aheadCF p b g es.length c i j cb _ _ _ _ (fun x y => decide (gg x < gg y)) w hi hj eg HL c0 c1 (hc i hi).2.1 (hc i hi).2.2 (hc j hj).2.1 (hc j hj).2.2
end

section
open Go.RowKit Go.Maps
attribute [local go_sem] run_storeF

set_option maxHeartbeats 1000000 in
set_option maxRecDepth 100000 in
theorem riseF [Inhabited EntF] {p m : Nat} {lv v : Value} {es : List EntF} {n : Nat} {gg : Nat → Int} (i : Nat) (w : World) (h : HAtF w p m lv v es n) (hl : LessF lv gg) (hi : i < es.length) (hn : es.length ≤ 1099511627776) :
    Calls Tryz.prog 106 #[.pointer (some ⟨p, 0, none⟩), .int .i64 i] w fun e w' => e = .returned (.tuple #[]) ∧ Hid (∃ es', es'.Perm es ∧ HAtF w' p m lv v es' n ∧ Turned (Foot p m v) w w' ∧
      ∀ full, RiseAt (le gg) full i i es → (full → HeapOrd (le gg) es') ∧ SinkAt (le gg) i es') := by
  have HL := hide hl
  have H0 := hide h
  have hlen : i < 1099511627776 := by omega
  have HI := hide hi
  have HN := hide hn
  clear hl h hi hn
  go_enter Tryz.func106, Tryz.ntmps106
  go_wp2_with fail
  go_loopw [1] (fun s1 wr => ∃ (k : Nat) (es' : List EntF), s1 = .int .i64 k ∧ k ≤ i ∧ Hid (es'.Perm es ∧ HAtF wr p m lv v es' n ∧ Turned (Foot p m v) w wr ∧ ∀ full, RiseAt (le gg) full i i es → RiseAt (le gg) full i k es')) (fun s1 _ => (intOf s1).toNat)
  case atStart => exact ⟨i, es, rfl, Nat.le_refl _, List.Perm.refl _, unhide H0, Turned.refl _ _, fun _ h => h⟩
  case round =>
    obtain ⟨k, es', rfl, hki, hS⟩ := hrel
    by_cases hk : k = 0
    · subst hk
      go_wp2_with fail
      go_end0
      obtain ⟨h1, h2, h3, h4⟩ := unhide hS
      exact ⟨rfl, es', h1, h2, h3, fun full hf => rise_end (le_trans gg) (h4 full hf) (.inl rfl)⟩
    · have hkp : 0 < k := by omega
      have hkz : (0 : Int) < (k : Int) := by omega
      have hk2 : k < es'.length := by rw [(unhide hS).1.length_eq]; have := unhide HI; omega
      have hpk : par k < es'.length := by unfold par; omega
      have CA := hide (aheadF k (par k) wr (unhide hS).2.1 (unhide HL) hk2 hpk)
      rw [par_int hkp] at CA
      have CS : Hid (∀ q, Calls Tryz.prog 129 #[.pointer (some ⟨p, 0, none⟩), .int .i64 k, .int .i64 (par k)] (wr.drewN q) fun e w' => e = .returned (.tuple #[]) ∧ Hid (HAtF w' p m lv v (swapL es' k (par k)) n ∧ Turned (Foot p m v) (wr.drewN q) w')) := fun q =>
        swapF k (par k) (wr.drewN q) ((unhide hS).2.1.drewN q) hk2 hpk (by rw [(unhide hS).1.length_eq]; exact unhide HN)
      rw [par_int hkp] at CS
      cases ha : aheadB gg (at_ es' k) (at_ es' (par k)) with
      | false =>
        rw [ha] at CA
        have HA := hide ha
        clear ha CS
        go_wp2_with fail
        refine (unhide CA).mono ?_
        rintro e w' ⟨rfl, q, rfl⟩
        clear CA
        go_wp2_with fail
        go_end0
        obtain ⟨h1, h2, h3, h4⟩ := unhide hS
        exact ⟨rfl, es', h1, h2.drewN q, h3.drewN q, fun full hf => rise_end (le_trans gg) (h4 full hf) (.inr (le_of_not_ahead gg (unhide HA)))⟩
      | true =>
        rw [ha] at CA
        have HA := hide ha
        clear ha
        go_wp2_with fail
        refine (unhide CA).mono ?_
        rintro e w' ⟨rfl, q, rfl⟩
        clear CA
        go_wp2_with fail
        refine (unhide CS q).mono ?_
        rintro e w' ⟨rfl, hs2⟩
        clear CS
        go_wp2_with fail
        go_roundw
        case rel =>
          obtain ⟨h1, h2, h3, h4⟩ := unhide hS
          obtain ⟨g1, g2⟩ := unhide hs2
          refine ⟨par k, swapL es' k (par k), by rw [par_int hkp], by unfold par; omega, (swap_perm es' k (par k) hk2 hpk).trans h1, g1, (h3.drewN q).trans g2, fun full hf => rise_step (le_trans gg) (h4 full hf) hkp (le_of_ahead gg (unhide HA))⟩
        case measure => simp [intOf]; omega
end

section
open Go.RowKit Go.Maps
attribute [local go_sem] run_storeF

theorem infoF : (Tryz.prog.info? 162).map (fun i => (i.zero, i.size, i.bytes)) = some (some (.agg #[.int .i64 0, .float .f32 0, .int .i64 0]), 3, 24) := by kernel_rfl
theorem zeroF (w : World) : (zeroValue 3).run Tryz.prog w = .ok (.int .i64 0) w := by kernel_rfl

set_option maxHeartbeats 1000000 in
set_option maxRecDepth 100000 in
/-- A key that is in. -/
theorem pushInF [Inhabited EntF] {p m : Nat} {lv v : Value} {es : List EntF} {n : Nat} (k : Int) (r : Nat) (w : World) (h : HAtF w p m lv v es n) (hk : KeyOkF k) (hin : ∃ x ∈ es, x.key = k) :
    Calls Tryz.prog 75 #[.pointer (some ⟨p, 0, none⟩), .int .i64 (k), .float .f32 (cfl r)] w fun e w' => e = .returned (.bool false) ∧ w' = w := by
  obtain ⟨D, hD, hM⟩ := h.map
  have hhas : Maps.has D (klF k) = true := by
    obtain ⟨x, hx, rfl⟩ := hin
    obtain ⟨i, hi, rfl⟩ := mem_at hx
    exact (hM.at_ i hi).1
  have c2 := h.cells.2.2.1
  have HD := hide hD
  clear h hM hin hD
  go_enter Tryz.func75, Tryz.ntmps75
  go_wp2_with (at_lookup; refine wpList_lookup_own_ok_int _ rfl _ _ 157 rfl 3 3 .i64 lawF Tryz.underlying157 Tryz.underlying3 (zeroF _) m es.length D rfl (unhide HD) _ _ rfl (keyF hk) ?_; intro c hat hwc; rw [hhas])
  go_ret
  exact ⟨rfl, rfl⟩

/-- What is left behind the append, the stores and the map's. -/
theorem pushAtF [Inhabited EntF] {w w' w2 : World} {p m n : Nat} {lv v v' : Value} {es : List EntF} {D : DataW Unit} {k : Int} {r : Nat} (h : HAtF w p m lv v es n) (hM : MapIs klF D es) (hk : KeyOkF k) (hnot : Maps.has D (klF k) = false)
    (hown : w'.ownsRow 0 162 3 v' (es.length + 1) (encF es ++ [.int .i64 (k), .float .f32 (cfl r), .int .i64 n])) (hgr : (w.alloc (.cells #[.int .i64 (k), .float .f32 (cfl r), .int .i64 n] 162)).drew.grownBy w' v.ownBlock)
    (hloc : v'.ownBlock = v.ownBlock ∨ v'.ownBlock = some (w.alloc (.cells #[.int .i64 (k), .float .f32 (cfl r), .int .i64 n] 162)).drew.heap.size)
    (hmap : w2.ownsMap Tryz.prog 3 (plainElem Tryz.prog 3) m (es.length + 1) (D.put (klF k) (.lit (.int .i64 es.length)))) (hg : (w'.setCell ⟨p, 1, none⟩ v').grownBy w2 (some m)) :
    HAtF (w2.setCell ⟨p, 3, none⟩ (.int .i64 ((n : Int) + 1))) p m lv v' (es ++ [⟨k, r, n⟩]) (n + 1) ∧ Turned (Foot p m v) w (w2.setCell ⟨p, 3, none⟩ (.int .i64 ((n : Int) + 1))) ∧ ∀ b, v'.ownBlock = some b → v.ownBlock = some b ∨ w.heap.size ≤ b := by
  have hpl := h.lt (.inl rfl)
  have hml := h.lt (.inr (.inl rfl))
  have hsz : (w.alloc (.cells #[.int .i64 (k), .float .f32 (cfl r), .int .i64 n] 162)).drew.heap.size = w.heap.size + 1 := by show (w.alloc _).heap.size = _; simp
  have hloc' : ∀ b, v'.ownBlock = some b → v.ownBlock = some b ∨ w.heap.size + 1 ≤ b := fun b hb => by
    rcases hloc with e | e
    · exact .inl (e ▸ hb)
    · rw [hb, hsz] at e; exact .inr (by have := Option.some.inj e; omega)
  have hw1 : ∀ j, j < w.heap.size → v.ownBlock ≠ some j → w'.heap[j]? = w.heap[j]? := fun j hj hne => by
    rw [hgr.block j (by rw [hsz]; omega) (fun e => hne e.symm)]
    show (w.alloc _).heap[j]? = _
    exact ((Below.refl w.heap.size w).alloc (Nat.le_refl _) _).block j hj
  have hws : w.heap.size + 1 ≤ w'.heap.size := by have := hgr.size; omega
  have hwx : (w'.setCell ⟨p, 1, none⟩ v').heap.size = w'.heap.size := by simp
  have hmp := h.ne3
  have box1 : w'.heap[p]? = some (.cells #[lv, v, .map (some m), .int .i64 n] 160 (0, 0)) := (hw1 p hpl h.ne1).trans h.box
  have box2 : w2.heap[p]? = some (.cells #[lv, v', .map (some m), .int .i64 n] 160 (0, 0)) := by
    rw [hg.block p (by omega) (fun e => hmp (by simpa using e.symm)), heap_setCell_same _ _ _ _ _ _ box1]; rfl
  have hne1 : v'.ownBlock ≠ some p := fun e => by
    rcases hloc' p e with e | e
    · exact h.ne1 e
    · omega
  have hne2 : v'.ownBlock ≠ some m := fun e => by
    rcases hloc' m e with e | e
    · exact h.ne2 e
    · omega
  have hMI := mapIs_push injF litF hM (⟨k, r, n⟩ : EntF) hnot
  have hlen : (es ++ [(⟨k, r, n⟩ : EntF)]).length = es.length + 1 := by simp
  refine ⟨⟨?_, ?_, ⟨_, ?_, hMI⟩, ?_, hne1, hne2, hmp⟩, ?_, fun b hb => (hloc' b hb).imp id (fun e => by omega)⟩
  · rw [heap_setCell_same _ _ _ _ _ _ box2]; rfl
  · rw [hlen]
    have henc : encF (es ++ [⟨k, r, n⟩]) = encF es ++ [.int .i64 (k), .float .f32 (cfl r), .int .i64 n] := by unfold encF; rw [enc3_append]; rfl
    rw [henc]
    have hlt' := hown.lt
    refine row_keptF hown (fun b hb => ?_)
    have hbp : b ≠ p := fun e => hne1 (e ▸ hb)
    have hbm : b ≠ m := fun e => hne2 (e ▸ hb)
    rw [heap_setCell_other _ _ _ _ hbp, hg.block b (by have := (hlt' b hb).2; omega) (fun e => hbm (by simpa using e)), heap_setCell_other _ _ _ _ hbp]
  · rw [hlen]
    obtain ⟨es', clock, h1, h2⟩ := hmap
    exact ⟨es', clock, (heap_setCell_other _ _ _ _ hmp).trans h1, h2⟩
  · intro i hi
    rw [hlen] at hi
    rcases Nat.lt_or_ge i es.length with h1 | h1
    · have : at_ (es ++ [(⟨k, r, n⟩ : EntF)]) i = at_ es i := by unfold at_; rw [List.getD_eq_getElem?_getD, List.getD_eq_getElem?_getD, List.getElem?_append_left h1]
      rw [this]; exact h.keys i h1
    · have : at_ (es ++ [(⟨k, r, n⟩ : EntF)]) i = ⟨k, r, n⟩ := by
        have e : i = es.length := by omega
        subst e; unfold at_; rw [List.getD_eq_getElem?_getD, List.getElem?_append_right (Nat.le_refl _)]; simp
      rw [this]; exact hk
  · refine ⟨?_, ?_, ?_, ?_, fun j hj hf => ?_⟩
    · exact hg.os.trans hgr.os
    · exact hg.tape.trans hgr.tape
    · exact hg.output.trans hgr.output
    · have := hg.size; have : (w2.setCell ⟨p, 3, none⟩ (.int .i64 ((n : Int) + 1))).heap.size = w2.heap.size := by simp
      omega
    · have e1 : j ≠ p := fun e => hf (.inl e)
      have e2 : j ≠ m := fun e => hf (.inr (.inl e))
      rw [heap_setCell_other _ _ _ _ e1, hg.block j (by omega) (fun e => e2 (by simpa using e)), heap_setCell_other _ _ _ _ e1]
      exact hw1 j hj (fun e => hf (.inr (.inr e)))

set_option maxHeartbeats 2000000 in
set_option maxRecDepth 100000 in
/-- A key that isn't in. -/
theorem pushNewF [Inhabited EntF] {p m : Nat} {lv v : Value} {es : List EntF} {n : Nat} {gg : Nat → Int} (k : Int) (r : Nat) (w : World) (h : HAtF w p m lv v es n) (hl : LessF lv gg) (hk : KeyOkF k) (hnin : ∀ x ∈ es, x.key ≠ k) (hn : es.length < 1099511627776) (hnn : n < 1099511627776) :
    Calls Tryz.prog 75 #[.pointer (some ⟨p, 0, none⟩), .int .i64 (k), .float .f32 (cfl r)] w fun e w' => e = .returned (.bool true) ∧ Hid (∃ v' es', es'.Perm (es ++ [⟨k, r, n⟩]) ∧ HAtF w' p m lv v' es' (n + 1) ∧ Turned (Foot p m v) w w' ∧
      (∀ b, v'.ownBlock = some b → v.ownBlock = some b ∨ w.heap.size ≤ b) ∧ (HeapOrd (le gg) es → HeapOrd (le gg) es')) := by
  obtain ⟨D, hD, hM⟩ := h.map
  have hhas : Maps.has D (klF k) = false := by
    cases hh : Maps.has D (klF k) with
    | false => rfl
    | true =>
      obtain ⟨i, hi, he⟩ := hM.only k hh
      exact absurd he (hnin _ (at_mem es i hi))
  obtain ⟨-, c1, c2, c3, cf⟩ := h.cells
  obtain ⟨i0, hi0, hz0, hzs, hzb⟩ := info_parts infoF
  have hmp := h.ne3
  have hpl := h.lt (.inl rfl)
  have hml := h.lt (.inr (.inl rfl))
  have hne1 := h.ne1
  have hne2 := h.ne2
  have hrowA : (w.alloc (.cells #[.int .i64 (k), .float .f32 (cfl r), .int .i64 n] 162)).drew.ownsRow 0 162 3 v es.length (encF es) := row_keptF h.row (fun j hj => ((Below.refl w.heap.size w).alloc (Nat.le_refl _) _).block j (h.row.lt j hj).2)
  obtain ⟨v', w', hr, hown', hgr, -, hloc⟩ := run_append_own_at (P := Tryz.prog) (w.alloc (.cells #[.int .i64 (k), .float .f32 (cfl r), .int .i64 n] 162)).drew 0 158 158 162 i0 _ 3 24 Tryz.underlying158 hi0 hz0 hzs hzb rfl (by omega) v es.length (encF es) hrowA ⟨w.heap.size, 0, none⟩ 1 1 [.int .i64 (k), .float .f32 (cfl r), .int .i64 n] rfl
    (cells_new3 w _ _ _ _) (by intro u hu; simp at hu; rcases hu with rfl | rfl | rfl <;> rfl) (by unfold maxLen; omega) (by omega) (Nat.zero_le _)
  have hsz : (w.alloc (.cells #[.int .i64 (k), .float .f32 (cfl r), .int .i64 n] 162)).drew.heap.size = w.heap.size + 1 := by show (w.alloc _).heap.size = _; simp
  have hw1 : ∀ j, j < w.heap.size → v.ownBlock ≠ some j → w'.heap[j]? = w.heap[j]? := fun j hj hne => by
    rw [hgr.block j (by rw [hsz]; omega) (fun e => hne e.symm)]
    show (w.alloc _).heap[j]? = _
    exact ((Below.refl w.heap.size w).alloc (Nat.le_refl _) _).block j hj
  have box1 : w'.heap[p]? = some (.cells #[lv, v, .map (some m), .int .i64 n] 160 (0, 0)) := (hw1 p hpl hne1).trans h.box
  have d1 : w'.cell? ⟨p, 1, none⟩ = some v := by rw [cell_of_row w' p _ _ _ _ box1]; rfl
  have d2 : w'.cell? ⟨p, 2, none⟩ = some (.map (some m)) := by rw [cell_of_row w' p _ _ _ _ box1]; rfl
  have d3 : w'.cell? ⟨p, 3, none⟩ = some (.int .i64 n) := by rw [cell_of_row w' p _ _ _ _ box1]; rfl
  have df : ∀ o, w'.frozen? ⟨p, o, none⟩ = false := fun o => frozen_of_row w' p o _ _ box1
  have HM5 : Hid ((w'.setCell ⟨p, 1, none⟩ v').ownsMap Tryz.prog 3 (plainElem Tryz.prog 3) m es.length D) := by
    obtain ⟨es', clock, h1, h2⟩ := hD
    exact ⟨es', clock, (heap_setCell_other _ _ _ _ hmp).trans ((hw1 m hml hne2).trans h1), h2⟩
  have HR := hide hr
  obtain ⟨g, c', hv'⟩ : ∃ g c', v' = .slice (some ⟨g, 0, none⟩) (es.length + 1) c' := by
    rcases hown'.2 with ⟨-, h3⟩ | ⟨g, cap, cur, rfl, -⟩
    · omega
    · exact ⟨g, cap, rfl⟩
  obtain ⟨ao, c0, hv⟩ : ∃ ao c0, v = .slice ao es.length c0 := by
    rcases h.row.2 with ⟨rfl, h3⟩ | ⟨g, cap, cur, rfl, -⟩
    · exact ⟨none, 0, by rw [h3]⟩
    · exact ⟨_, _, rfl⟩
  have HP : Hid (∀ w2, w2.ownsMap Tryz.prog 3 (plainElem Tryz.prog 3) m (es.length + 1) (D.put (klF k) (.lit (.int .i64 es.length))) → (w'.setCell ⟨p, 1, none⟩ v').grownBy w2 (some m) → _) := fun w2 hm hg => pushAtF h hM hk hhas hown' hgr hloc hm hg
  have HL := hide hl
  have HD := hide hD
  have hlz : (0 : Int) ≤ (es.length : Int) := by omega
  have HEO : Hid (HeapOrd (le gg) es → ∀ full, RiseAt (le gg) full es.length es.length (es ++ [⟨k, r, n⟩])) := fun ho full => by
    have hat : ∀ j, j < es.length → at_ (es ++ [(⟨k, r, n⟩ : EntF)]) j = at_ es j := fun j hj => by unfold at_; rw [List.getD_eq_getElem?_getD, List.getD_eq_getElem?_getD, List.getElem?_append_left hj]
    refine ⟨Nat.le_refl _, by simp, fun j hj hjl hne _ => ?_, fun h0 c hc hcl hpc => ?_⟩
    · simp at hjl
      have hp : par j < j := by unfold par; omega
      unfold Ok
      rw [hat j (by omega), hat (par j) (by omega)]
      exact ho j hj (by omega)
    · simp at hcl
      unfold par at hpc
      omega
  clear h hM hown' hgr hloc hD hl hw1 box1 hr hrowA hnin hi0 hsz
  subst hv' hv
  generalize hL : es.length = L at *
  have HLL := hide hL
  clear hL
  go_enter Tryz.func75, Tryz.ntmps75
  go_wp2_with (at_lookup; refine wpList_lookup_own_ok_int _ rfl _ _ 157 rfl 3 3 .i64 lawF Tryz.underlying157 Tryz.underlying3 (zeroF _) m L D rfl (unhide HD) _ _ rfl (keyF hk) ?_; intro c hat hwc; rw [hhas])
  go_region_law (refine step_append_run rfl (.tmp 29) (.tmp 37) 158 rfl _ _ (by simp [Act.eval]) (by simp [Act.eval]) _ _ HR.out ?_)
  all_goals
    go_wp2_with (at_mapUpdate; refine wpList_mapUpdate_in _ rfl _ _ _ 157 rfl 3 3 lawF Tryz.underlying157 _ m L D rfl (unhide HM5) (by unfold maxLen; omega) _ _ _ rfl rfl (keyF hk) _ [] (plainElem_int Tryz.underlying3 (WalkArith.wf_i64 (by omega))) ?_; intro w2 hown2 hturn2; have HP2 := hide (unhide HP w2 hown2 hturn2.grown); have g3 : w2.cell? ⟨p, 3, none⟩ = some (.int .i64 n) := (cell_turned hturn2 _ (Ne.symm hmp)).trans ((World.cell?_setCell_other _ _ _ _ (by simp)).trans d3); have gf : ∀ o, w2.frozen? ⟨p, o, none⟩ = false := fun o => (hturn2.frozen _).trans ((World.frozen?_setCell _ _ _ _).trans (df o)); clear hown2 hturn2)
    have HR8 := hide (riseF L _ (unhide HP2).1 (unhide HL) (by rw [List.length_append, unhide HLL]; simp) (by rw [List.length_append, unhide HLL]; simp; omega))
    refine (unhide HR8).mono ?_
    rintro e w8 ⟨rfl, h8⟩
    clear HR8
    go_wp2_with fail
    go_ret
    obtain ⟨es', g1, g2, g3, g4⟩ := unhide h8
    refine ⟨rfl, _, es', g1, g2, (unhide HP2).2.1.then_ g3 (fun j hj hf => ?_), (unhide HP2).2.2, fun ho => (g4 True (unhide HEO ho True)).1 trivial⟩
    rcases hf with hf | hf | hf
    · exact .inl hf
    · exact .inr (.inl hf)
    · rcases (unhide HP2).2.2 j hf with e | e
      · exact .inr (.inr e)
      · omega
end

end Go.Proofs.YtbmcibofecigeaaGreat
