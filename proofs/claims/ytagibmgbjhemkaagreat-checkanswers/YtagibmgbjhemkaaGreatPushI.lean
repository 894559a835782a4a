/- Push. -/
import Derived.Test.YtagibmgbjhemkaaGreatLaws2
import Derived.Test.YtagibmgbjhemkaaGreatRiseI
namespace Go.Proofs.YtagibmgbjhemkaaGreat
open Go.RowKit Go.Maps

theorem infoI : (Tryz.prog.info? 190).map (fun i => (i.zero, i.size, i.bytes)) = some (some (.agg #[.int .i64 0, .int .i64 0, .int .i64 0]), 3, 24) := by kernel_rfl
theorem zeroI (w : World) : (zeroValue 3).run Tryz.prog w = .ok (.int .i64 0) w := by kernel_rfl

/-- What is left behind the append, the stores and the map's. -/
theorem pushAtI [Inhabited EntI] {w w' w2 : World} {p m n : Nat} {lv v v' : Value} {es : List EntI} {D : DataW Unit} {k : Int} {r : Int} (h : HAtI w p m lv v es n) (hM : MapIs klI D es) (hk : KeyOkI k) (hnot : Maps.has D (klI k) = false)
    (hown : w'.ownsRow 0 190 3 v' (es.length + 1) (encI es ++ [.int .i64 (k), .int .i64 r, .int .i64 n])) (hgr : (w.alloc (.cells #[.int .i64 (k), .int .i64 r, .int .i64 n] 190)).drew.grownBy w' v.ownBlock)
    (hloc : v'.ownBlock = v.ownBlock ∨ v'.ownBlock = some (w.alloc (.cells #[.int .i64 (k), .int .i64 r, .int .i64 n] 190)).drew.heap.size)
    (hmap : w2.ownsMap Tryz.prog 3 (plainElem Tryz.prog 3) m (es.length + 1) (D.put (klI k) (.lit (.int .i64 es.length)))) (hg : (w'.setCell ⟨p, 1, none⟩ v').grownBy w2 (some m)) :
    HAtI (w2.setCell ⟨p, 3, none⟩ (.int .i64 ((n : Int) + 1))) p m lv v' (es ++ [⟨k, r, n⟩]) (n + 1) ∧ Turned (Foot p m v) w (w2.setCell ⟨p, 3, none⟩ (.int .i64 ((n : Int) + 1))) ∧ ∀ b, v'.ownBlock = some b → v.ownBlock = some b ∨ w.heap.size ≤ b := by
  have hpl := h.lt (.inl rfl)
  have hml := h.lt (.inr (.inl rfl))
  have hsz : (w.alloc (.cells #[.int .i64 (k), .int .i64 r, .int .i64 n] 190)).drew.heap.size = w.heap.size + 1 := by show (w.alloc _).heap.size = _; simp
  have hloc' : ∀ b, v'.ownBlock = some b → v.ownBlock = some b ∨ w.heap.size + 1 ≤ b := fun b hb => by
    rcases hloc with e | e
    · exact .inl (e ▸ hb)
    · rw [hb, hsz] at e; exact .inr (by have := Option.some.inj e; omega)
  have hw1 : ∀ j, j < w.heap.size → v.ownBlock ≠ some j → w'.heap[j]? = w.heap[j]? := fun j hj hne => by
    rw [hgr.block j (by rw [hsz]; omega) (fun e => hne e.symm)]
    show (w.alloc _).heap[j]? = _
    exact ((Below.refl w.heap.size w).alloc (Nat.le_refl _) _).block j hj
  have hws : w.heap.size + 1 ≤ w'.heap.size := by have := hgr.size; omega
  have hwx : (w'.setCell ⟨p, 1, none⟩ v').heap.size = w'.heap.size := by simp
  have hmp := h.ne3
  have box1 : w'.heap[p]? = some (.cells #[lv, v, .map (some m), .int .i64 n] 183 (0, 0)) := (hw1 p hpl h.ne1).trans h.box
  have box2 : w2.heap[p]? = some (.cells #[lv, v', .map (some m), .int .i64 n] 183 (0, 0)) := by
    rw [hg.block p (by omega) (fun e => hmp (by simpa using e.symm)), heap_setCell_same _ _ _ _ _ _ box1]; rfl
  have hne1 : v'.ownBlock ≠ some p := fun e => by
    rcases hloc' p e with e | e
    · exact h.ne1 e
    · omega
  have hne2 : v'.ownBlock ≠ some m := fun e => by
    rcases hloc' m e with e | e
    · exact h.ne2 e
    · omega
  have hMI := mapIs_push injI litI hM (⟨k, r, n⟩ : EntI) hnot
  have hlen : (es ++ [(⟨k, r, n⟩ : EntI)]).length = es.length + 1 := by simp
  refine ⟨⟨?_, ?_, ⟨_, ?_, hMI⟩, ?_, hne1, hne2, hmp⟩, ?_, fun b hb => (hloc' b hb).imp id (fun e => by omega)⟩
  · rw [heap_setCell_same _ _ _ _ _ _ box2]; rfl
  · rw [hlen]
    have henc : encI (es ++ [⟨k, r, n⟩]) = encI es ++ [.int .i64 (k), .int .i64 r, .int .i64 n] := by unfold encI; rw [enc3_append]; rfl
    rw [henc]
    have hlt' := hown.lt
    refine row_keptI hown (fun b hb => ?_)
    have hbp : b ≠ p := fun e => hne1 (e ▸ hb)
    have hbm : b ≠ m := fun e => hne2 (e ▸ hb)
    rw [heap_setCell_other _ _ _ _ hbp, hg.block b (by have := (hlt' b hb).2; omega) (fun e => hbm (by simpa using e)), heap_setCell_other _ _ _ _ hbp]
  · rw [hlen]
    obtain ⟨es', clock, h1, h2⟩ := hmap
    exact ⟨es', clock, (heap_setCell_other _ _ _ _ hmp).trans h1, h2⟩
  · intro i hi
    rw [hlen] at hi
    rcases Nat.lt_or_ge i es.length with h1 | h1
    · have : at_ (es ++ [(⟨k, r, n⟩ : EntI)]) i = at_ es i := by unfold at_; rw [List.getD_eq_getElem?_getD, List.getD_eq_getElem?_getD, List.getElem?_append_left h1]
      rw [this]; exact h.keys i h1
    · have : at_ (es ++ [(⟨k, r, n⟩ : EntI)]) i = ⟨k, r, n⟩ := by
        have e : i = es.length := by omega
        subst e; unfold at_; rw [List.getD_eq_getElem?_getD, List.getElem?_append_right (Nat.le_refl _)]; simp
      rw [this]; exact hk
  · refine ⟨?_, ?_, ?_, ?_, fun j hj hf => ?_⟩
    · exact hg.os.trans hgr.os
    · exact hg.tape.trans hgr.tape
    · exact hg.output.trans hgr.output
    · have := hg.size; have : (w2.setCell ⟨p, 3, none⟩ (.int .i64 ((n : Int) + 1))).heap.size = w2.heap.size := by simp
      omega
    · have e1 : j ≠ p := fun e => hf (.inl e)
      have e2 : j ≠ m := fun e => hf (.inr (.inl e))
      rw [heap_setCell_other _ _ _ _ e1, hg.block j (by omega) (fun e => e2 (by simpa using e)), heap_setCell_other _ _ _ _ e1]
      exact hw1 j hj (fun e => hf (.inr (.inr e)))

set_option maxHeartbeats 2000000 in
set_option maxRecDepth 100000 in
/-- A key that isn't in. -/
theorem pushNewI [Inhabited EntI] {p m : Nat} {lv v : Value} {es : List EntI} {n : Nat} {gg : Int → Int} (k : Int) (r : Int) (w : World) (h : HAtI w p m lv v es n) (hl : Less lv gg) (hk : KeyOkI k) (hnin : ∀ x ∈ es, x.key ≠ k) (hn : es.length < 1099511627776) (hnn : n < 1099511627776) :
    Calls Tryz.prog 106 #[.pointer (some ⟨p, 0, none⟩), .int .i64 (k), .int .i64 r] w fun e w' => e = .returned (.bool true) ∧ Hid (∃ v' es', es'.Perm (es ++ [⟨k, r, n⟩]) ∧ HAtI w' p m lv v' es' (n + 1) ∧ Turned (Foot p m v) w w' ∧
      (∀ b, v'.ownBlock = some b → v.ownBlock = some b ∨ w.heap.size ≤ b) ∧ (HeapOrd (le gg) es → HeapOrd (le gg) es')) := by
  obtain ⟨D, hD, hM⟩ := h.map
  have hhas : Maps.has D (klI k) = false := by
    cases hh : Maps.has D (klI k) with
    | false => rfl
    | true =>
      obtain ⟨i, hi, he⟩ := hM.only k hh
      exact absurd he (hnin _ (at_mem es i hi))
  obtain ⟨-, c1, c2, c3, cf⟩ := h.cells
  obtain ⟨i0, hi0, hz0, hzs, hzb⟩ := info_parts infoI
  have hmp := h.ne3
  have hpl := h.lt (.inl rfl)
  have hml := h.lt (.inr (.inl rfl))
  have hne1 := h.ne1
  have hne2 := h.ne2
  have hrowA : (w.alloc (.cells #[.int .i64 (k), .int .i64 r, .int .i64 n] 190)).drew.ownsRow 0 190 3 v es.length (encI es) := row_keptI h.row (fun j hj => ((Below.refl w.heap.size w).alloc (Nat.le_refl _) _).block j (h.row.lt j hj).2)
  obtain ⟨v', w', hr, hown', hgr, -, hloc⟩ := run_append_own_at (P := Tryz.prog) (w.alloc (.cells #[.int .i64 (k), .int .i64 r, .int .i64 n] 190)).drew 0 181 181 190 i0 _ 3 24 Tryz.underlying181 hi0 hz0 hzs hzb rfl (by omega) v es.length (encI es) hrowA ⟨w.heap.size, 0, none⟩ 1 1 [.int .i64 (k), .int .i64 r, .int .i64 n] rfl
    (cells_new3 w _ _ _ _) (by intro u hu; simp at hu; rcases hu with rfl | rfl | rfl <;> rfl) (by unfold maxLen; omega) (by omega) (Nat.zero_le _)
  have hsz : (w.alloc (.cells #[.int .i64 (k), .int .i64 r, .int .i64 n] 190)).drew.heap.size = w.heap.size + 1 := by show (w.alloc _).heap.size = _; simp
  have hw1 : ∀ j, j < w.heap.size → v.ownBlock ≠ some j → w'.heap[j]? = w.heap[j]? := fun j hj hne => by
    rw [hgr.block j (by rw [hsz]; omega) (fun e => hne e.symm)]
    show (w.alloc _).heap[j]? = _
    exact ((Below.refl w.heap.size w).alloc (Nat.le_refl _) _).block j hj
  have box1 : w'.heap[p]? = some (.cells #[lv, v, .map (some m), .int .i64 n] 183 (0, 0)) := (hw1 p hpl hne1).trans h.box
  have d1 : w'.cell? ⟨p, 1, none⟩ = some v := by rw [cell_of_row w' p _ _ _ _ box1]; rfl
  have d2 : w'.cell? ⟨p, 2, none⟩ = some (.map (some m)) := by rw [cell_of_row w' p _ _ _ _ box1]; rfl
  have d3 : w'.cell? ⟨p, 3, none⟩ = some (.int .i64 n) := by rw [cell_of_row w' p _ _ _ _ box1]; rfl
  have df : ∀ o, w'.frozen? ⟨p, o, none⟩ = false := fun o => frozen_of_row w' p o _ _ box1
  have HM5 : Hid ((w'.setCell ⟨p, 1, none⟩ v').ownsMap Tryz.prog 3 (plainElem Tryz.prog 3) m es.length D) := by
    obtain ⟨es', clock, h1, h2⟩ := hD
    exact ⟨es', clock, (heap_setCell_other _ _ _ _ hmp).trans ((hw1 m hml hne2).trans h1), h2⟩
  have HR := hide hr
  obtain ⟨g, c', hv'⟩ : ∃ g c', v' = .slice (some ⟨g, 0, none⟩) (es.length + 1) c' := by
    rcases hown'.2 with ⟨-, h3⟩ | ⟨g, cap, cur, rfl, -⟩
    · omega
    · exact ⟨g, cap, rfl⟩
  obtain ⟨ao, c0, hv⟩ : ∃ ao c0, v = .slice ao es.length c0 := by
    rcases h.row.2 with ⟨rfl, h3⟩ | ⟨g, cap, cur, rfl, -⟩
    · exact ⟨none, 0, by rw [h3]⟩
    · exact ⟨_, _, rfl⟩
  have HP : Hid (∀ w2, w2.ownsMap Tryz.prog 3 (plainElem Tryz.prog 3) m (es.length + 1) (D.put (klI k) (.lit (.int .i64 es.length))) → (w'.setCell ⟨p, 1, none⟩ v').grownBy w2 (some m) → _) := fun w2 hm hg => pushAtI h hM hk hhas hown' hgr hloc hm hg
  have HL := hide hl
  have HD := hide hD
  have hlz : (0 : Int) ≤ (es.length : Int) := by omega
  have HEO : Hid (HeapOrd (le gg) es → ∀ full, RiseAt (le gg) full es.length es.length (es ++ [⟨k, r, n⟩])) := fun ho full => by
    have hat : ∀ j, j < es.length → at_ (es ++ [(⟨k, r, n⟩ : EntI)]) j = at_ es j := fun j hj => by unfold at_; rw [List.getD_eq_getElem?_getD, List.getD_eq_getElem?_getD, List.getElem?_append_left hj]
    refine ⟨Nat.le_refl _, by simp, fun j hj hjl hne _ => ?_, fun h0 c hc hcl hpc => ?_⟩
    · simp at hjl
      have hp : par j < j := by unfold par; omega
      unfold Ok
      rw [hat j (by omega), hat (par j) (by omega)]
      exact ho j hj (by omega)
    · simp at hcl
      unfold par at hpc
      omega
  clear h hM hown' hgr hloc hD hl hw1 box1 hr hrowA hnin hi0 hsz
  subst hv' hv
  generalize hL : es.length = L at *
  have HLL := hide hL
  clear hL
  go_enter Tryz.func106, Tryz.ntmps106
  go_wp2_with (at_lookup; refine wpList_lookup_own_ok_int _ rfl _ _ 180 rfl 3 3 .i64 lawI Tryz.underlying180 Tryz.underlying3 (zeroI _) m L D rfl (unhide HD) _ _ rfl (keyI hk) ?_; intro c hat hwc; rw [hhas])
  go_region_law (refine step_append_run rfl (.tmp 29) (.tmp 37) 181 rfl _ _ (by simp [Act.eval]) (by simp [Act.eval]) _ _ HR.out ?_)
  all_goals
    go_wp2_with (at_mapUpdate; refine wpList_mapUpdate_in _ rfl _ _ _ 180 rfl 3 3 lawI Tryz.underlying180 _ m L D rfl (unhide HM5) (by unfold maxLen; omega) _ _ _ rfl rfl (keyI hk) _ [] (plainElem_int Tryz.underlying3 (WalkArith.wf_i64 (by omega))) ?_; intro w2 hown2 hturn2; have HP2 := hide (unhide HP w2 hown2 hturn2.grown); have g3 : w2.cell? ⟨p, 3, none⟩ = some (.int .i64 n) := (cell_turned hturn2 _ (Ne.symm hmp)).trans ((World.cell?_setCell_other _ _ _ _ (by simp)).trans d3); have gf : ∀ o, w2.frozen? ⟨p, o, none⟩ = false := fun o => (hturn2.frozen _).trans ((World.frozen?_setCell _ _ _ _).trans (df o)); clear hown2 hturn2)
    have HR8 := hide (riseI L _ (unhide HP2).1 (unhide HL) (by rw [List.length_append, unhide HLL]; simp) (by rw [List.length_append, unhide HLL]; simp; omega))
    refine (unhide HR8).mono ?_
    rintro e w8 ⟨rfl, h8⟩
    clear HR8
    go_wp2_with fail
    go_ret
    obtain ⟨es', g1, g2, g3, g4⟩ := unhide h8
    refine ⟨rfl, _, es', g1, g2, (unhide HP2).2.1.then_ g3 (fun j hj hf => ?_), (unhide HP2).2.2, fun ho => (g4 True (unhide HEO ho True)).1 trivial⟩
    rcases hf with hf | hf | hf
    · exact .inl hf
    · exact .inr (.inl hf)
    · rcases (unhide HP2).2.2 j hf with e | e
      · exact .inr (.inr e)
      · omega
end Go.Proofs.YtagibmgbjhemkaaGreat
