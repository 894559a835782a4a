/- remove: an entry goes. -/
import Derived.Test.YtagibmgbjhemkaaGreatCut
import Derived.Test.YtagibmgbjhemkaaGreatRiseI
import Derived.Test.YtagibmgbjhemkaaGreatSinkI
namespace Go.Proofs.YtagibmgbjhemkaaGreat
open Go.RowKit Go.Maps

/-- What is left behind the delete and the two stores. -/
theorem cutAtI [Inhabited EntI] {w w2 : World} {p m b c last n : Nat} {lv : Value} {es : List EntI} {D : DataW Unit} (h : HAtI w p m lv (.slice (some ⟨b, 0, none⟩) es.length c) es n) (hl : es.length = last + 1) (hM : MapIs klI D es)
    (hmap : w2.ownsMap Tryz.prog 3 (plainElem Tryz.prog 3) m es.length (D.del (klI (at_ es last).key))) (hg : w.grownBy w2 (some m)) :
    HAtI ((((w2.setCell ⟨b, last * 3, none⟩ (.int .i64 0)).setCell ⟨b, last * 3 + 1, none⟩ (.int .i64 0)).setCell ⟨b, last * 3 + 2, none⟩ (.int .i64 0)).setCell ⟨p, 1, none⟩ (.slice (some ⟨b, 0, none⟩) last c)) p m lv (.slice (some ⟨b, 0, none⟩) last c) (es.take last) n ∧
    Turned (Foot p m (.slice (some ⟨b, 0, none⟩) es.length c)) w ((((w2.setCell ⟨b, last * 3, none⟩ (.int .i64 0)).setCell ⟨b, last * 3 + 1, none⟩ (.int .i64 0)).setCell ⟨b, last * 3 + 2, none⟩ (.int .i64 0)).setCell ⟨p, 1, none⟩ (.slice (some ⟨b, 0, none⟩) last c)) := by
  have hbp : b ≠ p := fun e => h.ne1 (by simp [Value.ownBlock, e])
  have hbm : b ≠ m := fun e => h.ne2 (by simp [Value.ownBlock, e])
  have hmp := h.ne3
  have hpl := h.lt (.inl rfl)
  have hbl := h.lt (k := b) (.inr (.inr rfl))
  have hlen : (es.take last).length = last := by simp; omega
  have hrow2 : w2.ownsRow 0 190 3 (.slice (some ⟨b, 0, none⟩) es.length c) es.length (encI es) := row_keptI h.row (fun k hk => by
    have : k = b := by simpa [Value.ownBlock, eq_comm] using hk
    subst this
    exact hg.block k hbl (fun e => hbm (by simpa using e)))
  have hrow3 := row_cut (stored3I (i := last) (⟨0, 0, 0⟩ : EntI) hrow2) (K := last) (by omega)
  have etake : (encI (es.set last ⟨0, 0, 0⟩)).take (last * 3) = encI (es.take last) := by
    unfold encI
    rw [enc3_take, List.take_set_of_le (Nat.le_refl _)]
  rw [etake] at hrow3
  have hbox2 : w2.heap[p]? = some (.cells #[lv, .slice (some ⟨b, 0, none⟩) es.length c, .map (some m), .int .i64 n] 183 (0, 0)) := (hg.block p hpl (fun e => hmp (by simpa using e.symm))).trans h.box
  have hMI := mapIs_drop injI hM hl
  refine ⟨⟨?_, ?_, ⟨_, ?_, hMI⟩, ?_, ?_, ?_, hmp⟩, ?_⟩
  · have e1 : (((w2.setCell ⟨b, last * 3, none⟩ (.int .i64 0)).setCell ⟨b, last * 3 + 1, none⟩ (.int .i64 0)).setCell ⟨b, last * 3 + 2, none⟩ (.int .i64 0)).heap[p]? = some (.cells #[lv, .slice (some ⟨b, 0, none⟩) es.length c, .map (some m), .int .i64 n] 183 (0, 0)) := by
      rw [heap_setCell_other _ _ _ _ (Ne.symm hbp), heap_setCell_other _ _ _ _ (Ne.symm hbp), heap_setCell_other _ _ _ _ (Ne.symm hbp)]; exact hbox2
    rw [heap_setCell_same _ _ _ _ _ _ e1]; rfl
  · rw [hlen]
    exact row_keptI hrow3 (fun k hk => by
      have : k = b := by simpa [Value.ownBlock, eq_comm] using hk
      subst this
      exact heap_setCell_other _ _ _ _ hbp)
  · rw [← hMI.size]
    have := ownsMap_size hmap
    obtain ⟨es', clock, h1, h2⟩ := this
    refine ⟨es', clock, ?_, h2⟩
    rw [heap_setCell_other _ _ _ _ hmp, heap_setCell_other _ _ _ _ (Ne.symm hbm), heap_setCell_other _ _ _ _ (Ne.symm hbm), heap_setCell_other _ _ _ _ (Ne.symm hbm)]; exact h1
  · intro i hi
    rw [hlen] at hi
    rw [at_take es hi]
    exact h.keys i (by omega)
  · exact h.ne1
  · exact h.ne2
  · have hS : ∀ (V : World) (o : Nat) (u : Value), Turned (Foot p m (.slice (some ⟨b, 0, none⟩) es.length c)) V (V.setCell ⟨b, o, none⟩ u) := fun V o u => turned_setCell V _ u (.inr (.inr rfl))
    have hP : ∀ (V : World) (o : Nat) (u : Value), Turned (Foot p m (.slice (some ⟨b, 0, none⟩) es.length c)) V (V.setCell ⟨p, o, none⟩ u) := fun V o u => turned_setCell V _ u (.inl rfl)
    exact ((((turned_grown hg (.inr (.inl rfl))).trans (hS _ _ _)).trans (hS _ _ _)).trans (hS _ _ _)).trans (hP _ _ _)

set_option maxHeartbeats 2000000 in
set_option maxRecDepth 100000 in
theorem removeI [Inhabited EntI] {p m : Nat} {lv v : Value} {es : List EntI} {n : Nat} {gg : Int → Int} (i : Nat) (w : World) (h : HAtI w p m lv v es n) (hl : Less lv gg) (hi : i < es.length) (hn : es.length ≤ 1099511627776) :
    Calls Tryz.prog 130 #[.pointer (some ⟨p, 0, none⟩), .int .i64 i] w fun e w' => e = .returned (.tuple #[]) ∧ Hid (∃ v' es', es'.Perm (without (at_ es i).key es) ∧ HAtI w' p m lv v' es' n ∧ Turned (Foot p m v) w w' ∧ v'.ownBlock = v.ownBlock ∧
      (HeapOrd (le gg) es → HeapOrd (le gg) es')) := by
  obtain ⟨b, c, rfl, hbp, hbm, hLc, hcm, -, -⟩ := h.some_ (by omega)
  obtain ⟨last, hlast⟩ : ∃ last, es.length = last + 1 := ⟨es.length - 1, by omega⟩
  have HL := hide hl
  have c1 := h.cells.2.1
  have hmp := h.ne3
  have HTW : Hid (((swapL es i last).take last).Perm (without (at_ es i).key es)) := by
    have := take_without (h.map.elim fun D hD => hD.2.once) hi
    rw [show es.length - 1 = last by omega] at this
    exact this
  have CS := hide (swapI i last w h hi (by omega) hn)
  have H0 := hide h
  have HLA := hide hlast
  rw [hlast] at c1 hi hn hLc CS H0 ⊢
  clear hl h
  have hilt : i ≤ last := by omega
  have hlasz : last < 1099511627776 := by omega
  unfold maxLen at hcm
  clear hlast
  have hidx : (last : Int) < (last : Int) + 1 := by omega
  go_enter Tryz.func130, Tryz.ntmps130
  go_wp2_with fail
  refine (unhide CS).mono ?_
  rintro e w1 ⟨rfl, hs⟩
  clear CS c1
  have hL1 : (swapL es i last).length = last + 1 := by rw [swapL_length]; exact unhide HLA
  obtain ⟨D, hD, hM⟩ := (unhide hs).1.map
  have hA1 : HAtI w1 p m lv (.slice (some ⟨b, 0, none⟩) (swapL es i last).length c) (swapL es i last) n := by rw [hL1]; exact (unhide hs).1
  obtain ⟨-, d1, d2, -, dfz⟩ := (unhide hs).1.cells
  obtain ⟨b', c', hv', -, -, -, -, hfr, hcl⟩ := (unhide hs).1.some_ (by omega)
  obtain ⟨rfl, rfl⟩ : b' = b ∧ c' = c := by
    simp only [Value.slice.injEq, Option.some.injEq, Addr.mk.injEq, and_true] at hv'
    exact ⟨hv'.1.symm, hv'.2.2.symm⟩
  have dk := (hcl last (by omega)).1
  have dr := (hcl last (by omega)).2.1
  have dt := (hcl last (by omega)).2.2
  have hkey := (unhide hs).1.keys last (by omega)
  have HD := hide hD
  have HM := hide hM
  have HA1 := hide hA1
  obtain ⟨kk, hkk⟩ : ∃ kk, (at_ (swapL es i last) last).key = kk := ⟨_, rfl⟩
  obtain ⟨rr, hrr⟩ : ∃ rr, (at_ (swapL es i last) last).rank = rr := ⟨_, rfl⟩
  obtain ⟨tt, htt⟩ : ∃ tt : Int, ((at_ (swapL es i last) last).turn : Int) = tt := ⟨_, rfl⟩
  rw [hkk] at dk hkey
  rw [hrr] at dr
  rw [htt] at dt
  have HKK := hide hkk
  clear hcl hv' hD hM hA1 hkk hrr htt
  go_wp2_with fail
  refine region_still_tail 12 mixed (by kernel_rfl) ?_
  simp only [List.take_succ_cons, List.take_zero, List.drop_succ_cons, List.drop_zero]
  repeat still_step
  refine wpStill_nil ?_
  refine wpList_delete_own w1.drew rfl _ _ 180 3 rfl 3 lawI Tryz.underlying180 _ m (swapL es i last).length D rfl (World.ownsMap.drew (unhide HD)) _ _ rfl (keyI hkey) ?_
  intro w2 hown2 hturn2
  have hg2 : w1.grownBy w2 (some m) := grown_drew hturn2.grown
  have other : ∀ (x : Addr), x.block ≠ m → w2.cell? x = w1.cell? x := fun x hx => by
    obtain ⟨es1, cl, es1', cl', hb1, rfl⟩ := hturn2
    exact cell_of_heap ((ChangeMaps.heap_setBlock_other hb1 _ hx).trans rfl)
  have otherF : ∀ (x : Addr), w2.frozen? x = w1.frozen? x := fun x => hturn2.frozen x
  have e1 := (other ⟨p, 1, none⟩ (Ne.symm hmp)).trans d1
  have ek := (other ⟨b', last * 3, none⟩ hbm).trans dk
  have er := (other ⟨b', last * 3 + 1, none⟩ hbm).trans dr
  have et := (other ⟨b', last * 3 + 2, none⟩ hbm).trans dt
  have ef : ∀ o, w2.frozen? ⟨b', o, none⟩ = false := fun o => (otherF _).trans (hfr o)
  have ep : ∀ o, w2.frozen? ⟨p, o, none⟩ = false := fun o => (otherF _).trans (dfz o)
  have HC := hide (cutAtI (unhide HA1) hL1 (unhide HM) (by rw [unhide HKK]; exact hown2) hg2)
  clear hown2 hturn2 hg2 other otherF d1 d2 dfz dk dr dt hfr hkey HD HM
  have hpb' : p ≠ b' := Ne.symm hbp
  have hL2 : ((swapL es i last).take last).length = last := by rw [List.length_take, hL1]; omega
  have hT1 : Hid (Turned (Foot p m (.slice (some ⟨b', 0, none⟩) (last + 1) c')) w w1) := (unhide hs).2
  have HL1 := hide hL1
  have HL2 := hide hL2
  clear hs HA1 hL1 hL2
  by_cases hlt : i < last
  · have hltz : (i : Int) < (last : Int) := by omega
    have HR := hide (riseI i _ (unhide HC).1 (unhide HL) (by rw [unhide HL2]; exact hlt) (by rw [unhide HL2]; omega))
    go_wp2_with fail
    refine (unhide HR).mono ?_
    rintro e w5 ⟨rfl, hr5⟩
    obtain ⟨es5, g1, g2, g3, g4⟩ := unhide hr5
    have hl5 : es5.length = last := g1.length_eq.trans (unhide HL2)
    have HS5 := hide (sinkI i w5 g2 (unhide HL) (by omega) (by omega))
    have G : Hid (es5.Perm ((swapL es i last).take last) ∧ Turned (Foot p m (.slice (some ⟨b', 0, none⟩) last c')) _ w5 ∧ ∀ full, RiseAt (le gg) full i i ((swapL es i last).take last) → (full → HeapOrd (le gg) es5) ∧ SinkAt (le gg) i es5) := ⟨g1, g3, g4⟩
    clear HR hr5 g1 g2 g3 g4 hl5
    go_wp2_with fail
    refine (unhide HS5).mono ?_
    rintro e w6 ⟨rfl, hr6⟩
    clear HS5
    go_wp2_with fail
    go_end0
    obtain ⟨es6, f1, f2, f3, f4⟩ := unhide hr6
    obtain ⟨g1, g3, g4⟩ := unhide G
    refine ⟨rfl, _, es6, (f1.trans g1).trans (unhide HTW), f2, (((unhide hT1).trans ?_).trans g3).trans f3, rfl, fun ho => f4 ((g4 False ?_).2)⟩
    · have := (unhide HC).2
      rw [unhide HL1] at this
      exact this
    · have := sinkAt_cut (le_trans gg) ho (i := i) (by rw [unhide HLA]; omega)
      rw [unhide HLA] at this
      exact this
  · have hltz : ¬ (i : Int) < (last : Int) := by omega
    go_wp2_with fail
    go_end0
    refine ⟨rfl, _, _, unhide HTW, (unhide HC).1, (unhide hT1).trans ?_, rfl, fun ho => ?_⟩
    · have := (unhide HC).2
      rw [unhide HL1] at this
      exact this
    · obtain rfl : i = last := by omega
      rw [swapL_self es i (by rw [unhide HLA]; omega)]
      exact heapOrd_take ho i
end Go.Proofs.YtagibmgbjhemkaaGreat
