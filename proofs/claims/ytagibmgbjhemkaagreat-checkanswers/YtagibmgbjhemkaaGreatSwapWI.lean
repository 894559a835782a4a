/- swap, of a heap as a whole. -/
import Derived.Test.YtagibmgbjhemkaaGreatSwapI
namespace Go.Proofs.YtagibmgbjhemkaaGreat
open Go.RowKit Go.Maps

theorem row_keptI {w w' : World} {v : Value} {L : Nat} {xs : List Value} (h : w.ownsRow 0 190 3 v L xs) (hk : ∀ k, v.ownBlock = some k → w'.heap[k]? = w.heap[k]?) : w'.ownsRow 0 190 3 v L xs := by
  refine ⟨h.1, ?_⟩
  rcases h.2 with hn | ⟨g, cap, cur, rfl, hb, hgg, rest⟩
  · exact .inl hn
  · exact .inr ⟨g, cap, cur, rfl, hb, (hk g rfl).trans hgg, rest⟩

theorem swapI [Inhabited EntI] {p m : Nat} {lv v : Value} {es : List EntI} {n : Nat} (i j : Nat) (w : World) (h : HAtI w p m lv v es n) (hi : i < es.length) (hj : j < es.length) (hn : es.length ≤ 1099511627776) :
    Calls Tryz.prog 134 #[.pointer (some ⟨p, 0, none⟩), .int .i64 i, .int .i64 j] w fun e w' => e = .returned (.tuple #[]) ∧ Hid (HAtI w' p m lv v (swapL es i j) n ∧ Turned (Foot p m v) w w') := by
  obtain ⟨b, c, rfl, hbp, hbm, -, -, fr, hc⟩ := h.some_ (by omega)
  obtain ⟨-, c1, c2, -, -⟩ := h.cells
  obtain ⟨D, hD, hM⟩ := h.map
  have hmp := h.ne3
  have hrow := stored3I (i := j) (at_ es i) (stored3I (i := i) (at_ es j) h.row)
  have key : ∀ W : World, W = (((((w.setCell ⟨b, i * 3, none⟩ (.int .i64 ((at_ es j).key))).setCell ⟨b, i * 3 + 1, none⟩ (.int .i64 (at_ es j).rank)).setCell ⟨b, i * 3 + 2, none⟩ (.int .i64 (at_ es j).turn)).setCell ⟨b, j * 3, none⟩ (.int .i64 ((at_ es i).key))).setCell ⟨b, j * 3 + 1, none⟩ (.int .i64 (at_ es i).rank)).setCell ⟨b, j * 3 + 2, none⟩ (.int .i64 (at_ es i).turn) →
      ∀ w', w'.ownsMap Tryz.prog 3 (plainElem Tryz.prog 3) m (es.length + 1 + 1) ((D.put (klI (at_ es j).key) (.lit (.int .i64 i))).put (klI (at_ es i).key) (.lit (.int .i64 j))) → W.grownBy w' (some m) → HAtI w' p m lv (.slice (some ⟨b, 0, none⟩) es.length c) (swapL es i j) n ∧ Turned (Foot p m (.slice (some ⟨b, 0, none⟩) es.length c)) w w' := by
    intro W hW w' hmap hg
    have hWo : ∀ k, k ≠ b → W.heap[k]? = w.heap[k]? := fun k hk => by
      rw [hW, heap_setCell_other _ _ _ _ hk, heap_setCell_other _ _ _ _ hk, heap_setCell_other _ _ _ _ hk, heap_setCell_other _ _ _ _ hk, heap_setCell_other _ _ _ _ hk, heap_setCell_other _ _ _ _ hk]
    have hS : ∀ (V : World) (o : Nat) (u : Value), Turned (Foot p m (.slice (some ⟨b, 0, none⟩) es.length c)) V (V.setCell ⟨b, o, none⟩ u) := fun V o u => turned_setCell V _ u (.inr (.inr rfl))
    have hTW : Turned (Foot p m (.slice (some ⟨b, 0, none⟩) es.length c)) w W := by
      rw [hW]
      exact (((((hS _ _ _).trans (hS _ _ _)).trans (hS _ _ _)).trans (hS _ _ _)).trans (hS _ _ _)).trans (hS _ _ _)
    have hWs := hTW.size
    have hT : Turned (Foot p m (.slice (some ⟨b, 0, none⟩) es.length c)) w w' := hTW.trans (turned_grown hg (.inr (.inl rfl)))
    have hpl := h.lt (.inl rfl)
    have hbl := h.lt (k := b) (.inr (.inr rfl))
    have hMI : MapIs klI ((D.put (klI (at_ es j).key) (.lit (.int .i64 i))).put (klI (at_ es i).key) (.lit (.int .i64 j))) (swapL es i j) := by
      have := mapIs_swap injI litI hM hi hj
      have ai : at_ (swapL es i j) i = at_ es j := by
        rw [at_swap _ _ _ _ hi hj]
        by_cases e : i = j
        · rw [if_pos e, e]
        · rw [if_neg e, if_pos rfl]
      have aj : at_ (swapL es i j) j = at_ es i := by rw [at_swap _ _ _ _ hi hj, if_pos rfl]
      rw [ai, aj] at this
      exact this
    refine ⟨⟨?_, ?_, ⟨_, by rw [← hMI.size]; exact ownsMap_size hmap, hMI⟩, ?_, h.ne1, h.ne2, hmp⟩, hT⟩
    · rw [hg.block p (by omega) (fun e => hmp (by simpa using e.symm)), hWo p (Ne.symm hbp)]; exact h.box
    · rw [swapL_length]
      refine row_keptI (w := W) (by rw [hW]; exact hrow) (fun k hk => ?_)
      have : k = b := by simpa [Value.ownBlock, eq_comm] using hk
      subst this
      exact hg.block k (by omega) (fun e => hbm (by simpa using e))
    · intro k hk
      rw [swapL_length] at hk
      rw [at_swap _ _ _ _ hi hj]
      split
      · exact h.keys i hi
      · split
        · exact h.keys j hj
        · exact h.keys k hk
  have hmapW : ∀ W : World, (∀ k, k ≠ b → W.heap[k]? = w.heap[k]?) → W.ownsMap Tryz.prog 3 (plainElem Tryz.prog 3) m es.length D := fun W hW => by
    obtain ⟨es', clock, h1, h2⟩ := hD
    exact ⟨es', clock, (hW m (Ne.symm hbm)).trans h1, h2⟩
  by_cases e : i = j
  · subst e
    exact (swapDI p m b es.length c i es.length (at_ es i).key (at_ es i).rank (at_ es i).turn D w hi hn hn hbp hbm hmp c1 c2 (hc i hi).1 (hc i hi).2.1 (hc i hi).2.2 fr (h.keys i hi) _ rfl
      (hmapW _ (fun k hk => by rw [heap_setCell_other _ _ _ _ hk, heap_setCell_other _ _ _ _ hk, heap_setCell_other _ _ _ _ hk, heap_setCell_other _ _ _ _ hk, heap_setCell_other _ _ _ _ hk, heap_setCell_other _ _ _ _ hk]))).mono fun e w' ⟨h1, h2⟩ => ⟨h1, key _ rfl w' h2.out.1 h2.out.2⟩
  · exact (swapCI p m b es.length c i j es.length (at_ es i).key (at_ es j).key (at_ es i).rank (at_ es j).rank (at_ es i).turn (at_ es j).turn D w hi hj hn hn (Ne.symm e) e hbp hbm hmp c1 c2 (hc i hi).1 (hc i hi).2.1 (hc i hi).2.2 (hc j hj).1 (hc j hj).2.1 (hc j hj).2.2 fr (h.keys i hi) (h.keys j hj) _ rfl
      (hmapW _ (fun k hk => by rw [heap_setCell_other _ _ _ _ hk, heap_setCell_other _ _ _ _ hk, heap_setCell_other _ _ _ _ hk, heap_setCell_other _ _ _ _ hk, heap_setCell_other _ _ _ _ hk, heap_setCell_other _ _ _ _ hk]))).mono fun e w' ⟨h1, h2⟩ => ⟨h1, key _ rfl w' h2.out.1 h2.out.2⟩
end Go.Proofs.YtagibmgbjhemkaaGreat
