/- The reference's Reweigh: its memory. -/
import Derived.Test.YtagibmgbjhemkaaGreatRefDropE
import Derived.Laws.OwnMore
namespace Go.Proofs.YtagibmgbjhemkaaGreat
open Go.RowKit Go.Maps

theorem encG_cons (r : EdgeV) (rs : List EdgeV) : encG (r :: rs) = .int .i64 r.1 :: .int .i64 r.2.1 :: .int .i64 r.2.2.1 :: .int .u32 r.2.2.2 :: encG rs := by simp [encG]
theorem encG_set {x : EdgeV} (n : Int) : ∀ {es : List EdgeV} {i : Nat}, es[i]? = some x → encG (es.set i (x.1, x.2.1, x.2.2.1, n)) = (encG es).set (i * 4 + 3) (.int .u32 n)
  | [], i, h => by simp at h
  | r :: rs, 0, h => by
    simp at h; subst h
    rw [List.set_cons_zero, encG_cons, encG_cons]; rfl
  | r :: rs, i + 1, h => by
    have ih := encG_set n (es := rs) (i := i) (by simpa using h)
    rw [List.set_cons_succ, encG_cons, encG_cons, ih, show (i + 1) * 4 + 3 = (i * 4 + 3) + 1 + 1 + 1 + 1 by omega]
    rfl

/-- Behind the append and the stores. -/
theorem rew_mem {w w2 : World} {bb b1 : Nat} {va : Option Addr} {vn vc g ec i : Nat} {rd wr_0 : Int} {vs : List Int} {es : List EdgeV} {x : EdgeV} (n : Int) (h1 : bb < b1) (h3 : b1 < w2.heap.size) (_hg : g < w2.heap.size) (k1 : w2.heap[b1]? = some oZ) (k3 : w2.heap[bb]? = some (oG (.slice va vn vc) (.slice (some ⟨g, 0, none⟩) es.length ec) rd wr_0)) (k4 : Below bb w w2)
    (hV : ∀ W, Below bb w W → NRow W (.slice va vn vc) vs) (hR : GRow 0 w2 (.slice (some ⟨g, 0, none⟩) es.length ec) es) (hx : es[i]? = some x) (hl : es.length ≤ 400000) :
    ∃ g5 c5 w5, (∀ ty, (Builtin.append_ #[26, 26] ty #[.slice (some ⟨w2.heap.size, 0, none⟩) 0 0, .slice (some ⟨g, 0, none⟩) es.length ec]).run Tryz.prog (w2.alloc (.cells #[] 64)) = .ok (.slice (some ⟨g5, 0, none⟩) es.length c5) w5) ∧ w2.heap.size ≤ g5 ∧ w5.heap[bb]? = some (oG (.slice va vn vc) (.slice (some ⟨g, 0, none⟩) es.length ec) rd wr_0) ∧
      (∃ u, w5.cell? ⟨g5, i * 4 + 3, none⟩ = some u) ∧ w5.frozen? ⟨g5, i * 4 + 3, none⟩ = false ∧
      ∀ w8, w8 = ((w5.setCell ⟨bb, 1, none⟩ (.slice (some ⟨g5, 0, none⟩) es.length c5)).setCell ⟨g5, i * 4 + 3, none⟩ (.int .u32 n)).setCell ⟨bb, 3, none⟩ (.int .i64 (wr_0 + 1)) →
        w8.heap[bb]? = some (oG (.slice va vn vc) (.slice (some ⟨g5, 0, none⟩) es.length c5) rd (wr_0 + 1)) ∧ w8.heap[b1]? = some oZ ∧
        ∀ p q r s, Below bb w (set4 w8 b1 p q r s) ∧ NRow (set4 w8 b1 p q r s) (.slice va vn vc) vs ∧ GRow 0 (set4 w8 b1 p q r s) (.slice (some ⟨g5, 0, none⟩) es.length c5) (es.set i (x.1, x.2.1, x.2.2.1, n)) := by
  have hi := (List.getElem?_eq_some_iff.1 hx).1
  have hb2 := below_new w2 (.cells #[] 64)
  have hR2 := grow_below hR hb2
  have h0 : GRow w2.heap.size (w2.alloc (.cells #[] 64)) (.slice (some ⟨w2.heap.size, 0, none⟩) 0 0) [] :=
    ⟨rfl, .inr ⟨w2.heap.size, 0, #[], rfl, Nat.le_refl _, heap_alloc_new _ _, Nat.le_refl _, by unfold maxLen; omega, rfl, rfl⟩⟩
  obtain ⟨v5, w5, hr5, g5, gg5⟩ := run_appGS (i := 0) (m := es.length) hb2.size h0 hR2 (by omega) (by simp; omega) ec
  simp only [List.drop_zero, List.nil_append, Nat.zero_mul, List.take_length] at hr5 g5
  obtain ⟨g', c5, rfl, hc⟩ := grow_at g5 (by omega)
  have hge := g5.lt g' rfl
  have hB5 : Below w2.heap.size w2 w5 := hb2.trans ⟨gg5.os, gg5.tape, gg5.output, gg5.size, fun k hk => gg5.block k (Nat.lt_of_lt_of_le hk hb2.size) (fun e => by
    have := (h0.lt k e.symm).1; omega)⟩
  have hs5 := hB5.size
  have m3 := (hB5.block bb (by omega)).trans k3
  have m1 := (hB5.block b1 h3).trans k1
  have hB6 : Below bb w w5 := k4.trans (hB5.mono (by omega))
  have fz : w5.frozen? ⟨g', i * 4 + 3, none⟩ = false := World.ownsRow.frozenAt g5 _
  refine ⟨g', c5, w5, hr5, hge.1, m3, ⟨_, (hc i x hx).2.2.2⟩, fz, ?_⟩
  intro w8 e8
  have q1 : (w5.setCell ⟨bb, 1, none⟩ (.slice (some ⟨g', 0, none⟩) es.length c5)).heap[bb]? = some (oG (.slice va vn vc) (.slice (some ⟨g', 0, none⟩) es.length c5) rd wr_0) := by rw [heap_setCell_same _ _ _ _ _ _ m3]; rfl
  have q2 := (heap_setCell_other (w5.setCell ⟨bb, 1, none⟩ (.slice (some ⟨g', 0, none⟩) es.length c5)) ⟨g', i * 4 + 3, none⟩ bb (.int .u32 n) (by show bb ≠ g'; omega)).trans q1
  have q3 : w8.heap[bb]? = some (oG (.slice va vn vc) (.slice (some ⟨g', 0, none⟩) es.length c5) rd (wr_0 + 1)) := by rw [e8, heap_setCell_same _ _ _ _ _ _ q2]; rfl
  have hB8 : Below bb w w8 := by
    rw [e8]
    exact ((hB6.setCell (p := ⟨bb, 1, none⟩) (Nat.le_refl _) _).setCell (p := ⟨g', i * 4 + 3, none⟩) (by show bb ≤ g'; omega) _).setCell (p := ⟨bb, 3, none⟩) (Nat.le_refl _) _
  have p1 : w8.heap[b1]? = some oZ := by
    rw [e8]
    exact (heap_setCell_other _ _ _ _ (by show b1 ≠ bb; omega)).trans ((heap_setCell_other _ _ _ _ (by show b1 ≠ g'; omega)).trans ((heap_setCell_other _ _ _ _ (by show b1 ≠ bb; omega)).trans m1))
  refine ⟨q3, p1, fun p q r s => ?_⟩
  have hB9 := set4_below hB8 (by omega : bb ≤ b1) p q r s
  refine ⟨hB9, hV _ hB9, ?_⟩
  have r1 : GRow w2.heap.size (w5.setCell ⟨bb, 1, none⟩ (.slice (some ⟨g', 0, none⟩) es.length c5)) (.slice (some ⟨g', 0, none⟩) es.length c5) es := grow_kept g5 (fun b hb => heap_setCell_other _ _ _ _ (by have := (g5.lt b hb).1; show b ≠ bb; omega))
  have r2 := (World.ownsRow.stored r1 (i * 4 + 3) (.int .u32 n)).1
  rw [← encG_set n hx] at r2
  have r3 : GRow w2.heap.size (set4 w8 b1 p q r s) (.slice (some ⟨g', 0, none⟩) es.length c5) (es.set i (x.1, x.2.1, x.2.2.1, n)) := by
    have r2' : GRow w2.heap.size ((w5.setCell ⟨bb, 1, none⟩ (.slice (some ⟨g', 0, none⟩) es.length c5)).setCell ⟨g', i * 4 + 3, none⟩ (.int .u32 n)) (.slice (some ⟨g', 0, none⟩) es.length c5) (es.set i (x.1, x.2.1, x.2.2.1, n)) := by
      show World.ownsRow _ _ _ _ _ _ _
      rw [List.length_set]; exact r2
    refine grow_kept r2' (fun b hb => ?_)
    have := (r2'.lt b hb).1
    refine (set4_other (by omega) _ _ _ _).trans ?_
    rw [e8]
    exact heap_setCell_other _ _ _ _ (by show b ≠ bb; omega)
  refine ⟨r3.1, ?_⟩
  rcases r3.2 with h | ⟨g, cap, cur, e, -, rest⟩
  · exact .inl h
  · exact .inr ⟨g, cap, cur, e, Nat.zero_le _, rest⟩
end Go.Proofs.YtagibmgbjhemkaaGreat
