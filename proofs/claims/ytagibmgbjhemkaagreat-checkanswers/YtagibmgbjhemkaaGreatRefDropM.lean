/- The reference's DropEdge: its memory. -/
import Derived.Test.YtagibmgbjhemkaaGreatRefSeg
namespace Go.Proofs.YtagibmgbjhemkaaGreat
open Go.RowKit Go.Maps

theorem run_appG_zero (w : World) (base base2 : Option Addr) (l c c2 : Nat) (hlc : l ≤ c) (ty : TypeId) : (Builtin.append_ #[26, 26] ty #[.slice base l c, .slice base2 0 c2]).run Tryz.prog w = .ok (.slice base l c) w := by
  obtain ⟨i, hi, hz, hs, hb⟩ := info_parts info64
  have hl : ∀ (x : Addr), (loadCells x 0).run Tryz.prog w = .ok #[] w := fun x => by simpa using run_loadCells_list (P := Tryz.prog) w x [] (by simp)
  cases base <;> cases base2 <;> simp [Builtin.append_, run_underlying Tryz.underlying26, sizeOf, typeInfo, hi, Builtin.lenOf, Builtin.firstCells, hlc, storeCells, hl]
theorem grow_cap {B : Nat} {w : World} {a : Option Addr} {n c : Nat} {gs : List EdgeV} (h : GRow B w (.slice a n c) gs) : n ≤ c := by
  rcases h.2 with ⟨e, h0⟩ | ⟨g, cap, cur, e, -, -, hc, -⟩
  · injection e with e1 e2 e3; omega
  · injection e with e1 e2 e3; omega

/-- The box of a record. -/
abbrev oX (x : EdgeV) : Obj := .cells #[.int .i64 x.1, .int .i64 x.2.1, .int .i64 x.2.2.1, .int .u32 x.2.2.2] 64 (0, 0)
/-- Behind both appends. -/
theorem dropE_mem {w2 : World} {g ec i : Nat} {es : List EdgeV} {x : EdgeV} (_hg : g < w2.heap.size) (hR : GRow 0 w2 (.slice (some ⟨g, 0, none⟩) es.length ec) es) (hi : i < es.length) (hl : es.length ≤ 400000) :
    ∃ a5 n5 c5 w5, (∀ ty, (Builtin.append_ #[26, 26] ty #[.slice (some ⟨w2.heap.size + 1, 0, none⟩) 0 0, .slice (some ⟨g, 0, none⟩) i ec]).run Tryz.prog ((w2.alloc (oX x)).alloc (.cells #[] 64)) = .ok (.slice a5 n5 c5) w5) ∧ Below (w2.heap.size + 1) (w2.alloc (oX x)) w5 ∧
      ∃ a6 n6 c6 w6, (∀ b c2 ty, (b = some ⟨g, (i + 1) * 4, none⟩ ∧ c2 = ec - (i + 1) ∨ es.length = i + 1) → (Builtin.append_ #[26, 26] ty #[.slice a5 n5 c5, .slice b (es.length - (i + 1)) c2]).run Tryz.prog w5 = .ok (.slice a6 n6 c6) w6) ∧ GRow (w2.heap.size + 1) w6 (.slice a6 n6 c6) (es.take i ++ es.drop (i + 1)) ∧ Below (w2.heap.size + 1) (w2.alloc (oX x)) w6 := by
  have hs1 : (w2.alloc (oX x)).heap.size = w2.heap.size + 1 := by simp
  have hb2 := below_new (w2.alloc (oX x)) (.cells #[] 64)
  rw [hs1] at hb2
  have hs2 : w2.heap.size + 1 ≤ ((w2.alloc (oX x)).alloc (.cells #[] 64)).heap.size := by rw [← hs1]; exact hb2.size
  have hR1 := grow_below hR (below_new w2 (oX x))
  have hR2 : GRow 0 ((w2.alloc (oX x)).alloc (.cells #[] 64)) (.slice (some ⟨g, 0, none⟩) es.length ec) es := grow_below hR1 (by rw [hs1]; exact hb2)
  have h0 : GRow (w2.heap.size + 1) ((w2.alloc (oX x)).alloc (.cells #[] 64)) (.slice (some ⟨w2.heap.size + 1, 0, none⟩) 0 0) [] := by
    have := heap_alloc_new (w2.alloc (oX x)) (.cells #[] 64)
    rw [hs1] at this
    exact ⟨rfl, .inr ⟨w2.heap.size + 1, 0, #[], rfl, Nat.le_refl _, this, Nat.le_refl _, by unfold maxLen; omega, rfl, rfl⟩⟩
  obtain ⟨v5, w5, hr5, g5, gg5⟩ := run_appGS (i := 0) (m := i) hs2 h0 hR2 (by omega) (by simp; omega) ec
  obtain ⟨a5, n5, c5, rfl⟩ := grow_shape g5
  simp only [List.drop_zero, List.nil_append, Nat.zero_mul] at hr5 g5
  have hB5 : Below (w2.heap.size + 1) (w2.alloc (oX x)) w5 := hb2.trans ⟨gg5.os, gg5.tape, gg5.output, gg5.size, fun k hk => gg5.block k (Nat.lt_of_lt_of_le hk hs2) (fun e => by
    have := (h0.lt k e.symm).1; omega)⟩
  have hs5 := hB5.size
  have hR5 : GRow 0 w5 (.slice (some ⟨g, 0, none⟩) es.length ec) es := grow_below hR1 (by rw [hs1]; exact hB5)
  refine ⟨a5, n5, c5, w5, hr5, hB5, ?_⟩
  by_cases hz : es.length = i + 1
  · refine ⟨a5, n5, c5, w5, fun b c2 ty _ => ?_, ?_, hB5⟩
    · rw [show es.length - (i + 1) = 0 by omega]
      exact run_appG_zero w5 a5 b n5 c5 _ (grow_cap g5) ty
    · rw [List.drop_eq_nil_of_le (by omega : es.length ≤ i + 1), List.append_nil]
      exact g5
  · obtain ⟨v6, w6, hr6, g6, gg6⟩ := run_appGS (i := i + 1) (m := es.length - (i + 1)) (by omega : w2.heap.size + 1 ≤ w5.heap.size) g5 hR5 (by omega) (by rw [List.length_take]; omega) (ec - (i + 1))
    obtain ⟨a6, n6, c6, rfl⟩ := grow_shape g6
    have et : (es.drop (i + 1)).take (es.length - (i + 1)) = es.drop (i + 1) := List.take_of_length_le (by rw [List.length_drop]; omega)
    rw [et] at g6
    refine ⟨a6, n6, c6, w6, fun b c2 ty hb => ?_, g6, hB5.trans ⟨gg6.os, gg6.tape, gg6.output, gg6.size, fun k hk => gg6.block k (by omega) (fun e => by
      have := (g5.lt k e.symm).1; omega)⟩⟩
    rcases hb with ⟨rfl, rfl⟩ | e
    · exact hr6 ty
    · exact absurd e hz
/-- What the last region needs. -/
theorem dropE_fin {w w2 w6 : World} {bb b1 b2 : Nat} {va a6 ea : Option Addr} {vn vc n6 c6 en ec : Nat} {rd wr_0 : Int} {vs : List Int} {fs : List EdgeV} {x : EdgeV} (h1 : bb < b1) (h2 : b1 < b2) (h3 : b2 < w2.heap.size) (k1 : w2.heap[b1]? = some oZ) (k2 : w2.heap[b2]? = some o34) (k3 : w2.heap[bb]? = some (oG (.slice va vn vc) (.slice ea en ec) rd wr_0)) (k4 : Below bb w w2)
    (hV : ∀ W, Below bb w W → NRow W (.slice va vn vc) vs) (g6 : GRow (w2.heap.size + 1) w6 (.slice a6 n6 c6) fs) (hB : Below (w2.heap.size + 1) (w2.alloc (oX x)) w6) :
    ∀ w8, w8 = (w6.setCell ⟨bb, 1, none⟩ (.slice a6 n6 c6)).setCell ⟨bb, 3, none⟩ (.int .i64 (wr_0 + 1)) →
      w8.heap[bb]? = some (oG (.slice va vn vc) (.slice a6 n6 c6) rd (wr_0 + 1)) ∧ w8.heap[b1]? = some oZ ∧ w8.heap[b2]? = some o34 ∧ w8.heap[w2.heap.size]? = some (oX x) ∧ Below bb w w8 ∧
      ∀ p q r s p' q' r' s', Below bb w (set4 (set4 w8 b1 p q r s) b2 p' q' r' s') ∧ NRow (set4 (set4 w8 b1 p q r s) b2 p' q' r' s') (.slice va vn vc) vs ∧ GRow 0 (set4 (set4 w8 b1 p q r s) b2 p' q' r' s') (.slice a6 n6 c6) fs := by
  intro w8 e8
  have old : ∀ b, b < w2.heap.size → w6.heap[b]? = w2.heap[b]? := fun b hb => (hB.block b (by omega)).trans (heap_alloc_old w2 _ hb)
  have newx : w6.heap[w2.heap.size]? = some (oX x) := (hB.block _ (by omega)).trans (heap_alloc_new w2 _)
  have m3 := (old bb (by omega)).trans k3
  have hB6 : Below bb w w6 := k4.trans (((below_new w2 (oX x)).mono (by omega)).trans (hB.mono (by omega)))
  have q1 : (w6.setCell ⟨bb, 1, none⟩ (.slice a6 n6 c6)).heap[bb]? = some (oG (.slice va vn vc) (.slice a6 n6 c6) rd wr_0) := by rw [heap_setCell_same _ _ _ _ _ _ m3]; rfl
  have q2 : w8.heap[bb]? = some (oG (.slice va vn vc) (.slice a6 n6 c6) rd (wr_0 + 1)) := by rw [e8, heap_setCell_same _ _ _ _ _ _ q1]; rfl
  have oth : ∀ b, b ≠ bb → w8.heap[b]? = w6.heap[b]? := fun b hb => by rw [e8]; exact (heap_setCell_other _ _ _ _ hb).trans (heap_setCell_other _ _ _ _ hb)
  have hB8 : Below bb w w8 := by
    rw [e8]
    exact (hB6.setCell (p := ⟨bb, 1, none⟩) (Nat.le_refl _) _).setCell (p := ⟨bb, 3, none⟩) (Nat.le_refl _) _
  refine ⟨q2, (oth b1 (by omega)).trans ((old b1 (by omega)).trans k1), (oth b2 (by omega)).trans ((old b2 (by omega)).trans k2), (oth _ (by omega)).trans newx, hB8, ?_⟩
  intro p q r s p' q' r' s'
  have hB9 := set4_below (set4_below hB8 (by omega : bb ≤ b1) p q r s) (by omega : bb ≤ b2) p' q' r' s'
  refine ⟨hB9, hV _ hB9, ?_⟩
  have g8 : GRow (w2.heap.size + 1) (set4 (set4 w8 b1 p q r s) b2 p' q' r' s') (.slice a6 n6 c6) fs := grow_kept g6 (fun b hb => by
    have := (g6.lt b hb).1
    exact (set4_other (by omega) _ _ _ _).trans ((set4_other (by omega) _ _ _ _).trans (oth b (by omega))))
  refine ⟨g8.1, ?_⟩
  rcases g8.2 with h | ⟨g, cap, cur, e, -, rest⟩
  · exact .inl h
  · exact .inr ⟨g, cap, cur, e, Nat.zero_le _, rest⟩
end Go.Proofs.YtagibmgbjhemkaaGreat
