/- The reference's PutEdge: its memory. -/
import Derived.Test.YtagibmgbjhemkaaGreatRefPutF
namespace Go.Proofs.YtagibmgbjhemkaaGreat
open Go.RowKit Go.Maps

theorem PFit.bits {w W : World} {vv ev : Value} {rd wr_0 : Int} {x : EdgeV} (h : PFit w vv ev rd wr_0 x W) (n : Int) : PFit w vv ev rd wr_0 (x.1, x.2.1, x.2.2.1, n) (W.setCell ⟨w.heap.size + 1, 3, none⟩ (.int .u32 n)) := by
  obtain ⟨h1, h2, h3, h4, h5⟩ := h
  refine ⟨(heap_setCell_other _ _ _ _ (by show w.heap.size ≠ w.heap.size + 1; omega)).trans h1, ?_, (heap_setCell_other _ _ _ _ (by show w.heap.size + 2 ≠ w.heap.size + 1; omega)).trans h3, h4.setCell (p := ⟨w.heap.size + 1, 3, none⟩) (by show w.heap.size ≤ w.heap.size + 1; omega) _, ?_⟩
  · rw [heap_setCell_same _ _ _ _ _ _ h2]; rfl
  · simpa using h5

/-- One record more, in memory from B on. -/
theorem run_appGB {B : Nat} {w : World} {v : Value} {gs : List EdgeV} (a : EdgeV) (h : GRow B w v gs) (hB : B ≤ w.heap.size) (hl : gs.length ≤ 100000) :
    ∃ a' c' w', (∀ ty, (Builtin.append_ #[26, 26] ty #[v, .slice (some ⟨w.heap.size, 0, none⟩) 1 1]).run Tryz.prog (w.alloc (oE a)) = .ok (.slice a' (gs.length + 1) c') w') ∧ GRow B w' (.slice a' (gs.length + 1) c') (gs ++ [a]) ∧ Below B w w' := by
  obtain ⟨a', n', c', w', hr, g1, g2, -⟩ := run_appG a h hB hl
  obtain ⟨a2, c2, e⟩ := grow_len g1
  injection e with e1 e2 e3
  rw [List.length_append, List.length_singleton] at e2
  subst e2
  have hb := below_new w (oE a)
  refine ⟨a', c', w', hr, g1, ⟨g2.os.trans hb.os, g2.tape.trans hb.tape, g2.output.trans hb.output, Nat.le_trans hb.size g2.size, fun k hk => (g2.block k (Nat.lt_of_lt_of_le hk (Nat.le_trans hB hb.size)) (fun e => ?_)).trans (hb.block k (Nat.lt_of_lt_of_le hk hB))⟩⟩
  have := (h.lt k e.symm).1
  omega

/-- The tail behind a record. -/
theorem putE_tail {w2 w3 : World} {a3 : Option Addr} {n3 c3 g ec i : Nat} {x : EdgeV} {es : List EdgeV} (g1 : GRow w2.heap.size w3 (.slice a3 n3 c3) (es.take i ++ [x])) (g2 : Below w2.heap.size w2 w3) (hR : GRow 0 w3 (.slice (some ⟨g, 0, none⟩) es.length ec) es) (hi : i < es.length) (hl : es.length ≤ 100000) :
    ∃ a4 n4 c4 w4, (∀ ty, (Builtin.append_ #[26, 26] ty #[.slice a3 n3 c3, .slice (some ⟨g, i * 4, none⟩) (es.length - i) (ec - i)]).run Tryz.prog w3 = .ok (.slice a4 n4 c4) w4) ∧ GRow w2.heap.size w4 (.slice a4 n4 c4) (es.take i ++ [x] ++ es.drop i) ∧ Below w2.heap.size w2 w4 := by
  have hlen : (es.take i ++ [x]).length + es.length ≤ 1000000 := by rw [List.length_append, List.length_take, List.length_singleton]; omega
  obtain ⟨v4, w4, hr4, g4, gg⟩ := run_appGS (i := i) (m := es.length - i) g2.size g1 hR (by omega) hlen (ec - i)
  obtain ⟨a4, n4, c4, e4⟩ := grow_shape g4
  subst e4
  have et : (es.drop i).take (es.length - i) = es.drop i := List.take_of_length_le (by rw [List.length_drop]; omega)
  rw [et] at g4
  refine ⟨a4, n4, c4, w4, hr4, g4, g2.trans ⟨gg.os, gg.tape, gg.output, gg.size, fun k hk => gg.block k (Nat.lt_of_lt_of_le hk g2.size) (fun e => ?_)⟩⟩
  have := (g1.lt k e.symm).1
  omega
theorem putE_none {w2 w3 : World} {a3 : Option Addr} {n3 c3 i : Nat} {x : EdgeV} {es : List EdgeV} (g1 : GRow w2.heap.size w3 (.slice a3 n3 c3) (es.take i ++ [x])) (hi : es.length ≤ i) :
    (∀ b3 c2 ty, (Builtin.append_ #[26, 26] ty #[.slice a3 n3 c3, .slice b3 0 c2]).run Tryz.prog w3 = .ok (.slice a3 n3 c3) w3) ∧ GRow w2.heap.size w3 (.slice a3 n3 c3) (es.take i ++ [x] ++ es.drop i) := by
  refine ⟨fun b3 c2 ty => run_appG_zero w3 a3 b3 n3 c3 c2 (grow_cap g1) ty, ?_⟩
  rw [List.drop_eq_nil_of_le hi, List.append_nil]; exact g1
theorem putE_fin {w w2 w4 : World} {bb b2 : Nat} {a4 : Option Addr} {n4 c4 : Nat} {vv ev : Value} {rd wr_0 : Int} {vs : List Int} {fs : List EdgeV} (q1 : w2.heap[b2]? = some oZ) (q2 : w2.heap[bb]? = some (oG vv ev rd wr_0)) (q3 : Below bb w w2) (q4 : b2 < w2.heap.size) (hbe : bb < b2) (hV : ∀ W, Below bb w W → NRow W vv vs) (g4 : GRow w2.heap.size w4 (.slice a4 n4 c4) fs) (hB4 : Below w2.heap.size w2 w4) :
    (w4.cell? ⟨bb, 1, none⟩ = some ev ∧ w4.cell? ⟨bb, 3, none⟩ = some (.int .i64 wr_0) ∧ ∀ o, w4.frozen? ⟨bb, o, none⟩ = false) ∧
    ∀ w8, w8 = (w4.setCell ⟨bb, 1, none⟩ (.slice a4 n4 c4)).setCell ⟨bb, 3, none⟩ (.int .i64 (wr_0 + 1)) → w8.heap[b2]? = some oZ ∧ w8.heap[bb]? = some (oG vv (.slice a4 n4 c4) rd (wr_0 + 1)) ∧
      ∀ x0 x1 x2 x3, NRow (set4 w8 b2 x0 x1 x2 x3) vv vs ∧ GRow 0 (set4 w8 b2 x0 x1 x2 x3) (.slice a4 n4 c4) fs ∧ Below bb w (set4 w8 b2 x0 x1 x2 x3) ∧ ∀ b, (Value.slice a4 n4 c4).ownBlock = some b → bb ≤ b := by
  have hbx := (hB4.block bb (by omega)).trans q2
  obtain ⟨y0, y1, y2, y3, yf⟩ := cellsG hbx
  refine ⟨⟨y1, y3, yf⟩, fun w8 e8 => ?_⟩
  have e1 : (w4.setCell ⟨bb, 1, none⟩ (.slice a4 n4 c4)).heap[bb]? = some (oG vv (.slice a4 n4 c4) rd wr_0) := by rw [heap_setCell_same _ _ _ _ _ _ hbx]; rfl
  have e2 : w8.heap[bb]? = some (oG vv (.slice a4 n4 c4) rd (wr_0 + 1)) := by rw [e8, heap_setCell_same _ _ _ _ _ _ e1]; rfl
  have oth : ∀ b, b ≠ bb → w8.heap[b]? = w4.heap[b]? := fun b hb => by rw [e8]; exact (heap_setCell_other _ _ _ _ hb).trans (heap_setCell_other _ _ _ _ hb)
  have hB8 : Below bb w w8 := by
    rw [e8]
    exact ((q3.trans (hB4.mono (by omega))).setCell (p := ⟨bb, 1, none⟩) (Nat.le_refl _) _).setCell (p := ⟨bb, 3, none⟩) (Nat.le_refl _) _
  refine ⟨(oth b2 (by omega)).trans ((hB4.block b2 q4).trans q1), e2, fun x0 x1 x2 x3 => ?_⟩
  have hBw := set4_below hB8 (by omega : bb ≤ b2) x0 x1 x2 x3
  refine ⟨hV _ hBw, ?_, hBw, fun b hb => by have := (g4.lt b hb).1; omega⟩
  have g8 : GRow w2.heap.size (set4 w8 b2 x0 x1 x2 x3) (.slice a4 n4 c4) fs := grow_kept g4 (fun b hb => by
    have := (g4.lt b hb).1
    exact (set4_other (by omega) _ _ _ _).trans (oth b (by omega)))
  refine ⟨g8.1, ?_⟩
  rcases g8.2 with h | ⟨g, cap, cur, e, -, rest⟩
  · exact .inl h
  · exact .inr ⟨g, cap, cur, e, Nat.zero_le _, rest⟩
/-- Where a record comes to stand. -/
def Puts (es : List EdgeV) (e : Int) (i : Nat) : Prop := i ≤ es.length ∧ (∀ (j : Nat) (a : EdgeV), j < i → es[j]? = some a → a.1 < e) ∧ ∀ a : EdgeV, es[i]? = some a → ¬ a.1 < e
/-- What PutEdge answers where it does it. -/
def AnsPut (w : World) (vv0 ev0 : Value) (vs : List Int) (es : List EdgeV) (x : EdgeV) (n rd wr : Int) (e : Ending) (w' : World) : Prop :=
  ∃ i : Nat, Puts es x.1 i ∧ AnsG w vv0 ev0 vs (es.take i ++ [(x.1, x.2.1, x.2.2.1, n)] ++ es.drop i) rd (wr + 1) 0 e w'
/-- What AddEdge answers where it does it. -/
def AnsAdd (w : World) (vv0 ev0 : Value) (vs : List Int) (es : List EdgeV) (u v b rd wr : Int) (e : Ending) (w' : World) : Prop :=
  ∃ j i : Nat, (j < 1024 ∧ (∀ k : Nat, k < j → HasNo es ((k : Int) + 1)) ∧ ¬ HasNo es ((j : Int) + 1)) ∧ Puts es ((j : Int) + 1) i ∧ ∃ vv ev, e = .returned (.tuple #[.agg #[vv, ev, .int .i64 rd, .int .i64 (wr + 1)], .int .i64 ((j : Int) + 1), .int .i64 0]) ∧ NRow w' vv vs ∧ GRow 0 w' ev (es.take i ++ [((j : Int) + 1, u, v, b)] ++ es.drop i) ∧ Below w.heap.size w w' ∧ Apt w vv0 vv ∧ Apt w ev0 ev
end Go.Proofs.YtagibmgbjhemkaaGreat
