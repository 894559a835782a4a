/- The reference's AddEdge where it refuses. -/
import Derived.Test.YtagibmgbjhemkaaGreatRefPutF
namespace Go.Proofs.YtagibmgbjhemkaaGreat
open Go.RowKit Go.Maps

/-- AddEdge's two boxes. -/
def AFit (w : World) (vv ev : Value) (rd wr_0 : Int) (W : World) : Prop :=
  W.heap[w.heap.size]? = some (oG vv ev rd wr_0) ∧ W.heap[w.heap.size + 1]? = some oZ ∧ Below w.heap.size w W ∧ w.heap.size + 2 ≤ W.heap.size
theorem AFit.step {w W W' : World} {vv ev : Value} {rd wr_0 : Int} (h : AFit w vv ev rd wr_0 W) (hb : Below W.heap.size W W') : AFit w vv ev rd wr_0 W' := by
  obtain ⟨h1, h2, h4, h5⟩ := h
  have := hb.size
  exact ⟨(hb.block _ (by omega)).trans h1, (hb.block _ (by omega)).trans h2, h4.trans (hb.mono (by omega)), by omega⟩
theorem afit_new (w : World) (vv ev : Value) (rd wr_0 : Int) : AFit w vv ev rd wr_0 ((w.alloc (oG vv ev rd wr_0)).alloc oZ) := by
  obtain ⟨h1, h2, h3, h4⟩ := two_boxes w (oG vv ev rd wr_0)
  exact ⟨h1, h2, h3, by omega⟩
/-- What a call of the reference answers: a graph, a number, a code. -/
def AnsGI (w : World) (vv0 ev0 : Value) (vs : List Int) (es : List EdgeV) (rd wr n code : Int) (e : Ending) (w' : World) : Prop :=
  ∃ vv ev, e = .returned (.tuple #[.agg #[vv, ev, .int .i64 rd, .int .i64 wr], .int .i64 n, .int .i64 code]) ∧ NRow w' vv vs ∧ GRow 0 w' ev es ∧ Below w.heap.size w w' ∧ Apt w vv0 vv ∧ Apt w ev0 ev

end Go.Proofs.YtagibmgbjhemkaaGreat
