/- The reference's PutEdge where it refuses. -/
import Derived.Test.YtagibmgbjhemkaaGreatRefRew
namespace Go.Proofs.YtagibmgbjhemkaaGreat
open Go.RowKit Go.Maps

/-- PutEdge's three boxes. -/
def PFit (w : World) (vv ev : Value) (rd wr_0 : Int) (x : EdgeV) (W : World) : Prop :=
  W.heap[w.heap.size]? = some (oG vv ev rd wr_0) ∧ W.heap[w.heap.size + 1]? = some (oX x) ∧ W.heap[w.heap.size + 2]? = some oZ ∧ Below w.heap.size w W ∧ w.heap.size + 3 ≤ W.heap.size
theorem PFit.step {w W W' : World} {vv ev : Value} {rd wr_0 : Int} {x : EdgeV} (h : PFit w vv ev rd wr_0 x W) (hb : Below W.heap.size W W') : PFit w vv ev rd wr_0 x W' := by
  obtain ⟨h1, h2, h3, h4, h5⟩ := h
  have := hb.size
  exact ⟨(hb.block _ (by omega)).trans h1, (hb.block _ (by omega)).trans h2, (hb.block _ (by omega)).trans h3, h4.trans (hb.mono (by omega)), by omega⟩
theorem pfit_new (w : World) (vv ev : Value) (rd wr_0 : Int) (x : EdgeV) : PFit w vv ev rd wr_0 x (((w.alloc (oG vv ev rd wr_0)).alloc (oX x)).alloc oZ) := by
  have h1 : (w.alloc (oG vv ev rd wr_0)).heap.size = w.heap.size + 1 := by simp
  have h2 : ((w.alloc (oG vv ev rd wr_0)).alloc (oX x)).heap.size = w.heap.size + 2 := by simp
  refine ⟨(heap_alloc_old _ _ (by omega)).trans ((heap_alloc_old _ _ (by omega)).trans (heap_alloc_new _ _)), (heap_alloc_old _ _ (by omega)).trans ?_, ?_, ((below_new w _).trans ((below_new _ _).mono (by omega))).trans ((below_new _ _).mono (by omega)), by simp⟩
  · have := heap_alloc_new (w.alloc (oG vv ev rd wr_0)) (oX x)
    rwa [h1] at this
  · have := heap_alloc_new ((w.alloc (oG vv ev rd wr_0)).alloc (oX x)) oZ
    rwa [h2] at this
theorem cellsX {w : World} {g : Nat} {x : EdgeV} (h : w.heap[g]? = some (oX x)) : w.cell? ⟨g, 0, none⟩ = some (.int .i64 x.1) ∧ w.cell? ⟨g, 1, none⟩ = some (.int .i64 x.2.1) ∧ w.cell? ⟨g, 2, none⟩ = some (.int .i64 x.2.2.1) ∧ w.cell? ⟨g, 3, none⟩ = some (.int .u32 x.2.2.2) ∧ ∀ o, w.frozen? ⟨g, o, none⟩ = false := cells34 h

end Go.Proofs.YtagibmgbjhemkaaGreat
