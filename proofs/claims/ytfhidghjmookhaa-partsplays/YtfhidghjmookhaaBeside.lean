/- Rows that lie beside a thing in memory. -/
import Derived.Test.YtfhidghjmookhaaFam
namespace Go.Proofs.Ytfhidghjmookhaa
open Go.RowKit Go.Maps

/-- A row: the slice, its elements' type and cells, how many there are, the cells. -/
structure Rw where
  v : Value
  t : TypeId
  sz : Nat
  n : Nat
  xs : List Value

def Rw.At (r : Rw) (B : Nat) (w : World) : Prop := w.ownsRow B r.t r.sz r.v r.n r.xs

theorem Rw.At.kept {r : Rw} {B : Nat} {w w' : World} (h : r.At B w) (hk : ∀ k, r.v.ownBlock = some k → w'.heap[k]? = w.heap[k]?) : r.At B w' := by
  refine ⟨h.1, ?_⟩
  rcases h.2 with hn | ⟨g, cap, cur, e, hb, hgg, rest⟩
  · exact .inl hn
  · exact .inr ⟨g, cap, cur, e, hb, (hk g (by rw [e]; rfl)).trans hgg, rest⟩

theorem row_down {w : World} {B B' : Nat} {t : TypeId} {sz n : Nat} {v : Value} {xs : List Value} (h : w.ownsRow B' t sz v n xs) (hb : B ≤ B') : w.ownsRow B t sz v n xs := by
  refine ⟨h.1, ?_⟩
  rcases h.2 with hn | ⟨g, cap, cur, e, hb2, rest⟩
  · exact .inl hn
  · exact .inr ⟨g, cap, cur, e, Nat.le_trans hb hb2, rest⟩

/-- No two rows share memory. -/
def RApart (x y : Rw) : Prop := ∀ b, x.v.ownBlock = some b → y.v.ownBlock ≠ some b
theorem RApart.symm {x y : Rw} (h : RApart x y) : RApart y x := fun b hb hb' => h b hb' hb

/-- How a row of one cell an element looks to the walk. -/
theorem row_form {w : World} {B n : Nat} {t : TypeId} {v : Value} {xs : List Value} (h : w.ownsRow B t 1 v n xs) : (∃ a c, v = .slice a n c) ∧ ∀ j, j < n → ∃ g c u, v = .slice (some ⟨g, 0, none⟩) n c ∧ g < w.heap.size ∧ w.cell? ⟨g, j, none⟩ = some u ∧ xs[j]? = some u ∧ w.frozen? ⟨g, j, none⟩ = false := by
  have hl : xs.length = n := by have := h.1; omega
  rcases h.2 with ⟨rfl, h3⟩ | ⟨g, cap, cur, rfl, -, hg, -⟩
  · exact ⟨⟨none, 0, by rw [h3]⟩, fun j hj => by omega⟩
  · refine ⟨⟨_, _, rfl⟩, fun j hj => ⟨g, cap, xs[j]'(by omega), rfl, (Array.getElem?_eq_some_iff.1 hg).1, ?_, by simp, frozen_of_row w g j _ _ hg⟩⟩
    rw [h.cellAt j (by omega)]
    simp
end Go.Proofs.Ytfhidghjmookhaa
