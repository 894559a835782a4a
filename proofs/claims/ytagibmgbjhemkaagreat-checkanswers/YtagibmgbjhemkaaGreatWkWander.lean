/- Law 8's Wander: some walk along the graph's own edges. -/
import Derived.Test.YtagibmgbjhemkaaGreatWkThrough
import Derived.Test.YtagibmgbjhemkaaGreatRel7
namespace Go.Proofs.YtagibmgbjhemkaaGreat
open Go.RowKit Go.Maps

theorem Recs.idx {es : List EdgeV} (h : Recs es) {i j : Nat} {a b : EdgeV} (hi : es[i]? = some a) (hj : es[j]? = some b) (e : a.1 = b.1) : i = j := by
  obtain ⟨hi1, hi2⟩ := List.getElem?_eq_some_iff.1 hi
  obtain ⟨hj1, hj2⟩ := List.getElem?_eq_some_iff.1 hj
  rcases Nat.lt_trichotomy i j with h' | h' | h'
  · have := List.pairwise_iff_getElem.1 h i j hi1 hj1 h'; rw [hi2, hj2] at this; omega
  · exact h'
  · have := List.pairwise_iff_getElem.1 h j i hj1 hi1 h'; rw [hi2, hj2] at this; omega
theorem RelG.lk {g : Gr} {vs : List Int} {es : List EdgeV} (h : RelG g vs es) {x : EdgeV} (hx : x ∈ es) : Go.Proofs.YtagibmgbjhemkaaGreat.lk g.ps x.1 = some x := by
  obtain ⟨i, hi⟩ := (h.mem x).1 hx
  rw [(h.edge i x hi).1]
  exact lk_yes hi
end Go.Proofs.YtagibmgbjhemkaaGreat
