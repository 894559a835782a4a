/- The reference's Cost. -/
import Derived.Test.YtagibmgbjhemkaaGreatWkGame
namespace Go.Proofs.YtagibmgbjhemkaaGreat

section
open Go.RowKit Go.Maps
/-- The reference's records against the store's. -/
structure GR8 (ps : List (EdgeV × Bool)) (es : List EdgeV) : Prop where
  len : es.length ≤ 1024
  re : Recs es
  lk : ∀ x ∈ es, Go.Proofs.YtagibmgbjhemkaaGreat.lk ps x.1 = some x
  mem : ∀ e x, Go.Proofs.YtagibmgbjhemkaaGreat.lk ps e = some x → x ∈ es ∧ x.1 = e
end

section
open Go.RowKit Go.Maps

end

end Go.Proofs.YtagibmgbjhemkaaGreat
