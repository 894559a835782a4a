/- A claim that came in. -/
import Derived.Test.YtagibmgbjhemkaaGreatFr16
import Derived.Test.YtagibmgbjhemkaaGreatFrame72
namespace Go.Proofs.YtagibmgbjhemkaaGreat
open Go.ChangeShapes Go.WideShapes Go.ChangeAt Go.RowKit
end Go.Proofs.YtagibmgbjhemkaaGreat
