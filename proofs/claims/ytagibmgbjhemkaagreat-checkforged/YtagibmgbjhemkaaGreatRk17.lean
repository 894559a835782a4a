/- The reference's Check (made by mkref17.py). -/
import Derived.Test.YtagibmgbjhemkaaGreatCm17
import Derived.Test.YtagibmgbjhemkaaGreatRd16
import Derived.Test.YtagibmgbjhemkaaGreatWkRefC
namespace Go.Proofs.YtagibmgbjhemkaaGreat
open Go.RowKit Go.Maps
open W16 (WtV Lies u8v i64v dec decV DecAns decodeR)
end Go.Proofs.YtagibmgbjhemkaaGreat
