/- Claim. -/
import Derived.Test.YtagibmgbjhemkaaGreatCk17
namespace Go.Proofs.YtagibmgbjhemkaaGreat
open Go.RowKit Go.Maps
open W16 (WtV Lies u8v i64v dec decV DecAns decodeS)
end Go.Proofs.YtagibmgbjhemkaaGreat
