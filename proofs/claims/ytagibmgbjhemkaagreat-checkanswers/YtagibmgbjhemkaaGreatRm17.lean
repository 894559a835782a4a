/- The reference's Claim (made by mkrefc17.py). -/
import Derived.Test.YtagibmgbjhemkaaGreatRk17
namespace Go.Proofs.YtagibmgbjhemkaaGreat
open Go.RowKit Go.Maps
open W16 (WtV Lies u8v i64v dec decV DecAns decodeR)
end Go.Proofs.YtagibmgbjhemkaaGreat
