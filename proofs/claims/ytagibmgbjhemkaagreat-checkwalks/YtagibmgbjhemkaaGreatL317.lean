/- CheckAnswers: the walk (made by mkl17.py). -/
import Derived.Test.YtagibmgbjhemkaaGreatEn16
import Derived.Test.YtagibmgbjhemkaaGreatRn16
import Derived.Test.YtagibmgbjhemkaaGreatKC17
namespace Go.Proofs.YtagibmgbjhemkaaGreat

namespace W16
open Go.RowKit Go.Maps

end W16

section
open Go.RowKit Go.Maps
open W16 (WtV Lies u8v i64v dec decV DecAns)
end

end Go.Proofs.YtagibmgbjhemkaaGreat
