/- What a law's frame wants of the program. -/
import Derived.Test.YtagibmgbjhemkaaGreatBase
import Derived.ProofKit
import Derived.OpenShut
import Derived.SizedLaws
import Derived.Below
import Derived.ChangeOld
namespace Go.Proofs.YtagibmgbjhemkaaGreat
theorem own : ownKnob Tryz.prog.godebug = none := by kernel_rfl
theorem laidOut : laidOutB Tryz.prog = true := by kernel_rfl
end Go.Proofs.YtagibmgbjhemkaaGreat
