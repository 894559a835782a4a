/- What a law's frame wants of the program. -/
import Derived.Test.YtffdpfkcfohbiaaBase
import Derived.ProofKit
import Derived.OpenShut
import Derived.SizedLaws
import Derived.Below
import Derived.ChangeOld
namespace Go.Proofs.Ytffdpfkcfohbiaa
theorem own : ownKnob Try.prog.godebug = none := by kernel_rfl
theorem laidOut : laidOutB Try.prog = true := by kernel_rfl
end Go.Proofs.Ytffdpfkcfohbiaa
