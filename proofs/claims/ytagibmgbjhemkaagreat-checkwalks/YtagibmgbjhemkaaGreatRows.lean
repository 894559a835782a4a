/-
  No cell of these rows narrows 'for every input' (looked for: loops, veiled, ifaces, maps, wideKeys, modest, calm, conditions, laid).
  DERIVED. THE GIVEN ROWS OF THIS SEAT. 5 by the template 'for every input the law returns true; each argument reads behind the call as it read before'; 0 by the template 'total and deterministic' (their statements: YtagibmgbjhemkaaGreatTotals.lean).
  GIVEN WITH THE SEED: the statements are not yours to turn. If you find one false, say at which input.
  Laid BY PROGRAM, IN A SANDBOX (cutbox-rows.mjs): the forced cells as the released guide's own fill.sh prints them over the translation 6785e19f8c4bd270… (all of the seat's roots in one cut). By AI agents, Wed Nov 11 2026. No macro, syntax, notation, axiom, sorry.
-/
import Derived.Test.YtagibmgbjhemkaaGreatChecked
import GoSem.Claim
import GoSem.ClaimJoined
import GoSem.ClaimMapViews
import Derived.JoinedTies
import Derived.KernelRfl
namespace Go.Proofs.YtagibmgbjhemkaaGreat
/- THE CELL 'sum', in the pinned program and in every row, IS THE sha256 OF THE DUMP (.gsa) THAT YtagibmgbjhemkaaGreatProg.lean LOADS. Nothing in Lean hashes anything: it is a label: what it is worth is what the hold of that sum in a sandbox is worth. -/
noncomputable def Tryz.pinned : Pinned := { name := "ytagibmgbjhemkaagreat", sum := "6785e19f8c4bd2703a6eb57e443bbfb1b09139833d1191cf7368683e5a397075", checked := Tryz.checked }
namespace Rows
def none {H : Type} : Left H := { results := [], args := [] }

/-- 'bramblelaw17.CheckAnswers': WHATEVER THE INPUT: true; the input reads as it did. -/
def checkAnswersSpec : ChangeSpec := { name := "checkAnswers", fn := fun _ => fun
  | [d1, d2] => { results := [.lit (.bool true)], args := [d1, d2] }
  | _ => none }
def checkAnswersRow : OpenClaim := { program := "ytagibmgbjhemkaagreat", sum := "6785e19f8c4bd2703a6eb57e443bbfb1b09139833d1191cf7368683e5a397075", func := "bramble/bramblelaw17.CheckAnswers", spec := "checkAnswers", inPlace := ["math.Float32frombits", "math.Float32bits", "slices.overlaps[int]"], unfollowed := true, recurses := true, apart := false }
def CheckAnswersSaid : Prop := checkAnswersRow.holds Tryz.pinned (OpenSpec.ofChange checkAnswersSpec)

/-- ITS FALSE NEIGHBOUR: 'it returns false'. Refute it at one input. -/
def checkAnswersWrong : ChangeSpec := { name := "checkAnswers", fn := fun _ => fun
  | [d1, d2] => { results := [.lit (.bool false)], args := [d1, d2] }
  | _ => none }
def CheckAnswersWrongFalsely : Prop := checkAnswersRow.holds Tryz.pinned (OpenSpec.ofChange checkAnswersWrong)

/-- 'bramblelaw17.CheckClaims': WHATEVER THE INPUT: true; the input reads as it did. -/
def checkClaimsSpec : ChangeSpec := { name := "checkClaims", fn := fun _ => fun
  | [d1, d2, d3] => { results := [.lit (.bool true)], args := [d1, d2, d3] }
  | _ => none }
def checkClaimsRow : OpenClaim := { program := "ytagibmgbjhemkaagreat", sum := "6785e19f8c4bd2703a6eb57e443bbfb1b09139833d1191cf7368683e5a397075", func := "bramble/bramblelaw17.CheckClaims", spec := "checkClaims", inPlace := ["math.Float32frombits", "math.Float32bits", "slices.overlaps[int]"], unfollowed := true, recurses := true, apart := false }
def CheckClaimsSaid : Prop := checkClaimsRow.holds Tryz.pinned (OpenSpec.ofChange checkClaimsSpec)

/-- ITS FALSE NEIGHBOUR: 'it returns false'. Refute it at one input. -/
def checkClaimsWrong : ChangeSpec := { name := "checkClaims", fn := fun _ => fun
  | [d1, d2, d3] => { results := [.lit (.bool false)], args := [d1, d2, d3] }
  | _ => none }
def CheckClaimsWrongFalsely : Prop := checkClaimsRow.holds Tryz.pinned (OpenSpec.ofChange checkClaimsWrong)

/-- 'bramblelaw17.CheckWalks': WHATEVER THE INPUT: true; the input reads as it did. -/
def checkWalksSpec : ChangeSpec := { name := "checkWalks", fn := fun _ => fun
  | [d1, d2, d3] => { results := [.lit (.bool true)], args := [d1, d2, d3] }
  | _ => none }
def checkWalksRow : OpenClaim := { program := "ytagibmgbjhemkaagreat", sum := "6785e19f8c4bd2703a6eb57e443bbfb1b09139833d1191cf7368683e5a397075", func := "bramble/bramblelaw17.CheckWalks", spec := "checkWalks", inPlace := ["math.Float32frombits", "math.Float32bits", "slices.overlaps[int]"], unfollowed := true, recurses := true, apart := false }
def CheckWalksSaid : Prop := checkWalksRow.holds Tryz.pinned (OpenSpec.ofChange checkWalksSpec)

/-- ITS FALSE NEIGHBOUR: 'it returns false'. Refute it at one input. -/
def checkWalksWrong : ChangeSpec := { name := "checkWalks", fn := fun _ => fun
  | [d1, d2, d3] => { results := [.lit (.bool false)], args := [d1, d2, d3] }
  | _ => none }
def CheckWalksWrongFalsely : Prop := checkWalksRow.holds Tryz.pinned (OpenSpec.ofChange checkWalksWrong)

/-- 'bramblelaw17.CheckForged': WHATEVER THE INPUT: true; the input reads as it did. -/
def checkForgedSpec : ChangeSpec := { name := "checkForged", fn := fun _ => fun
  | [d1, d2] => { results := [.lit (.bool true)], args := [d1, d2] }
  | _ => none }
def checkForgedRow : OpenClaim := { program := "ytagibmgbjhemkaagreat", sum := "6785e19f8c4bd2703a6eb57e443bbfb1b09139833d1191cf7368683e5a397075", func := "bramble/bramblelaw17.CheckForged", spec := "checkForged", inPlace := ["math.Float32frombits", "math.Float32bits", "slices.overlaps[int]"], unfollowed := true, recurses := true, apart := false }
def CheckForgedSaid : Prop := checkForgedRow.holds Tryz.pinned (OpenSpec.ofChange checkForgedSpec)

/-- ITS FALSE NEIGHBOUR: 'it returns false'. Refute it at one input. -/
def checkForgedWrong : ChangeSpec := { name := "checkForged", fn := fun _ => fun
  | [d1, d2] => { results := [.lit (.bool false)], args := [d1, d2] }
  | _ => none }
def CheckForgedWrongFalsely : Prop := checkForgedRow.holds Tryz.pinned (OpenSpec.ofChange checkForgedWrong)

/-- 'bramblelaw17.CheckOwn': WHATEVER THE INPUT: true; the input reads as it did. -/
def checkOwnSpec : ChangeSpec := { name := "checkOwn", fn := fun _ => fun
  | [d1, d2] => { results := [.lit (.bool true)], args := [d1, d2] }
  | _ => none }
def checkOwnRow : OpenClaim := { program := "ytagibmgbjhemkaagreat", sum := "6785e19f8c4bd2703a6eb57e443bbfb1b09139833d1191cf7368683e5a397075", func := "bramble/bramblelaw17.CheckOwn", spec := "checkOwn", inPlace := ["math.Float32frombits", "math.Float32bits", "slices.overlaps[int]"], unfollowed := true, recurses := true, apart := false }
def CheckOwnSaid : Prop := checkOwnRow.holds Tryz.pinned (OpenSpec.ofChange checkOwnSpec)

/-- ITS FALSE NEIGHBOUR: 'it returns false'. Refute it at one input. -/
def checkOwnWrong : ChangeSpec := { name := "checkOwn", fn := fun _ => fun
  | [d1, d2] => { results := [.lit (.bool false)], args := [d1, d2] }
  | _ => none }
def CheckOwnWrongFalsely : Prop := checkOwnRow.holds Tryz.pinned (OpenSpec.ofChange checkOwnWrong)

/- THE SECOND FORM. 'bulk': how many values and letters a reading holds, each counted each time it is reached (what is shared counts as often as it is met; a slice's spare places count too). A statement '..UptoSaid' is the law's where the arguments, and the package variables that the reading takes, are together of bulk at most 1048576: NARROWER than '..Said'. Prove '..Said' where nothing that the law and all that it calls make is longer than what came in: it says more and counts as full. Else prove '..UptoSaid'. A law counts once. -/
mutual
def uptoBulk {H : Type} : DataW H → Nat
  | .lit (.string bytes) => bytes.length + 1
  | .lit _ => 1
  | .nil => 1
  | .ptr d => uptoBulk d + 1
  | .slice elems spare => uptoBulkAll elems + uptoBulkAll spare + 1
  | .agg parts => uptoBulkAll parts + 1
  | .iface _ d => uptoBulk d + 1
  | .map entries => uptoBulkEntries entries + 1
  | .held _ => 1
def uptoBulkAll {H : Type} : List (DataW H) → Nat
  | [] => 0
  | d :: r => uptoBulk d + uptoBulkAll r
def uptoBulkEntries {H : Type} : List (Lit × DataW H) → Nat
  | [] => 0
  | x :: r => uptoBulkEntry x + uptoBulkEntries r
def uptoBulkEntry {H : Type} : Lit × DataW H → Nat
  | (.string bytes, d) => bytes.length + uptoBulk d + 1
  | (_, d) => uptoBulk d + 1
 end
def uptoSmall : (H : Type) → List (DataW H) → Bool := fun _ ds => decide (uptoBulkAll ds ≤ 1048576)
def OpenSpec.upto (s : _root_.Go.ChangeSpec) : _root_.Go.OpenSpec := { _root_.Go.OpenSpec.ofChange s with cond := some uptoSmall }

/-- 'bramblelaw17.CheckAnswers', WHERE WHAT IT READS IS OF BULK AT MOST 1048576: true; the input reads as it did. -/
def checkAnswersUptoRow : OpenClaim := { program := "ytagibmgbjhemkaagreat", sum := "6785e19f8c4bd2703a6eb57e443bbfb1b09139833d1191cf7368683e5a397075", func := "bramble/bramblelaw17.CheckAnswers", spec := "checkAnswers", inPlace := ["math.Float32frombits", "math.Float32bits", "slices.overlaps[int]"], unfollowed := true, recurses := true, apart := false, narrowed := true }
def CheckAnswersUptoSaid : Prop := checkAnswersUptoRow.holds Tryz.pinned (OpenSpec.upto checkAnswersSpec)

/-- 'bramblelaw17.CheckClaims', WHERE WHAT IT READS IS OF BULK AT MOST 1048576: true; the input reads as it did. -/
def checkClaimsUptoRow : OpenClaim := { program := "ytagibmgbjhemkaagreat", sum := "6785e19f8c4bd2703a6eb57e443bbfb1b09139833d1191cf7368683e5a397075", func := "bramble/bramblelaw17.CheckClaims", spec := "checkClaims", inPlace := ["math.Float32frombits", "math.Float32bits", "slices.overlaps[int]"], unfollowed := true, recurses := true, apart := false, narrowed := true }
def CheckClaimsUptoSaid : Prop := checkClaimsUptoRow.holds Tryz.pinned (OpenSpec.upto checkClaimsSpec)

/-- 'bramblelaw17.CheckWalks', WHERE WHAT IT READS IS OF BULK AT MOST 1048576: true; the input reads as it did. -/
def checkWalksUptoRow : OpenClaim := { program := "ytagibmgbjhemkaagreat", sum := "6785e19f8c4bd2703a6eb57e443bbfb1b09139833d1191cf7368683e5a397075", func := "bramble/bramblelaw17.CheckWalks", spec := "checkWalks", inPlace := ["math.Float32frombits", "math.Float32bits", "slices.overlaps[int]"], unfollowed := true, recurses := true, apart := false, narrowed := true }
def CheckWalksUptoSaid : Prop := checkWalksUptoRow.holds Tryz.pinned (OpenSpec.upto checkWalksSpec)

/-- 'bramblelaw17.CheckForged', WHERE WHAT IT READS IS OF BULK AT MOST 1048576: true; the input reads as it did. -/
def checkForgedUptoRow : OpenClaim := { program := "ytagibmgbjhemkaagreat", sum := "6785e19f8c4bd2703a6eb57e443bbfb1b09139833d1191cf7368683e5a397075", func := "bramble/bramblelaw17.CheckForged", spec := "checkForged", inPlace := ["math.Float32frombits", "math.Float32bits", "slices.overlaps[int]"], unfollowed := true, recurses := true, apart := false, narrowed := true }
def CheckForgedUptoSaid : Prop := checkForgedUptoRow.holds Tryz.pinned (OpenSpec.upto checkForgedSpec)

/-- 'bramblelaw17.CheckOwn', WHERE WHAT IT READS IS OF BULK AT MOST 1048576: true; the input reads as it did. -/
def checkOwnUptoRow : OpenClaim := { program := "ytagibmgbjhemkaagreat", sum := "6785e19f8c4bd2703a6eb57e443bbfb1b09139833d1191cf7368683e5a397075", func := "bramble/bramblelaw17.CheckOwn", spec := "checkOwn", inPlace := ["math.Float32frombits", "math.Float32bits", "slices.overlaps[int]"], unfollowed := true, recurses := true, apart := false, narrowed := true }
def CheckOwnUptoSaid : Prop := checkOwnUptoRow.holds Tryz.pinned (OpenSpec.upto checkOwnSpec)

end Rows
end Go.Proofs.YtagibmgbjhemkaaGreat
