/-
  No cell of these rows narrows 'for every input' (looked for: loops, veiled, ifaces, maps, wideKeys, modest, calm, conditions, laid).
  DERIVED. THE GIVEN ROWS OF THIS SEAT. 4 by the template 'for every input the law returns true; each argument reads behind the call as it read before'; 0 by the template 'total and deterministic' (their statements: YtgocbcacfcfblaaGreatTotals.lean).
  GIVEN WITH THE SEED: the statements are not yours to turn. If you find one false, say at which input.
  Laid BY PROGRAM, IN A SANDBOX (cutbox-rows.mjs): the forced cells as the released guide's own fill.sh prints them over the translation 4222f307c72a9294… (all of the seat's roots in one cut). By AI agents, Wed Nov 11 2026. No macro, syntax, notation, axiom, sorry.
-/
import Derived.Test.YtgocbcacfcfblaaGreatChecked
import GoSem.Claim
import GoSem.ClaimJoined
import GoSem.ClaimMapViews
import Derived.JoinedTies
import Derived.KernelRfl
namespace Go.Proofs.YtgocbcacfcfblaaGreat
/- THE CELL 'sum', in the pinned program and in every row, IS THE sha256 OF THE DUMP (.gsa) THAT YtgocbcacfcfblaaGreatProg.lean LOADS. Nothing in Lean hashes anything: it is a label: what it is worth is what the hold of that sum in a sandbox is worth. -/
noncomputable def Tryz.pinned : Pinned := { name := "ytgocbcacfcfblaagreat", sum := "4222f307c72a9294d9021ad2c90c8adba1700cebae6d2278dff156a54518b4c0", checked := Tryz.checked }
namespace Rows
def none {H : Type} : Left H := { results := [], args := [] }

/-- 'bramblelaw08.WalkAnswers': WHATEVER THE INPUT: true; the input reads as it did. -/
def walkAnswersSpec : ChangeSpec := { name := "walkAnswers", fn := fun _ => fun
  | [d1, d2, d3] => { results := [.lit (.bool true)], args := [d1, d2, d3] }
  | _ => none }
def walkAnswersRow : OpenClaim := { program := "ytgocbcacfcfblaagreat", sum := "4222f307c72a9294d9021ad2c90c8adba1700cebae6d2278dff156a54518b4c0", func := "bramble/bramblelaw08.WalkAnswers", spec := "walkAnswers", inPlace := ["math.Float32frombits", "math.Float32bits", "slices.overlaps[int]"], unfollowed := true, recurses := true, apart := false }
def WalkAnswersSaid : Prop := walkAnswersRow.holds Tryz.pinned (OpenSpec.ofChange walkAnswersSpec)

/-- ITS FALSE NEIGHBOUR: 'it returns false'. Refute it at one input. -/
def walkAnswersWrong : ChangeSpec := { name := "walkAnswers", fn := fun _ => fun
  | [d1, d2, d3] => { results := [.lit (.bool false)], args := [d1, d2, d3] }
  | _ => none }
def WalkAnswersWrongFalsely : Prop := walkAnswersRow.holds Tryz.pinned (OpenSpec.ofChange walkAnswersWrong)

/-- 'bramblelaw08.WalkSimple': WHATEVER THE INPUT: true; the input reads as it did. -/
def walkSimpleSpec : ChangeSpec := { name := "walkSimple", fn := fun _ => fun
  | [d1, d2, d3] => { results := [.lit (.bool true)], args := [d1, d2, d3] }
  | _ => none }
def walkSimpleRow : OpenClaim := { program := "ytgocbcacfcfblaagreat", sum := "4222f307c72a9294d9021ad2c90c8adba1700cebae6d2278dff156a54518b4c0", func := "bramble/bramblelaw08.WalkSimple", spec := "walkSimple", inPlace := ["math.Float32frombits", "math.Float32bits", "slices.overlaps[int]"], unfollowed := true, recurses := true, apart := false }
def WalkSimpleSaid : Prop := walkSimpleRow.holds Tryz.pinned (OpenSpec.ofChange walkSimpleSpec)

/-- ITS FALSE NEIGHBOUR: 'it returns false'. Refute it at one input. -/
def walkSimpleWrong : ChangeSpec := { name := "walkSimple", fn := fun _ => fun
  | [d1, d2, d3] => { results := [.lit (.bool false)], args := [d1, d2, d3] }
  | _ => none }
def WalkSimpleWrongFalsely : Prop := walkSimpleRow.holds Tryz.pinned (OpenSpec.ofChange walkSimpleWrong)

/-- 'bramblelaw08.WalkJoins': WHATEVER THE INPUT: true; the input reads as it did. -/
def walkJoinsSpec : ChangeSpec := { name := "walkJoins", fn := fun _ => fun
  | [d1, d2, d3] => { results := [.lit (.bool true)], args := [d1, d2, d3] }
  | _ => none }
def walkJoinsRow : OpenClaim := { program := "ytgocbcacfcfblaagreat", sum := "4222f307c72a9294d9021ad2c90c8adba1700cebae6d2278dff156a54518b4c0", func := "bramble/bramblelaw08.WalkJoins", spec := "walkJoins", inPlace := ["math.Float32frombits", "math.Float32bits", "slices.overlaps[int]"], unfollowed := true, recurses := true, apart := false }
def WalkJoinsSaid : Prop := walkJoinsRow.holds Tryz.pinned (OpenSpec.ofChange walkJoinsSpec)

/-- ITS FALSE NEIGHBOUR: 'it returns false'. Refute it at one input. -/
def walkJoinsWrong : ChangeSpec := { name := "walkJoins", fn := fun _ => fun
  | [d1, d2, d3] => { results := [.lit (.bool false)], args := [d1, d2, d3] }
  | _ => none }
def WalkJoinsWrongFalsely : Prop := walkJoinsRow.holds Tryz.pinned (OpenSpec.ofChange walkJoinsWrong)

/-- 'bramblelaw08.WalkOwn': WHATEVER THE INPUT: true; the input reads as it did. -/
def walkOwnSpec : ChangeSpec := { name := "walkOwn", fn := fun _ => fun
  | [d1, d2, d3] => { results := [.lit (.bool true)], args := [d1, d2, d3] }
  | _ => none }
def walkOwnRow : OpenClaim := { program := "ytgocbcacfcfblaagreat", sum := "4222f307c72a9294d9021ad2c90c8adba1700cebae6d2278dff156a54518b4c0", func := "bramble/bramblelaw08.WalkOwn", spec := "walkOwn", inPlace := ["math.Float32frombits", "math.Float32bits", "slices.overlaps[int]"], unfollowed := true, recurses := true, apart := false }
def WalkOwnSaid : Prop := walkOwnRow.holds Tryz.pinned (OpenSpec.ofChange walkOwnSpec)

/-- ITS FALSE NEIGHBOUR: 'it returns false'. Refute it at one input. -/
def walkOwnWrong : ChangeSpec := { name := "walkOwn", fn := fun _ => fun
  | [d1, d2, d3] => { results := [.lit (.bool false)], args := [d1, d2, d3] }
  | _ => none }
def WalkOwnWrongFalsely : Prop := walkOwnRow.holds Tryz.pinned (OpenSpec.ofChange walkOwnWrong)

/- THE SECOND FORM. 'bulk': how many values and letters a reading holds, each counted each time it is reached (what is shared counts as often as it is met; a slice's spare places count too). A statement '..UptoSaid' is the law's where the arguments, and the package variables that the reading takes, are together of bulk at most 1048576: NARROWER than '..Said'. Prove '..Said' where nothing that the law and all that it calls make is longer than what came in: it says more and counts as full. Else prove '..UptoSaid'. A law counts once. -/
mutual
def uptoBulk {H : Type} : DataW H → Nat
  | .lit (.string bytes) => bytes.length + 1
  | .lit _ => 1
  | .nil => 1
  | .ptr d => uptoBulk d + 1
  | .slice elems spare => uptoBulkAll elems + uptoBulkAll spare + 1
  | .agg parts => uptoBulkAll parts + 1
  | .iface _ d => uptoBulk d + 1
  | .map entries => uptoBulkEntries entries + 1
  | .held _ => 1
def uptoBulkAll {H : Type} : List (DataW H) → Nat
  | [] => 0
  | d :: r => uptoBulk d + uptoBulkAll r
def uptoBulkEntries {H : Type} : List (Lit × DataW H) → Nat
  | [] => 0
  | x :: r => uptoBulkEntry x + uptoBulkEntries r
def uptoBulkEntry {H : Type} : Lit × DataW H → Nat
  | (.string bytes, d) => bytes.length + uptoBulk d + 1
  | (_, d) => uptoBulk d + 1
 end
def uptoSmall : (H : Type) → List (DataW H) → Bool := fun _ ds => decide (uptoBulkAll ds ≤ 1048576)
def OpenSpec.upto (s : _root_.Go.ChangeSpec) : _root_.Go.OpenSpec := { _root_.Go.OpenSpec.ofChange s with cond := some uptoSmall }

/-- 'bramblelaw08.WalkAnswers', WHERE WHAT IT READS IS OF BULK AT MOST 1048576: true; the input reads as it did. -/
def walkAnswersUptoRow : OpenClaim := { program := "ytgocbcacfcfblaagreat", sum := "4222f307c72a9294d9021ad2c90c8adba1700cebae6d2278dff156a54518b4c0", func := "bramble/bramblelaw08.WalkAnswers", spec := "walkAnswers", inPlace := ["math.Float32frombits", "math.Float32bits", "slices.overlaps[int]"], unfollowed := true, recurses := true, apart := false, narrowed := true }
def WalkAnswersUptoSaid : Prop := walkAnswersUptoRow.holds Tryz.pinned (OpenSpec.upto walkAnswersSpec)

/-- 'bramblelaw08.WalkSimple', WHERE WHAT IT READS IS OF BULK AT MOST 1048576: true; the input reads as it did. -/
def walkSimpleUptoRow : OpenClaim := { program := "ytgocbcacfcfblaagreat", sum := "4222f307c72a9294d9021ad2c90c8adba1700cebae6d2278dff156a54518b4c0", func := "bramble/bramblelaw08.WalkSimple", spec := "walkSimple", inPlace := ["math.Float32frombits", "math.Float32bits", "slices.overlaps[int]"], unfollowed := true, recurses := true, apart := false, narrowed := true }
def WalkSimpleUptoSaid : Prop := walkSimpleUptoRow.holds Tryz.pinned (OpenSpec.upto walkSimpleSpec)

/-- 'bramblelaw08.WalkJoins', WHERE WHAT IT READS IS OF BULK AT MOST 1048576: true; the input reads as it did. -/
def walkJoinsUptoRow : OpenClaim := { program := "ytgocbcacfcfblaagreat", sum := "4222f307c72a9294d9021ad2c90c8adba1700cebae6d2278dff156a54518b4c0", func := "bramble/bramblelaw08.WalkJoins", spec := "walkJoins", inPlace := ["math.Float32frombits", "math.Float32bits", "slices.overlaps[int]"], unfollowed := true, recurses := true, apart := false, narrowed := true }
def WalkJoinsUptoSaid : Prop := walkJoinsUptoRow.holds Tryz.pinned (OpenSpec.upto walkJoinsSpec)

/-- 'bramblelaw08.WalkOwn', WHERE WHAT IT READS IS OF BULK AT MOST 1048576: true; the input reads as it did. -/
def walkOwnUptoRow : OpenClaim := { program := "ytgocbcacfcfblaagreat", sum := "4222f307c72a9294d9021ad2c90c8adba1700cebae6d2278dff156a54518b4c0", func := "bramble/bramblelaw08.WalkOwn", spec := "walkOwn", inPlace := ["math.Float32frombits", "math.Float32bits", "slices.overlaps[int]"], unfollowed := true, recurses := true, apart := false, narrowed := true }
def WalkOwnUptoSaid : Prop := walkOwnUptoRow.holds Tryz.pinned (OpenSpec.upto walkOwnSpec)

end Rows
end Go.Proofs.YtgocbcacfcfblaaGreat
