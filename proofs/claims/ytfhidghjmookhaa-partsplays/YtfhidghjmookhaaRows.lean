/-
  No cell of these rows narrows 'for every input' (looked for: loops, veiled, ifaces, maps, wideKeys, modest, calm, conditions, laid).
  DERIVED. THE GIVEN ROWS OF THIS SEAT. 4 by the template 'for every input the law returns true; each argument reads behind the call as it read before'; 0 by the template 'total and deterministic' (their statements: YtfhidghjmookhaaTotals.lean).
  GIVEN WITH THE SEED: the statements are not yours to turn. If you find one false, say at which input.
  Laid BY PROGRAM, IN A SANDBOX (cutbox-rows.mjs): the forced cells as the released guide's own fill.sh prints them over the translation 229b3ea57b8f3e11… (all of the seat's roots in one cut). By AI agents, Wed Nov 11 2026. No macro, syntax, notation, axiom, sorry.
-/
import Derived.Test.YtfhidghjmookhaaChecked
import GoSem.Claim
import GoSem.ClaimJoined
import GoSem.ClaimMapViews
import Derived.JoinedTies
import Derived.KernelRfl
namespace Go.Proofs.Ytfhidghjmookhaa
/- THE CELL 'sum', in the pinned program and in every row, IS THE sha256 OF THE DUMP (.gsa) THAT YtfhidghjmookhaaProg.lean LOADS. Nothing in Lean hashes anything: it is a label: what it is worth is what the hold of that sum in a sandbox is worth. -/
noncomputable def Try.pinned : Pinned := { name := "ytfhidghjmookhaa", sum := "229b3ea57b8f3e11345985a54476ea5adf031b49e987c344356d4ff9e614564f", checked := Try.checked }
namespace Rows
def none {H : Type} : Left H := { results := [], args := [] }

/-- 'bramblelaw05.PartsPlays': WHATEVER THE INPUT: true; the input reads as it did. -/
def partsPlaysSpec : ChangeSpec := { name := "partsPlays", fn := fun _ => fun
  | [d] => { results := [.lit (.bool true)], args := [d] }
  | _ => none }
def partsPlaysRow : OpenClaim := { program := "ytfhidghjmookhaa", sum := "229b3ea57b8f3e11345985a54476ea5adf031b49e987c344356d4ff9e614564f", func := "bramble/bramblelaw05.PartsPlays", spec := "partsPlays", recurses := true, apart := false }
def PartsPlaysSaid : Prop := partsPlaysRow.holds Try.pinned (OpenSpec.ofChange partsPlaysSpec)

/-- ITS FALSE NEIGHBOUR: 'it returns false'. Refute it at one input. -/
def partsPlaysWrong : ChangeSpec := { name := "partsPlays", fn := fun _ => fun
  | [d] => { results := [.lit (.bool false)], args := [d] }
  | _ => none }
def PartsPlaysWrongFalsely : Prop := partsPlaysRow.holds Try.pinned (OpenSpec.ofChange partsPlaysWrong)

/-- 'bramblelaw05.PartsFall': WHATEVER THE INPUT: true; the input reads as it did. -/
def partsFallSpec : ChangeSpec := { name := "partsFall", fn := fun _ => fun
  | [d] => { results := [.lit (.bool true)], args := [d] }
  | _ => none }
def partsFallRow : OpenClaim := { program := "ytfhidghjmookhaa", sum := "229b3ea57b8f3e11345985a54476ea5adf031b49e987c344356d4ff9e614564f", func := "bramble/bramblelaw05.PartsFall", spec := "partsFall", recurses := true, apart := false }
def PartsFallSaid : Prop := partsFallRow.holds Try.pinned (OpenSpec.ofChange partsFallSpec)

/-- ITS FALSE NEIGHBOUR: 'it returns false'. Refute it at one input. -/
def partsFallWrong : ChangeSpec := { name := "partsFall", fn := fun _ => fun
  | [d] => { results := [.lit (.bool false)], args := [d] }
  | _ => none }
def PartsFallWrongFalsely : Prop := partsFallRow.holds Try.pinned (OpenSpec.ofChange partsFallWrong)

/-- 'bramblelaw05.PartsJoins': WHATEVER THE INPUT: true; the input reads as it did. -/
def partsJoinsSpec : ChangeSpec := { name := "partsJoins", fn := fun _ => fun
  | [d1, d2, d3] => { results := [.lit (.bool true)], args := [d1, d2, d3] }
  | _ => none }
def partsJoinsRow : OpenClaim := { program := "ytfhidghjmookhaa", sum := "229b3ea57b8f3e11345985a54476ea5adf031b49e987c344356d4ff9e614564f", func := "bramble/bramblelaw05.PartsJoins", spec := "partsJoins", recurses := true, apart := false }
def PartsJoinsSaid : Prop := partsJoinsRow.holds Try.pinned (OpenSpec.ofChange partsJoinsSpec)

/-- ITS FALSE NEIGHBOUR: 'it returns false'. Refute it at one input. -/
def partsJoinsWrong : ChangeSpec := { name := "partsJoins", fn := fun _ => fun
  | [d1, d2, d3] => { results := [.lit (.bool false)], args := [d1, d2, d3] }
  | _ => none }
def PartsJoinsWrongFalsely : Prop := partsJoinsRow.holds Try.pinned (OpenSpec.ofChange partsJoinsWrong)

/-- 'bramblelaw05.PartsOwn': WHATEVER THE INPUT: true; the input reads as it did. -/
def partsOwnSpec : ChangeSpec := { name := "partsOwn", fn := fun _ => fun
  | [d1, d2] => { results := [.lit (.bool true)], args := [d1, d2] }
  | _ => none }
def partsOwnRow : OpenClaim := { program := "ytfhidghjmookhaa", sum := "229b3ea57b8f3e11345985a54476ea5adf031b49e987c344356d4ff9e614564f", func := "bramble/bramblelaw05.PartsOwn", spec := "partsOwn", recurses := true, apart := false }
def PartsOwnSaid : Prop := partsOwnRow.holds Try.pinned (OpenSpec.ofChange partsOwnSpec)

/-- ITS FALSE NEIGHBOUR: 'it returns false'. Refute it at one input. -/
def partsOwnWrong : ChangeSpec := { name := "partsOwn", fn := fun _ => fun
  | [d1, d2] => { results := [.lit (.bool false)], args := [d1, d2] }
  | _ => none }
def PartsOwnWrongFalsely : Prop := partsOwnRow.holds Try.pinned (OpenSpec.ofChange partsOwnWrong)

/- THE SECOND FORM. 'bulk': how many values and letters a reading holds, each counted each time it is reached (what is shared counts as often as it is met; a slice's spare places count too). A statement '..UptoSaid' is the law's where the arguments, and the package variables that the reading takes, are together of bulk at most 1048576: NARROWER than '..Said'. Prove '..Said' where nothing that the law and all that it calls make is longer than what came in: it says more and counts as full. Else prove '..UptoSaid'. A law counts once. -/
mutual
def uptoBulk {H : Type} : DataW H → Nat
  | .lit (.string bytes) => bytes.length + 1
  | .lit _ => 1
  | .nil => 1
  | .ptr d => uptoBulk d + 1
  | .slice elems spare => uptoBulkAll elems + uptoBulkAll spare + 1
  | .agg parts => uptoBulkAll parts + 1
  | .iface _ d => uptoBulk d + 1
  | .map entries => uptoBulkEntries entries + 1
  | .held _ => 1
def uptoBulkAll {H : Type} : List (DataW H) → Nat
  | [] => 0
  | d :: r => uptoBulk d + uptoBulkAll r
def uptoBulkEntries {H : Type} : List (Lit × DataW H) → Nat
  | [] => 0
  | x :: r => uptoBulkEntry x + uptoBulkEntries r
def uptoBulkEntry {H : Type} : Lit × DataW H → Nat
  | (.string bytes, d) => bytes.length + uptoBulk d + 1
  | (_, d) => uptoBulk d + 1
 end
def uptoSmall : (H : Type) → List (DataW H) → Bool := fun _ ds => decide (uptoBulkAll ds ≤ 1048576)
def OpenSpec.upto (s : _root_.Go.ChangeSpec) : _root_.Go.OpenSpec := { _root_.Go.OpenSpec.ofChange s with cond := some uptoSmall }

/-- 'bramblelaw05.PartsPlays', WHERE WHAT IT READS IS OF BULK AT MOST 1048576: true; the input reads as it did. -/
def partsPlaysUptoRow : OpenClaim := { program := "ytfhidghjmookhaa", sum := "229b3ea57b8f3e11345985a54476ea5adf031b49e987c344356d4ff9e614564f", func := "bramble/bramblelaw05.PartsPlays", spec := "partsPlays", recurses := true, apart := false, narrowed := true }
def PartsPlaysUptoSaid : Prop := partsPlaysUptoRow.holds Try.pinned (OpenSpec.upto partsPlaysSpec)

/-- 'bramblelaw05.PartsFall', WHERE WHAT IT READS IS OF BULK AT MOST 1048576: true; the input reads as it did. -/
def partsFallUptoRow : OpenClaim := { program := "ytfhidghjmookhaa", sum := "229b3ea57b8f3e11345985a54476ea5adf031b49e987c344356d4ff9e614564f", func := "bramble/bramblelaw05.PartsFall", spec := "partsFall", recurses := true, apart := false, narrowed := true }
def PartsFallUptoSaid : Prop := partsFallUptoRow.holds Try.pinned (OpenSpec.upto partsFallSpec)

/-- 'bramblelaw05.PartsJoins', WHERE WHAT IT READS IS OF BULK AT MOST 1048576: true; the input reads as it did. -/
def partsJoinsUptoRow : OpenClaim := { program := "ytfhidghjmookhaa", sum := "229b3ea57b8f3e11345985a54476ea5adf031b49e987c344356d4ff9e614564f", func := "bramble/bramblelaw05.PartsJoins", spec := "partsJoins", recurses := true, apart := false, narrowed := true }
def PartsJoinsUptoSaid : Prop := partsJoinsUptoRow.holds Try.pinned (OpenSpec.upto partsJoinsSpec)

/-- 'bramblelaw05.PartsOwn', WHERE WHAT IT READS IS OF BULK AT MOST 1048576: true; the input reads as it did. -/
def partsOwnUptoRow : OpenClaim := { program := "ytfhidghjmookhaa", sum := "229b3ea57b8f3e11345985a54476ea5adf031b49e987c344356d4ff9e614564f", func := "bramble/bramblelaw05.PartsOwn", spec := "partsOwn", recurses := true, apart := false, narrowed := true }
def PartsOwnUptoSaid : Prop := partsOwnUptoRow.holds Try.pinned (OpenSpec.upto partsOwnSpec)

end Rows
end Go.Proofs.Ytfhidghjmookhaa
