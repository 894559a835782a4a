/-
  No cell of these rows narrows 'for every input' (looked for: loops, veiled, ifaces, maps, wideKeys, modest, calm, conditions, laid).
  DERIVED. THE GIVEN ROWS OF THIS SEAT. 5 by the template 'for every input the law returns true; each argument reads behind the call as it read before'; 0 by the template 'total and deterministic' (their statements: YtbmcibofecigeaaGreatTotals.lean).
  GIVEN WITH THE SEED: the statements are not yours to turn. If you find one false, say at which input.
  Laid BY PROGRAM, IN A SANDBOX (cutbox-rows.mjs): the forced cells as the released guide's own fill.sh prints them over the translation 8546a4114ba60514… (all of the seat's roots in one cut). By AI agents, Wed Nov 11 2026. No macro, syntax, notation, axiom, sorry.
-/
import Derived.Test.YtbmcibofecigeaaGreatChecked
import GoSem.Claim
import GoSem.ClaimJoined
import GoSem.ClaimMapViews
import Derived.JoinedTies
import Derived.KernelRfl
namespace Go.Proofs.YtbmcibofecigeaaGreat
/- THE CELL 'sum', in the pinned program and in every row, IS THE sha256 OF THE DUMP (.gsa) THAT YtbmcibofecigeaaGreatProg.lean LOADS. Nothing in Lean hashes anything: it is a label: what it is worth is what the hold of that sum in a sandbox is worth. -/
noncomputable def Tryz.pinned : Pinned := { name := "ytbmcibofecigeaagreat", sum := "8546a4114ba60514693560e0afafd6cc7442ecbdefd7f030e347fe5654bf5f5e", checked := Tryz.checked }
namespace Rows
def none {H : Type} : Left H := { results := [], args := [] }

/-- 'bramblelaw14.LivePlays': WHATEVER THE INPUT: true; the input reads as it did. -/
def livePlaysSpec : ChangeSpec := { name := "livePlays", fn := fun _ => fun
  | [d1, d2] => { results := [.lit (.bool true)], args := [d1, d2] }
  | _ => none }
def livePlaysRow : OpenClaim := { program := "ytbmcibofecigeaagreat", sum := "8546a4114ba60514693560e0afafd6cc7442ecbdefd7f030e347fe5654bf5f5e", func := "bramble/bramblelaw14.LivePlays", spec := "livePlays", inPlace := ["math.Float32frombits", "slices.overlaps[int]", "math.Float32bits"], unfollowed := true, recurses := true, apart := false }
def LivePlaysSaid : Prop := livePlaysRow.holds Tryz.pinned (OpenSpec.ofChange livePlaysSpec)

/-- ITS FALSE NEIGHBOUR: 'it returns false'. Refute it at one input. -/
def livePlaysWrong : ChangeSpec := { name := "livePlays", fn := fun _ => fun
  | [d1, d2] => { results := [.lit (.bool false)], args := [d1, d2] }
  | _ => none }
def LivePlaysWrongFalsely : Prop := livePlaysRow.holds Tryz.pinned (OpenSpec.ofChange livePlaysWrong)

/-- 'bramblelaw14.LiveEach': WHATEVER THE INPUT: true; the input reads as it did. -/
def liveEachSpec : ChangeSpec := { name := "liveEach", fn := fun _ => fun
  | [d1, d2] => { results := [.lit (.bool true)], args := [d1, d2] }
  | _ => none }
def liveEachRow : OpenClaim := { program := "ytbmcibofecigeaagreat", sum := "8546a4114ba60514693560e0afafd6cc7442ecbdefd7f030e347fe5654bf5f5e", func := "bramble/bramblelaw14.LiveEach", spec := "liveEach", inPlace := ["math.Float32frombits", "slices.overlaps[int]", "math.Float32bits"], unfollowed := true, recurses := true, apart := false }
def LiveEachSaid : Prop := liveEachRow.holds Tryz.pinned (OpenSpec.ofChange liveEachSpec)

/-- ITS FALSE NEIGHBOUR: 'it returns false'. Refute it at one input. -/
def liveEachWrong : ChangeSpec := { name := "liveEach", fn := fun _ => fun
  | [d1, d2] => { results := [.lit (.bool false)], args := [d1, d2] }
  | _ => none }
def LiveEachWrongFalsely : Prop := liveEachRow.holds Tryz.pinned (OpenSpec.ofChange liveEachWrong)

/-- 'bramblelaw14.LiveBuilt': WHATEVER THE INPUT: true; the input reads as it did. -/
def liveBuiltSpec : ChangeSpec := { name := "liveBuilt", fn := fun _ => fun
  | [d1, d2] => { results := [.lit (.bool true)], args := [d1, d2] }
  | _ => none }
def liveBuiltRow : OpenClaim := { program := "ytbmcibofecigeaagreat", sum := "8546a4114ba60514693560e0afafd6cc7442ecbdefd7f030e347fe5654bf5f5e", func := "bramble/bramblelaw14.LiveBuilt", spec := "liveBuilt", inPlace := ["math.Float32frombits", "slices.overlaps[int]", "math.Float32bits"], unfollowed := true, recurses := true, apart := false }
def LiveBuiltSaid : Prop := liveBuiltRow.holds Tryz.pinned (OpenSpec.ofChange liveBuiltSpec)

/-- ITS FALSE NEIGHBOUR: 'it returns false'. Refute it at one input. -/
def liveBuiltWrong : ChangeSpec := { name := "liveBuilt", fn := fun _ => fun
  | [d1, d2] => { results := [.lit (.bool false)], args := [d1, d2] }
  | _ => none }
def LiveBuiltWrongFalsely : Prop := liveBuiltRow.holds Tryz.pinned (OpenSpec.ofChange liveBuiltWrong)

/-- 'bramblelaw14.LiveBack': WHATEVER THE INPUT: true; the input reads as it did. -/
def liveBackSpec : ChangeSpec := { name := "liveBack", fn := fun _ => fun
  | [d1, d2, d3] => { results := [.lit (.bool true)], args := [d1, d2, d3] }
  | _ => none }
def liveBackRow : OpenClaim := { program := "ytbmcibofecigeaagreat", sum := "8546a4114ba60514693560e0afafd6cc7442ecbdefd7f030e347fe5654bf5f5e", func := "bramble/bramblelaw14.LiveBack", spec := "liveBack", inPlace := ["math.Float32frombits", "slices.overlaps[int]", "math.Float32bits"], unfollowed := true, recurses := true, apart := false }
def LiveBackSaid : Prop := liveBackRow.holds Tryz.pinned (OpenSpec.ofChange liveBackSpec)

/-- ITS FALSE NEIGHBOUR: 'it returns false'. Refute it at one input. -/
def liveBackWrong : ChangeSpec := { name := "liveBack", fn := fun _ => fun
  | [d1, d2, d3] => { results := [.lit (.bool false)], args := [d1, d2, d3] }
  | _ => none }
def LiveBackWrongFalsely : Prop := liveBackRow.holds Tryz.pinned (OpenSpec.ofChange liveBackWrong)

/-- 'bramblelaw14.LiveOwn': WHATEVER THE INPUT: true; the input reads as it did. -/
def liveOwnSpec : ChangeSpec := { name := "liveOwn", fn := fun _ => fun
  | [d1, d2, d3] => { results := [.lit (.bool true)], args := [d1, d2, d3] }
  | _ => none }
def liveOwnRow : OpenClaim := { program := "ytbmcibofecigeaagreat", sum := "8546a4114ba60514693560e0afafd6cc7442ecbdefd7f030e347fe5654bf5f5e", func := "bramble/bramblelaw14.LiveOwn", spec := "liveOwn", inPlace := ["math.Float32frombits", "slices.overlaps[int]", "math.Float32bits"], unfollowed := true, recurses := true, apart := false }
def LiveOwnSaid : Prop := liveOwnRow.holds Tryz.pinned (OpenSpec.ofChange liveOwnSpec)

/-- ITS FALSE NEIGHBOUR: 'it returns false'. Refute it at one input. -/
def liveOwnWrong : ChangeSpec := { name := "liveOwn", fn := fun _ => fun
  | [d1, d2, d3] => { results := [.lit (.bool false)], args := [d1, d2, d3] }
  | _ => none }
def LiveOwnWrongFalsely : Prop := liveOwnRow.holds Tryz.pinned (OpenSpec.ofChange liveOwnWrong)

/- THE SECOND FORM. 'bulk': how many values and letters a reading holds, each counted each time it is reached (what is shared counts as often as it is met; a slice's spare places count too). A statement '..UptoSaid' is the law's where the arguments, and the package variables that the reading takes, are together of bulk at most 1048576: NARROWER than '..Said'. Prove '..Said' where nothing that the law and all that it calls make is longer than what came in: it says more and counts as full. Else prove '..UptoSaid'. A law counts once. -/
mutual
def uptoBulk {H : Type} : DataW H → Nat
  | .lit (.string bytes) => bytes.length + 1
  | .lit _ => 1
  | .nil => 1
  | .ptr d => uptoBulk d + 1
  | .slice elems spare => uptoBulkAll elems + uptoBulkAll spare + 1
  | .agg parts => uptoBulkAll parts + 1
  | .iface _ d => uptoBulk d + 1
  | .map entries => uptoBulkEntries entries + 1
  | .held _ => 1
def uptoBulkAll {H : Type} : List (DataW H) → Nat
  | [] => 0
  | d :: r => uptoBulk d + uptoBulkAll r
def uptoBulkEntries {H : Type} : List (Lit × DataW H) → Nat
  | [] => 0
  | x :: r => uptoBulkEntry x + uptoBulkEntries r
def uptoBulkEntry {H : Type} : Lit × DataW H → Nat
  | (.string bytes, d) => bytes.length + uptoBulk d + 1
  | (_, d) => uptoBulk d + 1
 end
def uptoSmall : (H : Type) → List (DataW H) → Bool := fun _ ds => decide (uptoBulkAll ds ≤ 1048576)
def OpenSpec.upto (s : _root_.Go.ChangeSpec) : _root_.Go.OpenSpec := { _root_.Go.OpenSpec.ofChange s with cond := some uptoSmall }

/-- 'bramblelaw14.LivePlays', WHERE WHAT IT READS IS OF BULK AT MOST 1048576: true; the input reads as it did. -/
def livePlaysUptoRow : OpenClaim := { program := "ytbmcibofecigeaagreat", sum := "8546a4114ba60514693560e0afafd6cc7442ecbdefd7f030e347fe5654bf5f5e", func := "bramble/bramblelaw14.LivePlays", spec := "livePlays", inPlace := ["math.Float32frombits", "slices.overlaps[int]", "math.Float32bits"], unfollowed := true, recurses := true, apart := false, narrowed := true }
def LivePlaysUptoSaid : Prop := livePlaysUptoRow.holds Tryz.pinned (OpenSpec.upto livePlaysSpec)

/-- 'bramblelaw14.LiveEach', WHERE WHAT IT READS IS OF BULK AT MOST 1048576: true; the input reads as it did. -/
def liveEachUptoRow : OpenClaim := { program := "ytbmcibofecigeaagreat", sum := "8546a4114ba60514693560e0afafd6cc7442ecbdefd7f030e347fe5654bf5f5e", func := "bramble/bramblelaw14.LiveEach", spec := "liveEach", inPlace := ["math.Float32frombits", "slices.overlaps[int]", "math.Float32bits"], unfollowed := true, recurses := true, apart := false, narrowed := true }
def LiveEachUptoSaid : Prop := liveEachUptoRow.holds Tryz.pinned (OpenSpec.upto liveEachSpec)

/-- 'bramblelaw14.LiveBuilt', WHERE WHAT IT READS IS OF BULK AT MOST 1048576: true; the input reads as it did. -/
def liveBuiltUptoRow : OpenClaim := { program := "ytbmcibofecigeaagreat", sum := "8546a4114ba60514693560e0afafd6cc7442ecbdefd7f030e347fe5654bf5f5e", func := "bramble/bramblelaw14.LiveBuilt", spec := "liveBuilt", inPlace := ["math.Float32frombits", "slices.overlaps[int]", "math.Float32bits"], unfollowed := true, recurses := true, apart := false, narrowed := true }
def LiveBuiltUptoSaid : Prop := liveBuiltUptoRow.holds Tryz.pinned (OpenSpec.upto liveBuiltSpec)

/-- 'bramblelaw14.LiveBack', WHERE WHAT IT READS IS OF BULK AT MOST 1048576: true; the input reads as it did. -/
def liveBackUptoRow : OpenClaim := { program := "ytbmcibofecigeaagreat", sum := "8546a4114ba60514693560e0afafd6cc7442ecbdefd7f030e347fe5654bf5f5e", func := "bramble/bramblelaw14.LiveBack", spec := "liveBack", inPlace := ["math.Float32frombits", "slices.overlaps[int]", "math.Float32bits"], unfollowed := true, recurses := true, apart := false, narrowed := true }
def LiveBackUptoSaid : Prop := liveBackUptoRow.holds Tryz.pinned (OpenSpec.upto liveBackSpec)

/-- 'bramblelaw14.LiveOwn', WHERE WHAT IT READS IS OF BULK AT MOST 1048576: true; the input reads as it did. -/
def liveOwnUptoRow : OpenClaim := { program := "ytbmcibofecigeaagreat", sum := "8546a4114ba60514693560e0afafd6cc7442ecbdefd7f030e347fe5654bf5f5e", func := "bramble/bramblelaw14.LiveOwn", spec := "liveOwn", inPlace := ["math.Float32frombits", "slices.overlaps[int]", "math.Float32bits"], unfollowed := true, recurses := true, apart := false, narrowed := true }
def LiveOwnUptoSaid : Prop := liveOwnUptoRow.holds Tryz.pinned (OpenSpec.upto liveOwnSpec)

end Rows
end Go.Proofs.YtbmcibofecigeaaGreat
