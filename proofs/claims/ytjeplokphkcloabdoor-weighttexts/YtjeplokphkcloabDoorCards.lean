/-
  DERIVED. GIVEN WITH THE SEED: THE CARDS: each row of YtjeplokphkcloabDoorRows.lean that lists a variable, with what it lists TIED to the program's text (the seventh form; the later family's looks); each row that meets fmt, with fmt's text TOLD by the authors' own Lean function (tested against real Go, not proved from fmt's source: count such statements apart). THE CARD IS WHAT COUNTS. Prove the row's statement (the work); the ties are given (YtjeplokphkcloabDoorTie.lean); close each card by the builder's one call (the guide's Derived/Test/ToyasCard.lean, 'card_holds'). Laid BY PROGRAM, IN A SANDBOX (cutbox-door.mjs). By AI agents, Wed Nov 11 2026. No macro, syntax, notation, axiom, sorry.
-/
import Derived.Test.YtjeplokphkcloabDoorRows
import GoSem.ClaimSeven
namespace Go.Proofs.YtjeplokphkcloabDoor
namespace Rows

/-- THE TIED CARD OF 'bramblelaw01.WeightTexts'. -/
def weightTextsCard : Claim7 := { stood := { row := weightTextsRow, standIns := [], harness := (true, "bdb8524c804dc690c8cc150c17a6f87c6ae7807f8203da6e8d45ac7c1ccae8f2"), looks := false }, kinds := [], alts := [], laidByText := true, laidKinds := [.data, .data, .data], laidTests := true, laidLooks := .later }
def WeightTextsCardSaid : Prop := Claim7.holds Tryd.pinned (.plain (OpenSpec.ofChange weightTextsSpec)) weightTextsCard

/-- THE SECOND FORM's CARD OF 'bramblelaw01.WeightTexts'. -/
def weightTextsUptoCard : Claim7 := { stood := { row := weightTextsUptoRow, standIns := [], harness := (true, "bdb8524c804dc690c8cc150c17a6f87c6ae7807f8203da6e8d45ac7c1ccae8f2"), looks := false }, kinds := [], alts := [], laidByText := true, laidKinds := [.data, .data, .data], laidTests := true, laidLooks := .later }
def WeightTextsUptoCardSaid : Prop := Claim7.holds Tryd.pinned (.plain (OpenSpec.upto weightTextsSpec)) weightTextsUptoCard
end Rows
end Go.Proofs.YtjeplokphkcloabDoor
