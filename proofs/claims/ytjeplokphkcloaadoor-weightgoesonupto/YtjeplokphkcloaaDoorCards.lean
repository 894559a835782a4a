/-
  DERIVED. GIVEN WITH THE SEED: THE CARDS: each row of YtjeplokphkcloaaDoorRows.lean that lists a variable, with what it lists TIED to the program's text (the seventh form; the later family's looks); each row that meets fmt, with fmt's text TOLD by the authors' own Lean function (tested against real Go, not proved from fmt's source: count such statements apart). THE CARD IS WHAT COUNTS. Prove the row's statement (the work); the ties are given (YtjeplokphkcloaaDoorTie.lean); close each card by the builder's one call (the guide's Derived/Test/ToyasCard.lean, 'card_holds'). Laid BY PROGRAM, IN A SANDBOX (cutbox-door.mjs). By AI agents, Wed Nov 11 2026. No macro, syntax, notation, axiom, sorry.
-/
import Derived.Test.YtjeplokphkcloaaDoorRows
import GoSem.ClaimSeven
namespace Go.Proofs.YtjeplokphkcloaaDoor
namespace Rows

/-- THE TIED CARD OF 'bramblelaw01.WeightAdmits'. -/
def weightAdmitsCard : Claim7 := { stood := { row := weightAdmitsRow, standIns := [], harness := (true, "a58133b7573b5904c59cba6a550ffc8fa48a621d60d6db7b8dad07ac5f60311a"), looks := false }, kinds := [], alts := [], laidByText := true, laidKinds := [.data, .data, .data], laidTests := true, laidLooks := .later }
def WeightAdmitsCardSaid : Prop := Claim7.holds Tryd.pinned (.plain (OpenSpec.ofChange weightAdmitsSpec)) weightAdmitsCard

/-- THE TIED CARD OF 'bramblelaw01.WeightAdds'. -/
def weightAddsCard : Claim7 := { stood := { row := weightAddsRow, standIns := [], harness := (true, "a58133b7573b5904c59cba6a550ffc8fa48a621d60d6db7b8dad07ac5f60311a"), looks := false }, kinds := [], alts := [], laidByText := true, laidKinds := [.data, .data, .data], laidTests := true, laidLooks := .later }
def WeightAddsCardSaid : Prop := Claim7.holds Tryd.pinned (.plain (OpenSpec.ofChange weightAddsSpec)) weightAddsCard

/-- THE TIED CARD OF 'bramblelaw01.WeightFolds'. -/
def weightFoldsCard : Claim7 := { stood := { row := weightFoldsRow, standIns := [], harness := (true, "a58133b7573b5904c59cba6a550ffc8fa48a621d60d6db7b8dad07ac5f60311a"), looks := false }, kinds := [], alts := [], laidByText := true, laidKinds := [.data, .data, .data], laidTests := true, laidLooks := .later }
def WeightFoldsCardSaid : Prop := Claim7.holds Tryd.pinned (.plain (OpenSpec.ofChange weightFoldsSpec)) weightFoldsCard

/-- THE TIED CARD OF 'bramblelaw01.WeightOrder'. -/
def weightOrderCard : Claim7 := { stood := { row := weightOrderRow, standIns := [], harness := (true, "a58133b7573b5904c59cba6a550ffc8fa48a621d60d6db7b8dad07ac5f60311a"), looks := false }, kinds := [], alts := [], laidByText := true, laidKinds := [.data, .data, .data], laidTests := true, laidLooks := .later }
def WeightOrderCardSaid : Prop := Claim7.holds Tryd.pinned (.plain (OpenSpec.ofChange weightOrderSpec)) weightOrderCard

/-- THE TIED CARD OF 'bramblelaw01.WeightRises'. -/
def weightRisesCard : Claim7 := { stood := { row := weightRisesRow, standIns := [], harness := (true, "a58133b7573b5904c59cba6a550ffc8fa48a621d60d6db7b8dad07ac5f60311a"), looks := false }, kinds := [], alts := [], laidByText := true, laidKinds := [.data, .data, .data], laidTests := true, laidLooks := .later }
def WeightRisesCardSaid : Prop := Claim7.holds Tryd.pinned (.plain (OpenSpec.ofChange weightRisesSpec)) weightRisesCard

/-- THE TIED CARD OF 'bramblelaw01.WeightGoesOn'. -/
def weightGoesOnCard : Claim7 := { stood := { row := weightGoesOnRow, standIns := [], harness := (true, "a58133b7573b5904c59cba6a550ffc8fa48a621d60d6db7b8dad07ac5f60311a"), looks := false }, kinds := [], alts := [], laidByText := true, laidKinds := [.data, .data, .data], laidTests := true, laidLooks := .later }
def WeightGoesOnCardSaid : Prop := Claim7.holds Tryd.pinned (.plain (OpenSpec.ofChange weightGoesOnSpec)) weightGoesOnCard

/-- THE SECOND FORM's CARD OF 'bramblelaw01.WeightAdmits'. -/
def weightAdmitsUptoCard : Claim7 := { stood := { row := weightAdmitsUptoRow, standIns := [], harness := (true, "a58133b7573b5904c59cba6a550ffc8fa48a621d60d6db7b8dad07ac5f60311a"), looks := false }, kinds := [], alts := [], laidByText := true, laidKinds := [.data, .data, .data], laidTests := true, laidLooks := .later }
def WeightAdmitsUptoCardSaid : Prop := Claim7.holds Tryd.pinned (.plain (OpenSpec.upto weightAdmitsSpec)) weightAdmitsUptoCard

/-- THE SECOND FORM's CARD OF 'bramblelaw01.WeightAdds'. -/
def weightAddsUptoCard : Claim7 := { stood := { row := weightAddsUptoRow, standIns := [], harness := (true, "a58133b7573b5904c59cba6a550ffc8fa48a621d60d6db7b8dad07ac5f60311a"), looks := false }, kinds := [], alts := [], laidByText := true, laidKinds := [.data, .data, .data], laidTests := true, laidLooks := .later }
def WeightAddsUptoCardSaid : Prop := Claim7.holds Tryd.pinned (.plain (OpenSpec.upto weightAddsSpec)) weightAddsUptoCard

/-- THE SECOND FORM's CARD OF 'bramblelaw01.WeightFolds'. -/
def weightFoldsUptoCard : Claim7 := { stood := { row := weightFoldsUptoRow, standIns := [], harness := (true, "a58133b7573b5904c59cba6a550ffc8fa48a621d60d6db7b8dad07ac5f60311a"), looks := false }, kinds := [], alts := [], laidByText := true, laidKinds := [.data, .data, .data], laidTests := true, laidLooks := .later }
def WeightFoldsUptoCardSaid : Prop := Claim7.holds Tryd.pinned (.plain (OpenSpec.upto weightFoldsSpec)) weightFoldsUptoCard

/-- THE SECOND FORM's CARD OF 'bramblelaw01.WeightOrder'. -/
def weightOrderUptoCard : Claim7 := { stood := { row := weightOrderUptoRow, standIns := [], harness := (true, "a58133b7573b5904c59cba6a550ffc8fa48a621d60d6db7b8dad07ac5f60311a"), looks := false }, kinds := [], alts := [], laidByText := true, laidKinds := [.data, .data, .data], laidTests := true, laidLooks := .later }
def WeightOrderUptoCardSaid : Prop := Claim7.holds Tryd.pinned (.plain (OpenSpec.upto weightOrderSpec)) weightOrderUptoCard

/-- THE SECOND FORM's CARD OF 'bramblelaw01.WeightRises'. -/
def weightRisesUptoCard : Claim7 := { stood := { row := weightRisesUptoRow, standIns := [], harness := (true, "a58133b7573b5904c59cba6a550ffc8fa48a621d60d6db7b8dad07ac5f60311a"), looks := false }, kinds := [], alts := [], laidByText := true, laidKinds := [.data, .data, .data], laidTests := true, laidLooks := .later }
def WeightRisesUptoCardSaid : Prop := Claim7.holds Tryd.pinned (.plain (OpenSpec.upto weightRisesSpec)) weightRisesUptoCard

/-- THE SECOND FORM's CARD OF 'bramblelaw01.WeightGoesOn'. -/
def weightGoesOnUptoCard : Claim7 := { stood := { row := weightGoesOnUptoRow, standIns := [], harness := (true, "a58133b7573b5904c59cba6a550ffc8fa48a621d60d6db7b8dad07ac5f60311a"), looks := false }, kinds := [], alts := [], laidByText := true, laidKinds := [.data, .data, .data], laidTests := true, laidLooks := .later }
def WeightGoesOnUptoCardSaid : Prop := Claim7.holds Tryd.pinned (.plain (OpenSpec.upto weightGoesOnSpec)) weightGoesOnUptoCard
end Rows
end Go.Proofs.YtjeplokphkcloaaDoor
