/-
  DERIVED. GIVEN WITH THE SEED: THE CARDS: each row of YtdlebaiamdbneaaGreatDoorRows.lean that lists a variable, with what it lists TIED to the program's text (the seventh form; the later family's looks); each row that meets fmt, with fmt's text TOLD by the authors' own Lean function (tested against real Go, not proved from fmt's source: count such statements apart). THE CARD IS WHAT COUNTS. Prove the row's statement (the work); the ties are given (YtdlebaiamdbneaaGreatDoorTie.lean); close each card by the builder's one call (the guide's Derived/Test/ToyasCard.lean, 'card_holds'). Laid BY PROGRAM, IN A SANDBOX (cutbox-door.mjs). By AI agents, Wed Nov 11 2026. No macro, syntax, notation, axiom, sorry.
-/
import Derived.Test.YtdlebaiamdbneaaGreatDoorRows
import GoSem.ClaimSeven
namespace Go.Proofs.YtdlebaiamdbneaaGreatDoor
namespace Rows

/-- THE TIED CARD OF 'queuelablaw08.MeaningStates'. -/
def meaningStatesCard : Claim7 := { stood := { row := meaningStatesRow, standIns := [], harness := (true, "7fb77568891a4b26e5a686bca2874251047d1f750d38b6d4c4dc25401d00e13b"), looks := true }, kinds := [], alts := [], laidByText := true, laidKinds := [.data, .data, .data, .sentinel, .sentinel, .data, .wider, .data, .data, .data, .data], laidTests := true, laidLooks := .later }
def MeaningStatesCardSaid : Prop := Claim7.holds Tryz.pinned (.plain (OpenSpec.ofChange meaningStatesSpec)) meaningStatesCard

/-- THE TIED CARD OF 'queuelablaw08.MeaningParts'. -/
def meaningPartsCard : Claim7 := { stood := { row := meaningPartsRow, standIns := [], harness := (true, "7fb77568891a4b26e5a686bca2874251047d1f750d38b6d4c4dc25401d00e13b"), looks := true }, kinds := [], alts := [], laidByText := true, laidKinds := [.data, .data, .data, .sentinel, .sentinel, .data, .wider, .data, .data, .data, .data], laidTests := true, laidLooks := .later }
def MeaningPartsCardSaid : Prop := Claim7.holds Tryz.pinned (.plain (OpenSpec.ofChange meaningPartsSpec)) meaningPartsCard

/-- THE TIED CARD OF 'queuelablaw08.MeaningRest'. -/
def meaningRestCard : Claim7 := { stood := { row := meaningRestRow, standIns := [], harness := (true, "7fb77568891a4b26e5a686bca2874251047d1f750d38b6d4c4dc25401d00e13b"), looks := true }, kinds := [], alts := [], laidByText := true, laidKinds := [.data, .data, .data, .sentinel, .sentinel, .data, .wider, .data, .data, .data, .data], laidTests := true, laidLooks := .later }
def MeaningRestCardSaid : Prop := Claim7.holds Tryz.pinned (.plain (OpenSpec.ofChange meaningRestSpec)) meaningRestCard

/-- THE TIED CARD OF 'queuelablaw08.MeaningInputs'. -/
def meaningInputsCard : Claim7 := { stood := { row := meaningInputsRow, standIns := [], harness := (true, "7fb77568891a4b26e5a686bca2874251047d1f750d38b6d4c4dc25401d00e13b"), looks := true }, kinds := [], alts := [], laidByText := true, laidKinds := [.data, .data, .data, .sentinel, .sentinel, .data, .wider, .data, .data, .data, .data], laidTests := true, laidLooks := .later }
def MeaningInputsCardSaid : Prop := Claim7.holds Tryz.pinned (.plain (OpenSpec.ofChange meaningInputsSpec)) meaningInputsCard

/-- THE SECOND FORM's CARD OF 'queuelablaw08.MeaningStates'. -/
def meaningStatesUptoCard : Claim7 := { stood := { row := meaningStatesUptoRow, standIns := [], harness := (true, "7fb77568891a4b26e5a686bca2874251047d1f750d38b6d4c4dc25401d00e13b"), looks := true }, kinds := [], alts := [], laidByText := true, laidKinds := [.data, .data, .data, .sentinel, .sentinel, .data, .wider, .data, .data, .data, .data], laidTests := true, laidLooks := .later }
def MeaningStatesUptoCardSaid : Prop := Claim7.holds Tryz.pinned (.plain (OpenSpec.upto meaningStatesSpec)) meaningStatesUptoCard

/-- THE SECOND FORM's CARD OF 'queuelablaw08.MeaningParts'. -/
def meaningPartsUptoCard : Claim7 := { stood := { row := meaningPartsUptoRow, standIns := [], harness := (true, "7fb77568891a4b26e5a686bca2874251047d1f750d38b6d4c4dc25401d00e13b"), looks := true }, kinds := [], alts := [], laidByText := true, laidKinds := [.data, .data, .data, .sentinel, .sentinel, .data, .wider, .data, .data, .data, .data], laidTests := true, laidLooks := .later }
def MeaningPartsUptoCardSaid : Prop := Claim7.holds Tryz.pinned (.plain (OpenSpec.upto meaningPartsSpec)) meaningPartsUptoCard

/-- THE SECOND FORM's CARD OF 'queuelablaw08.MeaningRest'. -/
def meaningRestUptoCard : Claim7 := { stood := { row := meaningRestUptoRow, standIns := [], harness := (true, "7fb77568891a4b26e5a686bca2874251047d1f750d38b6d4c4dc25401d00e13b"), looks := true }, kinds := [], alts := [], laidByText := true, laidKinds := [.data, .data, .data, .sentinel, .sentinel, .data, .wider, .data, .data, .data, .data], laidTests := true, laidLooks := .later }
def MeaningRestUptoCardSaid : Prop := Claim7.holds Tryz.pinned (.plain (OpenSpec.upto meaningRestSpec)) meaningRestUptoCard

/-- THE SECOND FORM's CARD OF 'queuelablaw08.MeaningInputs'. -/
def meaningInputsUptoCard : Claim7 := { stood := { row := meaningInputsUptoRow, standIns := [], harness := (true, "7fb77568891a4b26e5a686bca2874251047d1f750d38b6d4c4dc25401d00e13b"), looks := true }, kinds := [], alts := [], laidByText := true, laidKinds := [.data, .data, .data, .sentinel, .sentinel, .data, .wider, .data, .data, .data, .data], laidTests := true, laidLooks := .later }
def MeaningInputsUptoCardSaid : Prop := Claim7.holds Tryz.pinned (.plain (OpenSpec.upto meaningInputsSpec)) meaningInputsUptoCard
end Rows
end Go.Proofs.YtdlebaiamdbneaaGreatDoor
