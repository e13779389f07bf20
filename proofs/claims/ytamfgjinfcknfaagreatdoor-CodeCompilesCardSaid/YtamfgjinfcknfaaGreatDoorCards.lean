/-
  DERIVED. GIVEN WITH THE SEED: THE CARDS: each row of YtamfgjinfcknfaaGreatDoorRows.lean that lists a variable, with what it lists TIED to the program's text (the seventh form; the later family's looks); each row that meets fmt, with fmt's text TOLD by the authors' own Lean function (tested against real Go, not proved from fmt's source: count such statements apart). THE CARD IS WHAT COUNTS. Prove the row's statement (the work); the ties are given (YtamfgjinfcknfaaGreatDoorTie.lean); close each card by the builder's one call (the guide's Derived/Test/ToyasCard.lean, 'card_holds'). Laid BY PROGRAM, IN A SANDBOX (cutbox-door.mjs). By AI agents, Wed Nov 11 2026. No macro, syntax, notation, axiom, sorry.
-/
import Derived.Test.YtamfgjinfcknfaaGreatDoorRows
import GoSem.ClaimSeven
namespace Go.Proofs.YtamfgjinfcknfaaGreatDoor
namespace Rows

/-- THE TIED CARD OF 'queuelablaw09.CodeCompiles'. -/
def codeCompilesCard : Claim7 := { stood := { row := codeCompilesRow, standIns := [], harness := (true, "2653f643ee4932718305425ed8389811362dcb5a3a53b85313cbede79e79518c"), looks := true }, kinds := [], alts := [], laidByText := true, laidKinds := [.data, .data, .data, .sentinel, .sentinel, .data, .wider, .data, .data, .data, .data, .data], laidTests := true, laidLooks := .later }
def CodeCompilesCardSaid : Prop := Claim7.holds Tryz.pinned (.plain (OpenSpec.ofChange codeCompilesSpec)) codeCompilesCard

/-- THE TIED CARD OF 'queuelablaw09.CodeSize'. -/
def codeSizeCard : Claim7 := { stood := { row := codeSizeRow, standIns := [], harness := (true, "2653f643ee4932718305425ed8389811362dcb5a3a53b85313cbede79e79518c"), looks := true }, kinds := [], alts := [], laidByText := true, laidKinds := [.data, .data, .data, .sentinel, .sentinel, .data, .wider, .data, .data, .data, .data, .data], laidTests := true, laidLooks := .later }
def CodeSizeCardSaid : Prop := Claim7.holds Tryz.pinned (.plain (OpenSpec.ofChange codeSizeSpec)) codeSizeCard

/-- THE TIED CARD OF 'queuelablaw09.CodeHandlers'. -/
def codeHandlersCard : Claim7 := { stood := { row := codeHandlersRow, standIns := [], harness := (true, "2653f643ee4932718305425ed8389811362dcb5a3a53b85313cbede79e79518c"), looks := true }, kinds := [], alts := [], laidByText := true, laidKinds := [.data, .data, .data, .sentinel, .sentinel, .data, .wider, .data, .data, .data, .data, .data], laidTests := true, laidLooks := .later }
def CodeHandlersCardSaid : Prop := Claim7.holds Tryz.pinned (.plain (OpenSpec.ofChange codeHandlersSpec)) codeHandlersCard

/-- THE SECOND FORM's CARD OF 'queuelablaw09.CodeCompiles'. -/
def codeCompilesUptoCard : Claim7 := { stood := { row := codeCompilesUptoRow, standIns := [], harness := (true, "2653f643ee4932718305425ed8389811362dcb5a3a53b85313cbede79e79518c"), looks := true }, kinds := [], alts := [], laidByText := true, laidKinds := [.data, .data, .data, .sentinel, .sentinel, .data, .wider, .data, .data, .data, .data, .data], laidTests := true, laidLooks := .later }
def CodeCompilesUptoCardSaid : Prop := Claim7.holds Tryz.pinned (.plain (OpenSpec.upto codeCompilesSpec)) codeCompilesUptoCard

/-- THE SECOND FORM's CARD OF 'queuelablaw09.CodeSize'. -/
def codeSizeUptoCard : Claim7 := { stood := { row := codeSizeUptoRow, standIns := [], harness := (true, "2653f643ee4932718305425ed8389811362dcb5a3a53b85313cbede79e79518c"), looks := true }, kinds := [], alts := [], laidByText := true, laidKinds := [.data, .data, .data, .sentinel, .sentinel, .data, .wider, .data, .data, .data, .data, .data], laidTests := true, laidLooks := .later }
def CodeSizeUptoCardSaid : Prop := Claim7.holds Tryz.pinned (.plain (OpenSpec.upto codeSizeSpec)) codeSizeUptoCard

/-- THE SECOND FORM's CARD OF 'queuelablaw09.CodeHandlers'. -/
def codeHandlersUptoCard : Claim7 := { stood := { row := codeHandlersUptoRow, standIns := [], harness := (true, "2653f643ee4932718305425ed8389811362dcb5a3a53b85313cbede79e79518c"), looks := true }, kinds := [], alts := [], laidByText := true, laidKinds := [.data, .data, .data, .sentinel, .sentinel, .data, .wider, .data, .data, .data, .data, .data], laidTests := true, laidLooks := .later }
def CodeHandlersUptoCardSaid : Prop := Claim7.holds Tryz.pinned (.plain (OpenSpec.upto codeHandlersSpec)) codeHandlersUptoCard
end Rows
end Go.Proofs.YtamfgjinfcknfaaGreatDoor
