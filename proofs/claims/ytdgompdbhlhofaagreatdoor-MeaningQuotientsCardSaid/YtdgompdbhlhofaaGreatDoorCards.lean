/-
  DERIVED. GIVEN WITH THE SEED: THE CARDS: each row of YtdgompdbhlhofaaGreatDoorRows.lean that lists a variable, with what it lists TIED to the program's text (the seventh form; the later family's looks); each row that meets fmt, with fmt's text TOLD by the authors' own Lean function (tested against real Go, not proved from fmt's source: count such statements apart). THE CARD IS WHAT COUNTS. Prove the row's statement (the work); the ties are given (YtdgompdbhlhofaaGreatDoorTie.lean); close each card by the builder's one call (the guide's Derived/Test/ToyasCard.lean, 'card_holds'). Laid BY PROGRAM, IN A SANDBOX (cutbox-door.mjs). By AI agents, Wed Nov 11 2026. No macro, syntax, notation, axiom, sorry.
-/
import Derived.Test.YtdgompdbhlhofaaGreatDoorRows
import GoSem.ClaimSeven
namespace Go.Proofs.YtdgompdbhlhofaaGreatDoor
namespace Rows

/-- THE TIED CARD OF 'queuelablaw08.MeaningQuotients'. -/
def meaningQuotientsCard : Claim7 := { stood := { row := meaningQuotientsRow, standIns := [], harness := (true, "3f56250648ee1d7acf4ca22b6dc62ad9db6072368c56adb470cc30ef1e2b5e96"), looks := true }, kinds := [], alts := [], laidByText := true, laidKinds := [.data, .data, .data, .sentinel, .sentinel, .data, .wider, .data, .data, .data, .data], laidTests := true, laidLooks := .later }
def MeaningQuotientsCardSaid : Prop := Claim7.holds Tryz.pinned (.plain (OpenSpec.ofChange meaningQuotientsSpec)) meaningQuotientsCard

/-- THE TIED CARD OF 'queuelablaw08.MeaningLaws'. -/
def meaningLawsCard : Claim7 := { stood := { row := meaningLawsRow, standIns := [], harness := (true, "3f56250648ee1d7acf4ca22b6dc62ad9db6072368c56adb470cc30ef1e2b5e96"), looks := true }, kinds := [], alts := [], laidByText := true, laidKinds := [.data, .data, .data, .sentinel, .sentinel, .data, .wider, .data, .data, .data, .data], laidTests := true, laidLooks := .later }
def MeaningLawsCardSaid : Prop := Claim7.holds Tryz.pinned (.plain (OpenSpec.ofChange meaningLawsSpec)) meaningLawsCard

/-- THE SECOND FORM's CARD OF 'queuelablaw08.MeaningQuotients'. -/
def meaningQuotientsUptoCard : Claim7 := { stood := { row := meaningQuotientsUptoRow, standIns := [], harness := (true, "3f56250648ee1d7acf4ca22b6dc62ad9db6072368c56adb470cc30ef1e2b5e96"), looks := true }, kinds := [], alts := [], laidByText := true, laidKinds := [.data, .data, .data, .sentinel, .sentinel, .data, .wider, .data, .data, .data, .data], laidTests := true, laidLooks := .later }
def MeaningQuotientsUptoCardSaid : Prop := Claim7.holds Tryz.pinned (.plain (OpenSpec.upto meaningQuotientsSpec)) meaningQuotientsUptoCard

/-- THE SECOND FORM's CARD OF 'queuelablaw08.MeaningLaws'. -/
def meaningLawsUptoCard : Claim7 := { stood := { row := meaningLawsUptoRow, standIns := [], harness := (true, "3f56250648ee1d7acf4ca22b6dc62ad9db6072368c56adb470cc30ef1e2b5e96"), looks := true }, kinds := [], alts := [], laidByText := true, laidKinds := [.data, .data, .data, .sentinel, .sentinel, .data, .wider, .data, .data, .data, .data], laidTests := true, laidLooks := .later }
def MeaningLawsUptoCardSaid : Prop := Claim7.holds Tryz.pinned (.plain (OpenSpec.upto meaningLawsSpec)) meaningLawsUptoCard
end Rows
end Go.Proofs.YtdgompdbhlhofaaGreatDoor
