/-
  DERIVED. GIVEN WITH THE SEED: THE CARDS: each row of YtmofclpheioepaaDoorRows.lean that lists a variable, with what it lists TIED to the program's text (the seventh form; the later family's looks); each row that meets fmt, with fmt's text TOLD by the authors' own Lean function (tested against real Go, not proved from fmt's source: count such statements apart). THE CARD IS WHAT COUNTS. Prove the row's statement (the work); the ties are given (YtmofclpheioepaaDoorTie.lean); close each card by the builder's one call (the guide's Derived/Test/ToyasCard.lean, 'card_holds'). Laid BY PROGRAM, IN A SANDBOX (cutbox-door.mjs). By AI agents, Wed Nov 11 2026. No macro, syntax, notation, axiom, sorry.
-/
import Derived.Test.YtmofclpheioepaaDoorRows
import GoSem.ClaimSeven
namespace Go.Proofs.YtmofclpheioepaaDoor
namespace Rows

/-- THE TIED CARD OF 'queuelablaw04.UnitsMatchesReference'. -/
def unitsMatchesReferenceCard : Claim7 := { stood := { row := unitsMatchesReferenceRow, standIns := [], harness := (true, "47f9f2edfd3267d2a7501dd0ae9d17ad03de2319093c1c0e5feeef3f1629bbd4"), looks := true }, kinds := [], alts := [], laidByText := true, laidKinds := [.wider, .data], laidTests := true, laidLooks := .later }
def UnitsMatchesReferenceCardSaid : Prop := Claim7.holds Tryd.pinned (.plain (OpenSpec.ofChange unitsMatchesReferenceSpec)) unitsMatchesReferenceCard

/-- THE TIED CARD OF 'queuelablaw04.UnitsOperations'. -/
def unitsOperationsCard : Claim7 := { stood := { row := unitsOperationsRow, standIns := [], harness := (true, "47f9f2edfd3267d2a7501dd0ae9d17ad03de2319093c1c0e5feeef3f1629bbd4"), looks := true }, kinds := [], alts := [], laidByText := true, laidKinds := [.wider, .data], laidTests := true, laidLooks := .later }
def UnitsOperationsCardSaid : Prop := Claim7.holds Tryd.pinned (.plain (OpenSpec.ofChange unitsOperationsSpec)) unitsOperationsCard

/-- THE TIED CARD OF 'queuelablaw04.UnitsScaling'. -/
def unitsScalingCard : Claim7 := { stood := { row := unitsScalingRow, standIns := [], harness := (true, "47f9f2edfd3267d2a7501dd0ae9d17ad03de2319093c1c0e5feeef3f1629bbd4"), looks := true }, kinds := [], alts := [], laidByText := true, laidKinds := [.wider, .data], laidTests := true, laidLooks := .later }
def UnitsScalingCardSaid : Prop := Claim7.holds Tryd.pinned (.plain (OpenSpec.ofChange unitsScalingSpec)) unitsScalingCard

/-- THE TIED CARD OF 'queuelablaw04.UnitsHandlers'. -/
def unitsHandlersCard : Claim7 := { stood := { row := unitsHandlersRow, standIns := [], harness := (true, "47f9f2edfd3267d2a7501dd0ae9d17ad03de2319093c1c0e5feeef3f1629bbd4"), looks := true }, kinds := [], alts := [], laidByText := true, laidKinds := [.wider, .data], laidTests := true, laidLooks := .later }
def UnitsHandlersCardSaid : Prop := Claim7.holds Tryd.pinned (.plain (OpenSpec.ofChange unitsHandlersSpec)) unitsHandlersCard

/-- THE TIED CARD OF 'queuelablaw04.UnitsNames'. -/
def unitsNamesCard : Claim7 := { stood := { row := unitsNamesRow, standIns := [], harness := (true, "47f9f2edfd3267d2a7501dd0ae9d17ad03de2319093c1c0e5feeef3f1629bbd4"), looks := true }, kinds := [], alts := [], laidByText := true, laidKinds := [.wider, .data], laidTests := true, laidLooks := .later }
def UnitsNamesCardSaid : Prop := Claim7.holds Tryd.pinned (.plain (OpenSpec.ofChange unitsNamesSpec)) unitsNamesCard

/-- THE SECOND FORM's CARD OF 'queuelablaw04.UnitsMatchesReference'. -/
def unitsMatchesReferenceUptoCard : Claim7 := { stood := { row := unitsMatchesReferenceUptoRow, standIns := [], harness := (true, "47f9f2edfd3267d2a7501dd0ae9d17ad03de2319093c1c0e5feeef3f1629bbd4"), looks := true }, kinds := [], alts := [], laidByText := true, laidKinds := [.wider, .data], laidTests := true, laidLooks := .later }
def UnitsMatchesReferenceUptoCardSaid : Prop := Claim7.holds Tryd.pinned (.plain (OpenSpec.upto unitsMatchesReferenceSpec)) unitsMatchesReferenceUptoCard

/-- THE SECOND FORM's CARD OF 'queuelablaw04.UnitsOperations'. -/
def unitsOperationsUptoCard : Claim7 := { stood := { row := unitsOperationsUptoRow, standIns := [], harness := (true, "47f9f2edfd3267d2a7501dd0ae9d17ad03de2319093c1c0e5feeef3f1629bbd4"), looks := true }, kinds := [], alts := [], laidByText := true, laidKinds := [.wider, .data], laidTests := true, laidLooks := .later }
def UnitsOperationsUptoCardSaid : Prop := Claim7.holds Tryd.pinned (.plain (OpenSpec.upto unitsOperationsSpec)) unitsOperationsUptoCard

/-- THE SECOND FORM's CARD OF 'queuelablaw04.UnitsScaling'. -/
def unitsScalingUptoCard : Claim7 := { stood := { row := unitsScalingUptoRow, standIns := [], harness := (true, "47f9f2edfd3267d2a7501dd0ae9d17ad03de2319093c1c0e5feeef3f1629bbd4"), looks := true }, kinds := [], alts := [], laidByText := true, laidKinds := [.wider, .data], laidTests := true, laidLooks := .later }
def UnitsScalingUptoCardSaid : Prop := Claim7.holds Tryd.pinned (.plain (OpenSpec.upto unitsScalingSpec)) unitsScalingUptoCard

/-- THE SECOND FORM's CARD OF 'queuelablaw04.UnitsHandlers'. -/
def unitsHandlersUptoCard : Claim7 := { stood := { row := unitsHandlersUptoRow, standIns := [], harness := (true, "47f9f2edfd3267d2a7501dd0ae9d17ad03de2319093c1c0e5feeef3f1629bbd4"), looks := true }, kinds := [], alts := [], laidByText := true, laidKinds := [.wider, .data], laidTests := true, laidLooks := .later }
def UnitsHandlersUptoCardSaid : Prop := Claim7.holds Tryd.pinned (.plain (OpenSpec.upto unitsHandlersSpec)) unitsHandlersUptoCard

/-- THE SECOND FORM's CARD OF 'queuelablaw04.UnitsNames'. -/
def unitsNamesUptoCard : Claim7 := { stood := { row := unitsNamesUptoRow, standIns := [], harness := (true, "47f9f2edfd3267d2a7501dd0ae9d17ad03de2319093c1c0e5feeef3f1629bbd4"), looks := true }, kinds := [], alts := [], laidByText := true, laidKinds := [.wider, .data], laidTests := true, laidLooks := .later }
def UnitsNamesUptoCardSaid : Prop := Claim7.holds Tryd.pinned (.plain (OpenSpec.upto unitsNamesSpec)) unitsNamesUptoCard
end Rows
end Go.Proofs.YtmofclpheioepaaDoor
