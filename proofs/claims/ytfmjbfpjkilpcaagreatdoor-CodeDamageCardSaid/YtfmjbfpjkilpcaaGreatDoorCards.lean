/-
  DERIVED. GIVEN WITH THE SEED: THE CARDS: each row of YtfmjbfpjkilpcaaGreatDoorRows.lean that lists a variable, with what it lists TIED to the program's text (the seventh form; the later family's looks); each row that meets fmt, with fmt's text TOLD by the authors' own Lean function (tested against real Go, not proved from fmt's source: count such statements apart). THE CARD IS WHAT COUNTS. Prove the row's statement (the work); the ties are given (YtfmjbfpjkilpcaaGreatDoorTie.lean); close each card by the builder's one call (the guide's Derived/Test/ToyasCard.lean, 'card_holds'). Laid BY PROGRAM, IN A SANDBOX (cutbox-door.mjs). By AI agents, Wed Nov 11 2026. No macro, syntax, notation, axiom, sorry.
-/
import Derived.Test.YtfmjbfpjkilpcaaGreatDoorRows
import GoSem.ClaimSeven
namespace Go.Proofs.YtfmjbfpjkilpcaaGreatDoor
namespace Rows

/-- THE TIED CARD OF 'queuelablaw09.CodeRuns'. -/
def codeRunsCard : Claim7 := { stood := { row := codeRunsRow, standIns := [], harness := (true, "e7a409f034d7cd9b82eb10e62c13003f1a25aadb885732b2ee7875ba66c666dc"), looks := true }, kinds := [], alts := [], laidByText := true, laidKinds := [.data, .data, .data, .sentinel, .sentinel, .data, .wider, .data, .data, .data, .data, .data], laidTests := true, laidLooks := .later }
def CodeRunsCardSaid : Prop := Claim7.holds Tryz.pinned (.plain (OpenSpec.ofChange codeRunsSpec)) codeRunsCard

/-- THE TIED CARD OF 'queuelablaw09.CodeDamage'. -/
def codeDamageCard : Claim7 := { stood := { row := codeDamageRow, standIns := [], harness := (true, "e7a409f034d7cd9b82eb10e62c13003f1a25aadb885732b2ee7875ba66c666dc"), looks := true }, kinds := [], alts := [], laidByText := true, laidKinds := [.data, .data, .data, .sentinel, .sentinel, .data, .wider, .data, .data, .data, .data, .data], laidTests := true, laidLooks := .later }
def CodeDamageCardSaid : Prop := Claim7.holds Tryz.pinned (.plain (OpenSpec.ofChange codeDamageSpec)) codeDamageCard

/-- THE SECOND FORM's CARD OF 'queuelablaw09.CodeRuns'. -/
def codeRunsUptoCard : Claim7 := { stood := { row := codeRunsUptoRow, standIns := [], harness := (true, "e7a409f034d7cd9b82eb10e62c13003f1a25aadb885732b2ee7875ba66c666dc"), looks := true }, kinds := [], alts := [], laidByText := true, laidKinds := [.data, .data, .data, .sentinel, .sentinel, .data, .wider, .data, .data, .data, .data, .data], laidTests := true, laidLooks := .later }
def CodeRunsUptoCardSaid : Prop := Claim7.holds Tryz.pinned (.plain (OpenSpec.upto codeRunsSpec)) codeRunsUptoCard

/-- THE SECOND FORM's CARD OF 'queuelablaw09.CodeDamage'. -/
def codeDamageUptoCard : Claim7 := { stood := { row := codeDamageUptoRow, standIns := [], harness := (true, "e7a409f034d7cd9b82eb10e62c13003f1a25aadb885732b2ee7875ba66c666dc"), looks := true }, kinds := [], alts := [], laidByText := true, laidKinds := [.data, .data, .data, .sentinel, .sentinel, .data, .wider, .data, .data, .data, .data, .data], laidTests := true, laidLooks := .later }
def CodeDamageUptoCardSaid : Prop := Claim7.holds Tryz.pinned (.plain (OpenSpec.upto codeDamageSpec)) codeDamageUptoCard
end Rows
end Go.Proofs.YtfmjbfpjkilpcaaGreatDoor
