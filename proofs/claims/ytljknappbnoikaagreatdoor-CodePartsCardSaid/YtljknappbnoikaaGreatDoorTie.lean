/-
  DERIVED. GIVEN WITH THE SEED: THE PROGRAM's TIES (one call each: nine closed facts by the kernel) AND EACH ROW's TIE, after the 31st guide's Derived/Test/Toyas{Tie, Card}.lean. No idea stands in it: it is a product of the set-up. Laid BY PROGRAM, IN A SANDBOX (cutbox-door.mjs). By AI agents, Wed Nov 11 2026. No macro, syntax, notation, axiom, sorry.
-/
import Derived.Test.YtljknappbnoikaaGreatDoorRows
import Derived.LaidByTextLater
import Derived.SevenTiedAt
import Derived.LaidSub
import Derived.LaidOnce
namespace Go.Proofs.YtljknappbnoikaaGreatDoor
open Go
set_option maxRecDepth 100000
theorem seatTie1 : Tryz.prog.laidByTextLater [("math/bits.deBruijn32tab", Rows.laid_math_bits_deBruijn32tab), ("math/bits.deBruijn64tab", Rows.laid_math_bits_deBruijn64tab), ("internal/strconv.uint64pow10", Rows.laid_internal_strconv_uint64pow10), ("strconv.ErrRange", Rows.laid_strconv_ErrRange), ("strconv.ErrSyntax", Rows.laid_strconv_ErrSyntax), ("queuelab/lexer.classes", Rows.laid_queuelab_lexer_classes), ("queuelab/units.kinds", Rows.laid_queuelab_units_kinds), ("queuelab/units.inputs", Rows.laid_queuelab_units_inputs), ("queuelab/control.operations", Rows.laid_queuelab_control_operations), ("queuelab/control.inputs", Rows.laid_queuelab_control_inputs), ("queuelab/code.effects", Rows.laid_queuelab_code_effects), ("queuelab/code.operations", Rows.laid_queuelab_code_operations)] [.data, .data, .data, .sentinel, .sentinel, .data, .wider, .data, .data, .data, .data, .data] true :=
  Program.laidByTextLater_by_one 115 8 129 (by kernel_rfl) (by kernel_rfl) (by kernel_rfl) (by kernel_rfl) (by kernel_rfl) (by kernel_rfl) (fun _ _ => by kernel_rfl)
theorem noOwnUnsafe : Tryz.pinned.checked.prog.headLifts.contains "ownunsafe" = false := by kernel_rfl
theorem tie : Tryz.prog.laidByTextLater [("math/bits.deBruijn32tab", Rows.laid_math_bits_deBruijn32tab), ("math/bits.deBruijn64tab", Rows.laid_math_bits_deBruijn64tab), ("internal/strconv.uint64pow10", Rows.laid_internal_strconv_uint64pow10), ("strconv.ErrRange", Rows.laid_strconv_ErrRange), ("strconv.ErrSyntax", Rows.laid_strconv_ErrSyntax), ("queuelab/lexer.classes", Rows.laid_queuelab_lexer_classes), ("queuelab/units.kinds", Rows.laid_queuelab_units_kinds), ("queuelab/units.inputs", Rows.laid_queuelab_units_inputs), ("queuelab/control.operations", Rows.laid_queuelab_control_operations), ("queuelab/control.inputs", Rows.laid_queuelab_control_inputs), ("queuelab/code.effects", Rows.laid_queuelab_code_effects), ("queuelab/code.operations", Rows.laid_queuelab_code_operations)] [.data, .data, .data, .sentinel, .sentinel, .data, .wider, .data, .data, .data, .data, .data] true :=
  Program.laidByTextLater.sub seatTie1 ["math/bits.deBruijn32tab", "math/bits.deBruijn64tab", "internal/strconv.uint64pow10", "strconv.ErrRange", "strconv.ErrSyntax", "queuelab/lexer.classes", "queuelab/units.kinds", "queuelab/units.inputs", "queuelab/control.operations", "queuelab/control.inputs", "queuelab/code.effects", "queuelab/code.operations"] (by kernel_rfl) (by kernel_rfl)
theorem codeMatchesReference_row_tie : Rows.codeMatchesReferenceRow.laidByTextAt .later Tryz.pinned [.data, .data, .data, .sentinel, .sentinel, .data, .wider, .data, .data, .data, .data, .data] true :=
  OpenClaim.laidByTextAt_later rfl rfl tie noOwnUnsafe
theorem codeParts_row_tie : Rows.codePartsRow.laidByTextAt .later Tryz.pinned [.data, .data, .data, .sentinel, .sentinel, .data, .wider, .data, .data, .data, .data, .data] true :=
  OpenClaim.laidByTextAt_later rfl rfl tie noOwnUnsafe
theorem codeMatchesReferenceUpto_row_tie : Rows.codeMatchesReferenceUptoRow.laidByTextAt .later Tryz.pinned [.data, .data, .data, .sentinel, .sentinel, .data, .wider, .data, .data, .data, .data, .data] true :=
  OpenClaim.laidByTextAt_later rfl rfl tie noOwnUnsafe
theorem codePartsUpto_row_tie : Rows.codePartsUptoRow.laidByTextAt .later Tryz.pinned [.data, .data, .data, .sentinel, .sentinel, .data, .wider, .data, .data, .data, .data, .data] true :=
  OpenClaim.laidByTextAt_later rfl rfl tie noOwnUnsafe
end Go.Proofs.YtljknappbnoikaaGreatDoor
