/-
  NARROWER THAN 'FOR EVERY INPUT', by the rows' own cells (each row's printed sentence says how): UnitsMatchesReference: loops, laid · UnitsOperations: loops, laid · UnitsScaling: loops, laid · UnitsHandlers: loops, laid · UnitsNames: loops, laid.
  DERIVED. THE GIVEN ROWS OF THIS SEAT. 5 by the template 'for every input the law returns true; each argument reads behind the call as it read before'; 0 by the template 'total and deterministic' (their statements: YtmofclpheioepaaDoorTotals.lean).
  GIVEN WITH THE SEED: the statements are not yours to turn. If you find one false, say at which input.
  Laid BY PROGRAM, IN A SANDBOX (cutbox-rows.mjs): the forced cells as the released guide's own fill.sh prints them over the translation 0fa82c8316800892… (all of the seat's roots in one cut). By AI agents, Wed Nov 11 2026. No macro, syntax, notation, axiom, sorry.
-/
import Derived.Test.YtmofclpheioepaaDoorChecked
import GoSem.Claim
import GoSem.ClaimJoined
import GoSem.ClaimMapViews
import Derived.JoinedTies
import Derived.KernelRfl
namespace Go.Proofs.YtmofclpheioepaaDoor
/- THE CELL 'sum', in the pinned program and in every row, IS THE sha256 OF THE DUMP (.gsa) THAT YtmofclpheioepaaDoorProg.lean LOADS. Nothing in Lean hashes anything: it is a label: what it is worth is what the hold of that sum in a sandbox is worth. -/
noncomputable def Tryd.pinned : Pinned := { name := "ytmofclpheioepaadoor", sum := "0fa82c8316800892167a96208144ccb42d28b98e021a5bb23ef7c8a86ca74a9a", checked := Tryd.checked }
namespace Rows
def none {H : Type} : Left H := { results := [], args := [] }

/- WHAT THE LISTED PACKAGE-LEVEL VARIABLES READ AS WHEN THE CALL BEGINS. Each datum BY PROGRAM (the guide's laid-datum.mjs) off the statement by which the dump's own 'gosem.cut.vars' lays the variable. In a bare row this is a premise. The card (YtmofclpheioepaaDoorCards.lean) ties it to the program's text. -/
def laid_queuelab_units_kinds {H : Type} : DataW H := .agg [.agg [.lit (.int .i64 0), .lit (.int .i64 0), .lit (.int .i64 0)], .agg [.lit (.int .i64 1), .lit (.int .i64 0), .lit (.int .i64 0)], .agg [.lit (.int .i64 0), .lit (.int .i64 1), .lit (.int .i64 0)], .agg [.lit (.int .i64 0), .lit (.int .i64 0), .lit (.int .i64 1)], .agg [.lit (.int .i64 0), .lit (.int .i64 1), .lit (.int .i64 (-1))]]
def laid_queuelab_units_inputs {H : Type} : DataW H := .agg [.lit (.int .i64 1), .lit (.int .i64 3), .lit (.int .i64 2), .lit (.int .i64 1)]

/-- 'queuelablaw04.UnitsMatchesReference': WHATEVER THE INPUT: true; the input reads as it did. -/
def unitsMatchesReferenceSpec : ChangeSpec := { name := "unitsMatchesReference", fn := fun _ => fun
  | [d1, d2, d3] => { results := [.lit (.bool true)], args := [d1, d2, d3] }
  | _ => none }
def unitsMatchesReferenceRow : OpenClaim := { program := "ytmofclpheioepaadoor", sum := "0fa82c8316800892167a96208144ccb42d28b98e021a5bb23ef7c8a86ca74a9a", func := "queuelab/queuelablaw04.UnitsMatchesReference", spec := "unitsMatchesReference", unfollowed := true, recurses := true, named := ["queuelab/units.kinds", "queuelab/units.inputs"], loops := true, apart := false, laid := [("queuelab/units.kinds", laid_queuelab_units_kinds), ("queuelab/units.inputs", laid_queuelab_units_inputs)] }
def UnitsMatchesReferenceSaid : Prop := unitsMatchesReferenceRow.holds Tryd.pinned (OpenSpec.ofChange unitsMatchesReferenceSpec)

/-- ITS FALSE NEIGHBOUR: 'it returns false'. Refute it at one input. -/
def unitsMatchesReferenceWrong : ChangeSpec := { name := "unitsMatchesReference", fn := fun _ => fun
  | [d1, d2, d3] => { results := [.lit (.bool false)], args := [d1, d2, d3] }
  | _ => none }
def UnitsMatchesReferenceWrongFalsely : Prop := unitsMatchesReferenceRow.holds Tryd.pinned (OpenSpec.ofChange unitsMatchesReferenceWrong)

/-- 'queuelablaw04.UnitsOperations': WHATEVER THE INPUT: true; the input reads as it did. -/
def unitsOperationsSpec : ChangeSpec := { name := "unitsOperations", fn := fun _ => fun
  | [d1, d2, d3] => { results := [.lit (.bool true)], args := [d1, d2, d3] }
  | _ => none }
def unitsOperationsRow : OpenClaim := { program := "ytmofclpheioepaadoor", sum := "0fa82c8316800892167a96208144ccb42d28b98e021a5bb23ef7c8a86ca74a9a", func := "queuelab/queuelablaw04.UnitsOperations", spec := "unitsOperations", unfollowed := true, recurses := true, named := ["queuelab/units.kinds", "queuelab/units.inputs"], loops := true, apart := false, laid := [("queuelab/units.kinds", laid_queuelab_units_kinds), ("queuelab/units.inputs", laid_queuelab_units_inputs)] }
def UnitsOperationsSaid : Prop := unitsOperationsRow.holds Tryd.pinned (OpenSpec.ofChange unitsOperationsSpec)

/-- ITS FALSE NEIGHBOUR: 'it returns false'. Refute it at one input. -/
def unitsOperationsWrong : ChangeSpec := { name := "unitsOperations", fn := fun _ => fun
  | [d1, d2, d3] => { results := [.lit (.bool false)], args := [d1, d2, d3] }
  | _ => none }
def UnitsOperationsWrongFalsely : Prop := unitsOperationsRow.holds Tryd.pinned (OpenSpec.ofChange unitsOperationsWrong)

/-- 'queuelablaw04.UnitsScaling': WHATEVER THE INPUT: true; the input reads as it did. -/
def unitsScalingSpec : ChangeSpec := { name := "unitsScaling", fn := fun _ => fun
  | [d1, d2, d3, d4, d5] => { results := [.lit (.bool true)], args := [d1, d2, d3, d4, d5] }
  | _ => none }
def unitsScalingRow : OpenClaim := { program := "ytmofclpheioepaadoor", sum := "0fa82c8316800892167a96208144ccb42d28b98e021a5bb23ef7c8a86ca74a9a", func := "queuelab/queuelablaw04.UnitsScaling", spec := "unitsScaling", unfollowed := true, recurses := true, named := ["queuelab/units.kinds", "queuelab/units.inputs"], loops := true, apart := false, laid := [("queuelab/units.kinds", laid_queuelab_units_kinds), ("queuelab/units.inputs", laid_queuelab_units_inputs)] }
def UnitsScalingSaid : Prop := unitsScalingRow.holds Tryd.pinned (OpenSpec.ofChange unitsScalingSpec)

/-- ITS FALSE NEIGHBOUR: 'it returns false'. Refute it at one input. -/
def unitsScalingWrong : ChangeSpec := { name := "unitsScaling", fn := fun _ => fun
  | [d1, d2, d3, d4, d5] => { results := [.lit (.bool false)], args := [d1, d2, d3, d4, d5] }
  | _ => none }
def UnitsScalingWrongFalsely : Prop := unitsScalingRow.holds Tryd.pinned (OpenSpec.ofChange unitsScalingWrong)

/-- 'queuelablaw04.UnitsHandlers': WHATEVER THE INPUT: true; the input reads as it did. -/
def unitsHandlersSpec : ChangeSpec := { name := "unitsHandlers", fn := fun _ => fun
  | [d] => { results := [.lit (.bool true)], args := [d] }
  | _ => none }
def unitsHandlersRow : OpenClaim := { program := "ytmofclpheioepaadoor", sum := "0fa82c8316800892167a96208144ccb42d28b98e021a5bb23ef7c8a86ca74a9a", func := "queuelab/queuelablaw04.UnitsHandlers", spec := "unitsHandlers", unfollowed := true, recurses := true, named := ["queuelab/units.kinds", "queuelab/units.inputs"], loops := true, apart := false, laid := [("queuelab/units.kinds", laid_queuelab_units_kinds), ("queuelab/units.inputs", laid_queuelab_units_inputs)] }
def UnitsHandlersSaid : Prop := unitsHandlersRow.holds Tryd.pinned (OpenSpec.ofChange unitsHandlersSpec)

/-- ITS FALSE NEIGHBOUR: 'it returns false'. Refute it at one input. -/
def unitsHandlersWrong : ChangeSpec := { name := "unitsHandlers", fn := fun _ => fun
  | [d] => { results := [.lit (.bool false)], args := [d] }
  | _ => none }
def UnitsHandlersWrongFalsely : Prop := unitsHandlersRow.holds Tryd.pinned (OpenSpec.ofChange unitsHandlersWrong)

/-- 'queuelablaw04.UnitsNames': WHATEVER THE INPUT: true; the input reads as it did. -/
def unitsNamesSpec : ChangeSpec := { name := "unitsNames", fn := fun _ => fun
  | [d1, d2, d3, d4, d5] => { results := [.lit (.bool true)], args := [d1, d2, d3, d4, d5] }
  | _ => none }
def unitsNamesRow : OpenClaim := { program := "ytmofclpheioepaadoor", sum := "0fa82c8316800892167a96208144ccb42d28b98e021a5bb23ef7c8a86ca74a9a", func := "queuelab/queuelablaw04.UnitsNames", spec := "unitsNames", unfollowed := true, recurses := true, named := ["queuelab/units.kinds", "queuelab/units.inputs"], loops := true, apart := false, laid := [("queuelab/units.kinds", laid_queuelab_units_kinds), ("queuelab/units.inputs", laid_queuelab_units_inputs)] }
def UnitsNamesSaid : Prop := unitsNamesRow.holds Tryd.pinned (OpenSpec.ofChange unitsNamesSpec)

/-- ITS FALSE NEIGHBOUR: 'it returns false'. Refute it at one input. -/
def unitsNamesWrong : ChangeSpec := { name := "unitsNames", fn := fun _ => fun
  | [d1, d2, d3, d4, d5] => { results := [.lit (.bool false)], args := [d1, d2, d3, d4, d5] }
  | _ => none }
def UnitsNamesWrongFalsely : Prop := unitsNamesRow.holds Tryd.pinned (OpenSpec.ofChange unitsNamesWrong)

/- THE SECOND FORM. 'bulk': how many values and letters a reading holds, each counted each time it is reached (what is shared counts as often as it is met; a slice's spare places count too). A statement '..UptoSaid' is the law's where the arguments, and the package variables that the reading takes, are together of bulk at most 1048576: NARROWER than '..Said'. Prove '..Said' where nothing that the law and all that it calls make is longer than what came in: it says more and counts as full. Else prove '..UptoSaid'. A law counts once. -/
mutual
def uptoBulk {H : Type} : DataW H → Nat
  | .lit (.string bytes) => bytes.length + 1
  | .lit _ => 1
  | .nil => 1
  | .ptr d => uptoBulk d + 1
  | .slice elems spare => uptoBulkAll elems + uptoBulkAll spare + 1
  | .agg parts => uptoBulkAll parts + 1
  | .iface _ d => uptoBulk d + 1
  | .map entries => uptoBulkEntries entries + 1
  | .held _ => 1
def uptoBulkAll {H : Type} : List (DataW H) → Nat
  | [] => 0
  | d :: r => uptoBulk d + uptoBulkAll r
def uptoBulkEntries {H : Type} : List (Lit × DataW H) → Nat
  | [] => 0
  | x :: r => uptoBulkEntry x + uptoBulkEntries r
def uptoBulkEntry {H : Type} : Lit × DataW H → Nat
  | (.string bytes, d) => bytes.length + uptoBulk d + 1
  | (_, d) => uptoBulk d + 1
 end
def uptoSmall : (H : Type) → List (DataW H) → Bool := fun _ ds => decide (uptoBulkAll ds ≤ 1048576)
def OpenSpec.upto (s : _root_.Go.ChangeSpec) : _root_.Go.OpenSpec := { _root_.Go.OpenSpec.ofChange s with cond := some uptoSmall }

/-- 'queuelablaw04.UnitsMatchesReference', WHERE WHAT IT READS IS OF BULK AT MOST 1048576: true; the input reads as it did. -/
def unitsMatchesReferenceUptoRow : OpenClaim := { program := "ytmofclpheioepaadoor", sum := "0fa82c8316800892167a96208144ccb42d28b98e021a5bb23ef7c8a86ca74a9a", func := "queuelab/queuelablaw04.UnitsMatchesReference", spec := "unitsMatchesReference", unfollowed := true, recurses := true, named := ["queuelab/units.kinds", "queuelab/units.inputs"], loops := true, apart := false, laid := [("queuelab/units.kinds", laid_queuelab_units_kinds), ("queuelab/units.inputs", laid_queuelab_units_inputs)], narrowed := true }
def UnitsMatchesReferenceUptoSaid : Prop := unitsMatchesReferenceUptoRow.holds Tryd.pinned (OpenSpec.upto unitsMatchesReferenceSpec)

/-- 'queuelablaw04.UnitsOperations', WHERE WHAT IT READS IS OF BULK AT MOST 1048576: true; the input reads as it did. -/
def unitsOperationsUptoRow : OpenClaim := { program := "ytmofclpheioepaadoor", sum := "0fa82c8316800892167a96208144ccb42d28b98e021a5bb23ef7c8a86ca74a9a", func := "queuelab/queuelablaw04.UnitsOperations", spec := "unitsOperations", unfollowed := true, recurses := true, named := ["queuelab/units.kinds", "queuelab/units.inputs"], loops := true, apart := false, laid := [("queuelab/units.kinds", laid_queuelab_units_kinds), ("queuelab/units.inputs", laid_queuelab_units_inputs)], narrowed := true }
def UnitsOperationsUptoSaid : Prop := unitsOperationsUptoRow.holds Tryd.pinned (OpenSpec.upto unitsOperationsSpec)

/-- 'queuelablaw04.UnitsScaling', WHERE WHAT IT READS IS OF BULK AT MOST 1048576: true; the input reads as it did. -/
def unitsScalingUptoRow : OpenClaim := { program := "ytmofclpheioepaadoor", sum := "0fa82c8316800892167a96208144ccb42d28b98e021a5bb23ef7c8a86ca74a9a", func := "queuelab/queuelablaw04.UnitsScaling", spec := "unitsScaling", unfollowed := true, recurses := true, named := ["queuelab/units.kinds", "queuelab/units.inputs"], loops := true, apart := false, laid := [("queuelab/units.kinds", laid_queuelab_units_kinds), ("queuelab/units.inputs", laid_queuelab_units_inputs)], narrowed := true }
def UnitsScalingUptoSaid : Prop := unitsScalingUptoRow.holds Tryd.pinned (OpenSpec.upto unitsScalingSpec)

/-- 'queuelablaw04.UnitsHandlers', WHERE WHAT IT READS IS OF BULK AT MOST 1048576: true; the input reads as it did. -/
def unitsHandlersUptoRow : OpenClaim := { program := "ytmofclpheioepaadoor", sum := "0fa82c8316800892167a96208144ccb42d28b98e021a5bb23ef7c8a86ca74a9a", func := "queuelab/queuelablaw04.UnitsHandlers", spec := "unitsHandlers", unfollowed := true, recurses := true, named := ["queuelab/units.kinds", "queuelab/units.inputs"], loops := true, apart := false, laid := [("queuelab/units.kinds", laid_queuelab_units_kinds), ("queuelab/units.inputs", laid_queuelab_units_inputs)], narrowed := true }
def UnitsHandlersUptoSaid : Prop := unitsHandlersUptoRow.holds Tryd.pinned (OpenSpec.upto unitsHandlersSpec)

/-- 'queuelablaw04.UnitsNames', WHERE WHAT IT READS IS OF BULK AT MOST 1048576: true; the input reads as it did. -/
def unitsNamesUptoRow : OpenClaim := { program := "ytmofclpheioepaadoor", sum := "0fa82c8316800892167a96208144ccb42d28b98e021a5bb23ef7c8a86ca74a9a", func := "queuelab/queuelablaw04.UnitsNames", spec := "unitsNames", unfollowed := true, recurses := true, named := ["queuelab/units.kinds", "queuelab/units.inputs"], loops := true, apart := false, laid := [("queuelab/units.kinds", laid_queuelab_units_kinds), ("queuelab/units.inputs", laid_queuelab_units_inputs)], narrowed := true }
def UnitsNamesUptoSaid : Prop := unitsNamesUptoRow.holds Tryd.pinned (OpenSpec.upto unitsNamesSpec)

end Rows
end Go.Proofs.YtmofclpheioepaaDoor
