/- Texts of one proof: VxK. -/
import Derived.Test.YtdlebaiamdbneaaGreatDoorWr
set_option linter.unusedVariables false
set_option linter.unusedSimpArgs false
set_option maxRecDepth 100000
set_option maxHeartbeats 8000000
namespace Go.Proofs.YtdlebaiamdbneaaGreatDoor
open Go.RowKit
namespace M
open I
open U (Ex St StsR StR StAt btw btw_iff ev eArr KidsE newBlk blkLt Vr VarsR VrAt KpL sArr two_kids owns_below new_cells gbRefl gbAlloc gbTrans gbBelow kbS kbL)
open R (epanic bAllocX insR LeftP erOf cell1 limS WfL)
open C (valPM v5 v5_val SomeB V1)
def kp (n i j : Nat) : Bool := !(decide (i < j) && !decide (i = n))
theorem intsB_self (l : List Int) : intsB l l = true := by
 have : ∀ l : List Int, eqB l l = true := by
  intro l
  induction l with
  | nil => rfl
  | cons a l ih => simp [eqB, ih]
 unfold intsB
 rw [decide_eq_true rfl, this]; rfl
end M
end Go.Proofs.YtdlebaiamdbneaaGreatDoor
