/- Texts of one proof: VxH. -/
import Derived.Test.YtdlebaiamdbneaaGreatDoorYo
import Derived.Test.YtdlebaiamdbneaaGreatDoorYg
import Derived.Test.YtdlebaiamdbneaaGreatDoorYl
import Derived.Test.YtdlebaiamdbneaaGreatDoorYp
set_option linter.unusedVariables false
set_option linter.unusedSimpArgs false
set_option maxRecDepth 100000
set_option maxHeartbeats 8000000
namespace Go.Proofs.YtdlebaiamdbneaaGreatDoor
open Go.RowKit
namespace M
open I
open U (Ex St StsR StR StAt btw btw_iff ev eArr KidsE newBlk blkLt Vr VarsR VrAt KpL sArr two_kids owns_below new_cells gbRefl gbAlloc gbTrans gbBelow kbS kbL)
open R (epanic bAllocX insR LeftP erOf cell1 limS WfL)
open C (valPM v5 v5_val SomeB V1)
theorem v5_len {x : ByteArray} {vs : List Vr} {on : List (List St)} {wi pa : Int} (h : v5 nm5 x vs on wi pa = true) : vs.length ≤ 12 := by
 unfold C.v5 at h
 simp only [Bool.and_eq_true, decide_eq_true_eq] at h
 exact h.1.2.2
theorem rs_ev {e i0 i1 i2 i3 : Int} (h : rsB e i0 i1 i2 i3 0 = true) : 0 ≤ e ∧ e ≤ 4 := by
 simp only [rsB, Bool.and_eq_true] at h
 exact btw_iff.1 h.2.2.2.2
theorem on_mem {o : U.On} {e : Int} (h : 0 ≤ e ∧ e ≤ 4) : onAt o.list e ∈ o.list := by
 have h5 : e = 0 ∨ e = 1 ∨ e = 2 ∨ e = 3 ∨ e = 4 := by omega
 rcases h5 with rfl | rfl | rfl | rfl | rfl <;> simp [onAt, U.On.list]
theorem run_ok {x : ByteArray} {vs : List Vr} {on : List (List St)} {wi pa : Int} {st : List Int} {e i0 i1 i2 i3 : Int} (h1 : valPM x vs on wi pa = true) (h2 : stB vs st = true) (h3 : rsB e i0 i1 i2 i3 0 = true) : runM x vs on wi pa st e i0 i1 i2 i3 = rnL [i0, i1, i2, i3] (limS vs) st (onAt on e) := by
 unfold runM
 rw [h1, h2, h3]
 rfl
end M
end Go.Proofs.YtdlebaiamdbneaaGreatDoor
