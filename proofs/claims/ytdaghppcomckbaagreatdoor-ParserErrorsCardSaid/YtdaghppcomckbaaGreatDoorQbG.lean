/- Texts of one proof: QbG. -/
import Derived.Test.YtdaghppcomckbaaGreatDoorQbF
/- The law ParserErrors' contract for the row: the third argument as an integer of eight bits. -/
namespace Go.Proofs.YtdaghppcomckbaaGreatDoor
open Go.RowKit
theorem Errors_law (a b : ByteArray) (z : Int) (w : World) (hL : LaidW w) (hw : 2 < w.heap.size) (ha : a.size ≤ maxLen) (hb : b.size ≤ maxLen) (hz : (Lit.int .u8 z).wf = true) :
    Calls Tryz.prog 3 #[.string a, .string b, .int .u8 z] w (BB true w) := by
  have h : 0 ≤ z ∧ z < 256 := by
    simp only [Lit.wf, Bool.and_eq_true, decide_eq_true_eq] at hz
    have h0 : IntKind.u8.min = 0 := rfl
    have h1 : IntKind.u8.max = 255 := rfl
    omega
  obtain ⟨k, rfl⟩ : ∃ k : Nat, z = (k : Int) := ⟨z.toNat, by omega⟩
  exact Errors_any a b k (by omega) w hL hw ha hb
end Go.Proofs.YtdaghppcomckbaaGreatDoor
