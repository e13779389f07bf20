/- Contracts of the small functions of law package 06. -/
import Derived.Test.YtphjkkkjkfclgaaIxJ
namespace Go.Proofs.Ytphjkkkjkfclgaa
open Go.RowKit
set_option linter.unusedVariables false
set_option linter.unusedSimpArgs false
theorem bDrewN {B : Nat} {w X : World} (h : Below B w X) (n : Nat) : Below B w (X.drewN n) := ⟨h.os, h.tape, h.output, h.size, h.block⟩
def inB (s : Sp) (e n : Int) : Bool := decide (e = 0) && (decide (s.lo ≤ n) && decide (n ≤ s.hi))
theorem inB_iff {s : Sp} {e n : Int} : inB s e n = true ↔ e = 0 ∧ s.lo ≤ n ∧ n ≤ s.hi := by simp [inB]
def wiB (s : Sp) (e : Int) (t : Sp) (f : Int) : Bool := decide (f ≠ 0) || (decide (e = 0) && (decide (t.lo ≤ s.lo) && decide (s.hi ≤ t.hi)))
theorem wiB_iff {s t : Sp} {e f : Int} : wiB s e t f = true ↔ f ≠ 0 ∨ (e = 0 ∧ t.lo ≤ s.lo ∧ s.hi ≤ t.hi) := by simp [wiB]
def pickM (s : Sp) (n : Int) : Int := s.lo + n % (s.hi - s.lo + 1)
theorem pickM_in {s : Sp} {n : Int} (h : s.lo ≤ s.hi) (h0 : 0 ≤ n) : s.lo ≤ pickM s n ∧ pickM s n ≤ s.hi := by
  have h1 := Int.emod_nonneg n (show s.hi - s.lo + 1 ≠ 0 by omega)
  have h2 := Int.emod_lt_of_pos n (show 0 < s.hi - s.lo + 1 by omega)
  unfold pickM; omega
def turnM (s : Sp) : Sp := ⟨-s.hi, -s.lo⟩
theorem tdiv_mul_bd (x y : Int) : x.tdiv y * y = x - x.tmod y ∧ -absF x ≤ x.tmod y ∧ x.tmod y ≤ absF x := by
  have e := Int.tdiv_mul_add_tmod x y
  have h : (x.tmod y).natAbs ≤ x.natAbs := by rw [Int.natAbs_tmod]; exact Nat.mod_le _ _
  refine ⟨by omega, ?_, ?_⟩ <;> unfold absF <;> omega
set_option maxHeartbeats 400000 in
set_option maxRecDepth 100000 in
theorem within_any (s : Sp) (er : Int) (t : Sp) (fr : Int) (w : World) : Calls Try.prog 10 #[sv s, .int .i64 er, sv t, .int .i64 fr] w (BB (wiB s er t fr) w) := by
  have hb := Lib.hid (bAlloc (o := .cells #[.int .i64 t.lo, .int .i64 t.hi] 23) (bAlloc (o := .cells #[.int .i64 s.lo, .int .i64 s.hi] 23) (Below.refl w.heap.size w)))
  go_enter Try.func10, Try.ntmps10
  go_wp2
  all_goals
    go_ret
    refine ⟨ret_bool ?_, hb.out⟩
    rw [Bool.eq_iff_iff, wiB_iff]
    simp [*]
  all_goals omega
set_option maxHeartbeats 400000 in
set_option maxRecDepth 100000 in
theorem pick_any (s : Sp) (n : Int) (hs : vB s = true) (hn : 0 ≤ n ∧ n < 18446744073709551616) (w : World) : Calls Try.prog 8 #[sv s, .int .u64 n] w (VV (.int .i64 (pickM s n)) w) := by
  rw [vB_iff] at hs
  have hp := pickM_in (s := s) hs.2.1 hn.1
  have hb := Lib.hid (bAlloc (o := .cells #[.int .i64 s.lo, .int .i64 s.hi] 23) (Below.refl w.heap.size w))
  have h1 := Int.emod_nonneg n (show s.hi - s.lo + 1 ≠ 0 by omega)
  have h2 := Int.emod_lt_of_pos n (show 0 < s.hi - s.lo + 1 by omega)
  have q0 : IntKind.i64.wrap (s.hi - s.lo) = s.hi - s.lo := IntWalk.i64_in _ (by omega)
  have q1 : IntKind.i64.wrap (s.hi - s.lo + 1) = s.hi - s.lo + 1 := IntWalk.i64_in _ (by omega)
  have q2 : IntKind.u64.wrap (s.hi - s.lo + 1) = s.hi - s.lo + 1 := by simp [IntKind.wrap, IntKind.signed, IntKind.bits]; omega
  have q3 : n.tmod (s.hi - s.lo + 1) = n % (s.hi - s.lo + 1) := by rw [Int.tmod_eq_emod_of_nonneg hn.1]
  have q4 : IntKind.i64.wrap (n % (s.hi - s.lo + 1)) = n % (s.hi - s.lo + 1) := IntWalk.i64_in _ (by omega)
  have q5 : IntKind.i64.wrap (s.lo + n % (s.hi - s.lo + 1)) = s.lo + n % (s.hi - s.lo + 1) := IntWalk.i64_in _ (by omega)
  have q6 : IntKind.u64.wrap (n % (s.hi - s.lo + 1)) = n % (s.hi - s.lo + 1) := by simp [IntKind.wrap, IntKind.signed, IntKind.bits]; omega
  have q7 : s.hi - s.lo + 1 ≠ 0 := by omega
  have e : pickM s n = s.lo + n % (s.hi - s.lo + 1) := rfl
  rw [e]
  clear e hp h1 h2 hs hn
  go_enter Try.func8, Try.ntmps8
  go_wp2_with fail
  go_quiet (fail)
  go_wp2
  go_ret
  exact ⟨rfl, bDrewN hb.out _⟩
end Go.Proofs.Ytphjkkkjkfclgaa
