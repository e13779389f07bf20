/- Contracts of the small functions of package interval. -/
import Derived.Test.YtphjkkkjkfclgaaIxA
import Derived.WalkKit
import Derived.LoopTactic
import Derived.Outline
import Derived.Deep.QuietTactic
import Derived.Deep.LoopGhost
import Derived.Deep.RegionWith
import Derived.Deep.RegionLaw
import Derived.Deep.AppendLies
import Derived.WalkLawsBesides
import Derived.BigQuiet
import Derived.BigCall
import Derived.OwnWalk
import Derived.WalkMore
import Derived.Laws.AppendOwn
import Derived.Laws.Rows
import Derived.Laws.NewBlocks
import Derived.Lib.Hide
import Derived.Below
import Derived.IntWalk
import Derived.Deep.RegionHeld3
import Derived.Deep.DeepCutAuto
import Derived.Deep.Cut
import Derived.Test.YtphjkkkjkfclgaaChecked
namespace Go.Proofs.Ytphjkkkjkfclgaa
open Go.RowKit
set_option linter.unusedVariables false
set_option linter.unusedSimpArgs false

abbrev sv (s : Sp) : Value := .agg #[.int .i64 s.lo, .int .i64 s.hi]
abbrev rv (r : Sp × Int) : Value := .tuple #[sv r.1, .int .i64 r.2]
def BB (b : Bool) (w : World) (e : Ending) (w' : World) : Prop := e = .returned (.bool b) ∧ Below w.heap.size w w'
def VV (v : Value) (w : World) (e : Ending) (w' : World) : Prop := e = .returned v ∧ Below w.heap.size w w'
/-- the world stays -/
def SS (v : Value) (w : World) (e : Ending) (w' : World) : Prop := e = .returned v ∧ w' = w
theorem blkLt {w : World} {b : Nat} {o : Obj} (h : w.heap[b]? = some o) : b < w.heap.size := (Array.getElem?_eq_some_iff.1 h).1
theorem newBlk (w : World) (o : Obj) (b : Nat) (h : b = w.heap.size) : (w.alloc o).heap[b]? = some o := by subst h; exact heap_alloc_new w o
theorem cells2 {w : World} {b : Nat} {v0 v1 : Value} {T : TypeId} (h : w.heap[b]? = some (.cells #[v0, v1] T (0, 0))) :
    (w.cell? ⟨b, 0, none⟩ = some v0 ∧ w.cell? ⟨b, 1, none⟩ = some v1) ∧ w.frozen? ⟨b, 0, none⟩ = false ∧ w.frozen? ⟨b, 1, none⟩ = false := by
  refine ⟨⟨?_, ?_⟩, ?_, ?_⟩
  · rw [cell_of_row _ _ 0 _ _ (0, 0) h]; rfl
  · rw [cell_of_row _ _ 1 _ _ (0, 0) h]; rfl
  all_goals simp [World.frozen?, h]
theorem cells4 {w : World} {b : Nat} {v0 v1 v2 v3 : Value} {T : TypeId} (h : w.heap[b]? = some (.cells #[v0, v1, v2, v3] T (0, 0))) :
    (w.cell? ⟨b, 0, none⟩ = some v0 ∧ w.cell? ⟨b, 1, none⟩ = some v1 ∧ w.cell? ⟨b, 2, none⟩ = some v2 ∧ w.cell? ⟨b, 3, none⟩ = some v3) := by
  refine ⟨?_, ?_, ?_, ?_⟩
  · rw [cell_of_row _ _ 0 _ _ (0, 0) h]; rfl
  · rw [cell_of_row _ _ 1 _ _ (0, 0) h]; rfl
  · rw [cell_of_row _ _ 2 _ _ (0, 0) h]; rfl
  · rw [cell_of_row _ _ 3 _ _ (0, 0) h]; rfl
theorem bAlloc {w X : World} {o : Obj} (h : Below w.heap.size w X) : Below w.heap.size w (X.alloc o) := h.alloc h.size o
theorem bDrew {w X : World} (h : Below w.heap.size w X) : Below w.heap.size w X.drew := h.drew
theorem bCall {w X w1 : World} (h : Below w.heap.size w X) (hb : Below X.heap.size X w1) : Below w.heap.size w w1 := h.trans (hb.mono h.size)
theorem ret_int {k : IntKind} {a b : Int} (h : a = b) : Ending.returned (.int k a) = .returned (.int k b) := by rw [h]
theorem ret_bool {a b : Bool} (h : a = b) : Ending.returned (.bool a) = .returned (.bool b) := by rw [h]
/-- within an int -/
def Fit (n : Int) : Prop := -4000000000000000000 ≤ n ∧ n ≤ 4000000000000000000
def I64 (n : Int) : Prop := -9223372036854775808 ≤ n ∧ n ≤ 9223372036854775807

set_option maxHeartbeats 400000 in
set_option maxRecDepth 100000 in
theorem addL (x y : Int) (hx : Fit x) (hy : Fit y) (w : World) : Calls Try.prog 22 #[.int .i64 x, .int .i64 y] w (SS (.int .i64 (addF x y)) w) := by
  unfold Fit at hx hy
  have q : IntKind.i64.wrap (x + y) = x + y := IntWalk.i64_in _ (by omega)
  go_enter Try.func22, Try.ntmps22
  go_wp2
  go_ret
  exact ⟨rfl, rfl⟩
set_option maxHeartbeats 400000 in
set_option maxRecDepth 100000 in
theorem subL (x y : Int) (hx : Fit x) (hy : Fit y) (w : World) : Calls Try.prog 23 #[.int .i64 x, .int .i64 y] w (SS (.int .i64 (subF x y)) w) := by
  unfold Fit at hx hy
  have q : IntKind.i64.wrap (x - y) = x - y := IntWalk.i64_in _ (by omega)
  go_enter Try.func23, Try.ntmps23
  go_wp2
  go_ret
  exact ⟨rfl, rfl⟩
set_option maxHeartbeats 400000 in
set_option maxRecDepth 100000 in
theorem minL (x y : Int) (w : World) : Calls Try.prog 28 #[.int .i64 x, .int .i64 y] w (SS (.int .i64 (minF x y)) w) := by
  go_enter Try.func28, Try.ntmps28
  go_wp2
  all_goals
    go_ret
    exact ⟨ret_int (by unfold minF; omega), rfl⟩
set_option maxHeartbeats 400000 in
set_option maxRecDepth 100000 in
theorem maxL (x y : Int) (w : World) : Calls Try.prog 29 #[.int .i64 x, .int .i64 y] w (SS (.int .i64 (maxF x y)) w) := by
  go_enter Try.func29, Try.ntmps29
  go_wp2
  all_goals
    go_ret
    exact ⟨ret_int (by unfold maxF; omega), rfl⟩
set_option maxHeartbeats 400000 in
set_option maxRecDepth 100000 in
theorem sizeL (x : Int) (hx : Fit x) (w : World) : Calls Try.prog 34 #[.int .i64 x] w (SS (.int .i64 (absF x)) w) := by
  unfold Fit at hx
  have q : IntKind.i64.wrap (-x) = -x := IntWalk.i64_in _ (by omega)
  go_enter Try.func34, Try.ntmps34
  go_wp2
  all_goals
    go_ret
    exact ⟨ret_int (by unfold absF; omega), rfl⟩
set_option maxHeartbeats 400000 in
set_option maxRecDepth 100000 in
theorem absR (x : Int) (hx : Fit x) (w : World) : Calls Try.prog 32 #[.int .i64 x] w (SS (.int .i64 (absF x)) w) := by
  unfold Fit at hx
  have q : IntKind.i64.wrap (-x) = -x := IntWalk.i64_in _ (by omega)
  go_enter Try.func32, Try.ntmps32
  go_wp2
  all_goals
    go_ret
    exact ⟨ret_int (by unfold absF; omega), rfl⟩
set_option maxHeartbeats 400000 in
set_option maxRecDepth 100000 in
theorem mulL (x y : Int) (hx : vN x = true) (hy : vN y = true) (w : World) : Calls Try.prog 24 #[.int .i64 x, .int .i64 y] w (SS (.int .i64 (mulF x y)) w) := by
  have hv := mulF_val x y
  have q : vN (x * y) = true → IntKind.i64.wrap (x * y) = x * y := fun h => IntWalk.i64_in _ (by rw [vN_iff] at h; omega)
  rw [vN_iff] at hx hy
  have fx : Fit x := by unfold Fit; omega
  have fy : Fit y := by unfold Fit; omega
  by_cases h0 : x = 0
  · subst h0
    have e : mulF 0 y = 0 := by unfold mulF; rw [if_neg (by simp)]; simp
    rw [e]
    have q : IntKind.i64.wrap (0 * y) = 0 := by rw [Int.zero_mul]; rfl
    clear hv hx e fx
    go_enter Try.func24, Try.ntmps24
    go_wp2
    go_ret
    exact ⟨rfl, rfl⟩
  · have ha := absF_pos h0
    have hal : absF x ≤ 1000000000000 := by unfold absF; omega
    have hyl : absF y ≤ 1000000000000 := by unfold absF; omega
    have hyn := absF_nonneg y
    have hsx := Lib.hid (sizeL x fx)
    have hsy := Lib.hid (sizeL y fy)
    clear fx fy
    by_cases hlt : 1000000000000 / absF x < absF y
    · have e : mulF x y = 1000000000001 := by unfold mulF; rw [if_pos ⟨h0, hlt⟩]
      rw [e]
      clear hv q e hx hy
      generalize absF x = ax at *
      generalize absF y = ay at *
      go_enter Try.func24, Try.ntmps24
      go_wp2_with (first | (go_at_call_of 34 (Value.int .i64 y); refine (hsy.out _).mono ?_; rintro e w1 ⟨rfl, rfl⟩) | (go_at_call 34; refine (hsx.out _).mono ?_; rintro e w1 ⟨rfl, rfl⟩))
      go_ret
      exact ⟨rfl, rfl⟩
    · have e : mulF x y = x * y := by unfold mulF; rw [if_neg (fun h => hlt h.2)]
      rw [e]
      have q := q (mul_ok h0 hlt)
      clear hv e hx hy
      generalize absF x = ax at *
      generalize absF y = ay at *
      go_enter Try.func24, Try.ntmps24
      go_wp2_with (first | (go_at_call_of 34 (Value.int .i64 y); refine (hsy.out _).mono ?_; rintro e w1 ⟨rfl, rfl⟩) | (go_at_call 34; refine (hsx.out _).mono ?_; rintro e w1 ⟨rfl, rfl⟩))
      go_ret
      exact ⟨rfl, rfl⟩
set_option maxHeartbeats 400000 in
set_option maxRecDepth 100000 in
theorem mulR (x y : Int) (hx : vN x = true) (hy : vN y = true) (w : World) : Calls Try.prog 19 #[.int .i64 x, .int .i64 y] w (SS (.int .i64 (mulF x y)) w) := by
  have hv := mulF_val x y
  have q : vN (x * y) = true → IntKind.i64.wrap (x * y) = x * y := fun h => IntWalk.i64_in _ (by rw [vN_iff] at h; omega)
  rw [vN_iff] at hx hy
  have fx : Fit x := by unfold Fit; omega
  have fy : Fit y := by unfold Fit; omega
  by_cases h0 : x = 0
  · subst h0
    have e : mulF 0 y = 0 := by unfold mulF; rw [if_neg (by simp)]; simp
    rw [e]
    have q : IntKind.i64.wrap (0 * y) = 0 := by rw [Int.zero_mul]; rfl
    clear hv hx e fx
    go_enter Try.func19, Try.ntmps19
    go_wp2
    go_ret
    exact ⟨rfl, rfl⟩
  · have ha := absF_pos h0
    have hal : absF x ≤ 1000000000000 := by unfold absF; omega
    have hyl : absF y ≤ 1000000000000 := by unfold absF; omega
    have hyn := absF_nonneg y
    have hsx := Lib.hid (absR x fx)
    have hsy := Lib.hid (absR y fy)
    clear fx fy
    by_cases hlt : 1000000000000 / absF x < absF y
    · have e : mulF x y = 1000000000001 := by unfold mulF; rw [if_pos ⟨h0, hlt⟩]
      rw [e]
      clear hv q e hx hy
      generalize absF x = ax at *
      generalize absF y = ay at *
      go_enter Try.func19, Try.ntmps19
      go_wp2_with (first | (go_at_call_of 32 (Value.int .i64 y); refine (hsy.out _).mono ?_; rintro e w1 ⟨rfl, rfl⟩) | (go_at_call 32; refine (hsx.out _).mono ?_; rintro e w1 ⟨rfl, rfl⟩))
      go_ret
      exact ⟨rfl, rfl⟩
    · have e : mulF x y = x * y := by unfold mulF; rw [if_neg (fun h => hlt h.2)]
      rw [e]
      have q := q (mul_ok h0 hlt)
      clear hv e hx hy
      generalize absF x = ax at *
      generalize absF y = ay at *
      go_enter Try.func19, Try.ntmps19
      go_wp2_with (first | (go_at_call_of 32 (Value.int .i64 y); refine (hsy.out _).mono ?_; rintro e w1 ⟨rfl, rfl⟩) | (go_at_call 32; refine (hsx.out _).mono ?_; rintro e w1 ⟨rfl, rfl⟩))
      go_ret
      exact ⟨rfl, rfl⟩
set_option maxHeartbeats 400000 in
set_option maxRecDepth 100000 in
theorem divL (x y : Int) (hx : Fit x) (hy : Fit y) (h0 : y ≠ 0) (w : World) : Calls Try.prog 26 #[.int .i64 x, .int .i64 y] w (SS (.int .i64 (divF x y)) w) := by
  unfold Fit at hx hy
  have e := floor_eq x y h0
  have hb := tdiv_bd x y
  unfold absF at hb
  have q1 : IntKind.i64.wrap (x.tdiv y) = x.tdiv y := IntWalk.i64_in _ (by omega)
  have q2 : IntKind.i64.wrap (x.tdiv y - 1) = x.tdiv y - 1 := IntWalk.i64_in _ (by omega)
  have E := Lib.hid e
  clear e hb
  go_enter Try.func26, Try.ntmps26
  go_wp2
  all_goals
    go_ret
    exact ⟨ret_int (by unfold divF; rw [E.out]; split <;> simp_all), rfl⟩
end Go.Proofs.Ytphjkkkjkfclgaa
