/- Texts of one proof: IxA, IxB, IxD, RxB, MxA, MxB, RxE, MxC, MxD. -/
import Derived.WalkKit
import Derived.LoopTactic
import Derived.Outline
import Derived.Deep.QuietTactic
import Derived.Deep.LoopGhost
import Derived.Deep.RegionWith
import Derived.Deep.RegionLaw
import Derived.Deep.AppendLies
import Derived.WalkLawsBesides
import Derived.BigQuiet
import Derived.BigCall
import Derived.OwnWalk
import Derived.WalkMore
import Derived.Laws.AppendOwn
import Derived.Laws.Rows
import Derived.Laws.NewBlocks
import Derived.Lib.Hide
import Derived.Below
import Derived.IntWalk
import Derived.Deep.RegionHeld3
import Derived.Deep.DeepCutAuto
import Derived.Deep.Cut
import Derived.Test.YtdlebaiamdbneaaGreatDoorChecked
import Derived.StillTailTactics
import Derived.Test.YtdlebaiamdbneaaGreatDoorZi
import Derived.Test.YtdlebaiamdbneaaGreatDoorZt
import Derived.Test.YtdlebaiamdbneaaGreatDoorZk
import Derived.MapKept
set_option linter.unusedVariables false
set_option linter.unusedSimpArgs false
set_option maxRecDepth 100000
set_option maxHeartbeats 8000000
namespace Go.Proofs.YtdlebaiamdbneaaGreatDoor.I
structure Sp where
 lo : Int
 hi : Int
def vN (n : Int) : Bool := decide (-1000000000000 ≤ n) && decide (n ≤ 1000000000000)
theorem vN_iff {n : Int} : vN n = true ↔ -1000000000000 ≤ n ∧ n ≤ 1000000000000 := by simp [vN]
def absF (x : Int) : Int := max x (-x)
def divF (x y : Int) : Int := x.fdiv y
theorem absF_nonneg (x : Int) : 0 ≤ absF x := by unfold absF; omega
theorem absF_pos {x : Int} (h : x ≠ 0) : 1 ≤ absF x := by unfold absF; omega
theorem absF_mul (x y : Int) : absF (x * y) = absF x * absF y := by
 unfold absF
 rcases Int.le_total 0 x with hx | hx <;> rcases Int.le_total 0 y with hy | hy
 ·have := Int.mul_nonneg hx hy
  rw [Int.max_eq_left (by omega), Int.max_eq_left (by omega), Int.max_eq_left (by omega)]
 ·have := Int.mul_nonneg hx (show 0 ≤ -y by omega)
  rw [Int.mul_neg] at this
  rw [Int.max_eq_right (by omega), Int.max_eq_left (by omega), Int.max_eq_right (by omega), Int.mul_neg]
 ·have := Int.mul_nonneg (show 0 ≤ -x by omega) hy
  rw [Int.neg_mul] at this
  rw [Int.max_eq_right (by omega), Int.max_eq_right (by omega), Int.max_eq_left (by omega), Int.neg_mul]
 ·have := Int.mul_nonneg (show 0 ≤ -x by omega) (show 0 ≤ -y by omega)
  rw [Int.neg_mul_neg] at this
  rw [Int.max_eq_left (by omega), Int.max_eq_right (by omega), Int.max_eq_right (by omega), Int.neg_mul_neg]
theorem fdiv_pos (x : Int) {y : Int} (h : 0 < y) : x.fdiv y = x / y := Int.fdiv_eq_ediv_of_nonneg x (by omega)
theorem fdiv_negneg (x y : Int) : (-x).fdiv (-y) = x.fdiv y := by simp
theorem fdiv_neg_eq (x : Int) {y : Int} (h : y < 0) : x.fdiv y = (-x) / (-y) := by rw [← fdiv_negneg, fdiv_pos _ (by omega)]
theorem tdiv_bd (x y : Int) : (0 ≤ x.tdiv y ∧ x.tdiv y ≤ absF x) ∨ (x.tdiv y ≤ 0 ∧ - absF x ≤ x.tdiv y) := by
 have h : (x.tdiv y).natAbs ≤ x.natAbs := by rw [Int.natAbs_tdiv]; exact Nat.div_le_self _ _
 unfold absF; omega
theorem floor_eq (x y : Int) (hy : y ≠ 0) : x.fdiv y = if x.tmod y ≠ 0 ∧ ((decide (x < 0) == decide (y < 0)) = false) then x.tdiv y - 1 else x.tdiv y := by
 rw [Int.fdiv_eq_tdiv]
 have h := @Int.dvd_iff_tmod_eq_zero y x
 by_cases hd : y ∣ x
 ·rw [if_pos hd, if_neg (by simp [h.1 hd])]; omega
 ·have ht : x.tmod y ≠ 0 := fun e => hd (h.2 e)
  rw [if_neg hd]
  rcases Int.lt_or_gt_of_ne hy with hy' | hy'
  ·have s : y.sign = -1 := Int.sign_eq_neg_one_of_neg hy'
   by_cases hx : 0 ≤ x
   ·rw [if_pos hx, if_neg (by omega), if_pos ⟨ht, by simp; omega⟩]
   ·rw [if_neg hx, if_neg (by omega), if_neg (by simp; omega), s]; omega
  ·have s : y.sign = 1 := Int.sign_eq_one_of_pos hy'
   by_cases hx : 0 ≤ x
   ·rw [if_pos hx, if_pos (by omega), if_neg (by simp; omega)]; omega
   ·rw [if_neg hx, if_pos (by omega), if_pos ⟨ht, by simp; omega⟩, s]
end Go.Proofs.YtdlebaiamdbneaaGreatDoor.I
namespace Go.Proofs.YtdlebaiamdbneaaGreatDoor.I
open Go.RowKit
abbrev sv (s : Sp) : Value := .agg #[.int .i64 s.lo, .int .i64 s.hi]
abbrev rv (r : Sp × Int) : Value := .tuple #[sv r.1, .int .i64 r.2]
def BB (b : Bool) (w : World) (e : Ending) (w' : World) : Prop := e = .returned (.bool b) ∧ Below w.heap.size w w'
def VV (v : Value) (w : World) (e : Ending) (w' : World) : Prop := e = .returned v ∧ Below w.heap.size w w'
def SS (v : Value) (w : World) (e : Ending) (w' : World) : Prop := e = .returned v ∧ w' = w
theorem blkLt {w : World} {b : Nat} {o : Obj} (h : w.heap[b]? = some o) : b < w.heap.size := (Array.getElem?_eq_some_iff.1 h).1
theorem newBlk (w : World) (o : Obj) (b : Nat) (h : b = w.heap.size) : (w.alloc o).heap[b]? = some o := by subst h; exact heap_alloc_new w o
theorem ret_int {k : IntKind} {a b : Int} (h : a = b) : Ending.returned (.int k a) = .returned (.int k b) := by rw [h]
theorem ret_bool {a b : Bool} (h : a = b) : Ending.returned (.bool a) = .returned (.bool b) := by rw [h]
def Fit (n : Int) : Prop := -4000000000000000000 ≤ n ∧ n ≤ 4000000000000000000
end Go.Proofs.YtdlebaiamdbneaaGreatDoor.I
namespace Go.Proofs.YtdlebaiamdbneaaGreatDoor.I
open Go.RowKit
theorem ss {P : Program} {f : FuncId} {args : Array Value} {w : World} {v : Value} (h : Calls P f args w (SS v w)) : Calls P f args w (fun e w'' => e = .returned v ∧ w'' = w) := h
end Go.Proofs.YtdlebaiamdbneaaGreatDoor.I
namespace Go.Proofs.YtdlebaiamdbneaaGreatDoor
open Go.RowKit
namespace R
open I
theorem run_min2 (p q r : Int) (h : r = min p q) (ts : Array TypeId) (t : TypeId) (w : World) : (Builtin.min_ ts t #[.int .i64 p, .int .i64 q]).run Tryz.prog w = .ok (.int .i64 r) w := by
 have e : (if q < p then q else p) = r := by omega
 simp [Builtin.min_, Builtin.min2, e, go_sem]
theorem run_max2 (p q r : Int) (h : r = max p q) (ts : Array TypeId) (t : TypeId) (w : World) : (Builtin.max_ ts t #[.int .i64 p, .int .i64 q]).run Tryz.prog w = .ok (.int .i64 r) w := by
 have e : (if p < q then q else p) = r := by omega
 simp [Builtin.max_, Builtin.max2, e, go_sem]
abbrev epanic (er : Int) : Ending := .panicked [{ v := .iface 33 (.int .i64 er), recovered := false }]
end R
end Go.Proofs.YtdlebaiamdbneaaGreatDoor
namespace Go.Proofs.YtdlebaiamdbneaaGreatDoor
open Go.RowKit
namespace M
open I
open U (Ex St)
def opE (op a b : Int) : Except Int Int :=
 if op = 4 then .ok (a + b) else if op = 5 then .ok (a - b) else if op = 6 then (if vN (a * b) = true then .ok (a * b) else .error 3)
 else if op = 7 then (if b = 0 then .error 14 else .ok (divF a b)) else if op = 8 then (if b = 0 then .error 14 else .ok (-(divF (-a) b)))
 else if op = 9 then .ok (min a b) else if op = 10 then .ok (max a b) else .error 1
def leafE (st ins : List Int) (op n : Int) : Except Int Int :=
 if op = 1 then .ok n else if op = 2 ∧ 0 ≤ n ∧ n < st.length then .ok ((st[n.toNat]?).getD 0) else if op = 3 ∧ 0 ≤ n ∧ n < 4 then .ok ((ins[n.toNat]?).getD 0) else .error 1
def chkE : Except Int Int → Except Int Int
 | .ok n => if vN n = true then .ok n else .error 3
 | .error e => .error e
def nodE (st ins : List Int) (op n : Int) : List Int → Except Int Int
 | [] => chkE (leafE st ins op n)
 | [a, b] => chkE (opE op a b)
 | _ => .error 1
mutual
def mvE (st ins : List Int) : Ex → Except Int Int
 | .mk op n u ks => match mvK st ins ks with
  | .error e => .error e
  | .ok ss => nodE st ins op n ss
def mvK (st ins : List Int) : List Ex → Except Int (List Int)
 | [] => .ok []
 | t :: ts => match mvE st ins t with
  | .error e => .error e
  | .ok s => match mvK st ins ts with
   | .error e => .error e
   | .ok ss => .ok (s :: ss)
end
def rlB (a r b : Int) : Bool :=
 if r = 1 then decide (a < b) else if r = 2 then decide (a ≤ b) else if r = 3 then decide (b < a) else if r = 4 then decide (b ≤ a) else if r = 5 then decide (a = b) else !decide (a = b)
mutual
def rnS (ins : List Int) (lim : List Sp) (st : List Int) : St → Except Int (List Int)
 | .mk k v r a b th el =>
  if k = 1 then (match mvE st ins a with
   | .error e => .error e
   | .ok n => if ((lim[v.toNat]?).getD ⟨0, 0⟩).lo ≤ n ∧ n ≤ ((lim[v.toNat]?).getD ⟨0, 0⟩).hi then .ok (st.set v.toNat n) else .error 15)
  else match mvE st ins a with
   | .error e => .error e
   | .ok x => match mvE st ins b with
    | .error e => .error e
    | .ok y => if rlB x r y = true then rnL ins lim st th else rnL ins lim st el
def rnL (ins : List Int) (lim : List Sp) (st : List Int) : List St → Except Int (List Int)
 | [] => .ok st
 | x :: xs => match rnS ins lim st x with
  | .error e => .error e
  | .ok v => rnL ins lim v xs
end
theorem vN_abs {n : Int} : vN n = true ↔ absF n ≤ 1000000000000 := by rw [vN_iff]; unfold absF; omega
theorem absF_mul (a b : Int) : absF (a * b) = absF a * absF b := by
 have h : ∀ n : Int, absF n = n.natAbs := fun n => by unfold absF; omega
 rw [h, h, h, Int.natAbs_mul]
 simp
theorem prod_test {a b : Int} (h : a ≠ 0) : (absF b ≤ 1000000000000 / absF a) ↔ vN (a * b) = true := by
 have hp : 0 < absF a := by unfold absF; omega
 rw [vN_abs, absF_mul, Int.le_ediv_iff_mul_le hp, Int.mul_comm]
theorem mv_v {st ins : List Int} : ∀ (t : Ex) {n : Int}, mvE st ins t = .ok n → vN n = true
 | .mk op m u ks, n, h => by
  rw [mvE] at h
  have key : ∀ r, chkE r = .ok n → vN n = true := by
   intro r hr
   unfold chkE at hr
   rcases r with e | k
   ·cases hr
   ·simp only at hr
    split at hr
    ·rename_i g; cases hr; exact g
    ·cases hr
  rcases hk : mvK st ins ks with e | ss
  ·rw [hk] at h; cases h
  ·rw [hk] at h
   simp only at h
   match ss, h with
   | [], h => exact key _ h
   | [a, b], h => exact key _ h
   | [a], h => cases h
   | a :: b :: c :: l, h => cases h
theorem absF_fdiv (x y : Int) (h : y ≠ 0) : - (absF x + 1) ≤ divF x y ∧ divF x y ≤ absF x + 1 := by
 have e := floor_eq x y h
 have hb := tdiv_bd x y
 unfold divF
 rw [e]
 split <;> omega
end M
end Go.Proofs.YtdlebaiamdbneaaGreatDoor
namespace Go.Proofs.YtdlebaiamdbneaaGreatDoor
open Go.RowKit
namespace M
open I
open U (Ex St btw)
open R (epanic)
theorem need_any (b : Bool) (er : Int) (w : World) : Calls Tryz.prog 58 #[.bool b, .int .i64 er] w (fun e w' => (if b then e = .returned (.tuple #[]) else e = epanic er) ∧ w' = w) := by
 cases b
 ·go_enter Tryz.func58, Tryz.ntmps58
  go_wp2
  exact ⟨rfl, rfl, rfl⟩
 ·go_enter Tryz.func58, Tryz.ntmps58
  go_wp2
  exact ⟨rfl, .tuple #[], by simp [results, Tryz.results58, go_sem], rfl, rfl⟩
theorem between_any (n lo hi : Int) (w : World) : Calls Tryz.prog 45 #[.int .i64 n, .int .i64 lo, .int .i64 hi] w (SS (.bool (btw n lo hi)) w) := by
 go_enter Tryz.func45, Tryz.ntmps45
 go_wp2
 all_goals
  go_ret
  refine ⟨?_, rfl⟩
  simp [btw, *]
 all_goals omega
theorem isIndex_any (n len : Int) (h : 0 ≤ len ∧ len ≤ 1000000000000000) (w : World) : Calls Tryz.prog 46 #[.int .i64 n, .int .i64 len] w (SS (.bool (btw n 0 (len - 1))) w) := by
 have q0 : IntKind.i64.wrap (len - 1) = len - 1 := IntWalk.i64_in _ (by omega)
 go_enter Tryz.func46, Tryz.ntmps46
 go_wp2_with (go_at_call 45; refine (between_any _ _ _ _).mono ?_; rintro e w1 ⟨rfl, rfl⟩)
 go_ret
 exact ⟨rfl, rfl⟩
def IntP (r : Except Int Int) (w : World) (e : Ending) (w' : World) : Prop :=
 (match r with
  | .ok n => e = .returned (.int .i64 n)
  | .error er => e = epanic er) ∧ Below w.heap.size w w'
theorem IntP.err {r : Except Int Int} {er : Int} {w w' : World} {e : Ending} (hr : .error er = r) (he : e = epanic er) (hb : Below w.heap.size w w') : IntP r w e w' := by subst hr; exact ⟨he, hb⟩
theorem IntP.ok {r : Except Int Int} {n : Int} {w w' : World} {e : Ending} (hr : .ok n = r) (he : e = .returned (.int .i64 n)) (hb : Below w.heap.size w w') : IntP r w e w' := by subst hr; exact ⟨he, hb⟩
theorem areRelated_any (a r b : Int) (w : World) : Calls Tryz.prog 75 #[.int .i64 a, .int .i64 r, .int .i64 b] w (SS (.bool (rlB a r b)) w) := by
 unfold rlB
 by_cases h1 : r = 1
 ·subst h1
  rw [if_pos rfl]
  go_enter Tryz.func75, Tryz.ntmps75
  go_wp2
  all_goals
   go_ret
   exact ⟨ret_bool (by first | rfl | simp_all), rfl⟩
 by_cases h2 : r = 2
 ·subst h2
  rw [if_neg (by decide), if_pos rfl]
  go_enter Tryz.func75, Tryz.ntmps75
  go_wp2
  all_goals
   go_ret
   exact ⟨ret_bool (by first | rfl | simp_all), rfl⟩
 by_cases h3 : r = 3
 ·subst h3
  rw [if_neg (by decide), if_neg (by decide), if_pos rfl]
  go_enter Tryz.func75, Tryz.ntmps75
  go_wp2
  all_goals
   go_ret
   exact ⟨ret_bool (by first | rfl | simp_all), rfl⟩
 by_cases h4 : r = 4
 ·subst h4
  rw [if_neg (by decide), if_neg (by decide), if_neg (by decide), if_pos rfl]
  go_enter Tryz.func75, Tryz.ntmps75
  go_wp2
  all_goals
   go_ret
   exact ⟨ret_bool (by first | rfl | simp_all), rfl⟩
 by_cases h5 : r = 5
 ·subst h5
  rw [if_neg (by decide), if_neg (by decide), if_neg (by decide), if_neg (by decide), if_pos rfl]
  go_enter Tryz.func75, Tryz.ntmps75
  go_wp2
  all_goals
   go_ret
   exact ⟨ret_bool (by first | rfl | simp_all), rfl⟩
 rw [if_neg h1, if_neg h2, if_neg h3, if_neg h4, if_neg h5]
 have g1 : (r == 1) = false := by simp [h1]
 have g2 : (r == 2) = false := by simp [h2]
 have g3 : (r == 3) = false := by simp [h3]
 have g4 : (r == 4) = false := by simp [h4]
 have g5 : (r == 5) = false := by simp [h5]
 clear h1 h2 h3 h4 h5
 go_enter Tryz.func75, Tryz.ntmps75
 go_wp2
 all_goals
  go_ret
  exact ⟨ret_bool (by first | rfl | simp | simp_all), rfl⟩
theorem product_any (x y : Int) (hx : vN x = true) (hy : vN y = true) (w : World) : Calls Tryz.prog 49 #[.int .i64 x, .int .i64 y] w (IntP (if vN (x * y) = true then .ok (x * y) else .error 3) w) := by
 have q : vN (x * y) = true → IntKind.i64.wrap (x * y) = x * y := fun h => IntWalk.i64_in _ (by rw [vN_iff] at h; omega)
 by_cases h0 : x = 0
 ·subst h0
  have q : IntKind.i64.wrap (0 * y) = 0 := by rw [Int.zero_mul]; rfl
  rw [Int.zero_mul, if_pos (by rfl)]
  clear hx hy
  go_enter Tryz.func49, Tryz.ntmps49
  go_wp2_with (go_at_call 58; refine (need_any true _ _).mono ?_; rintro e w5 ⟨he, rfl⟩; simp only [if_pos] at he; subst he)
  go_ret
  exact ⟨rfl, Below.refl _ _⟩
 ·have ha := absF_pos h0
  rw [vN_iff] at hx hy
  have hal : absF x ≤ 1000000000000 := by unfold absF; omega
  have hyl : absF y ≤ 1000000000000 := by unfold absF; omega
  have hyn := absF_nonneg y
  have qx : IntKind.i64.wrap (-x) = -x := IntWalk.i64_in _ (by omega)
  have qy : IntKind.i64.wrap (-y) = -y := IntWalk.i64_in _ (by omega)
  have gx : (x == 0) = false := by simp [h0]
  have ht := prod_test (b := y) h0
  have mx := R.run_max2 x (-x) (absF x) (by rfl)
  have my := R.run_max2 y (-y) (absF y) (by rfl)
  clear hx hy
  by_cases hlt : absF y ≤ 1000000000000 / absF x
  ·have hv := ht.1 hlt
   rw [if_pos hv]
   have q := q hv
   have hd : decide (absF y ≤ 1000000000000 / absF x) = true := by simp [hlt]
   clear ht hv h0
   generalize absF x = ax at *
   generalize absF y = ay at *
   go_enter Tryz.func49, Tryz.ntmps49
   go_wp2_with (go_at_call 58; refine (need_any true _ _).mono ?_; rintro e w5 ⟨he, rfl⟩; simp only [if_pos] at he; subst he)
   go_ret
   exact ⟨rfl, Below.refl _ _⟩
  ·rw [if_neg (fun h => hlt (ht.2 h))]
   have hd : decide (absF y ≤ 1000000000000 / absF x) = false := by simp; omega
   clear ht q h0
   generalize absF x = ax at *
   generalize absF y = ay at *
   go_enter Tryz.func49, Tryz.ntmps49
   go_wp2_with (go_at_call 58; refine (need_any false _ _).mono ?_; rintro e w5 ⟨he, rfl⟩; simp only [Bool.false_eq_true, if_neg, not_false_eq_true] at he; subst he)
   exact ⟨rfl, rfl, Below.refl _ _⟩
theorem down_any (x y : Int) (hx : Fit x) (hy : Fit y) (w : World) : Calls Tryz.prog 50 #[.int .i64 x, .int .i64 y] w (IntP (if y = 0 then .error 14 else .ok (divF x y)) w) := by
 by_cases h0 : y = 0
 ·subst h0
  rw [if_pos rfl]
  clear hx hy
  go_enter Tryz.func50, Tryz.ntmps50
  go_wp2_with (go_at_call 58; refine (need_any false _ _).mono ?_; rintro e w5 ⟨he, rfl⟩; simp only [Bool.false_eq_true, if_neg, not_false_eq_true] at he; subst he)
  exact ⟨rfl, rfl, Below.refl _ _⟩
 ·rw [if_neg h0]
  unfold Fit at hx hy
  have e := floor_eq x y h0
  have hb := tdiv_bd x y
  unfold absF at hb
  have q1 : IntKind.i64.wrap (x.tdiv y) = x.tdiv y := IntWalk.i64_in _ (by omega)
  have q2 : IntKind.i64.wrap (x.tdiv y - 1) = x.tdiv y - 1 := IntWalk.i64_in _ (by omega)
  have gy : (y != 0) = true := by simp [h0]
  have E := Lib.hid e
  clear e hb
  go_enter Tryz.func50, Tryz.ntmps50
  go_wp2_with (go_at_call 58; refine (need_any true _ _).mono ?_; rintro e w5 ⟨he, rfl⟩; simp only [if_pos] at he; subst he)
  all_goals
   go_ret
   exact ⟨ret_int (by unfold divF; rw [E.out]; split <;> simp_all), Below.refl _ _⟩
theorem cAdd_any (x y : Int) (hx : vN x = true) (hy : vN y = true) (w : World) : Calls Tryz.prog 47 #[.int .i64 x, .int .i64 y] w (IntP (opE 4 x y) w) := by
 rw [vN_iff] at hx hy
 have q : IntKind.i64.wrap (x + y) = x + y := IntWalk.i64_in _ (by omega)
 go_enter Tryz.func47, Tryz.ntmps47
 go_wp2
 go_ret
 exact ⟨rfl, Below.refl _ _⟩
theorem cSub_any (x y : Int) (hx : vN x = true) (hy : vN y = true) (w : World) : Calls Tryz.prog 48 #[.int .i64 x, .int .i64 y] w (IntP (opE 5 x y) w) := by
 rw [vN_iff] at hx hy
 have q : IntKind.i64.wrap (x - y) = x - y := IntWalk.i64_in _ (by omega)
 go_enter Tryz.func48, Tryz.ntmps48
 go_wp2
 go_ret
 exact ⟨rfl, Below.refl _ _⟩
theorem cUp_any (x y : Int) (hx : vN x = true) (hy : vN y = true) (w : World) : Calls Tryz.prog 51 #[.int .i64 x, .int .i64 y] w (IntP (opE 8 x y) w) := by
 rw [vN_iff] at hx hy
 have qx : IntKind.i64.wrap (-x) = -x := IntWalk.i64_in _ (by omega)
 have HD := Lib.hid (fun wx => down_any (-x) y (by unfold Fit; omega) (by unfold Fit; omega) wx)
 have e8 : opE 8 x y = if y = 0 then .error 14 else .ok (-(divF (-x) y)) := rfl
 rw [e8]
 by_cases h0 : y = 0
 ·rw [if_pos h0]
  simp only [if_pos h0] at HD
  clear h0 e8
  go_enter Tryz.func51, Tryz.ntmps51
  go_wp2_with (go_at_call 50; refine (HD.out _).mono ?_; rintro e w5 ⟨he, hb5⟩; simp only at he; subst he)
  exact ⟨rfl, rfl, hb5⟩
 ·rw [if_neg h0]
  simp only [if_neg h0] at HD
  have hb := absF_fdiv (-x) y h0
  unfold absF at hb
  have q : IntKind.i64.wrap (-(divF (-x) y)) = -(divF (-x) y) := IntWalk.i64_in _ (by omega)
  clear h0 e8 hb
  generalize divF (-x) y = d at *
  go_enter Tryz.func51, Tryz.ntmps51
  go_wp2_with (go_at_call 50; refine (HD.out _).mono ?_; rintro e w5 ⟨he, hb5⟩; simp only at he; subst he)
  go_ret
  exact ⟨rfl, hb5⟩
theorem cMin_any (x y : Int) (hx : vN x = true) (hy : vN y = true) (w : World) : Calls Tryz.prog 52 #[.int .i64 x, .int .i64 y] w (IntP (opE 9 x y) w) := by
 rw [vN_iff] at hx hy
 have m := R.run_min2 x y _ rfl
 show Calls _ _ _ _ (IntP (.ok (min x y)) w)
 generalize min x y = d at *
 go_enter Tryz.func52, Tryz.ntmps52
 go_wp2
 go_ret
 exact ⟨rfl, Below.refl _ _⟩
theorem cMax_any (x y : Int) (hx : vN x = true) (hy : vN y = true) (w : World) : Calls Tryz.prog 53 #[.int .i64 x, .int .i64 y] w (IntP (opE 10 x y) w) := by
 rw [vN_iff] at hx hy
 have m := R.run_max2 x y _ rfl
 show Calls _ _ _ _ (IntP (.ok (max x y)) w)
 generalize max x y = d at *
 go_enter Tryz.func53, Tryz.ntmps53
 go_wp2
 go_ret
 exact ⟨rfl, Below.refl _ _⟩
end M
end Go.Proofs.YtdlebaiamdbneaaGreatDoor
namespace Go.Proofs.YtdlebaiamdbneaaGreatDoor
open Go.RowKit
namespace R
open I
open U (Ex St arrE aggE eArr ev KidsE szK szK_len szK_mem owns_below new_cells gbRefl gbAlloc gbTrans gbBelow Ex.size Ex.size_pos)
theorem bAllocX {w X : World} {o : Obj} (h : Below w.heap.size w X) : Below w.heap.size w (X.alloc o) := h.alloc h.size o
end R
end Go.Proofs.YtdlebaiamdbneaaGreatDoor
namespace Go.Proofs.YtdlebaiamdbneaaGreatDoor
open Go.RowKit
namespace M
open I
open U (Ex St btw ev eArr KidsE OneE rsE rsK rsE_min newBlk blkLt)
open R (epanic)
theorem rsK_drop (ts : List Ex) (k : Nat) (hk : k < ts.length) (b n : Int) (h : n ≤ b) : rsK (ts.drop k) b n = rsK (ts.drop (k + 1)) b (n + rsE ts[k] (b - n)) := by
 rw [List.drop_eq_getElem_cons hk, rsK, if_pos h]
theorem rsK_stop (ts : List Ex) (k : Nat) (b n : Int) (h : b < n) : rsK (ts.drop k) b n = n := by
 cases hd : ts.drop k with
 | nil => rfl
 | cons t us => rw [rsK, if_neg (by omega)]
theorem rsE_range (t : Ex) (b : Int) (h : 0 ≤ b) : 1 ≤ rsE t b ∧ rsE t b ≤ b + 1 := by
 have := rsE_min t b h
 have := t.size_pos
 omega
theorem size_step (t : Ex) (ih : ∀ u ∈ t.kids, ∀ (w : World) (b : Int) (A : Option Addr) (c : Nat), 0 ≤ b → b ≤ 10000 → KidsE w u.kids A → Calls Tryz.prog 32 #[ev u A c, .int .i64 b] w (VV (.int .i64 (rsE u b)) w))
  (w : World) (b : Int) (A : Option Addr) (c : Nat) (h0 : 0 ≤ b) (h1 : b ≤ 10000) (hK : KidsE w t.kids A) :
  Calls Tryz.prog 32 #[ev t A c, .int .i64 b] w (VV (.int .i64 (rsE t b)) w) := by
 obtain ⟨r, hr⟩ : ∃ r, rsE t b = r := ⟨_, rfl⟩
 rw [hr]
 have hr' : rsK t.kids b 1 = r := by rw [← hr]; cases t; rfl
 have hR := Lib.hid hr'
 have IH := Lib.hid ih
 have hKH := Lib.hid hK
 clear hr hr' ih hK
 go_enter Tryz.func32, Tryz.ntmps32
 go_wp2
 go_loopg [5, 6] (t.kids.length) (fun gk m i wr => ∃ (k : Nat) (mv : Int), k + gk = t.kids.length ∧ i = .int .i64 k ∧ m = .int .i64 mv ∧ (k : Int) + 1 ≤ mv ∧ mv ≤ b + 1 ∧ Hid (rsK (t.kids.drop k) b mv = r) ∧ Hid (wr.heap[w.heap.size]? = some (.cells (eArr t A c) 46 (0, 0))) ∧ Hid (Below w.heap.size w wr))
 case atStart => exact ⟨0, 1, by omega, rfl, rfl, by omega, by omega, hR.out, newBlk _ _ _ rfl, (Below.refl _ _).alloc (Nat.le_refl _) _⟩
 case round =>
  obtain ⟨k, mv, hk, rfl, rfl, hm1, hm2, hS, hB, hW⟩ := hrel
  obtain ⟨⟨b0, b1, b2, b3⟩, -⟩ := U.cells4 hB.out
  have hxb := blkLt hB.out
  clear b0 b1 b2
  by_cases hneg : mv ≤ b
  ·by_cases hlt : k < t.kids.length
   ·obtain ⟨g, rfl⟩ : ∃ g, gk = g + 1 := ⟨gk - 1, by omega⟩
    have hS1 := hS.out
    rw [rsK_drop _ _ hlt _ _ hneg] at hS1
    have hS1 := Lib.hid hS1
    have hKw : KidsE wr t.kids A := hKH.out.below hW.out
    obtain ⟨ga, oa, rfl⟩ := hKw.addr (by omega)
    obtain ⟨A1, c1, ⟨e0, e1, e2, e3⟩, -, hK1⟩ := (hKw.get _ _ _ k _ (List.getElem?_eq_getElem hlt)).cells
    have hmem : t.kids[k] ∈ t.kids := List.getElem_mem hlt
    have hI := Lib.hid (IH.out _ hmem wr (b - mv) A1 c1 (by omega) (by omega) hK1)
    have hsp := rsE_range t.kids[k] (b - mv) (by omega)
    clear hS hK1 hKw hmem
    generalize t.kids[k] = u at *
    have q0 : IntKind.i64.wrap (b - mv) = b - mv := IntWalk.i64_in _ (by omega)
    generalize hv : rsE u (b - mv) = rv at *
    have q1 : IntKind.i64.wrap (mv + rv) = mv + rv := IntWalk.i64_in _ (by omega)
    have hlt2 : k < t.kids.length := hlt
    go_wp2_with fail
    refine hI.out.mono ?_
    rintro e w2 ⟨rfl, hb2⟩
    have hB2 := Lib.hid ((hb2.block _ hxb).trans hB.out)
    have hW2 := Lib.hid (hW.out.trans (hb2.mono hW.out.size))
    clear hb2 e0 e1 e2 e3
    go_wp2
    clear q0 q1
    go_roundg g
    case measure => omega
    case rel => exact ⟨k + 1, mv + rv, by omega, by go_num, rfl, by omega, by omega, hS1, hB2, hW2⟩
   ·have hF : Hid (mv = r) := by have := hS.out; rw [List.drop_eq_nil_of_le (by omega)] at this; exact this
    clear hS
    go_wp2
    go_ret
    exact ⟨ret_int hF.out, hW.out⟩
  ·have hF : Hid (mv = r) := by have := hS.out; rw [rsK_stop _ _ _ _ (by omega)] at this; exact this
   have hng : decide (mv ≤ b) = false := by simp; omega
   clear hS
   by_cases hlt : k < t.kids.length
   all_goals
    go_wp2
    go_ret
    exact ⟨ret_int hF.out, hW.out⟩
mutual
theorem size_any : ∀ (t : Ex) (w : World) (b : Int) (A : Option Addr) (c : Nat), 0 ≤ b → b ≤ 10000 → KidsE w t.kids A → Calls Tryz.prog 32 #[ev t A c, .int .i64 b] w (VV (.int .i64 (rsE t b)) w)
 | .mk k x m kids => fun w n A c h0 h1 hK => size_step (.mk k x m kids) (size_all kids) w n A c h0 h1 hK
theorem size_all : ∀ (ts : List Ex), ∀ u ∈ ts, ∀ (w : World) (b : Int) (A : Option Addr) (c : Nat), 0 ≤ b → b ≤ 10000 → KidsE w u.kids A → Calls Tryz.prog 32 #[ev u A c, .int .i64 b] w (VV (.int .i64 (rsE u b)) w)
 | [], u, hu => by cases hu
 | t :: ts, u, hu => by
  rcases List.mem_cons.1 hu with h | h
  ·rw [h]; exact size_any t
  ·exact size_all ts u h
end
def IntsR (w : World) (l : List Int) (A : Option Addr) : Prop := l = [] ∨ ∃ g o, A = some ⟨g, o, none⟩ ∧ ∀ (i : Nat) (n : Int), l[i]? = some n → w.cell? ⟨g, o + i, none⟩ = some (.int .i64 n)
theorem IntsR.gr {w w' : World} {l : List Int} {A : Option Addr} (h : IntsR w l A) (hg : Gr w w') : IntsR w' l A := by
 rcases h with h | ⟨g, o, hA, h⟩
 ·exact .inl h
 ·exact .inr ⟨g, o, hA, fun i n hn => grCell hg (h i n hn)⟩
theorem IntsR.addr {w : World} {l : List Int} {A : Option Addr} (h : IntsR w l A) (hl : l ≠ []) : ∃ g o, A = some ⟨g, o, none⟩ ∧ ∀ (i : Nat) (n : Int), l[i]? = some n → w.cell? ⟨g, o + i, none⟩ = some (.int .i64 n) := by
 rcases h with h | h
 ·exact absurd h hl
 ·exact h
abbrev rdA (SA : Option Addr) (n m : Nat) (i0 i1 i2 i3 : Int) (mb : Nat) : Array Value := #[.slice SA n m, .int .i64 i0, .int .i64 i1, .int .i64 i2, .int .i64 i3, .map (some mb)]
theorem bAl2 {w : World} (a b : Obj) : Below w.heap.size w ((w.alloc a).alloc b) := ((Below.refl w.heap.size w).alloc (Nat.le_refl _) _).alloc (by simp) _
theorem leafE_other {st ins : List Int} {op n : Int} (h1 : op ≠ 1) (h2 : op ≠ 2) (h3 : op ≠ 3) : leafE st ins op n = .error 1 := by
 unfold leafE; rw [if_neg h1, if_neg (by omega), if_neg (by omega)]
theorem leaf_any (st : List Int) (SA : Option Addr) (m : Nat) (i0 i1 i2 i3 : Int) (mb : Nat) (t : Ex) (A : Option Addr) (c : Nat) (w : World) (hV : IntsR w st SA) (hsl : st.length ≤ 1000000) :
  Calls Tryz.prog 76 #[.agg (rdA SA st.length m i0 i1 i2 i3 mb), ev t A c] w (IntP (leafE st [i0, i1, i2, i3] t.op t.n) w) := by
 have HZ : Hid (Below w.heap.size w ((w.alloc (.cells (rdA SA st.length m i0 i1 i2 i3 mb) 59)).alloc (.cells (eArr t A c) 46))) := Lib.hid (bAl2 _ _)
 have HV := Lib.hid hV
 clear hV
 by_cases hk : t.op = 1
 ·have hm : leafE st [i0, i1, i2, i3] t.op t.n = .ok t.n := by unfold leafE; rw [if_pos hk]
  rw [hm]
  have q1 : (t.op == 1) = true := by simp [*]
  have q2 : (t.op == 2) = false := by simp [*]
  have q3 : (t.op == 3) = false := by simp [*]
  clear hk hm
  go_enter Tryz.func76, Tryz.ntmps76
  go_wp2
  go_ret
  exact ⟨rfl, HZ.out⟩
 by_cases hk2 : t.op = 2
 ·rcases hx : btw t.n 0 ((st.length : Int) - 1) with _ | _
  ·have hx2 : ¬(0 ≤ t.n ∧ t.n < st.length) := by intro hh; have : btw t.n 0 ((st.length : Int) - 1) = true := (by simp only [btw, Bool.and_eq_true, decide_eq_true_eq]; omega); rw [hx] at this; cases this
   have hm : leafE st [i0, i1, i2, i3] t.op t.n = .error 1 := by unfold leafE; rw [if_neg (by omega), if_neg (by omega), if_neg (by omega)]
   rw [hm]
   have HI := Lib.hid (fun wx => isIndex_any t.n st.length (by omega) wx)
   rw [hx] at HI
   have q1 : (t.op == 1) = false := by simp [*]
   have q2 : (t.op == 2) = true := by simp [*]
   have q3 : (t.op == 3) = false := by simp [*]
   clear hk hk2 hx hx2 hm
   go_enter Tryz.func76, Tryz.ntmps76
   go_wp2_with (go_at_call 46; refine (HI.out _).mono ?_; rintro e w2 ⟨rfl, rfl⟩)
   exact ⟨rfl, rfl, HZ.out⟩
  ·have hx2 : 0 ≤ t.n ∧ t.n < st.length := by simp only [btw, Bool.and_eq_true, decide_eq_true_eq] at hx; omega
   obtain ⟨k, hkn⟩ : ∃ k : Nat, t.n = k := ⟨t.n.toNat, by omega⟩
   have hkl : k < st.length := by omega
   have hm : leafE st [i0, i1, i2, i3] t.op t.n = .ok st[k] := by unfold leafE; rw [if_neg (by omega), if_pos ⟨hk2, by omega, by omega⟩, hkn, Int.toNat_natCast, List.getElem?_eq_getElem hkl]; rfl
   rw [hm]
   have HI := Lib.hid (fun wx => isIndex_any t.n st.length (by omega) wx)
   rw [hx, hkn] at HI
   obtain ⟨g, o, rfl, hat⟩ := HV.out.addr (by intro h; rw [h] at hkl; simp at hkl)
   have e0 := hat k _ (List.getElem?_eq_getElem hkl)
   generalize st[k] = s at *
   have e1 := grCell (bAl2 (.cells (rdA (some ⟨g, o, none⟩) st.length m i0 i1 i2 i3 mb) 59) (.cells #[.int .i64 t.op, .int .i64 k, .int .i64 t.unit, .slice A t.kids.length (t.kids.length + c)] 46)) e0
   have q1 : (t.op == 1) = false := by simp [*]
   have q2 : (t.op == 2) = true := by simp [*]
   have q3 : (t.op == 3) = false := by simp [*]
   clear hk hk2 hx hx2 hm hat HV
   go_enter Tryz.func76, Tryz.ntmps76
   go_wp2_with (go_at_call 46; refine (HI.out _).mono ?_; rintro e w2 ⟨rfl, rfl⟩)
   go_ret
   exact ⟨rfl, bAl2 _ _⟩
 by_cases hk3 : t.op = 3
 ·rcases hx : btw t.n 0 3 with _ | _
  ·have hx2 : ¬(0 ≤ t.n ∧ t.n < 4) := by intro hh; have : btw t.n 0 3 = true := (by simp only [btw, Bool.and_eq_true, decide_eq_true_eq]; omega); rw [hx] at this; cases this
   have hm : leafE st [i0, i1, i2, i3] t.op t.n = .error 1 := by unfold leafE; rw [if_neg (by omega), if_neg (by omega), if_neg (by omega)]
   rw [hm]
   have HI := Lib.hid (fun wx => isIndex_any t.n 4 (by omega) wx)
   rw [show (4 : Int) - 1 = 3 from rfl, hx] at HI
   have q1 : (t.op == 1) = false := by simp [*]
   have q2 : (t.op == 2) = false := by simp [*]
   have q3 : (t.op == 3) = true := by simp [*]
   clear hk hk2 hk3 hx hx2 hm
   go_enter Tryz.func76, Tryz.ntmps76
   go_wp2_with (go_at_call 46; refine (HI.out _).mono ?_; rintro e w2 ⟨rfl, rfl⟩)
   exact ⟨rfl, rfl, HZ.out⟩
  ·have hx2 : 0 ≤ t.n ∧ t.n ≤ 3 := by simp only [btw, Bool.and_eq_true, decide_eq_true_eq] at hx; exact hx
   have hm : ∀ k : Nat, t.n = k → leafE st [i0, i1, i2, i3] t.op t.n = .ok (([i0, i1, i2, i3][k]?).getD 0) := fun k hkn => by unfold leafE; rw [if_neg (by omega), if_neg (by omega), if_pos ⟨hk3, by omega, by omega⟩, hkn, Int.toNat_natCast]
   have HI := Lib.hid (fun wx => isIndex_any t.n 4 (by omega) wx)
   rw [show (4 : Int) - 1 = 3 from rfl, hx] at HI
   have q1 : (t.op == 1) = false := by simp [*]
   have q2 : (t.op == 2) = false := by simp [*]
   have q3 : (t.op == 3) = true := by simp [*]
   clear hk hk2 hk3 hx
   have h4 : t.n = 0 ∨ t.n = 1 ∨ t.n = 2 ∨ t.n = 3 := by omega
   rcases h4 with hk0 | hk0 | hk0 | hk0
   ·have hmk := hm 0 hk0
    rw [hmk]
    rw [hk0] at HI
    clear hm hmk hx2 HZ
    go_enter Tryz.func76, Tryz.ntmps76
    go_wp2_with (go_at_call 46; refine (HI.out _).mono ?_; rintro e w2 ⟨rfl, rfl⟩)
    go_ret
    exact ⟨rfl, bAl2 _ _⟩
   ·have hmk := hm 1 hk0
    rw [hmk]
    rw [hk0] at HI
    clear hm hmk hx2 HZ
    go_enter Tryz.func76, Tryz.ntmps76
    go_wp2_with (go_at_call 46; refine (HI.out _).mono ?_; rintro e w2 ⟨rfl, rfl⟩)
    go_ret
    exact ⟨rfl, bAl2 _ _⟩
   ·have hmk := hm 2 hk0
    rw [hmk]
    rw [hk0] at HI
    clear hm hmk hx2 HZ
    go_enter Tryz.func76, Tryz.ntmps76
    go_wp2_with (go_at_call 46; refine (HI.out _).mono ?_; rintro e w2 ⟨rfl, rfl⟩)
    go_ret
    exact ⟨rfl, bAl2 _ _⟩
   ·have hmk := hm 3 hk0
    rw [hmk]
    rw [hk0] at HI
    clear hm hmk hx2 HZ
    go_enter Tryz.func76, Tryz.ntmps76
    go_wp2_with (go_at_call 46; refine (HI.out _).mono ?_; rintro e w2 ⟨rfl, rfl⟩)
    go_ret
    exact ⟨rfl, bAl2 _ _⟩
 ·rw [leafE_other hk hk2 hk3]
  have q1 : (t.op == 1) = false := by simp [*]
  have q2 : (t.op == 2) = false := by simp [*]
  have q3 : (t.op == 3) = false := by simp [*]
  clear hk hk2 hk3
  go_enter Tryz.func76, Tryz.ntmps76
  go_wp2
  exact ⟨rfl, rfl, HZ.out⟩
end M
end Go.Proofs.YtdlebaiamdbneaaGreatDoor
namespace Go.Proofs.YtdlebaiamdbneaaGreatDoor
open Go.RowKit
namespace M
open I
open U (Ex St btw ev eArr KidsE newBlk blkLt)
open R (epanic)
theorem ck_int (e : Bool) (k : Int) (W : World) : (Instr.checkKey e 10000 3 (.int .i64 k)).run Tryz.prog W = .ok () W := by
 rw [show (10000 : Nat) = 9999 + 1 from rfl]
 unfold Instr.checkKey
 simp [run_underlying Tryz.underlying3, go_sem]
def insW (W : World) (b : Nat) (es : Array MapEntry) (c : Nat) (k : Int) (v : Value) : World := { W with heap := W.heap.setIfInBounds b (.map (es.push { key := .int .i64 k, val := v, born := c }) (c + 1)) }
theorem map_ins (W : World) (b : Nat) (es : Array MapEntry) (c : Nat) (k : Int) (v : Value) (h : W.heap[b]? = some (.map es c)) (hk : Instr.findNow (.int .i64) (.int .i64 k) es.toList 0 = some none) :
  (Instr.mapUpdate 56 (.map (some b)) (.int .i64 k) v).run Tryz.prog W = .ok () (insW W b es c k v) := by
 unfold Instr.mapUpdate insW
 simp [run_underlying Tryz.underlying56, go_sem, MapKept.run_getObj_map h, ck_int, MapKept.run_findKey Tryz.underlying3 hk, MapKept.run_setObj_map _ h]
theorem insW_get (W : World) (b : Nat) (es : Array MapEntry) (c : Nat) (k : Int) (v : Value) (h : W.heap[b]? = some (.map es c)) : (insW W b es c k v).heap[b]? = some (.map (es.push { key := .int .i64 k, val := v, born := c }) (c + 1)) := by
 have hlt := blkLt h
 simp [insW, hlt]
theorem insW_below {B : Nat} {W0 W : World} (b : Nat) (es : Array MapEntry) (c : Nat) (k : Int) (v : Value) (h : Below B W0 W) (hb : B ≤ b) : Below B W0 (insW W b es c k v) :=
 ⟨h.os, h.tape, h.output, by simpa [insW] using h.size, fun j hj => by
  have := h.block j hj
  simp only [insW]
  rw [Array.getElem?_setIfInBounds_ne (by omega)]
  exact this⟩
theorem map_get (W : World) (b : Nat) (es : Array MapEntry) (c : Nat) (k : Int) (i : Nat) (v : Value) (h : W.heap[b]? = some (.map es c)) (hk : Instr.findNow (.int .i64) (.int .i64 k) es.toList 0 = some (some (i, v))) :
  (Instr.lookup 56 (.map (some b)) (.int .i64 k) true).run Tryz.prog W = .ok (.tuple #[v, .bool true]) W := by
 unfold Instr.lookup
 simp [run_underlying Tryz.underlying56, go_sem, MapKept.run_getObj_map h, ck_int, MapKept.run_findKey Tryz.underlying3 hk]
def noFn (es : Array MapEntry) (k : Int) : Prop := Instr.findNow (.int .i64) (.int .i64 k) es.toList 0 = some none
theorem map_none (W : World) (b : Nat) (es : Array MapEntry) (c : Nat) (k : Int) (h : W.heap[b]? = some (.map es c)) (hk : noFn es k) :
  ∃ v, (Instr.lookup 56 (.map (some b)) (.int .i64 k) true).run Tryz.prog W = .ok (.tuple #[v, .bool false]) W := by
 unfold noFn at hk
 unfold Instr.lookup
 simp [run_underlying Tryz.underlying56, go_sem, MapKept.run_getObj_map h, ck_int, MapKept.run_findKey Tryz.underlying3 hk]
def es0 : Array MapEntry := #[]
def es1 : Array MapEntry := es0.push { key := .int .i64 4, val := .func (.func 47) #[] #[], born := 0 }
def es2 : Array MapEntry := es1.push { key := .int .i64 5, val := .func (.func 48) #[] #[], born := 1 }
def es3 : Array MapEntry := es2.push { key := .int .i64 6, val := .func (.func 49) #[] #[], born := 2 }
def es4 : Array MapEntry := es3.push { key := .int .i64 7, val := .func (.func 50) #[] #[], born := 3 }
def es5 : Array MapEntry := es4.push { key := .int .i64 8, val := .func (.func 51) #[] #[], born := 4 }
def es6 : Array MapEntry := es5.push { key := .int .i64 9, val := .func (.func 52) #[] #[], born := 5 }
def es7 : Array MapEntry := es6.push { key := .int .i64 10, val := .func (.func 53) #[] #[], born := 6 }
def OpsR (w : World) (mb : Nat) : Prop := w.heap[mb]? = some (.map es7 7)
theorem OpsR.gr {w w' : World} {mb : Nat} (h : OpsR w mb) (hg : Gr w w') : OpsR w' mb := grBlk hg h
theorem esN_no (k : Int) (h : ¬(4 ≤ k ∧ k ≤ 10)) : noFn es7 k := by
 unfold noFn
 have e : ∀ j : Int, 4 ≤ j → j ≤ 10 → (k == j) = false := fun j h1 h2 => by rw [beq_eq_false_iff_ne]; omega
 simp only [es0, es1, es2, es3, es4, es5, es6, es7, Array.toList_push, List.nil_append, List.cons_append, Instr.findNow, Instr.sameNow, e 4 (by omega) (by omega), e 5 (by omega) (by omega), e 6 (by omega) (by omega), e 7 (by omega) (by omega), e 8 (by omega) (by omega), e 9 (by omega) (by omega), e 10 (by omega) (by omega), if_true]
theorem esN_4 : Instr.findNow (.int .i64) (.int .i64 4) es7.toList 0 = some (some (0, .func (.func 47) #[] #[])) := by simp [es0, es1, es2, es3, es4, es5, es6, es7, Instr.findNow, Instr.sameNow]
theorem esN_5 : Instr.findNow (.int .i64) (.int .i64 5) es7.toList 0 = some (some (1, .func (.func 48) #[] #[])) := by simp [es0, es1, es2, es3, es4, es5, es6, es7, Instr.findNow, Instr.sameNow]
theorem esN_6 : Instr.findNow (.int .i64) (.int .i64 6) es7.toList 0 = some (some (2, .func (.func 49) #[] #[])) := by simp [es0, es1, es2, es3, es4, es5, es6, es7, Instr.findNow, Instr.sameNow]
theorem esN_7 : Instr.findNow (.int .i64) (.int .i64 7) es7.toList 0 = some (some (3, .func (.func 50) #[] #[])) := by simp [es0, es1, es2, es3, es4, es5, es6, es7, Instr.findNow, Instr.sameNow]
theorem esN_8 : Instr.findNow (.int .i64) (.int .i64 8) es7.toList 0 = some (some (4, .func (.func 51) #[] #[])) := by simp [es0, es1, es2, es3, es4, es5, es6, es7, Instr.findNow, Instr.sameNow]
theorem esN_9 : Instr.findNow (.int .i64) (.int .i64 9) es7.toList 0 = some (some (5, .func (.func 52) #[] #[])) := by simp [es0, es1, es2, es3, es4, es5, es6, es7, Instr.findNow, Instr.sameNow]
theorem esN_10 : Instr.findNow (.int .i64) (.int .i64 10) es7.toList 0 = some (some (6, .func (.func 53) #[] #[])) := by simp [es0, es1, es2, es3, es4, es5, es6, es7, Instr.findNow, Instr.sameNow]
theorem operations_any (w : World) : Calls Tryz.prog 27 #[] w (fun e w' => (∃ mb, e = .returned (.map (some mb)) ∧ OpsR w' mb) ∧ Below w.heap.size w w') := by
 obtain ⟨w0, hw0⟩ : ∃ w0, w0 = w.alloc (.map #[] 0) := ⟨_, rfl⟩
 have h0 : w0.heap[w.heap.size]? = some (.map es0 0) := by rw [hw0]; exact newBlk _ _ _ rfl
 have b0 : Below w.heap.size w w0 := by rw [hw0]; exact grAlloc _ _
 have u0 := map_ins w0 w.heap.size es0 0 4 (.func (.func 47) #[] #[]) h0 (by simp [es0, es1, es2, es3, es4, es5, es6, es7, Instr.findNow, Instr.sameNow])
 have h1 : (insW w0 w.heap.size es0 0 4 (.func (.func 47) #[] #[])).heap[w.heap.size]? = some (.map es1 1) := insW_get _ _ _ _ _ _ h0
 have b1 := insW_below w.heap.size es0 0 4 (.func (.func 47) #[] #[]) b0 (Nat.le_refl _)
 generalize insW w0 w.heap.size es0 0 4 (.func (.func 47) #[] #[]) = w1 at *
 have h0 := Lib.hid h0
 have u1 := map_ins w1 w.heap.size es1 1 5 (.func (.func 48) #[] #[]) h1 (by simp [es0, es1, es2, es3, es4, es5, es6, es7, Instr.findNow, Instr.sameNow])
 have h2 : (insW w1 w.heap.size es1 1 5 (.func (.func 48) #[] #[])).heap[w.heap.size]? = some (.map es2 2) := insW_get _ _ _ _ _ _ h1
 have b2 := insW_below w.heap.size es1 1 5 (.func (.func 48) #[] #[]) b1 (Nat.le_refl _)
 generalize insW w1 w.heap.size es1 1 5 (.func (.func 48) #[] #[]) = w2 at *
 have h1 := Lib.hid h1
 have u2 := map_ins w2 w.heap.size es2 2 6 (.func (.func 49) #[] #[]) h2 (by simp [es0, es1, es2, es3, es4, es5, es6, es7, Instr.findNow, Instr.sameNow])
 have h3 : (insW w2 w.heap.size es2 2 6 (.func (.func 49) #[] #[])).heap[w.heap.size]? = some (.map es3 3) := insW_get _ _ _ _ _ _ h2
 have b3 := insW_below w.heap.size es2 2 6 (.func (.func 49) #[] #[]) b2 (Nat.le_refl _)
 generalize insW w2 w.heap.size es2 2 6 (.func (.func 49) #[] #[]) = w3 at *
 have h2 := Lib.hid h2
 have u3 := map_ins w3 w.heap.size es3 3 7 (.func (.func 50) #[] #[]) h3 (by simp [es0, es1, es2, es3, es4, es5, es6, es7, Instr.findNow, Instr.sameNow])
 have h4 : (insW w3 w.heap.size es3 3 7 (.func (.func 50) #[] #[])).heap[w.heap.size]? = some (.map es4 4) := insW_get _ _ _ _ _ _ h3
 have b4 := insW_below w.heap.size es3 3 7 (.func (.func 50) #[] #[]) b3 (Nat.le_refl _)
 generalize insW w3 w.heap.size es3 3 7 (.func (.func 50) #[] #[]) = w4 at *
 have h3 := Lib.hid h3
 have u4 := map_ins w4 w.heap.size es4 4 8 (.func (.func 51) #[] #[]) h4 (by simp [es0, es1, es2, es3, es4, es5, es6, es7, Instr.findNow, Instr.sameNow])
 have h5 : (insW w4 w.heap.size es4 4 8 (.func (.func 51) #[] #[])).heap[w.heap.size]? = some (.map es5 5) := insW_get _ _ _ _ _ _ h4
 have b5 := insW_below w.heap.size es4 4 8 (.func (.func 51) #[] #[]) b4 (Nat.le_refl _)
 generalize insW w4 w.heap.size es4 4 8 (.func (.func 51) #[] #[]) = w5 at *
 have h4 := Lib.hid h4
 have u5 := map_ins w5 w.heap.size es5 5 9 (.func (.func 52) #[] #[]) h5 (by simp [es0, es1, es2, es3, es4, es5, es6, es7, Instr.findNow, Instr.sameNow])
 have h6 : (insW w5 w.heap.size es5 5 9 (.func (.func 52) #[] #[])).heap[w.heap.size]? = some (.map es6 6) := insW_get _ _ _ _ _ _ h5
 have b6 := insW_below w.heap.size es5 5 9 (.func (.func 52) #[] #[]) b5 (Nat.le_refl _)
 generalize insW w5 w.heap.size es5 5 9 (.func (.func 52) #[] #[]) = w6 at *
 have h5 := Lib.hid h5
 have u6 := map_ins w6 w.heap.size es6 6 10 (.func (.func 53) #[] #[]) h6 (by simp [es0, es1, es2, es3, es4, es5, es6, es7, Instr.findNow, Instr.sameNow])
 have h7 : (insW w6 w.heap.size es6 6 10 (.func (.func 53) #[] #[])).heap[w.heap.size]? = some (.map es7 7) := insW_get _ _ _ _ _ _ h6
 have b7 := insW_below w.heap.size es6 6 10 (.func (.func 53) #[] #[]) b6 (Nat.le_refl _)
 generalize insW w6 w.heap.size es6 6 10 (.func (.func 53) #[] #[]) = w7 at *
 have h6 := Lib.hid h6
 have b7 := Lib.hid b7
 have h7 := Lib.hid h7
 clear b0 b1 b2 b3 b4 b5 b6
 rw [hw0] at u0
 clear hw0
 have hmm := @run_makeMap Tryz.prog
 go_enter Tryz.func27, Tryz.ntmps27
 go_wp2
 go_ret
 exact ⟨⟨_, rfl, h7.out⟩, b7.out⟩
end M
end Go.Proofs.YtdlebaiamdbneaaGreatDoor
