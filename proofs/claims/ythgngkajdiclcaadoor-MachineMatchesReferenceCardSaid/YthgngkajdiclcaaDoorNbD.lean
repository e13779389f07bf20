/- Package machine: floor, the operations of two numbers, areRelated. -/
import Derived.Test.YthgngkajdiclcaaDoorNbC
namespace Go.Proofs.YthgngkajdiclcaaDoor
open Go.RowKit
set_option linter.unusedVariables false
set_option linter.unusedSimpArgs false
namespace N
open K
theorem run_min2 (p q r : Int) (h : r = min p q) (ts : Array TypeId) (t : TypeId) (w : World) : (Builtin.min_ ts t #[.int .i64 p, .int .i64 q]).run Tryd.prog w = .ok (.int .i64 r) w := by
  have e : (if q < p then q else p) = r := by omega
  simp [Builtin.min_, Builtin.min2, e, go_sem]
theorem run_max2 (p q r : Int) (h : r = max p q) (ts : Array TypeId) (t : TypeId) (w : World) : (Builtin.max_ ts t #[.int .i64 p, .int .i64 q]).run Tryd.prog w = .ok (.int .i64 r) w := by
  have e : (if p < q then q else p) = r := by omega
  simp [Builtin.max_, Builtin.max2, e, go_sem]
theorem vN_abs {n : Int} : vN n = true ↔ absF n ≤ 1000000000000 := by rw [vN_iff]; unfold absF; omega
theorem prod_test {a b : Int} (h : a ≠ 0) : (absF b ≤ 1000000000000 / absF a) ↔ vN (a * b) = true := by
  have hp : 0 < absF a := by unfold absF; omega
  rw [vN_abs, absF_mul, Int.le_ediv_iff_mul_le hp, Int.mul_comm]
theorem fdiv_bd (x y : Int) (h : y ≠ 0) : - (absF x + 1) ≤ x.fdiv y ∧ x.fdiv y ≤ absF x + 1 := by
  have e := floor_eq x y h
  have hb := tdiv_bd x y
  rw [e]
  split <;> omega
theorem MAt.hl {w : World} {b : Nat} {VS SS : Value} {i0 i1 i2 i3 : Int} {s : List Int} (h : MAt w b VS SS i0 i1 i2 i3 s) : s.length ≤ 64 := by
  obtain ⟨cs, h1, h2⟩ := h
  exact h2.hl
set_option maxHeartbeats 400000 in
set_option maxRecDepth 100000 in
theorem floor_any (x y : Int) (hx : -4000000000000 ≤ x ∧ x ≤ 4000000000000) (hy : -4000000000000 ≤ y ∧ y ≤ 4000000000000) (h0 : y ≠ 0) (w : World) : Calls Tryd.prog 63 #[.int .i64 x, .int .i64 y] w (SS (.int .i64 (x.fdiv y)) w) := by
  have e := floor_eq x y h0
  have hb := tdiv_bd x y
  unfold absF at hb
  have q1 : IntKind.i64.wrap (x.tdiv y) = x.tdiv y := IntWalk.i64_in _ (by omega)
  have q2 : IntKind.i64.wrap (x.tdiv y - 1) = x.tdiv y - 1 := IntWalk.i64_in _ (by omega)
  have E := Lib.hid e
  clear e hb
  go_enter Tryd.func63, Tryd.ntmps63
  go_wp2
  all_goals
    go_ret
    exact ⟨ret_int (by rw [E.out]; split <;> simp_all), rfl⟩
set_option maxHeartbeats 1000000 in
set_option maxRecDepth 100000 in
theorem add_any (x y n : Int) (hx : vN x = true) (hy : vN y = true) (b : Nat) (VS SS : Value) (i0 i1 i2 i3 : Int) (s : List Int) (w : World) (hM : MAt w b VS SS i0 i1 i2 i3 (y :: x :: s)) :
    Calls Tryd.prog 48 #[.pointer (some ⟨b, 0, none⟩), .int .i64 n] w (PuP b VS SS i0 i1 i2 i3 s (clc 4 x y) w) := by
  have hl := hM.hl
  simp only [List.length_cons] at hl
  have HO := Lib.hid (operands_any x y b VS SS i0 i1 i2 i3 s w hM)
  rw [vN_iff] at hx hy
  clear hM
  have e4 : clc 4 x y = rng (x + y) := rfl
  rw [e4]
  have q : IntKind.i64.wrap (x + y) = x + y := IntWalk.i64_in _ (by omega)
  have HPu := Lib.hid (fun wx (h : MAt wx b VS SS i0 i1 i2 i3 s) => push_any (x + y) b VS SS i0 i1 i2 i3 s wx h (by omega))
  clear hx hy e4
  go_enter Tryd.func48, Tryd.ntmps48
  go_wp2_with (first
    | (go_at_call 56; refine HO.out.mono ?_; rintro e w2 ⟨rfl, hM2, hb2⟩; have HM2 := Lib.hid hM2; have HB2 := Lib.hid hb2; clear hM2 hb2)
    | (go_at_call 45; refine (HPu.out _ HM2.out).mono ?_; rintro e w3 ⟨rfl, hM3, hb3⟩; have HM3 := Lib.hid hM3; have HB3 := Lib.hid (gbTrans HB2.out hb3); clear hM3 hb3))
  go_ret
  exact ⟨rfl, HM3.out, HB3.out⟩
set_option maxHeartbeats 1000000 in
set_option maxRecDepth 100000 in
theorem subtract_any (x y n : Int) (hx : vN x = true) (hy : vN y = true) (b : Nat) (VS SS : Value) (i0 i1 i2 i3 : Int) (s : List Int) (w : World) (hM : MAt w b VS SS i0 i1 i2 i3 (y :: x :: s)) :
    Calls Tryd.prog 49 #[.pointer (some ⟨b, 0, none⟩), .int .i64 n] w (PuP b VS SS i0 i1 i2 i3 s (clc 5 x y) w) := by
  have hl := hM.hl
  simp only [List.length_cons] at hl
  have HO := Lib.hid (operands_any x y b VS SS i0 i1 i2 i3 s w hM)
  rw [vN_iff] at hx hy
  clear hM
  have e4 : clc 5 x y = rng (x - y) := rfl
  rw [e4]
  have q : IntKind.i64.wrap (x - y) = x - y := IntWalk.i64_in _ (by omega)
  have HPu := Lib.hid (fun wx (h : MAt wx b VS SS i0 i1 i2 i3 s) => push_any (x - y) b VS SS i0 i1 i2 i3 s wx h (by omega))
  clear hx hy e4
  go_enter Tryd.func49, Tryd.ntmps49
  go_wp2_with (first
    | (go_at_call 56; refine HO.out.mono ?_; rintro e w2 ⟨rfl, hM2, hb2⟩; have HM2 := Lib.hid hM2; have HB2 := Lib.hid hb2; clear hM2 hb2)
    | (go_at_call 45; refine (HPu.out _ HM2.out).mono ?_; rintro e w3 ⟨rfl, hM3, hb3⟩; have HM3 := Lib.hid hM3; have HB3 := Lib.hid (gbTrans HB2.out hb3); clear hM3 hb3))
  go_ret
  exact ⟨rfl, HM3.out, HB3.out⟩
set_option maxHeartbeats 1000000 in
set_option maxRecDepth 100000 in
theorem pushLesser_any (x y n : Int) (hx : vN x = true) (hy : vN y = true) (b : Nat) (VS SS : Value) (i0 i1 i2 i3 : Int) (s : List Int) (w : World) (hM : MAt w b VS SS i0 i1 i2 i3 (y :: x :: s)) :
    Calls Tryd.prog 53 #[.pointer (some ⟨b, 0, none⟩), .int .i64 n] w (PuP b VS SS i0 i1 i2 i3 s (clc 9 x y) w) := by
  have hl := hM.hl
  simp only [List.length_cons] at hl
  have HO := Lib.hid (operands_any x y b VS SS i0 i1 i2 i3 s w hM)
  rw [vN_iff] at hx hy
  clear hM
  have e4 : clc 9 x y = rng (min x y) := rfl
  rw [e4]
  have q := run_min2 x y (min x y) rfl
  have HPu := Lib.hid (fun wx (h : MAt wx b VS SS i0 i1 i2 i3 s) => push_any (min x y) b VS SS i0 i1 i2 i3 s wx h (by omega))
  generalize min x y = r at *
  clear hx hy e4
  go_enter Tryd.func53, Tryd.ntmps53
  go_wp2_with (first
    | (go_at_call 56; refine HO.out.mono ?_; rintro e w2 ⟨rfl, hM2, hb2⟩; have HM2 := Lib.hid hM2; have HB2 := Lib.hid hb2; clear hM2 hb2)
    | (go_at_call 45; refine (HPu.out _ HM2.out).mono ?_; rintro e w3 ⟨rfl, hM3, hb3⟩; have HM3 := Lib.hid hM3; have HB3 := Lib.hid (gbTrans HB2.out hb3); clear hM3 hb3))
  go_ret
  exact ⟨rfl, HM3.out, HB3.out⟩
set_option maxHeartbeats 1000000 in
set_option maxRecDepth 100000 in
theorem pushGreater_any (x y n : Int) (hx : vN x = true) (hy : vN y = true) (b : Nat) (VS SS : Value) (i0 i1 i2 i3 : Int) (s : List Int) (w : World) (hM : MAt w b VS SS i0 i1 i2 i3 (y :: x :: s)) :
    Calls Tryd.prog 54 #[.pointer (some ⟨b, 0, none⟩), .int .i64 n] w (PuP b VS SS i0 i1 i2 i3 s (clc 10 x y) w) := by
  have hl := hM.hl
  simp only [List.length_cons] at hl
  have HO := Lib.hid (operands_any x y b VS SS i0 i1 i2 i3 s w hM)
  rw [vN_iff] at hx hy
  clear hM
  have e4 : clc 10 x y = rng (max x y) := rfl
  rw [e4]
  have q := run_max2 x y (max x y) rfl
  have HPu := Lib.hid (fun wx (h : MAt wx b VS SS i0 i1 i2 i3 s) => push_any (max x y) b VS SS i0 i1 i2 i3 s wx h (by omega))
  generalize max x y = r at *
  clear hx hy e4
  go_enter Tryd.func54, Tryd.ntmps54
  go_wp2_with (first
    | (go_at_call 56; refine HO.out.mono ?_; rintro e w2 ⟨rfl, hM2, hb2⟩; have HM2 := Lib.hid hM2; have HB2 := Lib.hid hb2; clear hM2 hb2)
    | (go_at_call 45; refine (HPu.out _ HM2.out).mono ?_; rintro e w3 ⟨rfl, hM3, hb3⟩; have HM3 := Lib.hid hM3; have HB3 := Lib.hid (gbTrans HB2.out hb3); clear hM3 hb3))
  go_ret
  exact ⟨rfl, HM3.out, HB3.out⟩
set_option maxHeartbeats 1000000 in
set_option maxRecDepth 100000 in
theorem divideDown_any (x y n : Int) (hx : vN x = true) (hy : vN y = true) (b : Nat) (VS SS : Value) (i0 i1 i2 i3 : Int) (s : List Int) (w : World) (hM : MAt w b VS SS i0 i1 i2 i3 (y :: x :: s)) :
    Calls Tryd.prog 51 #[.pointer (some ⟨b, 0, none⟩), .int .i64 n] w (PuP b VS SS i0 i1 i2 i3 s (clc 7 x y) w) := by
  have hl := hM.hl
  simp only [List.length_cons] at hl
  have HO := Lib.hid (operands_any x y b VS SS i0 i1 i2 i3 s w hM)
  rw [vN_iff] at hx hy
  clear hM
  have e4 : clc 7 x y = if y = 0 then (0, 14) else rng (x.fdiv y) := rfl
  rw [e4]
  by_cases h0 : y = 0
  · subst h0
    rw [if_pos rfl]
    clear hx hy e4
    go_enter Tryd.func51, Tryd.ntmps51
    go_wp2_with (first
      | (go_at_call 56; refine HO.out.mono ?_; rintro e w2 ⟨rfl, hM2, hb2⟩; have HM2 := Lib.hid hM2; have HB2 := Lib.hid hb2; clear hM2 hb2))
    go_ret
    exact ⟨rfl, HM2.out, HB2.out⟩
  · rw [if_neg h0]
    have g0 : (y == 0) = false := by simp [h0]
    have HFl := Lib.hid (floor_any x y (by omega) (by omega) h0)
    have HPu := Lib.hid (fun wx (h : MAt wx b VS SS i0 i1 i2 i3 s) => push_any (x.fdiv y) b VS SS i0 i1 i2 i3 s wx h (by omega))
    generalize x.fdiv y = r at *
    clear hx hy e4 h0
    go_enter Tryd.func51, Tryd.ntmps51
    go_wp2_with (first
      | (go_at_call 56; refine HO.out.mono ?_; rintro e w2 ⟨rfl, hM2, hb2⟩; have HM2 := Lib.hid hM2; have HB2 := Lib.hid hb2; clear hM2 hb2)
      | (go_at_call 63; refine (HFl.out _).mono ?_; rintro e w4 ⟨rfl, hw4⟩; rw [hw4]; clear hw4 w4)
      | (go_at_call 45; refine (HPu.out _ HM2.out).mono ?_; rintro e w3 ⟨rfl, hM3, hb3⟩; have HM3 := Lib.hid hM3; have HB3 := Lib.hid (gbTrans HB2.out hb3); clear hM3 hb3))
    go_ret
    exact ⟨rfl, HM3.out, HB3.out⟩
set_option maxHeartbeats 1000000 in
set_option maxRecDepth 100000 in
theorem divideUp_any (x y n : Int) (hx : vN x = true) (hy : vN y = true) (b : Nat) (VS SS : Value) (i0 i1 i2 i3 : Int) (s : List Int) (w : World) (hM : MAt w b VS SS i0 i1 i2 i3 (y :: x :: s)) :
    Calls Tryd.prog 52 #[.pointer (some ⟨b, 0, none⟩), .int .i64 n] w (PuP b VS SS i0 i1 i2 i3 s (clc 8 x y) w) := by
  have hl := hM.hl
  simp only [List.length_cons] at hl
  have HO := Lib.hid (operands_any x y b VS SS i0 i1 i2 i3 s w hM)
  rw [vN_iff] at hx hy
  clear hM
  have e4 : clc 8 x y = if y = 0 then (0, 14) else rng (-((-x).fdiv y)) := rfl
  rw [e4]
  by_cases h0 : y = 0
  · subst h0
    rw [if_pos rfl]
    clear hx hy e4
    go_enter Tryd.func52, Tryd.ntmps52
    go_wp2_with (first
      | (go_at_call 56; refine HO.out.mono ?_; rintro e w2 ⟨rfl, hM2, hb2⟩; have HM2 := Lib.hid hM2; have HB2 := Lib.hid hb2; clear hM2 hb2))
    go_ret
    exact ⟨rfl, HM2.out, HB2.out⟩
  · rw [if_neg h0]
    have g0 : (y == 0) = false := by simp [h0]
    have qx : IntKind.i64.wrap (-x) = -x := IntWalk.i64_in _ (by omega)
    have HFl := Lib.hid (floor_any (-x) y (by omega) (by omega) h0)
    have hbd := fdiv_bd (-x) y h0
    unfold absF at hbd
    have HPu := Lib.hid (fun wx (h : MAt wx b VS SS i0 i1 i2 i3 s) => push_any (-((-x).fdiv y)) b VS SS i0 i1 i2 i3 s wx h (by omega))
    generalize (-x).fdiv y = r at *
    have qr : IntKind.i64.wrap (-r) = -r := IntWalk.i64_in _ (by omega)
    clear hx hy e4 h0 hbd
    go_enter Tryd.func52, Tryd.ntmps52
    go_wp2_with (first
      | (go_at_call 56; refine HO.out.mono ?_; rintro e w2 ⟨rfl, hM2, hb2⟩; have HM2 := Lib.hid hM2; have HB2 := Lib.hid hb2; clear hM2 hb2)
      | (go_at_call 63; refine (HFl.out _).mono ?_; rintro e w4 ⟨rfl, hw4⟩; rw [hw4]; clear hw4 w4)
      | (go_at_call 45; refine (HPu.out _ HM2.out).mono ?_; rintro e w3 ⟨rfl, hM3, hb3⟩; have HM3 := Lib.hid hM3; have HB3 := Lib.hid (gbTrans HB2.out hb3); clear hM3 hb3))
    go_ret
    exact ⟨rfl, HM3.out, HB3.out⟩
set_option maxHeartbeats 1000000 in
set_option maxRecDepth 100000 in
theorem multiply_any (x y n : Int) (hx : vN x = true) (hy : vN y = true) (b : Nat) (VS SS : Value) (i0 i1 i2 i3 : Int) (s : List Int) (w : World) (hM : MAt w b VS SS i0 i1 i2 i3 (y :: x :: s)) :
    Calls Tryd.prog 50 #[.pointer (some ⟨b, 0, none⟩), .int .i64 n] w (PuP b VS SS i0 i1 i2 i3 s (clc 6 x y) w) := by
  have hl := hM.hl
  simp only [List.length_cons] at hl
  have HO := Lib.hid (operands_any x y b VS SS i0 i1 i2 i3 s w hM)
  rw [vN_iff] at hx hy
  clear hM
  have e4 : clc 6 x y = rng (x * y) := rfl
  rw [e4]
  have q : vN (x * y) = true → IntKind.i64.wrap (x * y) = x * y := fun h => IntWalk.i64_in _ (by rw [vN_iff] at h; omega)
  by_cases h0 : x = 0
  · subst h0
    have q0 : IntKind.i64.wrap (0 * y) = 0 * y := by rw [Int.zero_mul]; rfl
    have qy : IntKind.i64.wrap (-y) = -y := IntWalk.i64_in _ (by omega)
    rw [Int.zero_mul] at q0
    have HPu := Lib.hid (fun wx (h : MAt wx b VS SS i0 i1 i2 i3 s) => push_any 0 b VS SS i0 i1 i2 i3 s wx h (by omega))
    rw [Int.zero_mul]
    clear hx hy e4 q
    go_enter Tryd.func50, Tryd.ntmps50
    go_wp2_with (first
      | (go_at_call 56; refine HO.out.mono ?_; rintro e w2 ⟨rfl, hM2, hb2⟩; have HM2 := Lib.hid hM2; have HB2 := Lib.hid hb2; clear hM2 hb2)
      | (go_at_call 45; refine (HPu.out _ HM2.out).mono ?_; rintro e w3 ⟨rfl, hM3, hb3⟩; have HM3 := Lib.hid hM3; have HB3 := Lib.hid (gbTrans HB2.out hb3); clear hM3 hb3))
    go_ret
    exact ⟨rfl, HM3.out, HB3.out⟩
  · have ha := absF_pos h0
    have hal : absF x ≤ 1000000000000 := by unfold absF; omega
    have hyl : absF y ≤ 1000000000000 := by unfold absF; omega
    have hyn := absF_nonneg y
    have qx : IntKind.i64.wrap (-x) = -x := IntWalk.i64_in _ (by omega)
    have qy : IntKind.i64.wrap (-y) = -y := IntWalk.i64_in _ (by omega)
    have gx : (x != 0) = true := by simp [h0]
    have ht := prod_test (b := y) h0
    have mx := run_max2 x (-x) (absF x) (by rfl)
    have my := run_max2 y (-y) (absF y) (by rfl)
    clear hx hy
    by_cases hlt : absF y ≤ 1000000000000 / absF x
    · have hv := ht.1 hlt
      have q := q hv
      have hd : decide (absF y > 1000000000000 / absF x) = false := by simp; omega
      have HPu := Lib.hid (fun wx (h : MAt wx b VS SS i0 i1 i2 i3 s) => push_any (x * y) b VS SS i0 i1 i2 i3 s wx h (by omega))
      clear ht hv h0 hlt e4
      generalize absF x = ax at *
      generalize absF y = ay at *
      go_enter Tryd.func50, Tryd.ntmps50
      go_wp2_with (first
        | (go_at_call 56; refine HO.out.mono ?_; rintro e w2 ⟨rfl, hM2, hb2⟩; have HM2 := Lib.hid hM2; have HB2 := Lib.hid hb2; clear hM2 hb2)
        | (go_at_call 45; refine (HPu.out _ HM2.out).mono ?_; rintro e w3 ⟨rfl, hM3, hb3⟩; have HM3 := Lib.hid hM3; have HB3 := Lib.hid (gbTrans HB2.out hb3); clear hM3 hb3))
      go_ret
      exact ⟨rfl, HM3.out, HB3.out⟩
    · have hv : vN (x * y) = false := by rw [Bool.eq_false_iff]; exact fun h => hlt (ht.2 h)
      have e5 : rng (x * y) = (0, 3) := by unfold rng; rw [if_neg (by rw [hv]; decide)]
      rw [e5]
      have hd : decide (absF y > 1000000000000 / absF x) = true := by simp; omega
      clear ht q h0 hlt hv e4 e5
      generalize absF x = ax at *
      generalize absF y = ay at *
      go_enter Tryd.func50, Tryd.ntmps50
      go_wp2_with (first
        | (go_at_call 56; refine HO.out.mono ?_; rintro e w2 ⟨rfl, hM2, hb2⟩; have HM2 := Lib.hid hM2; have HB2 := Lib.hid hb2; clear hM2 hb2))
      go_ret
      exact ⟨rfl, HM2.out, HB2.out⟩
set_option maxHeartbeats 2000000 in
set_option maxRecDepth 100000 in
theorem areRelated_any (x y r : Int) (b : Nat) (VS SS : Value) (i0 i1 i2 i3 : Int) (s : List Int) (w : World) (hM : MAt w b VS SS i0 i1 i2 i3 (y :: x :: s)) :
    Calls Tryd.prog 34 #[.pointer (some ⟨b, 0, none⟩), .int .i64 r] w (fun e w' => e = .returned (.bool (rlB x r y)) ∧ MAt w' b VS SS i0 i1 i2 i3 s ∧ w.grownBy w' (some b)) := by
  have HO := Lib.hid (operands_any x y b VS SS i0 i1 i2 i3 s w hM)
  clear hM
  unfold rlB
  by_cases h1 : r = 1
  · subst h1
    rw [if_pos rfl]
    go_enter Tryd.func34, Tryd.ntmps34
    go_wp2_with (go_at_call 56; refine HO.out.mono ?_; rintro e w2 ⟨rfl, hM2, hb2⟩; have HM2 := Lib.hid hM2; have HB2 := Lib.hid hb2; clear hM2 hb2)
    all_goals
      go_ret
      exact ⟨ret_bool (by first | rfl | simp_all), HM2.out, HB2.out⟩
  by_cases h2 : r = 2
  · subst h2
    rw [if_neg (by decide), if_pos rfl]
    go_enter Tryd.func34, Tryd.ntmps34
    go_wp2_with (go_at_call 56; refine HO.out.mono ?_; rintro e w2 ⟨rfl, hM2, hb2⟩; have HM2 := Lib.hid hM2; have HB2 := Lib.hid hb2; clear hM2 hb2)
    all_goals
      go_ret
      exact ⟨ret_bool (by first | rfl | simp_all), HM2.out, HB2.out⟩
  by_cases h3 : r = 3
  · subst h3
    rw [if_neg (by decide), if_neg (by decide), if_pos rfl]
    go_enter Tryd.func34, Tryd.ntmps34
    go_wp2_with (go_at_call 56; refine HO.out.mono ?_; rintro e w2 ⟨rfl, hM2, hb2⟩; have HM2 := Lib.hid hM2; have HB2 := Lib.hid hb2; clear hM2 hb2)
    all_goals
      go_ret
      exact ⟨ret_bool (by first | rfl | simp_all), HM2.out, HB2.out⟩
  by_cases h4 : r = 4
  · subst h4
    rw [if_neg (by decide), if_neg (by decide), if_neg (by decide), if_pos rfl]
    go_enter Tryd.func34, Tryd.ntmps34
    go_wp2_with (go_at_call 56; refine HO.out.mono ?_; rintro e w2 ⟨rfl, hM2, hb2⟩; have HM2 := Lib.hid hM2; have HB2 := Lib.hid hb2; clear hM2 hb2)
    all_goals
      go_ret
      exact ⟨ret_bool (by first | rfl | simp_all), HM2.out, HB2.out⟩
  by_cases h5 : r = 5
  · subst h5
    rw [if_neg (by decide), if_neg (by decide), if_neg (by decide), if_neg (by decide), if_pos rfl]
    go_enter Tryd.func34, Tryd.ntmps34
    go_wp2_with (go_at_call 56; refine HO.out.mono ?_; rintro e w2 ⟨rfl, hM2, hb2⟩; have HM2 := Lib.hid hM2; have HB2 := Lib.hid hb2; clear hM2 hb2)
    all_goals
      go_ret
      exact ⟨ret_bool (by first | rfl | simp_all), HM2.out, HB2.out⟩
  rw [if_neg h1, if_neg h2, if_neg h3, if_neg h4, if_neg h5]
  have g1 : (r == 1) = false := by simp [h1]
  have g2 : (r == 2) = false := by simp [h2]
  have g3 : (r == 3) = false := by simp [h3]
  have g4 : (r == 4) = false := by simp [h4]
  have g5 : (r == 5) = false := by simp [h5]
  clear h1 h2 h3 h4 h5
  go_enter Tryd.func34, Tryd.ntmps34
  go_wp2_with (go_at_call 56; refine HO.out.mono ?_; rintro e w2 ⟨rfl, hM2, hb2⟩; have HM2 := Lib.hid hM2; have HB2 := Lib.hid hb2; clear hM2 hb2)
  all_goals
    go_ret
    exact ⟨ret_bool (by first | rfl | simp | simp_all), HM2.out, HB2.out⟩
end N
end Go.Proofs.YthgngkajdiclcaaDoor
