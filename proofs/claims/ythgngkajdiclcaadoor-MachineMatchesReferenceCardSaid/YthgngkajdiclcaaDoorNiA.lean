/- Law 10: what the reference's Trace calls: abs, Product, Down, Holds, calculate. -/
import Derived.Test.YthgngkajdiclcaaDoorNdC
namespace Go.Proofs.YthgngkajdiclcaaDoor
open Go.RowKit
set_option linter.unusedVariables false
set_option linter.unusedSimpArgs false
namespace N
open K
set_option maxHeartbeats 400000 in
set_option maxRecDepth 100000 in
theorem rabs_any (x : Int) (hx : -4000000000000 ≤ x ∧ x ≤ 4000000000000) (w : World) : Calls Tryd.prog 65 #[.int .i64 x] w (SS (.int .i64 (absF x)) w) := by
  have q1 : IntKind.i64.wrap (-x) = -x := IntWalk.i64_in _ (by omega)
  have mx := run_max2 x (-x) (absF x) (by rfl)
  generalize absF x = ax at *
  clear hx
  go_enter Tryd.func65, Tryd.ntmps65
  go_wp2
  go_ret
  exact ⟨rfl, rfl⟩
set_option maxHeartbeats 400000 in
set_option maxRecDepth 100000 in
theorem rproduct_any (x y : Int) (hx : vN x = true) (hy : vN y = true) (w : World) : Calls Tryd.prog 57 #[.int .i64 x, .int .i64 y] w (SS (.int .i64 (mulF x y)) w) := by
  have q : vN (x * y) = true → IntKind.i64.wrap (x * y) = x * y := fun h => IntWalk.i64_in _ (by rw [vN_iff] at h; omega)
  rw [vN_iff] at hx hy
  by_cases h0 : x = 0
  · subst h0
    have e : mulF 0 y = 0 := by unfold mulF; rw [if_neg (by simp)]; simp
    rw [e]
    have q : IntKind.i64.wrap (0 * y) = 0 := by rw [Int.zero_mul]; rfl
    clear hx e hy
    go_enter Tryd.func57, Tryd.ntmps57
    go_wp2
    go_ret
    exact ⟨rfl, rfl⟩
  · have ha := absF_pos h0
    have hal : absF x ≤ 1000000000000 := by unfold absF; omega
    have hyl : absF y ≤ 1000000000000 := by unfold absF; omega
    have hyn := absF_nonneg y
    have hsx := Lib.hid (rabs_any x (by omega))
    have hsy := Lib.hid (rabs_any y (by omega))
    have gx : (x != 0) = true := by simp [h0]
    by_cases hlt : 1000000000000 / absF x < absF y
    · have e : mulF x y = 1000000000001 := by unfold mulF; rw [if_pos ⟨h0, hlt⟩]
      rw [e]
      have hd : decide (absF y > 1000000000000 / absF x) = true := by simp; omega
      clear q e hx hy h0 hlt
      generalize absF x = ax at *
      generalize absF y = ay at *
      go_enter Tryd.func57, Tryd.ntmps57
      go_wp2_with (first | (go_at_call_of 65 (Value.int .i64 y); refine (hsy.out _).mono ?_; rintro e w1 ⟨rfl, rfl⟩) | (go_at_call 65; refine (hsx.out _).mono ?_; rintro e w1 ⟨rfl, rfl⟩))
      go_ret
      exact ⟨rfl, rfl⟩
    · have e : mulF x y = x * y := by unfold mulF; rw [if_neg (fun h => hlt h.2)]
      rw [e]
      have q := q (mul_ok h0 hlt)
      have hd : decide (absF y > 1000000000000 / absF x) = false := by simp; omega
      clear e hx hy h0 hlt
      generalize absF x = ax at *
      generalize absF y = ay at *
      go_enter Tryd.func57, Tryd.ntmps57
      go_wp2_with (first | (go_at_call_of 65 (Value.int .i64 y); refine (hsy.out _).mono ?_; rintro e w1 ⟨rfl, rfl⟩) | (go_at_call 65; refine (hsx.out _).mono ?_; rintro e w1 ⟨rfl, rfl⟩))
      go_ret
      exact ⟨rfl, rfl⟩
set_option maxHeartbeats 400000 in
set_option maxRecDepth 100000 in
theorem rdown_any (x y : Int) (hx : -4000000000000 ≤ x ∧ x ≤ 4000000000000) (hy : -4000000000000 ≤ y ∧ y ≤ 4000000000000) (h0 : y ≠ 0) (w : World) : Calls Tryd.prog 58 #[.int .i64 x, .int .i64 y] w (SS (.int .i64 (x.fdiv y)) w) := by
  have e := floor_eq x y h0
  have hb := tdiv_bd x y
  unfold absF at hb
  have q1 : IntKind.i64.wrap (x.tdiv y) = x.tdiv y := IntWalk.i64_in _ (by omega)
  have q2 : IntKind.i64.wrap (x.tdiv y - 1) = x.tdiv y - 1 := IntWalk.i64_in _ (by omega)
  have E := Lib.hid e
  clear e hb
  go_enter Tryd.func58, Tryd.ntmps58
  go_wp2
  all_goals
    go_ret
    exact ⟨ret_int (by rw [E.out]; split <;> simp_all), rfl⟩
set_option maxHeartbeats 1000000 in
set_option maxRecDepth 100000 in
theorem rholds_any (r x y : Int) (w : World) : Calls Tryd.prog 36 #[.int .i64 r, .int .i64 x, .int .i64 y] w (SS (.bool (rlB x r y)) w) := by
  unfold rlB
  by_cases h1 : r = 1
  · subst h1
    rw [if_pos rfl]
    go_enter Tryd.func36, Tryd.ntmps36
    go_wp2
    all_goals
      go_ret
      exact ⟨ret_bool (by first | rfl | simp_all), rfl⟩
  by_cases h2 : r = 2
  · subst h2
    rw [if_neg (by decide), if_pos rfl]
    go_enter Tryd.func36, Tryd.ntmps36
    go_wp2
    all_goals
      go_ret
      exact ⟨ret_bool (by first | rfl | simp_all), rfl⟩
  by_cases h3 : r = 3
  · subst h3
    rw [if_neg (by decide), if_neg (by decide), if_pos rfl]
    go_enter Tryd.func36, Tryd.ntmps36
    go_wp2
    all_goals
      go_ret
      exact ⟨ret_bool (by first | rfl | simp_all), rfl⟩
  by_cases h4 : r = 4
  · subst h4
    rw [if_neg (by decide), if_neg (by decide), if_neg (by decide), if_pos rfl]
    go_enter Tryd.func36, Tryd.ntmps36
    go_wp2
    all_goals
      go_ret
      exact ⟨ret_bool (by first | rfl | simp_all), rfl⟩
  by_cases h5 : r = 5
  · subst h5
    rw [if_neg (by decide), if_neg (by decide), if_neg (by decide), if_neg (by decide), if_pos rfl]
    go_enter Tryd.func36, Tryd.ntmps36
    go_wp2
    all_goals
      go_ret
      exact ⟨ret_bool (by first | rfl | simp_all), rfl⟩
  rw [if_neg h1, if_neg h2, if_neg h3, if_neg h4, if_neg h5]
  have g1 : (r == 1) = false := by simp [h1]
  have g2 : (r == 2) = false := by simp [h2]
  have g3 : (r == 3) = false := by simp [h3]
  have g4 : (r == 4) = false := by simp [h4]
  have g5 : (r == 5) = false := by simp [h5]
  clear h1 h2 h3 h4 h5
  go_enter Tryd.func36, Tryd.ntmps36
  go_wp2
  all_goals
    go_ret
    exact ⟨ret_bool (by first | rfl | simp | simp_all), rfl⟩
theorem mul_rng {x y : Int} : rng (mulF x y) = rng (x * y) := by
  rcases mulF_val x y with ⟨-, h⟩ | ⟨h1, h2⟩
  · rw [h]
  · rw [h2]; unfold rng; rw [h1, if_neg (by decide), if_neg (by simp)]
/-- from the number to the end -/
theorem rng_t {n : Int} (h : vN n = true) : rng n = (n, 0) := by unfold rng; rw [if_pos h]
theorem rng_f {n : Int} (h : vN n = false) : rng n = (0, 3) := by unfold rng; rw [h]; rfl
set_option maxHeartbeats 1000000 in
set_option maxRecDepth 100000 in
theorem rcalc4 (x y : Int) (hx : vN x = true) (hy : vN y = true) (w : World) : Calls Tryd.prog 37 #[.int .i64 4, .int .i64 x, .int .i64 y] w (SS (.tuple #[.int .i64 (clc 4 x y).1, .int .i64 (clc 4 x y).2]) w) := by
  have e4 : clc 4 x y = rng (x + y) := rfl
  rw [e4]
  rw [vN_iff] at hx hy
  obtain ⟨m, hm⟩ : ∃ m, x + y = m := ⟨_, rfl⟩
  have q : IntKind.i64.wrap (x + y) = m := by rw [IntWalk.i64_in _ (by omega)]; exact hm
  rw [hm]
  clear hx hy e4 hm
  have HVa := Lib.hid (RValue_any m)
  rcases hv : vN m with _ | _
  · rw [rng_f hv]
    rw [hv] at HVa
    clear hv
    go_enter Tryd.func37, Tryd.ntmps37
    go_wp2_with (first | (go_at_call 27; refine (HVa.out _).mono ?_; rintro e w2 ⟨rfl, hw2⟩; rw [hw2]; clear hw2 w2))
    go_ret2
    exact ⟨rfl, rfl⟩
  · rw [rng_t hv]
    rw [hv] at HVa
    clear hv
    go_enter Tryd.func37, Tryd.ntmps37
    go_wp2_with (first | (go_at_call 27; refine (HVa.out _).mono ?_; rintro e w2 ⟨rfl, hw2⟩; rw [hw2]; clear hw2 w2))
    go_ret2
    exact ⟨rfl, rfl⟩
set_option maxHeartbeats 1000000 in
set_option maxRecDepth 100000 in
theorem rcalc5 (x y : Int) (hx : vN x = true) (hy : vN y = true) (w : World) : Calls Tryd.prog 37 #[.int .i64 5, .int .i64 x, .int .i64 y] w (SS (.tuple #[.int .i64 (clc 5 x y).1, .int .i64 (clc 5 x y).2]) w) := by
  have e4 : clc 5 x y = rng (x - y) := rfl
  rw [e4]
  rw [vN_iff] at hx hy
  obtain ⟨m, hm⟩ : ∃ m, x - y = m := ⟨_, rfl⟩
  have q : IntKind.i64.wrap (x - y) = m := by rw [IntWalk.i64_in _ (by omega)]; exact hm
  rw [hm]
  clear hx hy e4 hm
  have HVa := Lib.hid (RValue_any m)
  rcases hv : vN m with _ | _
  · rw [rng_f hv]
    rw [hv] at HVa
    clear hv
    go_enter Tryd.func37, Tryd.ntmps37
    go_wp2_with (first | (go_at_call 27; refine (HVa.out _).mono ?_; rintro e w2 ⟨rfl, hw2⟩; rw [hw2]; clear hw2 w2))
    go_ret2
    exact ⟨rfl, rfl⟩
  · rw [rng_t hv]
    rw [hv] at HVa
    clear hv
    go_enter Tryd.func37, Tryd.ntmps37
    go_wp2_with (first | (go_at_call 27; refine (HVa.out _).mono ?_; rintro e w2 ⟨rfl, hw2⟩; rw [hw2]; clear hw2 w2))
    go_ret2
    exact ⟨rfl, rfl⟩
set_option maxHeartbeats 1000000 in
set_option maxRecDepth 100000 in
theorem rcalc6 (x y : Int) (hx : vN x = true) (hy : vN y = true) (w : World) : Calls Tryd.prog 37 #[.int .i64 6, .int .i64 x, .int .i64 y] w (SS (.tuple #[.int .i64 (clc 6 x y).1, .int .i64 (clc 6 x y).2]) w) := by
  have e4 : clc 6 x y = rng (x * y) := rfl
  rw [e4, ← mul_rng]
  have HP := Lib.hid (rproduct_any x y hx hy)
  generalize mulF x y = m at *
  clear hx hy e4
  have HVa := Lib.hid (RValue_any m)
  rcases hv : vN m with _ | _
  · rw [rng_f hv]
    rw [hv] at HVa
    clear hv
    go_enter Tryd.func37, Tryd.ntmps37
    go_wp2_with (first | (go_at_call 57; refine (HP.out _).mono ?_; rintro e w3 ⟨rfl, hw3⟩; rw [hw3]; clear hw3 w3) | (go_at_call 27; refine (HVa.out _).mono ?_; rintro e w2 ⟨rfl, hw2⟩; rw [hw2]; clear hw2 w2))
    go_ret2
    exact ⟨rfl, rfl⟩
  · rw [rng_t hv]
    rw [hv] at HVa
    clear hv
    go_enter Tryd.func37, Tryd.ntmps37
    go_wp2_with (first | (go_at_call 57; refine (HP.out _).mono ?_; rintro e w3 ⟨rfl, hw3⟩; rw [hw3]; clear hw3 w3) | (go_at_call 27; refine (HVa.out _).mono ?_; rintro e w2 ⟨rfl, hw2⟩; rw [hw2]; clear hw2 w2))
    go_ret2
    exact ⟨rfl, rfl⟩
set_option maxHeartbeats 1000000 in
set_option maxRecDepth 100000 in
theorem rcalc9 (x y : Int) (hx : vN x = true) (hy : vN y = true) (w : World) : Calls Tryd.prog 37 #[.int .i64 9, .int .i64 x, .int .i64 y] w (SS (.tuple #[.int .i64 (clc 9 x y).1, .int .i64 (clc 9 x y).2]) w) := by
  have e4 : clc 9 x y = rng (min x y) := rfl
  rw [e4]
  have q := run_min2 x y (min x y) rfl
  generalize min x y = m at *
  clear hx hy e4
  have HVa := Lib.hid (RValue_any m)
  rcases hv : vN m with _ | _
  · rw [rng_f hv]
    rw [hv] at HVa
    clear hv
    go_enter Tryd.func37, Tryd.ntmps37
    go_wp2_with (first | (go_at_call 27; refine (HVa.out _).mono ?_; rintro e w2 ⟨rfl, hw2⟩; rw [hw2]; clear hw2 w2))
    go_ret2
    exact ⟨rfl, rfl⟩
  · rw [rng_t hv]
    rw [hv] at HVa
    clear hv
    go_enter Tryd.func37, Tryd.ntmps37
    go_wp2_with (first | (go_at_call 27; refine (HVa.out _).mono ?_; rintro e w2 ⟨rfl, hw2⟩; rw [hw2]; clear hw2 w2))
    go_ret2
    exact ⟨rfl, rfl⟩
set_option maxHeartbeats 1000000 in
set_option maxRecDepth 100000 in
theorem rcalc10 (x y : Int) (hx : vN x = true) (hy : vN y = true) (w : World) : Calls Tryd.prog 37 #[.int .i64 10, .int .i64 x, .int .i64 y] w (SS (.tuple #[.int .i64 (clc 10 x y).1, .int .i64 (clc 10 x y).2]) w) := by
  have e4 : clc 10 x y = rng (max x y) := rfl
  rw [e4]
  have q := run_max2 x y (max x y) rfl
  generalize max x y = m at *
  clear hx hy e4
  have HVa := Lib.hid (RValue_any m)
  rcases hv : vN m with _ | _
  · rw [rng_f hv]
    rw [hv] at HVa
    clear hv
    go_enter Tryd.func37, Tryd.ntmps37
    go_wp2_with (first | (go_at_call 27; refine (HVa.out _).mono ?_; rintro e w2 ⟨rfl, hw2⟩; rw [hw2]; clear hw2 w2))
    go_ret2
    exact ⟨rfl, rfl⟩
  · rw [rng_t hv]
    rw [hv] at HVa
    clear hv
    go_enter Tryd.func37, Tryd.ntmps37
    go_wp2_with (first | (go_at_call 27; refine (HVa.out _).mono ?_; rintro e w2 ⟨rfl, hw2⟩; rw [hw2]; clear hw2 w2))
    go_ret2
    exact ⟨rfl, rfl⟩
set_option maxHeartbeats 1000000 in
set_option maxRecDepth 100000 in
theorem rcalc7 (x y : Int) (hx : vN x = true) (hy : vN y = true) (w : World) : Calls Tryd.prog 37 #[.int .i64 7, .int .i64 x, .int .i64 y] w (SS (.tuple #[.int .i64 (clc 7 x y).1, .int .i64 (clc 7 x y).2]) w) := by
  have e4 : clc 7 x y = if y = 0 then (0, 14) else rng (x.fdiv y) := rfl
  rw [e4]
  rw [vN_iff] at hx hy
  by_cases h0 : y = 0
  · subst h0
    rw [if_pos rfl]
    clear hx hy e4
    go_enter Tryd.func37, Tryd.ntmps37
    go_wp2
    go_ret2
    exact ⟨rfl, rfl⟩
  · rw [if_neg h0]
    have g0 : (y == 0) = false := by simp [h0]
    have HD := Lib.hid (rdown_any x y (by omega) (by omega) h0)
    generalize x.fdiv y = m at *
    clear hx hy e4 h0
    have HVa := Lib.hid (RValue_any m)
    rcases hv : vN m with _ | _
    · rw [rng_f hv]
      rw [hv] at HVa
      clear hv
      go_enter Tryd.func37, Tryd.ntmps37
      go_wp2_with (first | (go_at_call 58; refine (HD.out _).mono ?_; rintro e w3 ⟨rfl, hw3⟩; rw [hw3]; clear hw3 w3) | (go_at_call 27; refine (HVa.out _).mono ?_; rintro e w2 ⟨rfl, hw2⟩; rw [hw2]; clear hw2 w2))
      go_ret2
      exact ⟨rfl, rfl⟩
    · rw [rng_t hv]
      rw [hv] at HVa
      clear hv
      go_enter Tryd.func37, Tryd.ntmps37
      go_wp2_with (first | (go_at_call 58; refine (HD.out _).mono ?_; rintro e w3 ⟨rfl, hw3⟩; rw [hw3]; clear hw3 w3) | (go_at_call 27; refine (HVa.out _).mono ?_; rintro e w2 ⟨rfl, hw2⟩; rw [hw2]; clear hw2 w2))
      go_ret2
      exact ⟨rfl, rfl⟩
set_option maxHeartbeats 1000000 in
set_option maxRecDepth 100000 in
theorem rcalc8 (x y : Int) (hx : vN x = true) (hy : vN y = true) (w : World) : Calls Tryd.prog 37 #[.int .i64 8, .int .i64 x, .int .i64 y] w (SS (.tuple #[.int .i64 (clc 8 x y).1, .int .i64 (clc 8 x y).2]) w) := by
  have e4 : clc 8 x y = if y = 0 then (0, 14) else rng (-((-x).fdiv y)) := rfl
  rw [e4]
  rw [vN_iff] at hx hy
  by_cases h0 : y = 0
  · subst h0
    rw [if_pos rfl]
    clear hx hy e4
    go_enter Tryd.func37, Tryd.ntmps37
    go_wp2
    go_ret2
    exact ⟨rfl, rfl⟩
  · rw [if_neg h0]
    have g0 : (y == 0) = false := by simp [h0]
    have qx : IntKind.i64.wrap (-x) = -x := IntWalk.i64_in _ (by omega)
    have HD := Lib.hid (rdown_any (-x) y (by omega) (by omega) h0)
    have hbd := fdiv_bd (-x) y h0
    unfold absF at hbd
    generalize (-x).fdiv y = r at *
    obtain ⟨m, hm⟩ : ∃ m, -r = m := ⟨_, rfl⟩
    have qr : IntKind.i64.wrap (-r) = m := by rw [IntWalk.i64_in _ (by omega)]; exact hm
    rw [hm]
    clear hbd hm
    clear hx hy e4 h0
    have HVa := Lib.hid (RValue_any m)
    rcases hv : vN m with _ | _
    · rw [rng_f hv]
      rw [hv] at HVa
      clear hv
      go_enter Tryd.func37, Tryd.ntmps37
      go_wp2_with (first | (go_at_call 58; refine (HD.out _).mono ?_; rintro e w3 ⟨rfl, hw3⟩; rw [hw3]; clear hw3 w3) | (go_at_call 27; refine (HVa.out _).mono ?_; rintro e w2 ⟨rfl, hw2⟩; rw [hw2]; clear hw2 w2))
      go_ret2
      exact ⟨rfl, rfl⟩
    · rw [rng_t hv]
      rw [hv] at HVa
      clear hv
      go_enter Tryd.func37, Tryd.ntmps37
      go_wp2_with (first | (go_at_call 58; refine (HD.out _).mono ?_; rintro e w3 ⟨rfl, hw3⟩; rw [hw3]; clear hw3 w3) | (go_at_call 27; refine (HVa.out _).mono ?_; rintro e w2 ⟨rfl, hw2⟩; rw [hw2]; clear hw2 w2))
      go_ret2
      exact ⟨rfl, rfl⟩
theorem rcalc_any (op x y : Int) (ho : 4 ≤ op ∧ op ≤ 10) (hx : vN x = true) (hy : vN y = true) (w : World) : Calls Tryd.prog 37 #[.int .i64 op, .int .i64 x, .int .i64 y] w (SS (.tuple #[.int .i64 (clc op x y).1, .int .i64 (clc op x y).2]) w) := by
  have : op = 4 ∨ op = 5 ∨ op = 6 ∨ op = 7 ∨ op = 8 ∨ op = 9 ∨ op = 10 := by omega
  rcases this with rfl | rfl | rfl | rfl | rfl | rfl | rfl
  · exact rcalc4 x y hx hy w
  · exact rcalc5 x y hx hy w
  · exact rcalc6 x y hx hy w
  · exact rcalc7 x y hx hy w
  · exact rcalc8 x y hx hy w
  · exact rcalc9 x y hx hy w
  · exact rcalc10 x y hx hy w
end N
end Go.Proofs.YthgngkajdiclcaaDoor
