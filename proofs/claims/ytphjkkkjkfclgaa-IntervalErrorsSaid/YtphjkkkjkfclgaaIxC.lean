/- Contracts: what is valid, what is contained, the least interval round numbers. -/
import Derived.Test.YtphjkkkjkfclgaaIxB
namespace Go.Proofs.Ytphjkkkjkfclgaa
open Go.RowKit
set_option linter.unusedVariables false
set_option linter.unusedSimpArgs false
set_option maxHeartbeats 400000 in
set_option maxRecDepth 100000 in
theorem upL (x y : Int) (hx : Fit x) (hy : Fit y) (h0 : y ≠ 0) (w : World) : Calls Try.prog 27 #[.int .i64 x, .int .i64 y] w (SS (.int .i64 (upF x y)) w) := by
  have hb := tdiv_bd (-x) y
  have he := floor_eq (-x) y h0
  unfold Fit at hx hy
  have hd : -5000000000000000000 ≤ divF (-x) y ∧ divF (-x) y ≤ 5000000000000000000 := by
    unfold absF at hb; unfold divF; rw [he]; split <;> omega
  have q : IntKind.i64.wrap (-x) = -x := IntWalk.i64_in _ (by omega)
  have q2 : IntKind.i64.wrap (-(divF (-x) y)) = -(divF (-x) y) := IntWalk.i64_in _ (by omega)
  have hL := Lib.hid (divL (-x) y (by unfold Fit; omega) (by unfold Fit; omega) h0)
  have hu : upF x y = -(divF (-x) y) := rfl
  rw [hu]
  clear hb he hu
  generalize divF (-x) y = d at *
  go_enter Try.func27, Try.ntmps27
  go_wp2_with (go_at_call 26; refine (hL.out _).mono ?_; rintro e w1 ⟨rfl, rfl⟩)
  go_ret
  exact ⟨rfl, rfl⟩
set_option maxHeartbeats 400000 in
set_option maxRecDepth 100000 in
theorem Valid_any (s : Sp) (w : World) : Calls Try.prog 20 #[sv s] w (BB (vB s) w) := by
  have hb := Lib.hid ((Below.refl w.heap.size w).alloc (Nat.le_refl _) (.cells #[.int .i64 s.lo, .int .i64 s.hi] 23))
  go_enter Try.func20, Try.ntmps20
  go_wp2
  all_goals
    go_ret
    refine ⟨ret_bool ?_, hb.out⟩
    rw [Bool.eq_iff_iff, vB_iff]
    simp [*]
  all_goals omega
set_option maxHeartbeats 400000 in
set_option maxRecDepth 100000 in
theorem Value_any (n : Int) (w : World) : Calls Try.prog 18 #[.int .i64 n] w (SS (.bool (vN n)) w) := by
  go_enter Try.func18, Try.ntmps18
  go_wp2
  all_goals
    go_ret
    refine ⟨ret_bool ?_, rfl⟩
    rw [Bool.eq_iff_iff, vN_iff]
    simp [*]
  all_goals omega
theorem vB_split (s : Sp) : vB s = (vN s.lo && vN s.hi && decide (s.lo ≤ s.hi)) := by
  rw [Bool.eq_iff_iff, vB_iff]; simp only [Bool.and_eq_true, vN_iff, decide_eq_true_eq]; omega
set_option maxHeartbeats 400000 in
set_option maxRecDepth 100000 in
theorem RValid_any (s : Sp) (w : World) : Calls Try.prog 6 #[sv s] w (BB (vB s) w) := by
  have hb := Lib.hid ((Below.refl w.heap.size w).alloc (Nat.le_refl _) (.cells #[.int .i64 s.lo, .int .i64 s.hi] 23))
  have h0 := Lib.hid (Value_any s.lo)
  have h1 := Lib.hid (Value_any s.hi)
  rw [vB_split]
  rcases e0 : vN s.lo with _ | _ <;> rcases e1 : vN s.hi with _ | _ <;> rw [e0] at h0 <;> rw [e1] at h1 <;> clear e0 e1 <;> by_cases h2 : s.lo ≤ s.hi
  all_goals
    go_enter Try.func6, Try.ntmps6
    go_wp2_with (first | (go_at_call_of 18 (Value.int .i64 s.lo); refine (h0.out _).mono ?_; rintro e w1 ⟨rfl, rfl⟩) | (go_at_call 18; refine (h1.out _).mono ?_; rintro e w1 ⟨rfl, rfl⟩))
    go_ret
    exact ⟨ret_bool (by simp [h2]), hb.out⟩
set_option maxHeartbeats 400000 in
set_option maxRecDepth 100000 in
theorem span_any (x y : Int) (w : World) : Calls Try.prog 7 #[.int .i64 x, .int .i64 y] w (VV (sv ⟨x, y⟩) w) := by
  go_enter Try.func7, Try.ntmps7
  go_wp2
  exact bodyPost_ret (v := sv ⟨x, y⟩) (by simp [results, Try.results7, go_sem]) rfl ⟨rfl, (Below.refl _ _).alloc (Nat.le_refl _) _⟩
def sminK (p q r s : Int) : Nat → Int | 0 => p | 1 => p | 2 => min p q | 3 => min (min p q) r | _ => min (min (min p q) r) s
set_option maxHeartbeats 1000000 in
set_option maxRecDepth 100000 in
theorem smin_any (b : Nat) (p q r s : Int) (w : World) (h0 : w.cell? ⟨b, 0, none⟩ = some (.int .i64 p)) (h1 : w.cell? ⟨b, 1, none⟩ = some (.int .i64 q)) (h2 : w.cell? ⟨b, 2, none⟩ = some (.int .i64 r)) (h3 : w.cell? ⟨b, 3, none⟩ = some (.int .i64 s)) :
    Calls Try.prog 35 #[.slice (some ⟨b, 0, none⟩) 4 4] w (SS (.int .i64 (min (min (min p q) r) s)) w) := by
  go_enter Try.func35, Try.ntmps35
  go_wp2
  go_loop [3, 4] (fun m i => ∃ k : Nat, 1 ≤ k ∧ k ≤ 4 ∧ i = .int .i64 k ∧ m = .int .i64 (sminK p q r s k)) (fun _ i => 4 - (intOf i).toNat)
  case atStart => exact ⟨1, by omega, by omega, rfl, rfl⟩
  case round =>
    obtain ⟨k, hk1, hk2, rfl, rfl⟩ := hrel
    match k, hk1, hk2 with
    | 1, _, _ =>
      have E : sminK p q r s 1 = p := rfl
      rw [E]
      clear E h2 h3 h0
      go_wp2
      all_goals
        go_round
        case rel => exact ⟨2, by omega, by omega, rfl, by simp only [sminK]; congr 1; omega⟩
        case measure => simp [intOf]
    | 2, _, _ =>
      obtain ⟨E, hE⟩ : ∃ E, sminK p q r s 2 = E := ⟨_, rfl⟩
      rw [hE]
      have hE := Lib.hid hE
      clear h1 h3 h0
      go_wp2
      all_goals
        go_round
        case rel => exact ⟨3, by omega, by omega, rfl, by have := hE.out; simp only [sminK] at this ⊢; congr 1; omega⟩
        case measure => simp [intOf]
    | 3, _, _ =>
      obtain ⟨E, hE⟩ : ∃ E, sminK p q r s 3 = E := ⟨_, rfl⟩
      rw [hE]
      have hE := Lib.hid hE
      clear h1 h2 h0
      go_wp2
      all_goals
        go_round
        case rel => exact ⟨4, by omega, by omega, rfl, by have := hE.out; simp only [sminK] at this ⊢; congr 1; omega⟩
        case measure => simp [intOf]
    | 4, _, _ =>
      have E : sminK p q r s 4 = (min (min (min p q) r) s) := rfl
      rw [E]
      clear E h1 h2 h3 h0
      go_wp2
      go_ret
      exact ⟨rfl, rfl⟩
def smaxK (p q r s : Int) : Nat → Int | 0 => p | 1 => p | 2 => max p q | 3 => max (max p q) r | _ => max (max (max p q) r) s
set_option maxHeartbeats 1000000 in
set_option maxRecDepth 100000 in
theorem smax_any (b : Nat) (p q r s : Int) (w : World) (h0 : w.cell? ⟨b, 0, none⟩ = some (.int .i64 p)) (h1 : w.cell? ⟨b, 1, none⟩ = some (.int .i64 q)) (h2 : w.cell? ⟨b, 2, none⟩ = some (.int .i64 r)) (h3 : w.cell? ⟨b, 3, none⟩ = some (.int .i64 s)) :
    Calls Try.prog 36 #[.slice (some ⟨b, 0, none⟩) 4 4] w (SS (.int .i64 (max (max (max p q) r) s)) w) := by
  go_enter Try.func36, Try.ntmps36
  go_wp2
  go_loop [3, 4] (fun m i => ∃ k : Nat, 1 ≤ k ∧ k ≤ 4 ∧ i = .int .i64 k ∧ m = .int .i64 (smaxK p q r s k)) (fun _ i => 4 - (intOf i).toNat)
  case atStart => exact ⟨1, by omega, by omega, rfl, rfl⟩
  case round =>
    obtain ⟨k, hk1, hk2, rfl, rfl⟩ := hrel
    match k, hk1, hk2 with
    | 1, _, _ =>
      have E : smaxK p q r s 1 = p := rfl
      rw [E]
      clear E h2 h3 h0
      go_wp2
      all_goals
        go_round
        case rel => exact ⟨2, by omega, by omega, rfl, by simp only [smaxK]; congr 1; omega⟩
        case measure => simp [intOf]
    | 2, _, _ =>
      obtain ⟨E, hE⟩ : ∃ E, smaxK p q r s 2 = E := ⟨_, rfl⟩
      rw [hE]
      have hE := Lib.hid hE
      clear h1 h3 h0
      go_wp2
      all_goals
        go_round
        case rel => exact ⟨3, by omega, by omega, rfl, by have := hE.out; simp only [smaxK] at this ⊢; congr 1; omega⟩
        case measure => simp [intOf]
    | 3, _, _ =>
      obtain ⟨E, hE⟩ : ∃ E, smaxK p q r s 3 = E := ⟨_, rfl⟩
      rw [hE]
      have hE := Lib.hid hE
      clear h1 h2 h0
      go_wp2
      all_goals
        go_round
        case rel => exact ⟨4, by omega, by omega, rfl, by have := hE.out; simp only [smaxK] at this ⊢; congr 1; omega⟩
        case measure => simp [intOf]
    | 4, _, _ =>
      have E : smaxK p q r s 4 = (max (max (max p q) r) s) := rfl
      rw [E]
      clear E h1 h2 h3 h0
      go_wp2
      go_ret
      exact ⟨rfl, rfl⟩
set_option maxHeartbeats 400000 in
set_option maxRecDepth 100000 in
theorem around_any (b : Nat) (p q r s : Int) (w : World) (T : TypeId) (hc : w.heap[b]? = some (.cells #[.int .i64 p, .int .i64 q, .int .i64 r, .int .i64 s] T (0, 0))) :
    Calls Try.prog 31 #[.slice (some ⟨b, 0, none⟩) 4 4] w (VV (sv (arM p q r s)) w) := by
  have HC := Lib.hid hc
  have hl := blkLt hc
  clear hc
  have hm : arM p q r s = ⟨min (min (min p q) r) s, max (max (max p q) r) s⟩ := rfl
  rw [hm]
  clear hm
  go_enter Try.func31, Try.ntmps31
  go_wp2_with (first
    | (go_at_call 35; refine (smin_any b p q r s _ ?_ ?_ ?_ ?_).mono ?_; (exact (cells4 ((Below.heap_alloc _ _ _ hl).trans HC.out)).1); (exact (cells4 ((Below.heap_alloc _ _ _ hl).trans HC.out)).2.1); (exact (cells4 ((Below.heap_alloc _ _ _ hl).trans HC.out)).2.2.1); (exact (cells4 ((Below.heap_alloc _ _ _ hl).trans HC.out)).2.2.2); rintro e w1 ⟨rfl, rfl⟩)
    | (go_at_call 36; refine (smax_any b p q r s _ ?_ ?_ ?_ ?_).mono ?_; (exact (cells4 ((Below.heap_alloc _ _ _ hl).trans HC.out)).1); (exact (cells4 ((Below.heap_alloc _ _ _ hl).trans HC.out)).2.1); (exact (cells4 ((Below.heap_alloc _ _ _ hl).trans HC.out)).2.2.1); (exact (cells4 ((Below.heap_alloc _ _ _ hl).trans HC.out)).2.2.2); rintro e w1 ⟨rfl, rfl⟩))
  exact bodyPost_ret (v := sv ⟨min (min (min p q) r) s, max (max (max p q) r) s⟩) (by simp [results, Try.results31, go_sem]) rfl ⟨rfl, (Below.refl _ _).alloc (Nat.le_refl _) _⟩
theorem run_min4 (p q r s : Int) (ts : Array TypeId) (t : TypeId) (w : World) : (Builtin.min_ ts t #[.int .i64 p, .int .i64 q, .int .i64 r, .int .i64 s]).run Try.prog w = .ok (.int .i64 (min (min (min p q) r) s)) w := by
  have e : ∀ x y : Int, (if y < x then y else x) = min x y := fun x y => by omega
  simp [Builtin.min_, Builtin.min2, e, go_sem]
theorem run_max4 (p q r s : Int) (ts : Array TypeId) (t : TypeId) (w : World) : (Builtin.max_ ts t #[.int .i64 p, .int .i64 q, .int .i64 r, .int .i64 s]).run Try.prog w = .ok (.int .i64 (max (max (max p q) r) s)) w := by
  have e : ∀ x y : Int, (if x < y then y else x) = max x y := fun x y => by omega
  simp [Builtin.max_, Builtin.max2, e, go_sem]
end Go.Proofs.Ytphjkkkjkfclgaa
