/- Law package 12: RatioLowest. -/
import Derived.Test.YtinmplilejnafaaRaG
namespace Go.Proofs.Ytinmplilejnafaa
open Go.RowKit
set_option linter.unusedVariables false
set_option linter.unusedSimpArgs false
set_option maxHeartbeats 2000000 in
set_option maxRecDepth 100000 in
theorem low_bad0 (n d k : Int) (t0 : decide (n < -1000000) = true) (w : World) : Calls Try.prog 8 #[.int .i64 n, .int .i64 d, .int .i64 k] w (BB true w) := by
  go_enter Try.func8, Try.ntmps8
  have HW := Lib.hid (Below.refl w.heap.size w)
  go_upto_region 2 with (go_at_call 10; refine (head_any _).mono ?_; rintro e wn ⟨rfl, hbn⟩; replace HW := Lib.hid (bCall (by (repeat with_reducible first | exact HW.out | apply bDrew | apply bAlloc)) hbn); clear hbn)
  go_wp2_with fail
  go_ret
  exact ⟨rfl, HW.out⟩
set_option maxHeartbeats 2000000 in
set_option maxRecDepth 100000 in
theorem low_bad1 (n d k : Int) (t0 : decide (n < -1000000) = false) (t1 : decide (1000000 < n) = true) (w : World) : Calls Try.prog 8 #[.int .i64 n, .int .i64 d, .int .i64 k] w (BB true w) := by
  go_enter Try.func8, Try.ntmps8
  have HW := Lib.hid (Below.refl w.heap.size w)
  go_upto_region 2 with (go_at_call 10; refine (head_any _).mono ?_; rintro e wn ⟨rfl, hbn⟩; replace HW := Lib.hid (bCall (by (repeat with_reducible first | exact HW.out | apply bDrew | apply bAlloc)) hbn); clear hbn)
  go_wp2_with fail
  go_ret
  exact ⟨rfl, HW.out⟩
set_option maxHeartbeats 2000000 in
set_option maxRecDepth 100000 in
theorem low_bad2 (n d k : Int) (t0 : decide (n < -1000000) = false) (t1 : decide (1000000 < n) = false) (t2 : decide (d < -1000000) = true) (w : World) : Calls Try.prog 8 #[.int .i64 n, .int .i64 d, .int .i64 k] w (BB true w) := by
  go_enter Try.func8, Try.ntmps8
  have HW := Lib.hid (Below.refl w.heap.size w)
  go_upto_region 2 with (go_at_call 10; refine (head_any _).mono ?_; rintro e wn ⟨rfl, hbn⟩; replace HW := Lib.hid (bCall (by (repeat with_reducible first | exact HW.out | apply bDrew | apply bAlloc)) hbn); clear hbn)
  go_wp2_with fail
  go_ret
  exact ⟨rfl, HW.out⟩
set_option maxHeartbeats 2000000 in
set_option maxRecDepth 100000 in
theorem low_bad3 (n d k : Int) (t0 : decide (n < -1000000) = false) (t1 : decide (1000000 < n) = false) (t2 : decide (d < -1000000) = false) (t3 : decide (1000000 < d) = true) (w : World) : Calls Try.prog 8 #[.int .i64 n, .int .i64 d, .int .i64 k] w (BB true w) := by
  go_enter Try.func8, Try.ntmps8
  have HW := Lib.hid (Below.refl w.heap.size w)
  go_upto_region 2 with (go_at_call 10; refine (head_any _).mono ?_; rintro e wn ⟨rfl, hbn⟩; replace HW := Lib.hid (bCall (by (repeat with_reducible first | exact HW.out | apply bDrew | apply bAlloc)) hbn); clear hbn)
  go_wp2_with fail
  go_ret
  exact ⟨rfl, HW.out⟩
set_option maxHeartbeats 2000000 in
set_option maxRecDepth 100000 in
theorem low_bad4 (n d k : Int) (t0 : decide (n < -1000000) = false) (t1 : decide (1000000 < n) = false) (t2 : decide (d < -1000000) = false) (t3 : decide (1000000 < d) = false) (t4 : decide (k < -1000000) = true) (w : World) : Calls Try.prog 8 #[.int .i64 n, .int .i64 d, .int .i64 k] w (BB true w) := by
  go_enter Try.func8, Try.ntmps8
  have HW := Lib.hid (Below.refl w.heap.size w)
  go_upto_region 2 with (go_at_call 10; refine (head_any _).mono ?_; rintro e wn ⟨rfl, hbn⟩; replace HW := Lib.hid (bCall (by (repeat with_reducible first | exact HW.out | apply bDrew | apply bAlloc)) hbn); clear hbn)
  go_wp2_with fail
  go_ret
  exact ⟨rfl, HW.out⟩
set_option maxHeartbeats 2000000 in
set_option maxRecDepth 100000 in
theorem low_bad5 (n d k : Int) (t0 : decide (n < -1000000) = false) (t1 : decide (1000000 < n) = false) (t2 : decide (d < -1000000) = false) (t3 : decide (1000000 < d) = false) (t4 : decide (k < -1000000) = false) (t5 : decide (1000000 < k) = true) (w : World) : Calls Try.prog 8 #[.int .i64 n, .int .i64 d, .int .i64 k] w (BB true w) := by
  go_enter Try.func8, Try.ntmps8
  have HW := Lib.hid (Below.refl w.heap.size w)
  go_upto_region 2 with (go_at_call 10; refine (head_any _).mono ?_; rintro e wn ⟨rfl, hbn⟩; replace HW := Lib.hid (bCall (by (repeat with_reducible first | exact HW.out | apply bDrew | apply bAlloc)) hbn); clear hbn)
  go_wp2_with fail
  go_ret
  exact ⟨rfl, HW.out⟩
set_option maxHeartbeats 2000000 in
set_option maxRecDepth 100000 in
theorem low_bad6 (n d k : Int) (t0 : decide (n < -1000000) = false) (t1 : decide (1000000 < n) = false) (t2 : decide (d < -1000000) = false) (t3 : decide (1000000 < d) = false) (t4 : decide (k < -1000000) = false) (t5 : decide (1000000 < k) = false) (t6 : (k == 0) = true) (w : World) : Calls Try.prog 8 #[.int .i64 n, .int .i64 d, .int .i64 k] w (BB true w) := by
  go_enter Try.func8, Try.ntmps8
  have HW := Lib.hid (Below.refl w.heap.size w)
  go_upto_region 2 with (go_at_call 10; refine (head_any _).mono ?_; rintro e wn ⟨rfl, hbn⟩; replace HW := Lib.hid (bCall (by (repeat with_reducible first | exact HW.out | apply bDrew | apply bAlloc)) hbn); clear hbn)
  go_wp2_with fail
  go_ret
  exact ⟨rfl, HW.out⟩
set_option maxHeartbeats 8000000 in
set_option maxRecDepth 100000 in
theorem low_0 (n d k p q : Int) (t0 : decide (n < -1000000) = false) (t1 : decide (1000000 < n) = false) (t2 : decide (d < -1000000) = false) (t3 : decide (1000000 < d) = false) (t4 : decide (k < -1000000) = false) (t5 : decide (1000000 < k) = false) (t6 : (k == 0) = false) (q1 : IntKind.i64.wrap (n * k) = p) (q2 : IntKind.i64.wrap (d * k) = q) (td : (d == 0) = true) (q3 : True)
    (h1 : Hid (∀ w, Calls Try.prog 11 #[.int .i64 n, .int .i64 d] w (VV (.tuple #[qv ⟨0, 0⟩, .int .i64 14]) w))) (h2 : Hid (∀ w, Calls Try.prog 11 #[.int .i64 p, .int .i64 q] w (VV (.tuple #[qv ⟨0, 0⟩, .int .i64 14]) w)))
    (w : World) : Calls Try.prog 8 #[.int .i64 n, .int .i64 d, .int .i64 k] w (BB true w) := by
  go_enter Try.func8, Try.ntmps8
  have HW := Lib.hid (Below.refl w.heap.size w)
  go_upto_region 2 with (go_at_call 10; refine (head_any _).mono ?_; rintro e wn ⟨rfl, hbn⟩; replace HW := Lib.hid (bCall (by (repeat with_reducible first | exact HW.out | apply bDrew | apply bAlloc)) hbn); clear hbn)
  clear q3
  go_upto_region 4 with fail
  go_cut [8, 9] (fun s1 s2 wx => ∃ bA : Nat, s1 = .pointer (some ⟨bA, 0, none⟩) ∧ s2 = .int .i64 14 ∧ Hid (wx.heap[bA]? = some (.cells #[.int .i64 (0), .int .i64 (0)] 23 (0, 0))) ∧ Hid (Below w.heap.size w wx))
  case first => as_aux_lemma =>
    go_wp2_with (go_at_call 11; refine (h1.out _).mono ?_; rintro e wn ⟨rfl, hbn⟩; replace HW := Lib.hid (bCall (by (repeat with_reducible first | exact HW.out | apply bDrew | apply bAlloc)) hbn); clear hbn)
    go_meet
    exact ⟨_, rfl, rfl, Lib.hid (newBlk _ _ _ rfl), Lib.hid (bAlloc HW.out)⟩
  case rest => as_aux_lemma =>
    clear HW
    obtain ⟨bA, rfl, rfl, HA, HW⟩ := hcut
    clear h1
    go_upto_region 5 with fail
    go_cut [10, 11] (fun s1 s2 wx => ∃ bB : Nat, s1 = .pointer (some ⟨bB, 0, none⟩) ∧ s2 = .int .i64 14 ∧ Hid (wx.heap[bA]? = some (.cells #[.int .i64 (0), .int .i64 (0)] 23 (0, 0))) ∧ Hid (wx.heap[bB]? = some (.cells #[.int .i64 (0), .int .i64 (0)] 23 (0, 0))) ∧ Hid (Below w.heap.size w wx))
    case first => as_aux_lemma =>
      have A0 := (cells2 HA.out).1.1
      have A1 := (cells2 HA.out).1.2
      have A2 := (cells2 HA.out).2.1
      have A3 := (cells2 HA.out).2.2
      have Al := blkLt HA.out
      go_wp2_with (go_at_call 11; refine (h2.out _).mono ?_; rintro e wn ⟨rfl, hbn⟩; replace HW := Lib.hid (bCall (by (repeat with_reducible first | exact HW.out | apply bDrew | apply bAlloc)) hbn); replace HA := Lib.hid (moveX (by (repeat with_reducible first | exact Below.refl _ _ | apply bDrew | apply bAlloc)) hbn HA.out); replace A0 := (cells2 HA.out).1.1; replace A1 := (cells2 HA.out).1.2; replace A2 := (cells2 HA.out).2.1; replace A3 := (cells2 HA.out).2.2; replace Al := blkLt HA.out; clear hbn)
      go_meet
      exact ⟨_, rfl, rfl, Lib.hid (mvAlloc HA.out), Lib.hid (newBlk _ _ _ rfl), Lib.hid (bAlloc HW.out)⟩
    case rest => as_aux_lemma =>
      clear HW HA
      obtain ⟨bB, rfl, rfl, HA, HB, HW⟩ := hcut
      clear h2
      go_wp2_with fail
      go_ret
      exact ⟨rfl, HW.out⟩
set_option maxHeartbeats 8000000 in
set_option maxRecDepth 100000 in
theorem low_go (n d k p q x : Int) (s : Q) (t0 : decide (n < -1000000) = false) (t1 : decide (1000000 < n) = false) (t2 : decide (d < -1000000) = false) (t3 : decide (1000000 < d) = false) (t4 : decide (k < -1000000) = false) (t5 : decide (1000000 < k) = false) (t6 : (k == 0) = false) (q1 : IntKind.i64.wrap (n * k) = p) (q2 : IntKind.i64.wrap (d * k) = q) (td : (d == 0) = false) (q3 : IntKind.i64.wrap (s.n * d) = x) (q4 : IntKind.i64.wrap (s.d * n) = x)
    (h1 : Hid (∀ w, Calls Try.prog 11 #[.int .i64 n, .int .i64 d] w (VV (.tuple #[qv s, .int .i64 0]) w))) (h2 : Hid (∀ w, Calls Try.prog 11 #[.int .i64 p, .int .i64 q] w (VV (.tuple #[qv s, .int .i64 0]) w)))
    (hR : Hid (∀ w, Calls Try.prog 24 #[qv s] w (BB true w))) (hV : Hid (∀ w, Calls Try.prog 23 #[qv s] w (BB true w)))
    (w : World) : Calls Try.prog 8 #[.int .i64 n, .int .i64 d, .int .i64 k] w (BB true w) := by
  go_enter Try.func8, Try.ntmps8
  have HW := Lib.hid (Below.refl w.heap.size w)
  go_upto_region 2 with (go_at_call 10; refine (head_any _).mono ?_; rintro e wn ⟨rfl, hbn⟩; replace HW := Lib.hid (bCall (by (repeat with_reducible first | exact HW.out | apply bDrew | apply bAlloc)) hbn); clear hbn)
  go_upto_region 4 with fail
  go_cut [8, 9] (fun s1 s2 wx => ∃ bA : Nat, s1 = .pointer (some ⟨bA, 0, none⟩) ∧ s2 = .int .i64 0 ∧ Hid (wx.heap[bA]? = some (.cells #[.int .i64 (s.n), .int .i64 (s.d)] 23 (0, 0))) ∧ Hid (Below w.heap.size w wx))
  case first => as_aux_lemma =>
    go_wp2_with (go_at_call 11; refine (h1.out _).mono ?_; rintro e wn ⟨rfl, hbn⟩; replace HW := Lib.hid (bCall (by (repeat with_reducible first | exact HW.out | apply bDrew | apply bAlloc)) hbn); clear hbn)
    go_meet
    exact ⟨_, rfl, rfl, Lib.hid (newBlk _ _ _ rfl), Lib.hid (bAlloc HW.out)⟩
  case rest => as_aux_lemma =>
    clear HW
    obtain ⟨bA, rfl, rfl, HA, HW⟩ := hcut
    clear h1
    go_upto_region 5 with fail
    go_cut [10, 11] (fun s1 s2 wx => ∃ bB : Nat, s1 = .pointer (some ⟨bB, 0, none⟩) ∧ s2 = .int .i64 0 ∧ Hid (wx.heap[bA]? = some (.cells #[.int .i64 (s.n), .int .i64 (s.d)] 23 (0, 0))) ∧ Hid (wx.heap[bB]? = some (.cells #[.int .i64 (s.n), .int .i64 (s.d)] 23 (0, 0))) ∧ Hid (Below w.heap.size w wx))
    case first => as_aux_lemma =>
      have A0 := (cells2 HA.out).1.1
      have A1 := (cells2 HA.out).1.2
      have A2 := (cells2 HA.out).2.1
      have A3 := (cells2 HA.out).2.2
      have Al := blkLt HA.out
      go_wp2_with (go_at_call 11; refine (h2.out _).mono ?_; rintro e wn ⟨rfl, hbn⟩; replace HW := Lib.hid (bCall (by (repeat with_reducible first | exact HW.out | apply bDrew | apply bAlloc)) hbn); replace HA := Lib.hid (moveX (by (repeat with_reducible first | exact Below.refl _ _ | apply bDrew | apply bAlloc)) hbn HA.out); replace A0 := (cells2 HA.out).1.1; replace A1 := (cells2 HA.out).1.2; replace A2 := (cells2 HA.out).2.1; replace A3 := (cells2 HA.out).2.2; replace Al := blkLt HA.out; clear hbn)
      go_meet
      exact ⟨_, rfl, rfl, Lib.hid (mvAlloc HA.out), Lib.hid (newBlk _ _ _ rfl), Lib.hid (bAlloc HW.out)⟩
    case rest => as_aux_lemma =>
      clear HW HA
      obtain ⟨bB, rfl, rfl, HA, HB, HW⟩ := hcut
      clear h2
      go_upto_region 8 with fail
      have A0 := (cells2 HA.out).1.1
      have A1 := (cells2 HA.out).1.2
      have A2 := (cells2 HA.out).2.1
      have A3 := (cells2 HA.out).2.2
      have Al := blkLt HA.out
      have B0 := (cells2 HB.out).1.1
      have B1 := (cells2 HB.out).1.2
      have B2 := (cells2 HB.out).2.1
      have B3 := (cells2 HB.out).2.2
      have Bl := blkLt HB.out
      have z := fun w => run_q_eq s s w
      rw [qEq_rfl] at z
      go_wp2_with (first | (go_at_call 24; refine (hR.out _).mono ?_; rintro e wn ⟨rfl, hbn⟩; replace HW := Lib.hid (bCall (by (repeat with_reducible first | exact HW.out | apply bDrew | apply bAlloc)) hbn); replace HA := Lib.hid (moveX (by (repeat with_reducible first | exact Below.refl _ _ | apply bDrew | apply bAlloc)) hbn HA.out); replace HB := Lib.hid (moveX (by (repeat with_reducible first | exact Below.refl _ _ | apply bDrew | apply bAlloc)) hbn HB.out); replace A0 := (cells2 HA.out).1.1; replace A1 := (cells2 HA.out).1.2; replace A2 := (cells2 HA.out).2.1; replace A3 := (cells2 HA.out).2.2; replace Al := blkLt HA.out; replace B0 := (cells2 HB.out).1.1; replace B1 := (cells2 HB.out).1.2; replace B2 := (cells2 HB.out).2.1; replace B3 := (cells2 HB.out).2.2; replace Bl := blkLt HB.out; clear hbn) | (go_at_call 23; refine (hV.out _).mono ?_; rintro e wn ⟨rfl, hbn⟩; replace HW := Lib.hid (bCall (by (repeat with_reducible first | exact HW.out | apply bDrew | apply bAlloc)) hbn); replace HA := Lib.hid (moveX (by (repeat with_reducible first | exact Below.refl _ _ | apply bDrew | apply bAlloc)) hbn HA.out); replace HB := Lib.hid (moveX (by (repeat with_reducible first | exact Below.refl _ _ | apply bDrew | apply bAlloc)) hbn HB.out); replace A0 := (cells2 HA.out).1.1; replace A1 := (cells2 HA.out).1.2; replace A2 := (cells2 HA.out).2.1; replace A3 := (cells2 HA.out).2.2; replace Al := blkLt HA.out; replace B0 := (cells2 HB.out).1.1; replace B1 := (cells2 HB.out).1.2; replace B2 := (cells2 HB.out).2.1; replace B3 := (cells2 HB.out).2.2; replace Bl := blkLt HB.out; clear hbn))
      go_ret
      exact ⟨rfl, HW.out⟩
theorem low_any (n d k : Int) (w : World) : Calls Try.prog 8 #[.int .i64 n, .int .i64 d, .int .i64 k] w (BB true w) := by
  have D : ∀ (p : Prop) [Decidable p], (p → decide p = true) ∧ (¬ p → decide p = false) := fun p _ => ⟨fun h => decide_eq_true h, fun h => decide_eq_false h⟩
  by_cases c0 : n < -1000000
  · exact low_bad0 n d k  ((D _).1 c0) w
  by_cases c1 : 1000000 < n
  · exact low_bad1 n d k ((D _).2 c0) ((D _).1 c1) w
  by_cases c2 : d < -1000000
  · exact low_bad2 n d k ((D _).2 c0) ((D _).2 c1) ((D _).1 c2) w
  by_cases c3 : 1000000 < d
  · exact low_bad3 n d k ((D _).2 c0) ((D _).2 c1) ((D _).2 c2) ((D _).1 c3) w
  by_cases c4 : k < -1000000
  · exact low_bad4 n d k ((D _).2 c0) ((D _).2 c1) ((D _).2 c2) ((D _).2 c3) ((D _).1 c4) w
  by_cases c5 : 1000000 < k
  · exact low_bad5 n d k ((D _).2 c0) ((D _).2 c1) ((D _).2 c2) ((D _).2 c3) ((D _).2 c4) ((D _).1 c5) w
  have bz : ∀ n : Int, (n = 0 → (n == 0) = true) ∧ (n ≠ 0 → (n == 0) = false) := fun n => ⟨fun h => by simp [h], fun h => by simp [h]⟩
  by_cases c6 : k = 0
  · exact low_bad6 n d k ((D _).2 c0) ((D _).2 c1) ((D _).2 c2) ((D _).2 c3) ((D _).2 c4) ((D _).2 c5) ((bz k).1 c6) w
  have b1 := mulb (x := n) (y := k) (c := 1000000) (e := 1000000) (by omega) (by omega)
  have b2 := mulb (x := d) (y := k) (c := 1000000) (e := 1000000) (by omega) (by omega)
  have q1 : IntKind.i64.wrap (n * k) = n * k := IntWalk.i64_in _ (by omega)
  have q2 : IntKind.i64.wrap (d * k) = d * k := IntWalk.i64_in _ (by omega)
  by_cases c7 : d = 0
  · refine low_0 n d k (n * k) (d * k) ((D _).2 c0) ((D _).2 c1) ((D _).2 c2) ((D _).2 c3) ((D _).2 c4) ((D _).2 c5) ((bz k).2 c6) q1 q2 ((bz d).1 c7) trivial (Lib.hid fun w => ?_) (Lib.hid fun w => ?_) w
    · have h := New_any n d w
      rw [c7, new_0 (by omega)] at h; rw [c7]; exact h
    · have h := New_any (n * k) (d * k) w
      rw [c7, Int.zero_mul, new_0 (by omega)] at h; rw [c7, Int.zero_mul]; exact h
  · obtain ⟨e1, e2, e3, e4⟩ := new_low (n := n) (d := d) (k := k) (by omega) (by omega) (by omega) c6 c7
    have v := qB_iff.1 e3
    have b3 := mulb (x := (newM n d).1.n) (y := d) (c := 1000000000) (e := 1000000) (by omega) (by omega)
    refine low_go n d k (n * k) (d * k) ((newM n d).1.n * d) (newM n d).1 ((D _).2 c0) ((D _).2 c1) ((D _).2 c2) ((D _).2 c3) ((D _).2 c4) ((D _).2 c5) ((bz k).2 c6) q1 q2 ((bz d).2 c7) (IntWalk.i64_in _ (by omega)) ?_ (Lib.hid fun w => ?_) (Lib.hid fun w => ?_) (Lib.hid fun w => ?_) (Lib.hid fun w => ?_) w
    · rw [← e4]; exact IntWalk.i64_in _ (by omega)
    · have h := New_any n d w
      rw [e1] at h; exact h
    · have h := New_any (n * k) (d * k) w
      rw [e2, e1] at h; exact h
    · have h := RValid_any (newM n d).1 w
      rw [e3] at h; exact h
    · have h := Valid_any (newM n d).1 w
      rw [e3] at h; exact h
end Go.Proofs.Ytinmplilejnafaa
