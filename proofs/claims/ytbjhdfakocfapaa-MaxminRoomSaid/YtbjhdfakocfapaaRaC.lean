/- Contracts of package ratio: Valid, reduced, New, the operations, Cmp. -/
import Derived.Test.YtbjhdfakocfapaaRaB
namespace Go.Proofs.Ytbjhdfakocfapaa
open Go.RowKit
set_option linter.unusedVariables false
set_option linter.unusedSimpArgs false
theorem rB_fit {s : Q} (h : rB s = true) : Fit s.n ∧ Fit s.d := by have := rB_iff.1 h; unfold Fit; omega
theorem tdiv_low {n d : Int} (h : d ≠ 0) : (d < 0 → n.tdiv (-(gc n d)) = (lowM n d).n ∧ d.tdiv (-(gc n d)) = (lowM n d).d) ∧ (¬ d < 0 → n.tdiv (gc n d) = (lowM n d).n ∧ d.tdiv (gc n d) = (lowM n d).d) := by
  have hg := gc_pos (n := n) h
  obtain ⟨u, hu⟩ := gc_dl n d
  obtain ⟨v, hv⟩ := gc_dr n d
  unfold lowM
  generalize gc n d = g at *
  subst hu hv
  refine ⟨fun hd => ?_, fun hd => ?_⟩
  · rw [if_pos hd]
    simp only [Int.tdiv_neg]
    rw [Int.mul_tdiv_cancel_left _ (by omega), Int.mul_tdiv_cancel_left _ (by omega), ← Int.mul_neg, ← Int.mul_neg, Int.mul_ediv_cancel_left _ (by omega), Int.mul_ediv_cancel_left _ (by omega)]
    exact ⟨rfl, rfl⟩
  · rw [if_neg hd]
    rw [Int.mul_tdiv_cancel_left _ (by omega), Int.mul_tdiv_cancel_left _ (by omega), Int.mul_ediv_cancel_left _ (by omega), Int.mul_ediv_cancel_left _ (by omega)]
    exact ⟨rfl, rfl⟩
theorem gc_le {n d : Int} (h : d ≠ 0) : gc n d ≤ max d (-d) := by
  rcases Int.le_total 0 d with q | q
  · have := Int.le_of_dvd (show 0 < d by omega) (gc_dr n d); omega
  · have := Int.le_of_dvd (show 0 < -d by omega) (Int.dvd_neg.2 (gc_dr n d)); omega
theorem tdiv_fit {x y : Int} (hx : Fit x) : Fit (x.tdiv y) := by
  have h := Int.natAbs_tdiv_le_natAbs x y
  unfold Fit at *; omega
set_option maxHeartbeats 1000000 in
set_option maxRecDepth 100000 in
theorem Valid_any (s : Q) (w : World) : Calls Try.prog 49 #[qv s] w (BB (qB s) w) := by
  have hI := Lib.hid (inRange_any s)
  rcases hr : rB s with _ | _
  · have e : qB s = false := by unfold qB; rw [hr]; rfl
    rw [e]
    rw [hr] at hI
    clear e hr
    go_enter Try.func49, Try.ntmps49
    go_wp2_with (go_at_call 82; refine (hI.out _).mono ?_; rintro e w1 ⟨rfl, hb1⟩; have hb1 := Lib.hid hb1)
    go_ret
    exact ⟨rfl, bCall (bAlloc (Below.refl _ _)) hb1.out⟩
  · have hD := Lib.hid (divisor_any s.n s.d (rB_fit hr).1 (rB_fit hr).2)
    have e : qB s = decide (gc s.n s.d = 1) := by unfold qB; rw [hr]; rfl
    rw [e]
    rw [hr] at hI
    clear e hr
    generalize gc s.n s.d = g at *
    obtain ⟨t, ht⟩ : ∃ t, decide (g = 1) = t := ⟨_, rfl⟩
    rw [ht]
    go_enter Try.func49, Try.ntmps49
    go_wp2_with (first
      | (go_at_call 82; refine (hI.out _).mono ?_; rintro e w1 ⟨rfl, hb1⟩; have HA := Lib.hid (moveC hb1 (newBlk w (qb s) _ rfl)); obtain ⟨⟨a0, a1⟩, -⟩ := cells2 HA.out; have hb1 := Lib.hid hb1)
      | (go_at_call 83; refine (hD.out _).mono ?_; rintro e w2 ⟨rfl, hb2⟩; have hb2 := Lib.hid hb2))
    go_ret
    exact ⟨ret_bool (show (g == 1) = t by rw [← ht]; rfl), bCall (bCall (bAlloc (Below.refl _ _)) hb1.out) hb2.out⟩
set_option maxHeartbeats 1000000 in
set_option maxRecDepth 100000 in
theorem reduced_0 (n : Int) (w : World) : Calls Try.prog 107 #[qv ⟨n, 0⟩] w (VV (qr (⟨0, 0⟩, 14)) w) := by
  have HR := Lib.hid (newBlk (w.alloc (.cells #[.int .i64 n, .int .i64 0] 126 (0, 0))) (qb ⟨0, 0⟩) (w.heap.size + 1) (by simp))
  obtain ⟨⟨r0, r1⟩, r2, r3⟩ := cells2 HR.out
  go_enter Try.func107, Try.ntmps107
  go_wp2
  exact bodyPost_ret (v := qr (⟨0, 0⟩, 14)) (by simp [results, Try.results107, go_sem]) rfl ⟨rfl, by (repeat with_reducible first | exact Below.refl _ _ | apply bAlloc)⟩
set_option maxHeartbeats 1000000 in
set_option maxRecDepth 100000 in
theorem reduced_p (n d : Int) (hn : Fit n) (hd : Fit d) (h0 : d ≠ 0) (hs : ¬ d < 0) (w : World) : Calls Try.prog 107 #[qv ⟨n, d⟩] w (VV (qr (redM n d)) w) := by
  have hD := Lib.hid (divisor_any n d hn hd)
  have hl := (tdiv_low (n := n) h0).2 hs
  have hg1 := gc_pos (n := n) h0
  have hgf : gc n d ≤ 4000000000000000000 := by have := gc_le (n := n) h0; unfold Fit at hd; omega
  have hI := Lib.hid (inRange_any (lowM n d))
  have e : redM n d = if rB (lowM n d) = true then (lowM n d, 0) else (⟨0, 0⟩, 3) := by unfold redM; rw [if_neg h0]
  rw [e]
  generalize gc n d = g at *
  have k1 := tdiv_fit (y := g) hn
  have k2 := tdiv_fit (y := g) hd
  rw [hl.1] at k1
  rw [hl.2] at k2
  generalize lowM n d = l at *
  have q1 : IntKind.i64.wrap (n.tdiv g) = l.n := by rw [hl.1]; exact IntWalk.i64_in _ (by unfold Fit at k1; omega)
  have q2 : IntKind.i64.wrap (d.tdiv g) = l.d := by rw [hl.2]; exact IntWalk.i64_in _ (by unfold Fit at k2; omega)
  have hne : g ≠ 0 := by omega
  have td : decide (d < 0) = false := by simpa using hs
  obtain ⟨t, ht⟩ : ∃ t, rB l = t := ⟨_, rfl⟩
  rw [ht] at hI ⊢
  have HW := Lib.hid (Below.refl w.heap.size w)
  clear e hl hn hd k1 k2 ht hg1 hgf 
  cases t
  all_goals
    first | rw [if_pos rfl] | rw [if_neg (by decide)]
    go_enter Try.func107, Try.ntmps107
    go_wp2_with (first
      | (go_at_call 83; refine (hD.out _).mono ?_; rintro e w1 ⟨rfl, hb1⟩; obtain ⟨HA, HR⟩ := two2 hb1; have HA := Lib.hid HA; have HR := Lib.hid HR; obtain ⟨⟨a0, a1⟩, -⟩ := cells2 HA.out; obtain ⟨⟨r0, r1⟩, r2, r3⟩ := cells2 HR.out; have hl := blkLt HR.out; replace HW := Lib.hid (bCall (by (repeat with_reducible first | exact HW.out | apply bDrew | apply bAlloc)) hb1); clear hb1)
      | fail)
    go_region_held3 (fun w' => w'.cell? ⟨w.heap.size, 0, none⟩ = some (.int .i64 n) ∧ w'.cell? ⟨w.heap.size, 1, none⟩ = some (.int .i64 d))
      (first | (with_reducible exact ⟨a0, a1⟩) | (with_reducible exact ⟨(far2 (by omega)).trans a0, (far2 (by omega)).trans a1⟩) | go_keep)
      (fail)
    all_goals clear q1 q2 td HA a0 a1
    go_wp2_with (go_at_call 82; refine (hI.out _).mono ?_; rintro e w2 ⟨rfl, hb2⟩; have HL := Lib.hid (moveC hb2 (newBlk w1 (qb l) _ rfl)); obtain ⟨⟨l0, l1⟩, -⟩ := cells2 HL.out; replace HR := Lib.hid (moveX (by (repeat with_reducible first | exact Below.refl _ _ | apply bDrew | apply bAlloc)) hb2 HR.out); obtain ⟨⟨r0, r1⟩, r2, r3⟩ := cells2 HR.out; have hl := blkLt HR.out; replace HW := Lib.hid (bCall (by (repeat with_reducible first | exact HW.out | apply bDrew | apply bAlloc)) hb2); clear hb2)
  · exact bodyPost_ret (v := qr (⟨0, 0⟩, 3)) (by simp [results, Try.results107, go_sem, (res2 HR.out).2.1, (res2 HR.out).2.2]) rfl ⟨rfl, below2 HW.out (by omega)⟩
  · exact bodyPost_ret (v := qr (l, 0)) (by simp [results, Try.results107, go_sem, (res2 HR.out).2.1, (res2 HR.out).2.2]) rfl ⟨rfl, below2 HW.out (by omega)⟩
set_option maxHeartbeats 1000000 in
set_option maxRecDepth 100000 in
theorem reduced_m (n d : Int) (hn : Fit n) (hd : Fit d) (h0 : d ≠ 0) (hs : d < 0) (w : World) : Calls Try.prog 107 #[qv ⟨n, d⟩] w (VV (qr (redM n d)) w) := by
  have hD := Lib.hid (divisor_any n d hn hd)
  have hl := (tdiv_low (n := n) h0).1 hs
  have hg1 := gc_pos (n := n) h0
  have hgf : gc n d ≤ 4000000000000000000 := by have := gc_le (n := n) h0; unfold Fit at hd; omega
  have hI := Lib.hid (inRange_any (lowM n d))
  have e : redM n d = if rB (lowM n d) = true then (lowM n d, 0) else (⟨0, 0⟩, 3) := by unfold redM; rw [if_neg h0]
  rw [e]
  generalize gc n d = g at *
  obtain ⟨h, hh⟩ : ∃ h, -g = h := ⟨_, rfl⟩
  have qn : IntKind.i64.wrap (-g) = h := by rw [hh]; exact IntWalk.i64_in _ (by omega)
  rw [hh] at hl
  have k1 := tdiv_fit (y := h) hn
  have k2 := tdiv_fit (y := h) hd
  rw [hl.1] at k1
  rw [hl.2] at k2
  generalize lowM n d = l at *
  have q1 : IntKind.i64.wrap (n.tdiv h) = l.n := by rw [hl.1]; exact IntWalk.i64_in _ (by unfold Fit at k1; omega)
  have q2 : IntKind.i64.wrap (d.tdiv h) = l.d := by rw [hl.2]; exact IntWalk.i64_in _ (by unfold Fit at k2; omega)
  have hne : h ≠ 0 := by omega
  have td : decide (d < 0) = true := by simpa using hs
  obtain ⟨t, ht⟩ : ∃ t, rB l = t := ⟨_, rfl⟩
  rw [ht] at hI ⊢
  have HW := Lib.hid (Below.refl w.heap.size w)
  clear e hl hn hd k1 k2 ht hg1 hgf hh
  cases t
  all_goals
    first | rw [if_pos rfl] | rw [if_neg (by decide)]
    go_enter Try.func107, Try.ntmps107
    go_wp2_with (first
      | (go_at_call 83; refine (hD.out _).mono ?_; rintro e w1 ⟨rfl, hb1⟩; obtain ⟨HA, HR⟩ := two2 hb1; have HA := Lib.hid HA; have HR := Lib.hid HR; obtain ⟨⟨a0, a1⟩, -⟩ := cells2 HA.out; obtain ⟨⟨r0, r1⟩, r2, r3⟩ := cells2 HR.out; have hl := blkLt HR.out; replace HW := Lib.hid (bCall (by (repeat with_reducible first | exact HW.out | apply bDrew | apply bAlloc)) hb1); clear hb1)
      | fail)
    go_region_held3 (fun w' => w'.cell? ⟨w.heap.size, 0, none⟩ = some (.int .i64 n) ∧ w'.cell? ⟨w.heap.size, 1, none⟩ = some (.int .i64 d))
      (first | (with_reducible exact ⟨a0, a1⟩) | (with_reducible exact ⟨(far2 (by omega)).trans a0, (far2 (by omega)).trans a1⟩) | go_keep)
      (fail)
    all_goals clear q1 q2 td HA a0 a1
    go_wp2_with (go_at_call 82; refine (hI.out _).mono ?_; rintro e w2 ⟨rfl, hb2⟩; have HL := Lib.hid (moveC hb2 (newBlk w1 (qb l) _ rfl)); obtain ⟨⟨l0, l1⟩, -⟩ := cells2 HL.out; replace HR := Lib.hid (moveX (by (repeat with_reducible first | exact Below.refl _ _ | apply bDrew | apply bAlloc)) hb2 HR.out); obtain ⟨⟨r0, r1⟩, r2, r3⟩ := cells2 HR.out; have hl := blkLt HR.out; replace HW := Lib.hid (bCall (by (repeat with_reducible first | exact HW.out | apply bDrew | apply bAlloc)) hb2); clear hb2)
  · exact bodyPost_ret (v := qr (⟨0, 0⟩, 3)) (by simp [results, Try.results107, go_sem, (res2 HR.out).2.1, (res2 HR.out).2.2]) rfl ⟨rfl, below2 HW.out (by omega)⟩
  · exact bodyPost_ret (v := qr (l, 0)) (by simp [results, Try.results107, go_sem, (res2 HR.out).2.1, (res2 HR.out).2.2]) rfl ⟨rfl, below2 HW.out (by omega)⟩
theorem reduced_any (n d : Int) (hn : Fit n) (hd : Fit d) (w : World) : Calls Try.prog 107 #[qv ⟨n, d⟩] w (VV (qr (redM n d)) w) := by
  by_cases h0 : d = 0
  · subst h0
    have e : redM n 0 = (⟨0, 0⟩, 14) := by unfold redM; rw [if_pos rfl]
    rw [e]
    exact reduced_0 n w
  · by_cases hs : d < 0
    · exact reduced_m n d hn hd h0 hs w
    · exact reduced_p n d hn hd h0 hs w
theorem pb {x y : Int} (hx : -1000000000 ≤ x ∧ x ≤ 1000000000) (hy : -1000000000 ≤ y ∧ y ≤ 1000000000) : -1000000000000000000 ≤ x * y ∧ x * y ≤ 1000000000000000000 := by
  have := mulb hx hy; omega
theorem vd {q : Q} (h : qB q = true) : (-1000000000 ≤ q.n ∧ q.n ≤ 1000000000) ∧ (-1000000000 ≤ q.d ∧ q.d ≤ 1000000000) := by have := (qB_iff.1 h).1; omega
set_option maxHeartbeats 1000000 in
set_option maxRecDepth 100000 in
theorem Add_1 (a b : Q) (ha : qB a = true) (hb : qB b = true) (x y : Nat) (w : World) (HX : w.heap[x]? = some (qb a)) (HY : w.heap[y]? = some (qb b)) :
    Calls Try.prog 105 #[.pointer (some ⟨x, 0, none⟩), .pointer (some ⟨y, 0, none⟩)] w (VV (qr (redM (a.n * b.d + b.n * a.d) (a.d * b.d))) w) := by
  have b0 := pb (vd ha).1 (vd hb).2
  have q0 : IntKind.i64.wrap (a.n * b.d) = a.n * b.d := IntWalk.i64_in _ (by omega)
  have b1 := pb (vd hb).1 (vd ha).2
  have q1 : IntKind.i64.wrap (b.n * a.d) = b.n * a.d := IntWalk.i64_in _ (by omega)
  have b2 := pb (vd ha).2 (vd hb).2
  have q2 : IntKind.i64.wrap (a.d * b.d) = a.d * b.d := IntWalk.i64_in _ (by omega)
  have qs : IntKind.i64.wrap (a.n * b.d + b.n * a.d) = a.n * b.d + b.n * a.d := IntWalk.i64_in _ (by omega)
  have hf : Fit (a.n * b.d + b.n * a.d) ∧ Fit (a.d * b.d) := by unfold Fit; omega
  have hO := Lib.hid (over_any (a.n * b.d + b.n * a.d) (a.d * b.d))
  have hR := Lib.hid (reduced_any (a.n * b.d + b.n * a.d) (a.d * b.d) hf.1 hf.2)
  generalize redM (a.n * b.d + b.n * a.d) (a.d * b.d) = r at *
  obtain ⟨⟨a0, a1⟩, -⟩ := cells2 HX
  obtain ⟨⟨b0, b1⟩, -⟩ := cells2 HY
  have HW := Lib.hid (Below.refl w.heap.size w)
  have lx := blkLt HX
  have ly := blkLt HY
  clear hf ha hb HX HY b2
  go_enter Try.func105, Try.ntmps105
  go_wp2_with (first
    | (go_at_call 106; refine (hO.out _).mono ?_; rintro e w1 ⟨rfl, hb1⟩; have HR := Lib.hid (moveC hb1 (newBlk w (qb ⟨0, 0⟩) _ rfl)); obtain ⟨⟨r0, r1⟩, r2, r3⟩ := cells2 HR.out; have hl := blkLt HR.out; replace HW := Lib.hid (bCall (by (repeat with_reducible first | exact HW.out | apply bDrew | apply bAlloc)) hb1); clear hb1)
    | (go_at_call 107; refine (hR.out _).mono ?_; rintro e w2 ⟨rfl, hb2⟩; replace HR := Lib.hid (moveC hb2 HR.out); obtain ⟨⟨r0, r1⟩, r2, r3⟩ := cells2 HR.out; have hl := blkLt HR.out; replace HW := Lib.hid (bCall (by (repeat with_reducible first | exact HW.out | apply bDrew | apply bAlloc)) hb2); clear hb2))
  exact bodyPost_ret (v := qr r) (by simp [results, Try.results105, go_sem, (res2 HR.out).2.1, (res2 HR.out).2.2]) rfl ⟨rfl, below2 HW.out (by omega)⟩
set_option maxHeartbeats 1000000 in
set_option maxRecDepth 100000 in
theorem Add_c (a b : Q) (x y : Nat) (w : World) (HX : w.heap[x]? = some (qb a)) (HY : w.heap[y]? = some (qb b)) :
    Calls Try.prog 104 #[qv a, qv b, .func (.func 105) #[] #[.pointer (some ⟨x, 0, none⟩), .pointer (some ⟨y, 0, none⟩)]] w (VV (qr (addM a b)) w) := by
  have hVa := Lib.hid (Valid_any a)
  have hVb := Lib.hid (Valid_any b)
  have hC : qB a = true → qB b = true → ∀ w1, w1.heap[x]? = some (qb a) → w1.heap[y]? = some (qb b) → Calls Try.prog 105 #[.pointer (some ⟨x, 0, none⟩), .pointer (some ⟨y, 0, none⟩)] w1 (VV (qr (redM (a.n * b.d + b.n * a.d) (a.d * b.d))) w1) := fun ha hb w1 h1 h2 => Add_1 a b ha hb x y w1 h1 h2
  have HX := Lib.hid HX
  have HY := Lib.hid HY
  have HW := Lib.hid (Below.refl w.heap.size w)
  have e1 : addM a b = if (qB a && qB b) = true then redM (a.n * b.d + b.n * a.d) (a.d * b.d) else (⟨0, 0⟩, 1) := rfl
  rw [e1]
  clear e1
  generalize redM (a.n * b.d + b.n * a.d) (a.d * b.d) = r at *
  rcases ha : qB a with _ | _ <;> rcases hb : qB b with _ | _ <;> rw [ha] at hVa <;> rw [hb] at hVb
  rotate_left 3
  · have hC := Lib.hid (hC ha hb)
    rw [if_pos (by decide)]
    clear ha hb
    go_enter Try.func104, Try.ntmps104
    go_wp2_with (first
      | (go_at_call_of 49 (Value.agg #[.int .i64 a.n, .int .i64 a.d]); refine (hVa.out _).mono ?_; rintro e w1 ⟨rfl, hb1⟩; obtain ⟨HA, HB, HR⟩ := three2 hb1; have HA := Lib.hid HA; have HB := Lib.hid HB; have HR := Lib.hid HR; obtain ⟨⟨b0, b1⟩, -⟩ := cells2 HB.out; obtain ⟨⟨r0, r1⟩, r2, r3⟩ := cells2 HR.out; have hl := blkLt HR.out; replace HX := Lib.hid (moveX (by (repeat with_reducible first | exact Below.refl _ _ | apply bDrew | apply bAlloc)) hb1 HX.out); replace HY := Lib.hid (moveX (by (repeat with_reducible first | exact Below.refl _ _ | apply bDrew | apply bAlloc)) hb1 HY.out); replace HW := Lib.hid (bCall (by (repeat with_reducible first | exact HW.out | apply bDrew | apply bAlloc)) hb1); clear hb1)
      | (go_at_call 49; refine (hVb.out _).mono ?_; rintro e w2 ⟨rfl, hb2⟩; replace HR := Lib.hid (moveX (by (repeat with_reducible first | exact Below.refl _ _ | apply bDrew | apply bAlloc)) hb2 HR.out); obtain ⟨⟨r0, r1⟩, r2, r3⟩ := cells2 HR.out; have hl := blkLt HR.out; replace HX := Lib.hid (moveX (by (repeat with_reducible first | exact Below.refl _ _ | apply bDrew | apply bAlloc)) hb2 HX.out); replace HY := Lib.hid (moveX (by (repeat with_reducible first | exact Below.refl _ _ | apply bDrew | apply bAlloc)) hb2 HY.out); replace HW := Lib.hid (bCall (by (repeat with_reducible first | exact HW.out | apply bDrew | apply bAlloc)) hb2); clear hb2)
      | (go_at_call 105; refine (hC.out _ HX.out HY.out).mono ?_; rintro e w3 ⟨rfl, hb3⟩; replace HR := Lib.hid (moveX (by (repeat with_reducible first | exact Below.refl _ _ | apply bDrew | apply bAlloc)) hb3 HR.out); obtain ⟨⟨r0, r1⟩, r2, r3⟩ := cells2 HR.out; have hl := blkLt HR.out; replace HW := Lib.hid (bCall (by (repeat with_reducible first | exact HW.out | apply bDrew | apply bAlloc)) hb3); clear hb3))
    exact bodyPost_ret (v := qr r) (by simp [results, Try.results104, go_sem, (res2 HR.out).2.1, (res2 HR.out).2.2]) rfl ⟨rfl, below2 HW.out (by omega)⟩
  all_goals
    rw [if_neg (by decide)]
    clear hC ha hb
    go_enter Try.func104, Try.ntmps104
    go_wp2_with (first
      | (go_at_call_of 49 (Value.agg #[.int .i64 a.n, .int .i64 a.d]); refine (hVa.out _).mono ?_; rintro e w1 ⟨rfl, hb1⟩; obtain ⟨HA, HB, HR⟩ := three2 hb1; have HA := Lib.hid HA; have HB := Lib.hid HB; have HR := Lib.hid HR; obtain ⟨⟨b0, b1⟩, -⟩ := cells2 HB.out; obtain ⟨⟨r0, r1⟩, r2, r3⟩ := cells2 HR.out; have hl := blkLt HR.out; replace HW := Lib.hid (bCall (by (repeat with_reducible first | exact HW.out | apply bDrew | apply bAlloc)) hb1); clear hb1)
      | (go_at_call 49; refine (hVb.out _).mono ?_; rintro e w2 ⟨rfl, hb2⟩; replace HR := Lib.hid (moveX (by (repeat with_reducible first | exact Below.refl _ _ | apply bDrew | apply bAlloc)) hb2 HR.out); obtain ⟨⟨r0, r1⟩, r2, r3⟩ := cells2 HR.out; have hl := blkLt HR.out; replace HW := Lib.hid (bCall (by (repeat with_reducible first | exact HW.out | apply bDrew | apply bAlloc)) hb2); clear hb2))
    exact bodyPost_ret (v := qr (⟨0, 0⟩, 1)) (by simp [results, Try.results104, go_sem, (res2 HR.out).2.1, (res2 HR.out).2.2]) rfl ⟨rfl, below2 HW.out (by omega)⟩
set_option maxHeartbeats 1000000 in
set_option maxRecDepth 100000 in
theorem Add_any (a b : Q) (w : World) : Calls Try.prog 85 #[qv a, qv b] w (VV (qr (addM a b)) w) := by
  have hC := Lib.hid (Add_c a b w.heap.size (w.heap.size + 1) (((w.alloc (qb a)).alloc (qb b)).alloc (qb ⟨0, 0⟩)) (mvAlloc (mvAlloc (newBlk _ _ _ rfl))) (mvAlloc (newBlk _ _ _ (by simp))))
  generalize addM a b = r at *
  have HW := Lib.hid (Below.refl w.heap.size w)
  go_enter Try.func85, Try.ntmps85
  go_wp2_with (go_at_call 104; refine hC.out.mono ?_; rintro e w1 ⟨rfl, hb1⟩; have HR := Lib.hid (three2 hb1).2.2; obtain ⟨⟨r0, r1⟩, r2, r3⟩ := cells2 HR.out; have hl := blkLt HR.out; replace HW := Lib.hid (bCall (by (repeat with_reducible first | exact HW.out | apply bDrew | apply bAlloc)) hb1); clear hb1)
  exact bodyPost_ret (v := qr r) (by simp [results, Try.results85, go_sem, (res2 HR.out).2.1, (res2 HR.out).2.2]) rfl ⟨rfl, below2 HW.out (by omega)⟩
set_option maxHeartbeats 1000000 in
set_option maxRecDepth 100000 in
theorem Sub_1 (a b : Q) (ha : qB a = true) (hb : qB b = true) (x y : Nat) (w : World) (HX : w.heap[x]? = some (qb a)) (HY : w.heap[y]? = some (qb b)) :
    Calls Try.prog 130 #[.pointer (some ⟨x, 0, none⟩), .pointer (some ⟨y, 0, none⟩)] w (VV (qr (redM (a.n * b.d - b.n * a.d) (a.d * b.d))) w) := by
  have b0 := pb (vd ha).1 (vd hb).2
  have q0 : IntKind.i64.wrap (a.n * b.d) = a.n * b.d := IntWalk.i64_in _ (by omega)
  have b1 := pb (vd hb).1 (vd ha).2
  have q1 : IntKind.i64.wrap (b.n * a.d) = b.n * a.d := IntWalk.i64_in _ (by omega)
  have b2 := pb (vd ha).2 (vd hb).2
  have q2 : IntKind.i64.wrap (a.d * b.d) = a.d * b.d := IntWalk.i64_in _ (by omega)
  have qs : IntKind.i64.wrap (a.n * b.d - b.n * a.d) = a.n * b.d - b.n * a.d := IntWalk.i64_in _ (by omega)
  have hf : Fit (a.n * b.d - b.n * a.d) ∧ Fit (a.d * b.d) := by unfold Fit; omega
  have hO := Lib.hid (over_any (a.n * b.d - b.n * a.d) (a.d * b.d))
  have hR := Lib.hid (reduced_any (a.n * b.d - b.n * a.d) (a.d * b.d) hf.1 hf.2)
  generalize redM (a.n * b.d - b.n * a.d) (a.d * b.d) = r at *
  obtain ⟨⟨a0, a1⟩, -⟩ := cells2 HX
  obtain ⟨⟨b0, b1⟩, -⟩ := cells2 HY
  have HW := Lib.hid (Below.refl w.heap.size w)
  have lx := blkLt HX
  have ly := blkLt HY
  clear hf ha hb HX HY b2
  go_enter Try.func130, Try.ntmps130
  go_wp2_with (first
    | (go_at_call 106; refine (hO.out _).mono ?_; rintro e w1 ⟨rfl, hb1⟩; have HR := Lib.hid (moveC hb1 (newBlk w (qb ⟨0, 0⟩) _ rfl)); obtain ⟨⟨r0, r1⟩, r2, r3⟩ := cells2 HR.out; have hl := blkLt HR.out; replace HW := Lib.hid (bCall (by (repeat with_reducible first | exact HW.out | apply bDrew | apply bAlloc)) hb1); clear hb1)
    | (go_at_call 107; refine (hR.out _).mono ?_; rintro e w2 ⟨rfl, hb2⟩; replace HR := Lib.hid (moveC hb2 HR.out); obtain ⟨⟨r0, r1⟩, r2, r3⟩ := cells2 HR.out; have hl := blkLt HR.out; replace HW := Lib.hid (bCall (by (repeat with_reducible first | exact HW.out | apply bDrew | apply bAlloc)) hb2); clear hb2))
  exact bodyPost_ret (v := qr r) (by simp [results, Try.results130, go_sem, (res2 HR.out).2.1, (res2 HR.out).2.2]) rfl ⟨rfl, below2 HW.out (by omega)⟩
set_option maxHeartbeats 1000000 in
set_option maxRecDepth 100000 in
theorem Sub_c (a b : Q) (x y : Nat) (w : World) (HX : w.heap[x]? = some (qb a)) (HY : w.heap[y]? = some (qb b)) :
    Calls Try.prog 104 #[qv a, qv b, .func (.func 130) #[] #[.pointer (some ⟨x, 0, none⟩), .pointer (some ⟨y, 0, none⟩)]] w (VV (qr (subM a b)) w) := by
  have hVa := Lib.hid (Valid_any a)
  have hVb := Lib.hid (Valid_any b)
  have hC : qB a = true → qB b = true → ∀ w1, w1.heap[x]? = some (qb a) → w1.heap[y]? = some (qb b) → Calls Try.prog 130 #[.pointer (some ⟨x, 0, none⟩), .pointer (some ⟨y, 0, none⟩)] w1 (VV (qr (redM (a.n * b.d - b.n * a.d) (a.d * b.d))) w1) := fun ha hb w1 h1 h2 => Sub_1 a b ha hb x y w1 h1 h2
  have HX := Lib.hid HX
  have HY := Lib.hid HY
  have HW := Lib.hid (Below.refl w.heap.size w)
  have e1 : subM a b = if (qB a && qB b) = true then redM (a.n * b.d - b.n * a.d) (a.d * b.d) else (⟨0, 0⟩, 1) := rfl
  rw [e1]
  clear e1
  generalize redM (a.n * b.d - b.n * a.d) (a.d * b.d) = r at *
  rcases ha : qB a with _ | _ <;> rcases hb : qB b with _ | _ <;> rw [ha] at hVa <;> rw [hb] at hVb
  rotate_left 3
  · have hC := Lib.hid (hC ha hb)
    rw [if_pos (by decide)]
    clear ha hb
    go_enter Try.func104, Try.ntmps104
    go_wp2_with (first
      | (go_at_call_of 49 (Value.agg #[.int .i64 a.n, .int .i64 a.d]); refine (hVa.out _).mono ?_; rintro e w1 ⟨rfl, hb1⟩; obtain ⟨HA, HB, HR⟩ := three2 hb1; have HA := Lib.hid HA; have HB := Lib.hid HB; have HR := Lib.hid HR; obtain ⟨⟨b0, b1⟩, -⟩ := cells2 HB.out; obtain ⟨⟨r0, r1⟩, r2, r3⟩ := cells2 HR.out; have hl := blkLt HR.out; replace HX := Lib.hid (moveX (by (repeat with_reducible first | exact Below.refl _ _ | apply bDrew | apply bAlloc)) hb1 HX.out); replace HY := Lib.hid (moveX (by (repeat with_reducible first | exact Below.refl _ _ | apply bDrew | apply bAlloc)) hb1 HY.out); replace HW := Lib.hid (bCall (by (repeat with_reducible first | exact HW.out | apply bDrew | apply bAlloc)) hb1); clear hb1)
      | (go_at_call 49; refine (hVb.out _).mono ?_; rintro e w2 ⟨rfl, hb2⟩; replace HR := Lib.hid (moveX (by (repeat with_reducible first | exact Below.refl _ _ | apply bDrew | apply bAlloc)) hb2 HR.out); obtain ⟨⟨r0, r1⟩, r2, r3⟩ := cells2 HR.out; have hl := blkLt HR.out; replace HX := Lib.hid (moveX (by (repeat with_reducible first | exact Below.refl _ _ | apply bDrew | apply bAlloc)) hb2 HX.out); replace HY := Lib.hid (moveX (by (repeat with_reducible first | exact Below.refl _ _ | apply bDrew | apply bAlloc)) hb2 HY.out); replace HW := Lib.hid (bCall (by (repeat with_reducible first | exact HW.out | apply bDrew | apply bAlloc)) hb2); clear hb2)
      | (go_at_call 130; refine (hC.out _ HX.out HY.out).mono ?_; rintro e w3 ⟨rfl, hb3⟩; replace HR := Lib.hid (moveX (by (repeat with_reducible first | exact Below.refl _ _ | apply bDrew | apply bAlloc)) hb3 HR.out); obtain ⟨⟨r0, r1⟩, r2, r3⟩ := cells2 HR.out; have hl := blkLt HR.out; replace HW := Lib.hid (bCall (by (repeat with_reducible first | exact HW.out | apply bDrew | apply bAlloc)) hb3); clear hb3))
    exact bodyPost_ret (v := qr r) (by simp [results, Try.results104, go_sem, (res2 HR.out).2.1, (res2 HR.out).2.2]) rfl ⟨rfl, below2 HW.out (by omega)⟩
  all_goals
    rw [if_neg (by decide)]
    clear hC ha hb
    go_enter Try.func104, Try.ntmps104
    go_wp2_with (first
      | (go_at_call_of 49 (Value.agg #[.int .i64 a.n, .int .i64 a.d]); refine (hVa.out _).mono ?_; rintro e w1 ⟨rfl, hb1⟩; obtain ⟨HA, HB, HR⟩ := three2 hb1; have HA := Lib.hid HA; have HB := Lib.hid HB; have HR := Lib.hid HR; obtain ⟨⟨b0, b1⟩, -⟩ := cells2 HB.out; obtain ⟨⟨r0, r1⟩, r2, r3⟩ := cells2 HR.out; have hl := blkLt HR.out; replace HW := Lib.hid (bCall (by (repeat with_reducible first | exact HW.out | apply bDrew | apply bAlloc)) hb1); clear hb1)
      | (go_at_call 49; refine (hVb.out _).mono ?_; rintro e w2 ⟨rfl, hb2⟩; replace HR := Lib.hid (moveX (by (repeat with_reducible first | exact Below.refl _ _ | apply bDrew | apply bAlloc)) hb2 HR.out); obtain ⟨⟨r0, r1⟩, r2, r3⟩ := cells2 HR.out; have hl := blkLt HR.out; replace HW := Lib.hid (bCall (by (repeat with_reducible first | exact HW.out | apply bDrew | apply bAlloc)) hb2); clear hb2))
    exact bodyPost_ret (v := qr (⟨0, 0⟩, 1)) (by simp [results, Try.results104, go_sem, (res2 HR.out).2.1, (res2 HR.out).2.2]) rfl ⟨rfl, below2 HW.out (by omega)⟩
set_option maxHeartbeats 1000000 in
set_option maxRecDepth 100000 in
theorem Sub_any (a b : Q) (w : World) : Calls Try.prog 128 #[qv a, qv b] w (VV (qr (subM a b)) w) := by
  have hC := Lib.hid (Sub_c a b w.heap.size (w.heap.size + 1) (((w.alloc (qb a)).alloc (qb b)).alloc (qb ⟨0, 0⟩)) (mvAlloc (mvAlloc (newBlk _ _ _ rfl))) (mvAlloc (newBlk _ _ _ (by simp))))
  generalize subM a b = r at *
  have HW := Lib.hid (Below.refl w.heap.size w)
  go_enter Try.func128, Try.ntmps128
  go_wp2_with (go_at_call 104; refine hC.out.mono ?_; rintro e w1 ⟨rfl, hb1⟩; have HR := Lib.hid (three2 hb1).2.2; obtain ⟨⟨r0, r1⟩, r2, r3⟩ := cells2 HR.out; have hl := blkLt HR.out; replace HW := Lib.hid (bCall (by (repeat with_reducible first | exact HW.out | apply bDrew | apply bAlloc)) hb1); clear hb1)
  exact bodyPost_ret (v := qr r) (by simp [results, Try.results128, go_sem, (res2 HR.out).2.1, (res2 HR.out).2.2]) rfl ⟨rfl, below2 HW.out (by omega)⟩
set_option maxHeartbeats 1000000 in
set_option maxRecDepth 100000 in
theorem Div_1 (a b : Q) (ha : qB a = true) (hb : qB b = true) (x y : Nat) (w : World) (HX : w.heap[x]? = some (qb a)) (HY : w.heap[y]? = some (qb b)) :
    Calls Try.prog 131 #[.pointer (some ⟨x, 0, none⟩), .pointer (some ⟨y, 0, none⟩)] w (VV (qr (redM (a.n * b.d) (a.d * b.n))) w) := by
  have b0 := pb (vd ha).1 (vd hb).2
  have q0 : IntKind.i64.wrap (a.n * b.d) = a.n * b.d := IntWalk.i64_in _ (by omega)
  have b1 := pb (vd ha).2 (vd hb).1
  have q1 : IntKind.i64.wrap (a.d * b.n) = a.d * b.n := IntWalk.i64_in _ (by omega)
  have hf : Fit (a.n * b.d) ∧ Fit (a.d * b.n) := by unfold Fit; omega
  have hO := Lib.hid (over_any (a.n * b.d) (a.d * b.n))
  have hR := Lib.hid (reduced_any (a.n * b.d) (a.d * b.n) hf.1 hf.2)
  generalize redM (a.n * b.d) (a.d * b.n) = r at *
  obtain ⟨⟨a0, a1⟩, -⟩ := cells2 HX
  obtain ⟨⟨b0, b1⟩, -⟩ := cells2 HY
  have HW := Lib.hid (Below.refl w.heap.size w)
  have lx := blkLt HX
  have ly := blkLt HY
  clear hf ha hb HX HY 
  go_enter Try.func131, Try.ntmps131
  go_wp2_with (first
    | (go_at_call 106; refine (hO.out _).mono ?_; rintro e w1 ⟨rfl, hb1⟩; have HR := Lib.hid (moveC hb1 (newBlk w (qb ⟨0, 0⟩) _ rfl)); obtain ⟨⟨r0, r1⟩, r2, r3⟩ := cells2 HR.out; have hl := blkLt HR.out; replace HW := Lib.hid (bCall (by (repeat with_reducible first | exact HW.out | apply bDrew | apply bAlloc)) hb1); clear hb1)
    | (go_at_call 107; refine (hR.out _).mono ?_; rintro e w2 ⟨rfl, hb2⟩; replace HR := Lib.hid (moveC hb2 HR.out); obtain ⟨⟨r0, r1⟩, r2, r3⟩ := cells2 HR.out; have hl := blkLt HR.out; replace HW := Lib.hid (bCall (by (repeat with_reducible first | exact HW.out | apply bDrew | apply bAlloc)) hb2); clear hb2))
  exact bodyPost_ret (v := qr r) (by simp [results, Try.results131, go_sem, (res2 HR.out).2.1, (res2 HR.out).2.2]) rfl ⟨rfl, below2 HW.out (by omega)⟩
set_option maxHeartbeats 1000000 in
set_option maxRecDepth 100000 in
theorem Div_c (a b : Q) (x y : Nat) (w : World) (HX : w.heap[x]? = some (qb a)) (HY : w.heap[y]? = some (qb b)) :
    Calls Try.prog 104 #[qv a, qv b, .func (.func 131) #[] #[.pointer (some ⟨x, 0, none⟩), .pointer (some ⟨y, 0, none⟩)]] w (VV (qr (divM a b)) w) := by
  have hVa := Lib.hid (Valid_any a)
  have hVb := Lib.hid (Valid_any b)
  have hC : qB a = true → qB b = true → ∀ w1, w1.heap[x]? = some (qb a) → w1.heap[y]? = some (qb b) → Calls Try.prog 131 #[.pointer (some ⟨x, 0, none⟩), .pointer (some ⟨y, 0, none⟩)] w1 (VV (qr (redM (a.n * b.d) (a.d * b.n))) w1) := fun ha hb w1 h1 h2 => Div_1 a b ha hb x y w1 h1 h2
  have HX := Lib.hid HX
  have HY := Lib.hid HY
  have HW := Lib.hid (Below.refl w.heap.size w)
  have e1 : divM a b = if (qB a && qB b) = true then redM (a.n * b.d) (a.d * b.n) else (⟨0, 0⟩, 1) := rfl
  rw [e1]
  clear e1
  generalize redM (a.n * b.d) (a.d * b.n) = r at *
  rcases ha : qB a with _ | _ <;> rcases hb : qB b with _ | _ <;> rw [ha] at hVa <;> rw [hb] at hVb
  rotate_left 3
  · have hC := Lib.hid (hC ha hb)
    rw [if_pos (by decide)]
    clear ha hb
    go_enter Try.func104, Try.ntmps104
    go_wp2_with (first
      | (go_at_call_of 49 (Value.agg #[.int .i64 a.n, .int .i64 a.d]); refine (hVa.out _).mono ?_; rintro e w1 ⟨rfl, hb1⟩; obtain ⟨HA, HB, HR⟩ := three2 hb1; have HA := Lib.hid HA; have HB := Lib.hid HB; have HR := Lib.hid HR; obtain ⟨⟨b0, b1⟩, -⟩ := cells2 HB.out; obtain ⟨⟨r0, r1⟩, r2, r3⟩ := cells2 HR.out; have hl := blkLt HR.out; replace HX := Lib.hid (moveX (by (repeat with_reducible first | exact Below.refl _ _ | apply bDrew | apply bAlloc)) hb1 HX.out); replace HY := Lib.hid (moveX (by (repeat with_reducible first | exact Below.refl _ _ | apply bDrew | apply bAlloc)) hb1 HY.out); replace HW := Lib.hid (bCall (by (repeat with_reducible first | exact HW.out | apply bDrew | apply bAlloc)) hb1); clear hb1)
      | (go_at_call 49; refine (hVb.out _).mono ?_; rintro e w2 ⟨rfl, hb2⟩; replace HR := Lib.hid (moveX (by (repeat with_reducible first | exact Below.refl _ _ | apply bDrew | apply bAlloc)) hb2 HR.out); obtain ⟨⟨r0, r1⟩, r2, r3⟩ := cells2 HR.out; have hl := blkLt HR.out; replace HX := Lib.hid (moveX (by (repeat with_reducible first | exact Below.refl _ _ | apply bDrew | apply bAlloc)) hb2 HX.out); replace HY := Lib.hid (moveX (by (repeat with_reducible first | exact Below.refl _ _ | apply bDrew | apply bAlloc)) hb2 HY.out); replace HW := Lib.hid (bCall (by (repeat with_reducible first | exact HW.out | apply bDrew | apply bAlloc)) hb2); clear hb2)
      | (go_at_call 131; refine (hC.out _ HX.out HY.out).mono ?_; rintro e w3 ⟨rfl, hb3⟩; replace HR := Lib.hid (moveX (by (repeat with_reducible first | exact Below.refl _ _ | apply bDrew | apply bAlloc)) hb3 HR.out); obtain ⟨⟨r0, r1⟩, r2, r3⟩ := cells2 HR.out; have hl := blkLt HR.out; replace HW := Lib.hid (bCall (by (repeat with_reducible first | exact HW.out | apply bDrew | apply bAlloc)) hb3); clear hb3))
    exact bodyPost_ret (v := qr r) (by simp [results, Try.results104, go_sem, (res2 HR.out).2.1, (res2 HR.out).2.2]) rfl ⟨rfl, below2 HW.out (by omega)⟩
  all_goals
    rw [if_neg (by decide)]
    clear hC ha hb
    go_enter Try.func104, Try.ntmps104
    go_wp2_with (first
      | (go_at_call_of 49 (Value.agg #[.int .i64 a.n, .int .i64 a.d]); refine (hVa.out _).mono ?_; rintro e w1 ⟨rfl, hb1⟩; obtain ⟨HA, HB, HR⟩ := three2 hb1; have HA := Lib.hid HA; have HB := Lib.hid HB; have HR := Lib.hid HR; obtain ⟨⟨b0, b1⟩, -⟩ := cells2 HB.out; obtain ⟨⟨r0, r1⟩, r2, r3⟩ := cells2 HR.out; have hl := blkLt HR.out; replace HW := Lib.hid (bCall (by (repeat with_reducible first | exact HW.out | apply bDrew | apply bAlloc)) hb1); clear hb1)
      | (go_at_call 49; refine (hVb.out _).mono ?_; rintro e w2 ⟨rfl, hb2⟩; replace HR := Lib.hid (moveX (by (repeat with_reducible first | exact Below.refl _ _ | apply bDrew | apply bAlloc)) hb2 HR.out); obtain ⟨⟨r0, r1⟩, r2, r3⟩ := cells2 HR.out; have hl := blkLt HR.out; replace HW := Lib.hid (bCall (by (repeat with_reducible first | exact HW.out | apply bDrew | apply bAlloc)) hb2); clear hb2))
    exact bodyPost_ret (v := qr (⟨0, 0⟩, 1)) (by simp [results, Try.results104, go_sem, (res2 HR.out).2.1, (res2 HR.out).2.2]) rfl ⟨rfl, below2 HW.out (by omega)⟩
set_option maxHeartbeats 1000000 in
set_option maxRecDepth 100000 in
theorem Div_any (a b : Q) (w : World) : Calls Try.prog 129 #[qv a, qv b] w (VV (qr (divM a b)) w) := by
  have hC := Lib.hid (Div_c a b w.heap.size (w.heap.size + 1) (((w.alloc (qb a)).alloc (qb b)).alloc (qb ⟨0, 0⟩)) (mvAlloc (mvAlloc (newBlk _ _ _ rfl))) (mvAlloc (newBlk _ _ _ (by simp))))
  generalize divM a b = r at *
  have HW := Lib.hid (Below.refl w.heap.size w)
  go_enter Try.func129, Try.ntmps129
  go_wp2_with (go_at_call 104; refine hC.out.mono ?_; rintro e w1 ⟨rfl, hb1⟩; have HR := Lib.hid (three2 hb1).2.2; obtain ⟨⟨r0, r1⟩, r2, r3⟩ := cells2 HR.out; have hl := blkLt HR.out; replace HW := Lib.hid (bCall (by (repeat with_reducible first | exact HW.out | apply bDrew | apply bAlloc)) hb1); clear hb1)
  exact bodyPost_ret (v := qr r) (by simp [results, Try.results129, go_sem, (res2 HR.out).2.1, (res2 HR.out).2.2]) rfl ⟨rfl, below2 HW.out (by omega)⟩
end Go.Proofs.Ytbjhdfakocfapaa
