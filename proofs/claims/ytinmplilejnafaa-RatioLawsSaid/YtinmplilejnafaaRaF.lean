/- Contracts: the operations of the reference, New and Cmp of both, small, outside. -/
import Derived.Test.YtinmplilejnafaaRaE
namespace Go.Proofs.Ytinmplilejnafaa
open Go.RowKit
set_option linter.unusedVariables false
set_option linter.unusedSimpArgs false
theorem ret_ir {x y : Int} (h : x = y) : Ending.returned (ir (x, 0)) = .returned (ir (y, 0)) := by rw [h]
theorem RRed_any (n d : Int) (hn : Fit n) (hd : Fit d) (h0 : d ≠ 0) (w : World) : Calls Try.prog 32 #[.int .i64 n, .int .i64 d] w (VV (qr (redM n d)) w) := by
  by_cases hs : d < 0
  · exact RRed_m n d hn hd h0 hs w
  · exact RRed_p n d hn hd h0 hs w
set_option maxHeartbeats 1000000 in
set_option maxRecDepth 100000 in
theorem RAdd_bad (a b : Q) (h : vvB a b = false) (w : World) : Calls Try.prog 14 #[qv a, qv b] w (VV (qr (⟨0, 0⟩, 1)) w) := by
  have hVa := Lib.hid (RValid_any a)
  have hVb := Lib.hid (RValid_any b)
  have HW := Lib.hid (Below.refl w.heap.size w)
  unfold vvB at h
  rcases ha : qB a with _ | _
  · rw [ha] at hVa
    clear ha h hVb
    go_enter Try.func14, Try.ntmps14
    go_wp2_with (go_at_call_of 24 (Value.agg #[.int .i64 a.n, .int .i64 a.d]); refine (hVa.out _).mono ?_; rintro e w1 ⟨rfl, hb1⟩; obtain ⟨HA, HB, HR⟩ := three2 hb1; have HA := Lib.hid HA; have HB := Lib.hid HB; have HR := Lib.hid HR; obtain ⟨⟨a0, a1⟩, -⟩ := cells2 HA.out; obtain ⟨⟨b0, b1⟩, -⟩ := cells2 HB.out; obtain ⟨⟨r0, r1⟩, r2, r3⟩ := cells2 HR.out; have hl := blkLt HR.out; replace HW := Lib.hid (bCall (by (repeat with_reducible first | exact HW.out | apply bDrew | apply bAlloc)) hb1); clear hb1)
    exact bodyPost_ret (v := qr (⟨0, 0⟩, 1)) (by simp [results, Try.results14, go_sem, (res2 HR.out).2.1, (res2 HR.out).2.2]) rfl ⟨rfl, below2 HW.out (by omega)⟩
  · rw [ha] at hVa h
    have hb : qB b = false := by simpa using h
    rw [hb] at hVb
    clear ha hb h
    go_enter Try.func14, Try.ntmps14
    go_wp2_with (first
      | (go_at_call_of 24 (Value.agg #[.int .i64 a.n, .int .i64 a.d]); refine (hVa.out _).mono ?_; rintro e w1 ⟨rfl, hb1⟩; obtain ⟨HA, HB, HR⟩ := three2 hb1; have HA := Lib.hid HA; have HB := Lib.hid HB; have HR := Lib.hid HR; obtain ⟨⟨a0, a1⟩, -⟩ := cells2 HA.out; obtain ⟨⟨b0, b1⟩, -⟩ := cells2 HB.out; obtain ⟨⟨r0, r1⟩, r2, r3⟩ := cells2 HR.out; have hl := blkLt HR.out; replace HW := Lib.hid (bCall (by (repeat with_reducible first | exact HW.out | apply bDrew | apply bAlloc)) hb1); clear hb1)
      | (go_at_call 24; refine (hVb.out _).mono ?_; rintro e w2 ⟨rfl, hb2⟩; replace HA := Lib.hid (moveX (by (repeat with_reducible first | exact Below.refl _ _ | apply bDrew | apply bAlloc)) hb2 HA.out); replace HB := Lib.hid (moveX (by (repeat with_reducible first | exact Below.refl _ _ | apply bDrew | apply bAlloc)) hb2 HB.out); replace HR := Lib.hid (moveX (by (repeat with_reducible first | exact Below.refl _ _ | apply bDrew | apply bAlloc)) hb2 HR.out); obtain ⟨⟨a0, a1⟩, -⟩ := cells2 HA.out; obtain ⟨⟨b0, b1⟩, -⟩ := cells2 HB.out; obtain ⟨⟨r0, r1⟩, r2, r3⟩ := cells2 HR.out; have hl := blkLt HR.out; replace HW := Lib.hid (bCall (by (repeat with_reducible first | exact HW.out | apply bDrew | apply bAlloc)) hb2); clear hb2))
    exact bodyPost_ret (v := qr (⟨0, 0⟩, 1)) (by simp [results, Try.results14, go_sem, (res2 HR.out).2.1, (res2 HR.out).2.2]) rfl ⟨rfl, below2 HW.out (by omega)⟩
set_option maxHeartbeats 1000000 in
set_option maxRecDepth 100000 in
theorem RAdd_ok (a b : Q) (ha : qB a = true) (hb : qB b = true) (w : World) : Calls Try.prog 14 #[qv a, qv b] w (VV (qr (redM (a.n * b.d + b.n * a.d) (a.d * b.d))) w) := by
  have hVa := Lib.hid (RValid_any a)
  have hVb := Lib.hid (RValid_any b)
  rw [ha] at hVa
  rw [hb] at hVb
  have HW := Lib.hid (Below.refl w.heap.size w)
  have b0 := pb (vd ha).1 (vd hb).2
  have q0 : IntKind.i64.wrap (a.n * b.d) = a.n * b.d := IntWalk.i64_in _ (by omega)
  have b1 := pb (vd hb).1 (vd ha).2
  have q1 : IntKind.i64.wrap (b.n * a.d) = b.n * a.d := IntWalk.i64_in _ (by omega)
  have b2 := pb (vd ha).2 (vd hb).2
  have q2 : IntKind.i64.wrap (a.d * b.d) = a.d * b.d := IntWalk.i64_in _ (by omega)
  have qs : IntKind.i64.wrap (a.n * b.d + b.n * a.d) = a.n * b.d + b.n * a.d := IntWalk.i64_in _ (by omega)
  have hf : Fit (a.n * b.d + b.n * a.d) ∧ Fit (a.d * b.d) := by unfold Fit; omega
  have hR := Lib.hid (RRed_any (a.n * b.d + b.n * a.d) (a.d * b.d) hf.1 hf.2 (mul_ne (qB_d ha) (qB_d hb)))
  generalize redM (a.n * b.d + b.n * a.d) (a.d * b.d) = r at *
  clear hf ha hb b0 b1 b2
  go_enter Try.func14, Try.ntmps14
  go_wp2_with (first
    | (go_at_call_of 24 (Value.agg #[.int .i64 a.n, .int .i64 a.d]); refine (hVa.out _).mono ?_; rintro e w1 ⟨rfl, hb1⟩; obtain ⟨HA, HB, HR⟩ := three2 hb1; have HA := Lib.hid HA; have HB := Lib.hid HB; have HR := Lib.hid HR; obtain ⟨⟨a0, a1⟩, -⟩ := cells2 HA.out; obtain ⟨⟨b0, b1⟩, -⟩ := cells2 HB.out; obtain ⟨⟨r0, r1⟩, r2, r3⟩ := cells2 HR.out; have hl := blkLt HR.out; replace HW := Lib.hid (bCall (by (repeat with_reducible first | exact HW.out | apply bDrew | apply bAlloc)) hb1); clear hb1)
    | (go_at_call 24; refine (hVb.out _).mono ?_; rintro e w2 ⟨rfl, hb2⟩; replace HA := Lib.hid (moveX (by (repeat with_reducible first | exact Below.refl _ _ | apply bDrew | apply bAlloc)) hb2 HA.out); replace HB := Lib.hid (moveX (by (repeat with_reducible first | exact Below.refl _ _ | apply bDrew | apply bAlloc)) hb2 HB.out); replace HR := Lib.hid (moveX (by (repeat with_reducible first | exact Below.refl _ _ | apply bDrew | apply bAlloc)) hb2 HR.out); obtain ⟨⟨a0, a1⟩, -⟩ := cells2 HA.out; obtain ⟨⟨b0, b1⟩, -⟩ := cells2 HB.out; obtain ⟨⟨r0, r1⟩, r2, r3⟩ := cells2 HR.out; have hl := blkLt HR.out; replace HW := Lib.hid (bCall (by (repeat with_reducible first | exact HW.out | apply bDrew | apply bAlloc)) hb2); clear hb2)
    | (go_at_call 32; refine (hR.out _).mono ?_; rintro e w3 ⟨rfl, hb3⟩; replace HR := Lib.hid (moveX (by (repeat with_reducible first | exact Below.refl _ _ | apply bDrew | apply bAlloc)) hb3 HR.out); obtain ⟨⟨r0, r1⟩, r2, r3⟩ := cells2 HR.out; have hl := blkLt HR.out; replace HW := Lib.hid (bCall (by (repeat with_reducible first | exact HW.out | apply bDrew | apply bAlloc)) hb3); clear hb3))
  exact bodyPost_ret (v := qr r) (by simp [results, Try.results14, go_sem, (res2 HR.out).2.1, (res2 HR.out).2.2]) rfl ⟨rfl, below2 HW.out (by omega)⟩
theorem RAdd_any (a b : Q) (w : World) : Calls Try.prog 14 #[qv a, qv b] w (VV (qr (addM a b)) w) := by
  rcases h : vvB a b with _ | _
  · have e : addM a b = (⟨0, 0⟩, 1) := by unfold addM; rw [h]; rfl
    rw [e]; exact RAdd_bad a b h w
  · have e : addM a b = redM (a.n * b.d + b.n * a.d) (a.d * b.d) := by unfold addM; rw [h]; rfl
    obtain ⟨ha, hb⟩ := vvB_iff.1 h
    rw [e]; exact RAdd_ok a b ha hb w
set_option maxHeartbeats 1000000 in
set_option maxRecDepth 100000 in
theorem RSub_bad (a b : Q) (h : vvB a b = false) (w : World) : Calls Try.prog 16 #[qv a, qv b] w (VV (qr (⟨0, 0⟩, 1)) w) := by
  have hVa := Lib.hid (RValid_any a)
  have hVb := Lib.hid (RValid_any b)
  have HW := Lib.hid (Below.refl w.heap.size w)
  unfold vvB at h
  rcases ha : qB a with _ | _
  · rw [ha] at hVa
    clear ha h hVb
    go_enter Try.func16, Try.ntmps16
    go_wp2_with (go_at_call_of 24 (Value.agg #[.int .i64 a.n, .int .i64 a.d]); refine (hVa.out _).mono ?_; rintro e w1 ⟨rfl, hb1⟩; obtain ⟨HA, HB, HR⟩ := three2 hb1; have HA := Lib.hid HA; have HB := Lib.hid HB; have HR := Lib.hid HR; obtain ⟨⟨a0, a1⟩, -⟩ := cells2 HA.out; obtain ⟨⟨b0, b1⟩, -⟩ := cells2 HB.out; obtain ⟨⟨r0, r1⟩, r2, r3⟩ := cells2 HR.out; have hl := blkLt HR.out; replace HW := Lib.hid (bCall (by (repeat with_reducible first | exact HW.out | apply bDrew | apply bAlloc)) hb1); clear hb1)
    exact bodyPost_ret (v := qr (⟨0, 0⟩, 1)) (by simp [results, Try.results16, go_sem, (res2 HR.out).2.1, (res2 HR.out).2.2]) rfl ⟨rfl, below2 HW.out (by omega)⟩
  · rw [ha] at hVa h
    have hb : qB b = false := by simpa using h
    rw [hb] at hVb
    clear ha hb h
    go_enter Try.func16, Try.ntmps16
    go_wp2_with (first
      | (go_at_call_of 24 (Value.agg #[.int .i64 a.n, .int .i64 a.d]); refine (hVa.out _).mono ?_; rintro e w1 ⟨rfl, hb1⟩; obtain ⟨HA, HB, HR⟩ := three2 hb1; have HA := Lib.hid HA; have HB := Lib.hid HB; have HR := Lib.hid HR; obtain ⟨⟨a0, a1⟩, -⟩ := cells2 HA.out; obtain ⟨⟨b0, b1⟩, -⟩ := cells2 HB.out; obtain ⟨⟨r0, r1⟩, r2, r3⟩ := cells2 HR.out; have hl := blkLt HR.out; replace HW := Lib.hid (bCall (by (repeat with_reducible first | exact HW.out | apply bDrew | apply bAlloc)) hb1); clear hb1)
      | (go_at_call 24; refine (hVb.out _).mono ?_; rintro e w2 ⟨rfl, hb2⟩; replace HA := Lib.hid (moveX (by (repeat with_reducible first | exact Below.refl _ _ | apply bDrew | apply bAlloc)) hb2 HA.out); replace HB := Lib.hid (moveX (by (repeat with_reducible first | exact Below.refl _ _ | apply bDrew | apply bAlloc)) hb2 HB.out); replace HR := Lib.hid (moveX (by (repeat with_reducible first | exact Below.refl _ _ | apply bDrew | apply bAlloc)) hb2 HR.out); obtain ⟨⟨a0, a1⟩, -⟩ := cells2 HA.out; obtain ⟨⟨b0, b1⟩, -⟩ := cells2 HB.out; obtain ⟨⟨r0, r1⟩, r2, r3⟩ := cells2 HR.out; have hl := blkLt HR.out; replace HW := Lib.hid (bCall (by (repeat with_reducible first | exact HW.out | apply bDrew | apply bAlloc)) hb2); clear hb2))
    exact bodyPost_ret (v := qr (⟨0, 0⟩, 1)) (by simp [results, Try.results16, go_sem, (res2 HR.out).2.1, (res2 HR.out).2.2]) rfl ⟨rfl, below2 HW.out (by omega)⟩
set_option maxHeartbeats 1000000 in
set_option maxRecDepth 100000 in
theorem RSub_ok (a b : Q) (ha : qB a = true) (hb : qB b = true) (w : World) : Calls Try.prog 16 #[qv a, qv b] w (VV (qr (redM (a.n * b.d - b.n * a.d) (a.d * b.d))) w) := by
  have hVa := Lib.hid (RValid_any a)
  have hVb := Lib.hid (RValid_any b)
  rw [ha] at hVa
  rw [hb] at hVb
  have HW := Lib.hid (Below.refl w.heap.size w)
  have b0 := pb (vd ha).1 (vd hb).2
  have q0 : IntKind.i64.wrap (a.n * b.d) = a.n * b.d := IntWalk.i64_in _ (by omega)
  have b1 := pb (vd hb).1 (vd ha).2
  have q1 : IntKind.i64.wrap (b.n * a.d) = b.n * a.d := IntWalk.i64_in _ (by omega)
  have b2 := pb (vd ha).2 (vd hb).2
  have q2 : IntKind.i64.wrap (a.d * b.d) = a.d * b.d := IntWalk.i64_in _ (by omega)
  have qs : IntKind.i64.wrap (a.n * b.d - b.n * a.d) = a.n * b.d - b.n * a.d := IntWalk.i64_in _ (by omega)
  have hf : Fit (a.n * b.d - b.n * a.d) ∧ Fit (a.d * b.d) := by unfold Fit; omega
  have hR := Lib.hid (RRed_any (a.n * b.d - b.n * a.d) (a.d * b.d) hf.1 hf.2 (mul_ne (qB_d ha) (qB_d hb)))
  generalize redM (a.n * b.d - b.n * a.d) (a.d * b.d) = r at *
  clear hf ha hb b0 b1 b2
  go_enter Try.func16, Try.ntmps16
  go_wp2_with (first
    | (go_at_call_of 24 (Value.agg #[.int .i64 a.n, .int .i64 a.d]); refine (hVa.out _).mono ?_; rintro e w1 ⟨rfl, hb1⟩; obtain ⟨HA, HB, HR⟩ := three2 hb1; have HA := Lib.hid HA; have HB := Lib.hid HB; have HR := Lib.hid HR; obtain ⟨⟨a0, a1⟩, -⟩ := cells2 HA.out; obtain ⟨⟨b0, b1⟩, -⟩ := cells2 HB.out; obtain ⟨⟨r0, r1⟩, r2, r3⟩ := cells2 HR.out; have hl := blkLt HR.out; replace HW := Lib.hid (bCall (by (repeat with_reducible first | exact HW.out | apply bDrew | apply bAlloc)) hb1); clear hb1)
    | (go_at_call 24; refine (hVb.out _).mono ?_; rintro e w2 ⟨rfl, hb2⟩; replace HA := Lib.hid (moveX (by (repeat with_reducible first | exact Below.refl _ _ | apply bDrew | apply bAlloc)) hb2 HA.out); replace HB := Lib.hid (moveX (by (repeat with_reducible first | exact Below.refl _ _ | apply bDrew | apply bAlloc)) hb2 HB.out); replace HR := Lib.hid (moveX (by (repeat with_reducible first | exact Below.refl _ _ | apply bDrew | apply bAlloc)) hb2 HR.out); obtain ⟨⟨a0, a1⟩, -⟩ := cells2 HA.out; obtain ⟨⟨b0, b1⟩, -⟩ := cells2 HB.out; obtain ⟨⟨r0, r1⟩, r2, r3⟩ := cells2 HR.out; have hl := blkLt HR.out; replace HW := Lib.hid (bCall (by (repeat with_reducible first | exact HW.out | apply bDrew | apply bAlloc)) hb2); clear hb2)
    | (go_at_call 32; refine (hR.out _).mono ?_; rintro e w3 ⟨rfl, hb3⟩; replace HR := Lib.hid (moveX (by (repeat with_reducible first | exact Below.refl _ _ | apply bDrew | apply bAlloc)) hb3 HR.out); obtain ⟨⟨r0, r1⟩, r2, r3⟩ := cells2 HR.out; have hl := blkLt HR.out; replace HW := Lib.hid (bCall (by (repeat with_reducible first | exact HW.out | apply bDrew | apply bAlloc)) hb3); clear hb3))
  exact bodyPost_ret (v := qr r) (by simp [results, Try.results16, go_sem, (res2 HR.out).2.1, (res2 HR.out).2.2]) rfl ⟨rfl, below2 HW.out (by omega)⟩
theorem RSub_any (a b : Q) (w : World) : Calls Try.prog 16 #[qv a, qv b] w (VV (qr (subM a b)) w) := by
  rcases h : vvB a b with _ | _
  · have e : subM a b = (⟨0, 0⟩, 1) := by unfold subM; rw [h]; rfl
    rw [e]; exact RSub_bad a b h w
  · have e : subM a b = redM (a.n * b.d - b.n * a.d) (a.d * b.d) := by unfold subM; rw [h]; rfl
    obtain ⟨ha, hb⟩ := vvB_iff.1 h
    rw [e]; exact RSub_ok a b ha hb w
set_option maxHeartbeats 1000000 in
set_option maxRecDepth 100000 in
theorem RMul_bad (a b : Q) (h : vvB a b = false) (w : World) : Calls Try.prog 18 #[qv a, qv b] w (VV (qr (⟨0, 0⟩, 1)) w) := by
  have hVa := Lib.hid (RValid_any a)
  have hVb := Lib.hid (RValid_any b)
  have HW := Lib.hid (Below.refl w.heap.size w)
  unfold vvB at h
  rcases ha : qB a with _ | _
  · rw [ha] at hVa
    clear ha h hVb
    go_enter Try.func18, Try.ntmps18
    go_wp2_with (go_at_call_of 24 (Value.agg #[.int .i64 a.n, .int .i64 a.d]); refine (hVa.out _).mono ?_; rintro e w1 ⟨rfl, hb1⟩; obtain ⟨HA, HB, HR⟩ := three2 hb1; have HA := Lib.hid HA; have HB := Lib.hid HB; have HR := Lib.hid HR; obtain ⟨⟨a0, a1⟩, -⟩ := cells2 HA.out; obtain ⟨⟨b0, b1⟩, -⟩ := cells2 HB.out; obtain ⟨⟨r0, r1⟩, r2, r3⟩ := cells2 HR.out; have hl := blkLt HR.out; replace HW := Lib.hid (bCall (by (repeat with_reducible first | exact HW.out | apply bDrew | apply bAlloc)) hb1); clear hb1)
    exact bodyPost_ret (v := qr (⟨0, 0⟩, 1)) (by simp [results, Try.results18, go_sem, (res2 HR.out).2.1, (res2 HR.out).2.2]) rfl ⟨rfl, below2 HW.out (by omega)⟩
  · rw [ha] at hVa h
    have hb : qB b = false := by simpa using h
    rw [hb] at hVb
    clear ha hb h
    go_enter Try.func18, Try.ntmps18
    go_wp2_with (first
      | (go_at_call_of 24 (Value.agg #[.int .i64 a.n, .int .i64 a.d]); refine (hVa.out _).mono ?_; rintro e w1 ⟨rfl, hb1⟩; obtain ⟨HA, HB, HR⟩ := three2 hb1; have HA := Lib.hid HA; have HB := Lib.hid HB; have HR := Lib.hid HR; obtain ⟨⟨a0, a1⟩, -⟩ := cells2 HA.out; obtain ⟨⟨b0, b1⟩, -⟩ := cells2 HB.out; obtain ⟨⟨r0, r1⟩, r2, r3⟩ := cells2 HR.out; have hl := blkLt HR.out; replace HW := Lib.hid (bCall (by (repeat with_reducible first | exact HW.out | apply bDrew | apply bAlloc)) hb1); clear hb1)
      | (go_at_call 24; refine (hVb.out _).mono ?_; rintro e w2 ⟨rfl, hb2⟩; replace HA := Lib.hid (moveX (by (repeat with_reducible first | exact Below.refl _ _ | apply bDrew | apply bAlloc)) hb2 HA.out); replace HB := Lib.hid (moveX (by (repeat with_reducible first | exact Below.refl _ _ | apply bDrew | apply bAlloc)) hb2 HB.out); replace HR := Lib.hid (moveX (by (repeat with_reducible first | exact Below.refl _ _ | apply bDrew | apply bAlloc)) hb2 HR.out); obtain ⟨⟨a0, a1⟩, -⟩ := cells2 HA.out; obtain ⟨⟨b0, b1⟩, -⟩ := cells2 HB.out; obtain ⟨⟨r0, r1⟩, r2, r3⟩ := cells2 HR.out; have hl := blkLt HR.out; replace HW := Lib.hid (bCall (by (repeat with_reducible first | exact HW.out | apply bDrew | apply bAlloc)) hb2); clear hb2))
    exact bodyPost_ret (v := qr (⟨0, 0⟩, 1)) (by simp [results, Try.results18, go_sem, (res2 HR.out).2.1, (res2 HR.out).2.2]) rfl ⟨rfl, below2 HW.out (by omega)⟩
set_option maxHeartbeats 1000000 in
set_option maxRecDepth 100000 in
theorem RMul_ok (a b : Q) (ha : qB a = true) (hb : qB b = true) (w : World) : Calls Try.prog 18 #[qv a, qv b] w (VV (qr (redM (a.n * b.n) (a.d * b.d))) w) := by
  have hVa := Lib.hid (RValid_any a)
  have hVb := Lib.hid (RValid_any b)
  rw [ha] at hVa
  rw [hb] at hVb
  have HW := Lib.hid (Below.refl w.heap.size w)
  have b0 := pb (vd ha).1 (vd hb).1
  have q0 : IntKind.i64.wrap (a.n * b.n) = a.n * b.n := IntWalk.i64_in _ (by omega)
  have b1 := pb (vd ha).2 (vd hb).2
  have q1 : IntKind.i64.wrap (a.d * b.d) = a.d * b.d := IntWalk.i64_in _ (by omega)
  have hf : Fit (a.n * b.n) ∧ Fit (a.d * b.d) := by unfold Fit; omega
  have hR := Lib.hid (RRed_any (a.n * b.n) (a.d * b.d) hf.1 hf.2 (mul_ne (qB_d ha) (qB_d hb)))
  generalize redM (a.n * b.n) (a.d * b.d) = r at *
  clear hf ha hb b0 b1
  go_enter Try.func18, Try.ntmps18
  go_wp2_with (first
    | (go_at_call_of 24 (Value.agg #[.int .i64 a.n, .int .i64 a.d]); refine (hVa.out _).mono ?_; rintro e w1 ⟨rfl, hb1⟩; obtain ⟨HA, HB, HR⟩ := three2 hb1; have HA := Lib.hid HA; have HB := Lib.hid HB; have HR := Lib.hid HR; obtain ⟨⟨a0, a1⟩, -⟩ := cells2 HA.out; obtain ⟨⟨b0, b1⟩, -⟩ := cells2 HB.out; obtain ⟨⟨r0, r1⟩, r2, r3⟩ := cells2 HR.out; have hl := blkLt HR.out; replace HW := Lib.hid (bCall (by (repeat with_reducible first | exact HW.out | apply bDrew | apply bAlloc)) hb1); clear hb1)
    | (go_at_call 24; refine (hVb.out _).mono ?_; rintro e w2 ⟨rfl, hb2⟩; replace HA := Lib.hid (moveX (by (repeat with_reducible first | exact Below.refl _ _ | apply bDrew | apply bAlloc)) hb2 HA.out); replace HB := Lib.hid (moveX (by (repeat with_reducible first | exact Below.refl _ _ | apply bDrew | apply bAlloc)) hb2 HB.out); replace HR := Lib.hid (moveX (by (repeat with_reducible first | exact Below.refl _ _ | apply bDrew | apply bAlloc)) hb2 HR.out); obtain ⟨⟨a0, a1⟩, -⟩ := cells2 HA.out; obtain ⟨⟨b0, b1⟩, -⟩ := cells2 HB.out; obtain ⟨⟨r0, r1⟩, r2, r3⟩ := cells2 HR.out; have hl := blkLt HR.out; replace HW := Lib.hid (bCall (by (repeat with_reducible first | exact HW.out | apply bDrew | apply bAlloc)) hb2); clear hb2)
    | (go_at_call 32; refine (hR.out _).mono ?_; rintro e w3 ⟨rfl, hb3⟩; replace HR := Lib.hid (moveX (by (repeat with_reducible first | exact Below.refl _ _ | apply bDrew | apply bAlloc)) hb3 HR.out); obtain ⟨⟨r0, r1⟩, r2, r3⟩ := cells2 HR.out; have hl := blkLt HR.out; replace HW := Lib.hid (bCall (by (repeat with_reducible first | exact HW.out | apply bDrew | apply bAlloc)) hb3); clear hb3))
  exact bodyPost_ret (v := qr r) (by simp [results, Try.results18, go_sem, (res2 HR.out).2.1, (res2 HR.out).2.2]) rfl ⟨rfl, below2 HW.out (by omega)⟩
theorem RMul_any (a b : Q) (w : World) : Calls Try.prog 18 #[qv a, qv b] w (VV (qr (mulM a b)) w) := by
  rcases h : vvB a b with _ | _
  · have e : mulM a b = (⟨0, 0⟩, 1) := by unfold mulM; rw [h]; rfl
    rw [e]; exact RMul_bad a b h w
  · have e : mulM a b = redM (a.n * b.n) (a.d * b.d) := by unfold mulM; rw [h]; rfl
    obtain ⟨ha, hb⟩ := vvB_iff.1 h
    rw [e]; exact RMul_ok a b ha hb w
set_option maxHeartbeats 1000000 in
set_option maxRecDepth 100000 in
theorem RDiv_bad (a b : Q) (h : vvB a b = false) (w : World) : Calls Try.prog 20 #[qv a, qv b] w (VV (qr (⟨0, 0⟩, 1)) w) := by
  have hVa := Lib.hid (RValid_any a)
  have hVb := Lib.hid (RValid_any b)
  have HW := Lib.hid (Below.refl w.heap.size w)
  unfold vvB at h
  rcases ha : qB a with _ | _
  · rw [ha] at hVa
    clear ha h hVb
    go_enter Try.func20, Try.ntmps20
    go_wp2_with (go_at_call_of 24 (Value.agg #[.int .i64 a.n, .int .i64 a.d]); refine (hVa.out _).mono ?_; rintro e w1 ⟨rfl, hb1⟩; obtain ⟨HA, HB, HR⟩ := three2 hb1; have HA := Lib.hid HA; have HB := Lib.hid HB; have HR := Lib.hid HR; obtain ⟨⟨a0, a1⟩, -⟩ := cells2 HA.out; obtain ⟨⟨b0, b1⟩, -⟩ := cells2 HB.out; obtain ⟨⟨r0, r1⟩, r2, r3⟩ := cells2 HR.out; have hl := blkLt HR.out; replace HW := Lib.hid (bCall (by (repeat with_reducible first | exact HW.out | apply bDrew | apply bAlloc)) hb1); clear hb1)
    exact bodyPost_ret (v := qr (⟨0, 0⟩, 1)) (by simp [results, Try.results20, go_sem, (res2 HR.out).2.1, (res2 HR.out).2.2]) rfl ⟨rfl, below2 HW.out (by omega)⟩
  · rw [ha] at hVa h
    have hb : qB b = false := by simpa using h
    rw [hb] at hVb
    clear ha hb h
    go_enter Try.func20, Try.ntmps20
    go_wp2_with (first
      | (go_at_call_of 24 (Value.agg #[.int .i64 a.n, .int .i64 a.d]); refine (hVa.out _).mono ?_; rintro e w1 ⟨rfl, hb1⟩; obtain ⟨HA, HB, HR⟩ := three2 hb1; have HA := Lib.hid HA; have HB := Lib.hid HB; have HR := Lib.hid HR; obtain ⟨⟨a0, a1⟩, -⟩ := cells2 HA.out; obtain ⟨⟨b0, b1⟩, -⟩ := cells2 HB.out; obtain ⟨⟨r0, r1⟩, r2, r3⟩ := cells2 HR.out; have hl := blkLt HR.out; replace HW := Lib.hid (bCall (by (repeat with_reducible first | exact HW.out | apply bDrew | apply bAlloc)) hb1); clear hb1)
      | (go_at_call 24; refine (hVb.out _).mono ?_; rintro e w2 ⟨rfl, hb2⟩; replace HA := Lib.hid (moveX (by (repeat with_reducible first | exact Below.refl _ _ | apply bDrew | apply bAlloc)) hb2 HA.out); replace HB := Lib.hid (moveX (by (repeat with_reducible first | exact Below.refl _ _ | apply bDrew | apply bAlloc)) hb2 HB.out); replace HR := Lib.hid (moveX (by (repeat with_reducible first | exact Below.refl _ _ | apply bDrew | apply bAlloc)) hb2 HR.out); obtain ⟨⟨a0, a1⟩, -⟩ := cells2 HA.out; obtain ⟨⟨b0, b1⟩, -⟩ := cells2 HB.out; obtain ⟨⟨r0, r1⟩, r2, r3⟩ := cells2 HR.out; have hl := blkLt HR.out; replace HW := Lib.hid (bCall (by (repeat with_reducible first | exact HW.out | apply bDrew | apply bAlloc)) hb2); clear hb2))
    exact bodyPost_ret (v := qr (⟨0, 0⟩, 1)) (by simp [results, Try.results20, go_sem, (res2 HR.out).2.1, (res2 HR.out).2.2]) rfl ⟨rfl, below2 HW.out (by omega)⟩
set_option maxHeartbeats 1000000 in
set_option maxRecDepth 100000 in
theorem RDiv_0 (a b : Q) (ha : qB a = true) (hb : qB b = true) (h0 : b.n = 0) (w : World) : Calls Try.prog 20 #[qv a, qv b] w (VV (qr (⟨0, 0⟩, 14)) w) := by
  have hVa := Lib.hid (RValid_any a)
  have hVb := Lib.hid (RValid_any b)
  rw [ha] at hVa
  rw [hb] at hVb
  have HW := Lib.hid (Below.refl w.heap.size w)
  clear ha hb
  obtain ⟨bn, bd⟩ := b
  simp only at h0
  subst h0
  go_enter Try.func20, Try.ntmps20
  go_wp2_with (first
    | (go_at_call_of 24 (Value.agg #[.int .i64 a.n, .int .i64 a.d]); refine (hVa.out _).mono ?_; rintro e w1 ⟨rfl, hb1⟩; obtain ⟨HA, HB, HR⟩ := three2 hb1; have HA := Lib.hid HA; have HB := Lib.hid HB; have HR := Lib.hid HR; obtain ⟨⟨a0, a1⟩, -⟩ := cells2 HA.out; obtain ⟨⟨b0, b1⟩, -⟩ := cells2 HB.out; obtain ⟨⟨r0, r1⟩, r2, r3⟩ := cells2 HR.out; have hl := blkLt HR.out; replace HW := Lib.hid (bCall (by (repeat with_reducible first | exact HW.out | apply bDrew | apply bAlloc)) hb1); clear hb1)
    | (go_at_call 24; refine (hVb.out _).mono ?_; rintro e w2 ⟨rfl, hb2⟩; replace HA := Lib.hid (moveX (by (repeat with_reducible first | exact Below.refl _ _ | apply bDrew | apply bAlloc)) hb2 HA.out); replace HB := Lib.hid (moveX (by (repeat with_reducible first | exact Below.refl _ _ | apply bDrew | apply bAlloc)) hb2 HB.out); replace HR := Lib.hid (moveX (by (repeat with_reducible first | exact Below.refl _ _ | apply bDrew | apply bAlloc)) hb2 HR.out); obtain ⟨⟨a0, a1⟩, -⟩ := cells2 HA.out; obtain ⟨⟨b0, b1⟩, -⟩ := cells2 HB.out; obtain ⟨⟨r0, r1⟩, r2, r3⟩ := cells2 HR.out; have hl := blkLt HR.out; replace HW := Lib.hid (bCall (by (repeat with_reducible first | exact HW.out | apply bDrew | apply bAlloc)) hb2); clear hb2))
  exact bodyPost_ret (v := qr (⟨0, 0⟩, 14)) (by simp [results, Try.results20, go_sem, (res2 HR.out).2.1, (res2 HR.out).2.2]) rfl ⟨rfl, below2 HW.out (by omega)⟩
set_option maxHeartbeats 1000000 in
set_option maxRecDepth 100000 in
theorem RDiv_ok (a b : Q) (ha : qB a = true) (hb : qB b = true) (h0 : b.n ≠ 0) (w : World) : Calls Try.prog 20 #[qv a, qv b] w (VV (qr (redM (a.n * b.d) (a.d * b.n))) w) := by
  have hVa := Lib.hid (RValid_any a)
  have hVb := Lib.hid (RValid_any b)
  rw [ha] at hVa
  rw [hb] at hVb
  have HW := Lib.hid (Below.refl w.heap.size w)
  have b0 := pb (vd ha).1 (vd hb).2
  have q0 : IntKind.i64.wrap (a.n * b.d) = a.n * b.d := IntWalk.i64_in _ (by omega)
  have b1 := pb (vd ha).2 (vd hb).1
  have q1 : IntKind.i64.wrap (a.d * b.n) = a.d * b.n := IntWalk.i64_in _ (by omega)
  have hf : Fit (a.n * b.d) ∧ Fit (a.d * b.n) := by unfold Fit; omega
  have hR := Lib.hid (RRed_any (a.n * b.d) (a.d * b.n) hf.1 hf.2 (mul_ne (qB_d ha) h0))
  generalize redM (a.n * b.d) (a.d * b.n) = r at *
  clear hf ha hb b0 b1
  go_enter Try.func20, Try.ntmps20
  go_wp2_with (first
    | (go_at_call_of 24 (Value.agg #[.int .i64 a.n, .int .i64 a.d]); refine (hVa.out _).mono ?_; rintro e w1 ⟨rfl, hb1⟩; obtain ⟨HA, HB, HR⟩ := three2 hb1; have HA := Lib.hid HA; have HB := Lib.hid HB; have HR := Lib.hid HR; obtain ⟨⟨a0, a1⟩, -⟩ := cells2 HA.out; obtain ⟨⟨b0, b1⟩, -⟩ := cells2 HB.out; obtain ⟨⟨r0, r1⟩, r2, r3⟩ := cells2 HR.out; have hl := blkLt HR.out; replace HW := Lib.hid (bCall (by (repeat with_reducible first | exact HW.out | apply bDrew | apply bAlloc)) hb1); clear hb1)
    | (go_at_call 24; refine (hVb.out _).mono ?_; rintro e w2 ⟨rfl, hb2⟩; replace HA := Lib.hid (moveX (by (repeat with_reducible first | exact Below.refl _ _ | apply bDrew | apply bAlloc)) hb2 HA.out); replace HB := Lib.hid (moveX (by (repeat with_reducible first | exact Below.refl _ _ | apply bDrew | apply bAlloc)) hb2 HB.out); replace HR := Lib.hid (moveX (by (repeat with_reducible first | exact Below.refl _ _ | apply bDrew | apply bAlloc)) hb2 HR.out); obtain ⟨⟨a0, a1⟩, -⟩ := cells2 HA.out; obtain ⟨⟨b0, b1⟩, -⟩ := cells2 HB.out; obtain ⟨⟨r0, r1⟩, r2, r3⟩ := cells2 HR.out; have hl := blkLt HR.out; replace HW := Lib.hid (bCall (by (repeat with_reducible first | exact HW.out | apply bDrew | apply bAlloc)) hb2); clear hb2)
    | (go_at_call 32; refine (hR.out _).mono ?_; rintro e w3 ⟨rfl, hb3⟩; replace HR := Lib.hid (moveX (by (repeat with_reducible first | exact Below.refl _ _ | apply bDrew | apply bAlloc)) hb3 HR.out); obtain ⟨⟨r0, r1⟩, r2, r3⟩ := cells2 HR.out; have hl := blkLt HR.out; replace HW := Lib.hid (bCall (by (repeat with_reducible first | exact HW.out | apply bDrew | apply bAlloc)) hb3); clear hb3))
  exact bodyPost_ret (v := qr r) (by simp [results, Try.results20, go_sem, (res2 HR.out).2.1, (res2 HR.out).2.2]) rfl ⟨rfl, below2 HW.out (by omega)⟩
theorem RDiv_any (a b : Q) (w : World) : Calls Try.prog 20 #[qv a, qv b] w (VV (qr (divM a b)) w) := by
  rcases h : vvB a b with _ | _
  · have e : divM a b = (⟨0, 0⟩, 1) := by unfold divM; rw [h]; rfl
    rw [e]; exact RDiv_bad a b h w
  · have e : divM a b = redM (a.n * b.d) (a.d * b.n) := by unfold divM; rw [h]; rfl
    obtain ⟨ha, hb⟩ := vvB_iff.1 h
    by_cases h0 : b.n = 0
    · rw [div_0 ha hb h0]; exact RDiv_0 a b ha hb h0 w
    · rw [e]; exact RDiv_ok a b ha hb h0 w
set_option maxHeartbeats 1000000 in
set_option maxRecDepth 100000 in
theorem New_bad (n d : Int) (h : (vaB n && vaB d) = false) (w : World) : Calls Try.prog 11 #[.int .i64 n, .int .i64 d] w (VV (qr (⟨0, 0⟩, 1)) w) := by
  have hVa := Lib.hid (isValue_any n)
  have hVb := Lib.hid (isValue_any d)
  have HR := Lib.hid (newBlk w (qb ⟨0, 0⟩) _ rfl)
  have HW := Lib.hid (bAlloc (o := qb ⟨0, 0⟩) (Below.refl w.heap.size w))
  obtain ⟨⟨r0, r1⟩, r2, r3⟩ := cells2 HR.out
  rcases ha : vaB n with _ | _
  · rw [ha] at hVa
    clear ha h hVb
    go_enter Try.func11, Try.ntmps11
    go_wp2_with (go_at_call_of 28 (Value.int .i64 n); refine (hVa.out _).mono ?_; rintro e w1 ⟨rfl, rfl⟩)
    exact bodyPost_ret (v := qr (⟨0, 0⟩, 1)) (by simp [results, Try.results11, go_sem]) rfl ⟨rfl, HW.out⟩
  · rw [ha] at hVa h
    have hb : vaB d = false := by simpa using h
    rw [hb] at hVb
    clear ha hb h
    go_enter Try.func11, Try.ntmps11
    go_wp2_with (first
      | (go_at_call_of 28 (Value.int .i64 n); refine (hVa.out _).mono ?_; rintro e w1 ⟨rfl, rfl⟩)
      | (go_at_call_of 28 (Value.int .i64 d); refine (hVb.out _).mono ?_; rintro e w1 ⟨rfl, rfl⟩))
    exact bodyPost_ret (v := qr (⟨0, 0⟩, 1)) (by simp [results, Try.results11, go_sem]) rfl ⟨rfl, HW.out⟩
set_option maxHeartbeats 1000000 in
set_option maxRecDepth 100000 in
theorem New_ok (n d : Int) (ha : vaB n = true) (hb : vaB d = true) (w : World) : Calls Try.prog 11 #[.int .i64 n, .int .i64 d] w (VV (qr (redM n d)) w) := by
  have hVa := Lib.hid (isValue_any n)
  have hVb := Lib.hid (isValue_any d)
  have HR := Lib.hid (newBlk w (qb ⟨0, 0⟩) _ rfl)
  have HW := Lib.hid (bAlloc (o := qb ⟨0, 0⟩) (Below.refl w.heap.size w))
  obtain ⟨⟨r0, r1⟩, r2, r3⟩ := cells2 HR.out
  have hf : Fit n ∧ Fit d := by have := vaB_iff.1 ha; have := vaB_iff.1 hb; unfold Fit; omega
  rw [ha] at hVa
  rw [hb] at hVb
  have hO := Lib.hid (over_any n d)
  have hE := Lib.hid (reduced_any n d hf.1 hf.2)
  generalize redM n d = r at *
  clear ha hb hf
  go_enter Try.func11, Try.ntmps11
  go_wp2_with (first
    | (go_at_call 29; refine (hO.out _).mono ?_; rintro e w3 ⟨rfl, hb3⟩; replace HR := Lib.hid (moveX (by (repeat with_reducible first | exact Below.refl _ _ | apply bDrew | apply bAlloc)) hb3 HR.out); obtain ⟨⟨r0, r1⟩, r2, r3⟩ := cells2 HR.out; have hl := blkLt HR.out; replace HW := Lib.hid (bCall (by (repeat with_reducible first | exact HW.out | apply bDrew | apply bAlloc)) hb3); clear hb3)
    | (go_at_call 30; refine (hE.out _).mono ?_; rintro e w4 ⟨rfl, hb4⟩; replace HR := Lib.hid (moveX (by (repeat with_reducible first | exact Below.refl _ _ | apply bDrew | apply bAlloc)) hb4 HR.out); obtain ⟨⟨r0, r1⟩, r2, r3⟩ := cells2 HR.out; have hl := blkLt HR.out; replace HW := Lib.hid (bCall (by (repeat with_reducible first | exact HW.out | apply bDrew | apply bAlloc)) hb4); clear hb4)
    | (go_at_call_of 28 (Value.int .i64 n); refine (hVa.out _).mono ?_; rintro e w1 ⟨rfl, rfl⟩)
    | (go_at_call_of 28 (Value.int .i64 d); refine (hVb.out _).mono ?_; rintro e w1 ⟨rfl, rfl⟩))
  exact bodyPost_ret (v := qr r) (by simp [results, Try.results11, go_sem, (res2 HR.out).2.1, (res2 HR.out).2.2]) rfl ⟨rfl, below2 HW.out (by omega)⟩
theorem New_any (n d : Int) (w : World) : Calls Try.prog 11 #[.int .i64 n, .int .i64 d] w (VV (qr (newM n d)) w) := by
  rcases h : (vaB n && vaB d) with _ | _
  · have e : newM n d = (⟨0, 0⟩, 1) := by unfold newM; rw [h]; rfl
    rw [e]; exact New_bad n d h w
  · have e : newM n d = redM n d := by unfold newM; rw [h]; rfl
    rw [e]
    simp only [Bool.and_eq_true] at h
    exact New_ok n d h.1 h.2 w
set_option maxHeartbeats 1000000 in
set_option maxRecDepth 100000 in
theorem RNew_bad (n d : Int) (h : (vaB n && vaB d) = false) (w : World) : Calls Try.prog 12 #[.int .i64 n, .int .i64 d] w (VV (qr (⟨0, 0⟩, 1)) w) := by
  have hVa := Lib.hid (value_any n)
  have hVb := Lib.hid (value_any d)
  have HR := Lib.hid (newBlk w (qb ⟨0, 0⟩) _ rfl)
  have HW := Lib.hid (bAlloc (o := qb ⟨0, 0⟩) (Below.refl w.heap.size w))
  obtain ⟨⟨r0, r1⟩, r2, r3⟩ := cells2 HR.out
  rcases ha : vaB n with _ | _
  · rw [ha] at hVa
    clear ha h hVb
    go_enter Try.func12, Try.ntmps12
    go_wp2_with (go_at_call_of 31 (Value.int .i64 n); refine (hVa.out _).mono ?_; rintro e w1 ⟨rfl, rfl⟩)
    exact bodyPost_ret (v := qr (⟨0, 0⟩, 1)) (by simp [results, Try.results12, go_sem]) rfl ⟨rfl, HW.out⟩
  · rw [ha] at hVa h
    have hb : vaB d = false := by simpa using h
    rw [hb] at hVb
    clear ha hb h
    go_enter Try.func12, Try.ntmps12
    go_wp2_with (first
      | (go_at_call_of 31 (Value.int .i64 n); refine (hVa.out _).mono ?_; rintro e w1 ⟨rfl, rfl⟩)
      | (go_at_call_of 31 (Value.int .i64 d); refine (hVb.out _).mono ?_; rintro e w1 ⟨rfl, rfl⟩))
    exact bodyPost_ret (v := qr (⟨0, 0⟩, 1)) (by simp [results, Try.results12, go_sem]) rfl ⟨rfl, HW.out⟩
set_option maxHeartbeats 1000000 in
set_option maxRecDepth 100000 in
theorem RNew_0 (n : Int) (ha : vaB n = true) (w : World) : Calls Try.prog 12 #[.int .i64 n, .int .i64 0] w (VV (qr (⟨0, 0⟩, 14)) w) := by
  have hb : vaB 0 = true := by decide
  have hVa := Lib.hid (value_any n)
  have hVb := Lib.hid (value_any 0)
  have HR := Lib.hid (newBlk w (qb ⟨0, 0⟩) _ rfl)
  have HW := Lib.hid (bAlloc (o := qb ⟨0, 0⟩) (Below.refl w.heap.size w))
  obtain ⟨⟨r0, r1⟩, r2, r3⟩ := cells2 HR.out
  have hf : Fit n ∧ Fit 0 := by have := vaB_iff.1 ha; have := vaB_iff.1 hb; unfold Fit; omega
  rw [ha] at hVa
  rw [hb] at hVb
  clear ha hb hf
  go_enter Try.func12, Try.ntmps12
  go_wp2_with (first
    | (go_at_call_of 31 (Value.int .i64 n); refine (hVa.out _).mono ?_; rintro e w1 ⟨rfl, rfl⟩)
    | (go_at_call_of 31 (Value.int .i64 0); refine (hVb.out _).mono ?_; rintro e w1 ⟨rfl, rfl⟩))
  exact bodyPost_ret (v := qr (⟨0, 0⟩, 14)) (by simp [results, Try.results12, go_sem]) rfl ⟨rfl, HW.out⟩
set_option maxHeartbeats 1000000 in
set_option maxRecDepth 100000 in
theorem RNew_ok (n d : Int) (ha : vaB n = true) (hb : vaB d = true) (h0 : d ≠ 0) (w : World) : Calls Try.prog 12 #[.int .i64 n, .int .i64 d] w (VV (qr (redM n d)) w) := by
  have hVa := Lib.hid (value_any n)
  have hVb := Lib.hid (value_any d)
  have HR := Lib.hid (newBlk w (qb ⟨0, 0⟩) _ rfl)
  have HW := Lib.hid (bAlloc (o := qb ⟨0, 0⟩) (Below.refl w.heap.size w))
  obtain ⟨⟨r0, r1⟩, r2, r3⟩ := cells2 HR.out
  have hf : Fit n ∧ Fit d := by have := vaB_iff.1 ha; have := vaB_iff.1 hb; unfold Fit; omega
  rw [ha] at hVa
  rw [hb] at hVb
  have hE := Lib.hid (RRed_any n d hf.1 hf.2 h0)
  generalize redM n d = r at *
  clear ha hb hf
  go_enter Try.func12, Try.ntmps12
  go_wp2_with (first
    | (go_at_call 32; refine (hE.out _).mono ?_; rintro e w4 ⟨rfl, hb4⟩; replace HR := Lib.hid (moveX (by (repeat with_reducible first | exact Below.refl _ _ | apply bDrew | apply bAlloc)) hb4 HR.out); obtain ⟨⟨r0, r1⟩, r2, r3⟩ := cells2 HR.out; have hl := blkLt HR.out; replace HW := Lib.hid (bCall (by (repeat with_reducible first | exact HW.out | apply bDrew | apply bAlloc)) hb4); clear hb4)
    | (go_at_call_of 31 (Value.int .i64 n); refine (hVa.out _).mono ?_; rintro e w1 ⟨rfl, rfl⟩)
    | (go_at_call_of 31 (Value.int .i64 d); refine (hVb.out _).mono ?_; rintro e w1 ⟨rfl, rfl⟩))
  exact bodyPost_ret (v := qr r) (by simp [results, Try.results12, go_sem, (res2 HR.out).2.1, (res2 HR.out).2.2]) rfl ⟨rfl, below2 HW.out (by omega)⟩
theorem RNew_any (n d : Int) (w : World) : Calls Try.prog 12 #[.int .i64 n, .int .i64 d] w (VV (qr (newM n d)) w) := by
  rcases h : (vaB n && vaB d) with _ | _
  · have e : newM n d = (⟨0, 0⟩, 1) := by unfold newM; rw [h]; rfl
    rw [e]; exact RNew_bad n d h w
  · have e : newM n d = redM n d := by unfold newM; rw [h]; rfl
    rw [e]
    simp only [Bool.and_eq_true] at h
    by_cases h0 : d = 0
    · subst h0
      rw [show redM n 0 = (⟨0, 0⟩, 14) by unfold redM; rw [if_pos rfl]]
      exact RNew_0 n h.1 w
    · exact RNew_ok n d h.1 h.2 h0 w
set_option maxHeartbeats 1000000 in
set_option maxRecDepth 100000 in
theorem Cmp_1 (a b : Q) (ha : qB a = true) (hb : qB b = true) (x y : Nat) (w : World) (HX : w.heap[x]? = some (qb a)) (HY : w.heap[y]? = some (qb b)) :
    Calls Try.prog 39 #[.pointer (some ⟨x, 0, none⟩), .pointer (some ⟨y, 0, none⟩)] w (SS (ir (sgM (a.n * b.d) (b.n * a.d), 0)) w) := by
  have b0 := pb (vd ha).1 (vd hb).2
  have q0 : IntKind.i64.wrap (a.n * b.d) = a.n * b.d := IntWalk.i64_in _ (by omega)
  have b1 := pb (vd hb).1 (vd ha).2
  have q1 : IntKind.i64.wrap (b.n * a.d) = b.n * a.d := IntWalk.i64_in _ (by omega)
  have hC := Lib.hid (compare_any (a.n * b.d) (b.n * a.d))
  generalize sgM (a.n * b.d) (b.n * a.d) = r at *
  obtain ⟨⟨a0, a1⟩, -⟩ := cells2 HX
  obtain ⟨⟨b2, b3⟩, -⟩ := cells2 HY
  clear ha hb HX HY b0 b1
  go_enter Try.func39, Try.ntmps39
  go_wp2_with (go_at_call 40; refine (hC.out _).mono ?_; rintro e w1 ⟨rfl, rfl⟩)
  go_ret2
  exact ⟨rfl, rfl⟩
set_option maxHeartbeats 1000000 in
set_option maxRecDepth 100000 in
theorem Cmp_cbad (a b : Q) (x y : Nat) (h : vvB a b = false) (w : World) : Calls Try.prog 38 #[qv a, qv b, .func (.func 39) #[] #[.pointer (some ⟨x, 0, none⟩), .pointer (some ⟨y, 0, none⟩)]] w (VV (ir (0, 1)) w) := by
  have hVa := Lib.hid (Valid_any a)
  have hVb := Lib.hid (Valid_any b)
  have HW := Lib.hid (Below.refl w.heap.size w)
  unfold vvB at h
  rcases ha : qB a with _ | _
  · rw [ha] at hVa
    clear ha h hVb
    go_enter Try.func38, Try.ntmps38
    go_wp2_with (go_at_call_of 23 (Value.agg #[.int .i64 a.n, .int .i64 a.d]); refine (hVa.out _).mono ?_; rintro e w1 ⟨rfl, hb1⟩; obtain ⟨HA, HB⟩ := two2 hb1; have HA := Lib.hid HA; have HB := Lib.hid HB; obtain ⟨⟨a0, a1⟩, -⟩ := cells2 HA.out; obtain ⟨⟨b0, b1⟩, -⟩ := cells2 HB.out;  replace HW := Lib.hid (bCall (by (repeat with_reducible first | exact HW.out | apply bDrew | apply bAlloc)) hb1); clear hb1)
    go_ret2
    exact ⟨rfl, HW.out⟩
  · rw [ha] at hVa h
    have hb : qB b = false := by simpa using h
    rw [hb] at hVb
    clear ha hb h
    go_enter Try.func38, Try.ntmps38
    go_wp2_with (first
      | (go_at_call_of 23 (Value.agg #[.int .i64 a.n, .int .i64 a.d]); refine (hVa.out _).mono ?_; rintro e w1 ⟨rfl, hb1⟩; obtain ⟨HA, HB⟩ := two2 hb1; have HA := Lib.hid HA; have HB := Lib.hid HB; obtain ⟨⟨a0, a1⟩, -⟩ := cells2 HA.out; obtain ⟨⟨b0, b1⟩, -⟩ := cells2 HB.out;  replace HW := Lib.hid (bCall (by (repeat with_reducible first | exact HW.out | apply bDrew | apply bAlloc)) hb1); clear hb1)
      | (go_at_call 23; refine (hVb.out _).mono ?_; rintro e w2 ⟨rfl, hb2⟩; replace HA := Lib.hid (moveX (by (repeat with_reducible first | exact Below.refl _ _ | apply bDrew | apply bAlloc)) hb2 HA.out); replace HB := Lib.hid (moveX (by (repeat with_reducible first | exact Below.refl _ _ | apply bDrew | apply bAlloc)) hb2 HB.out); obtain ⟨⟨a0, a1⟩, -⟩ := cells2 HA.out; obtain ⟨⟨b0, b1⟩, -⟩ := cells2 HB.out;  replace HW := Lib.hid (bCall (by (repeat with_reducible first | exact HW.out | apply bDrew | apply bAlloc)) hb2); clear hb2))
    go_ret2
    exact ⟨rfl, HW.out⟩
set_option maxHeartbeats 1000000 in
set_option maxRecDepth 100000 in
theorem RCmp_bad (a b : Q)  (h : vvB a b = false) (w : World) : Calls Try.prog 22 #[qv a, qv b] w (VV (ir (0, 1)) w) := by
  have hVa := Lib.hid (RValid_any a)
  have hVb := Lib.hid (RValid_any b)
  have HW := Lib.hid (Below.refl w.heap.size w)
  unfold vvB at h
  rcases ha : qB a with _ | _
  · rw [ha] at hVa
    clear ha h hVb
    go_enter Try.func22, Try.ntmps22
    go_wp2_with (go_at_call_of 24 (Value.agg #[.int .i64 a.n, .int .i64 a.d]); refine (hVa.out _).mono ?_; rintro e w1 ⟨rfl, hb1⟩; obtain ⟨HA, HB⟩ := two2 hb1; have HA := Lib.hid HA; have HB := Lib.hid HB; obtain ⟨⟨a0, a1⟩, -⟩ := cells2 HA.out; obtain ⟨⟨b0, b1⟩, -⟩ := cells2 HB.out;  replace HW := Lib.hid (bCall (by (repeat with_reducible first | exact HW.out | apply bDrew | apply bAlloc)) hb1); clear hb1)
    go_ret2
    exact ⟨rfl, HW.out⟩
  · rw [ha] at hVa h
    have hb : qB b = false := by simpa using h
    rw [hb] at hVb
    clear ha hb h
    go_enter Try.func22, Try.ntmps22
    go_wp2_with (first
      | (go_at_call_of 24 (Value.agg #[.int .i64 a.n, .int .i64 a.d]); refine (hVa.out _).mono ?_; rintro e w1 ⟨rfl, hb1⟩; obtain ⟨HA, HB⟩ := two2 hb1; have HA := Lib.hid HA; have HB := Lib.hid HB; obtain ⟨⟨a0, a1⟩, -⟩ := cells2 HA.out; obtain ⟨⟨b0, b1⟩, -⟩ := cells2 HB.out;  replace HW := Lib.hid (bCall (by (repeat with_reducible first | exact HW.out | apply bDrew | apply bAlloc)) hb1); clear hb1)
      | (go_at_call 24; refine (hVb.out _).mono ?_; rintro e w2 ⟨rfl, hb2⟩; replace HA := Lib.hid (moveX (by (repeat with_reducible first | exact Below.refl _ _ | apply bDrew | apply bAlloc)) hb2 HA.out); replace HB := Lib.hid (moveX (by (repeat with_reducible first | exact Below.refl _ _ | apply bDrew | apply bAlloc)) hb2 HB.out); obtain ⟨⟨a0, a1⟩, -⟩ := cells2 HA.out; obtain ⟨⟨b0, b1⟩, -⟩ := cells2 HB.out;  replace HW := Lib.hid (bCall (by (repeat with_reducible first | exact HW.out | apply bDrew | apply bAlloc)) hb2); clear hb2))
    go_ret2
    exact ⟨rfl, HW.out⟩
set_option maxHeartbeats 1000000 in
set_option maxRecDepth 100000 in
theorem Cmp_cok (a b : Q) (x y : Nat) (ha : qB a = true) (hb : qB b = true) (w : World) (HX : w.heap[x]? = some (qb a)) (HY : w.heap[y]? = some (qb b)) : Calls Try.prog 38 #[qv a, qv b, .func (.func 39) #[] #[.pointer (some ⟨x, 0, none⟩), .pointer (some ⟨y, 0, none⟩)]] w (VV (ir (sgM (a.n * b.d) (b.n * a.d), 0)) w) := by
  have hVa := Lib.hid (Valid_any a)
  have hVb := Lib.hid (Valid_any b)
  have HW := Lib.hid (Below.refl w.heap.size w)
  have hC := Lib.hid (fun w1 h1 h2 => Cmp_1 a b ha hb x y w1 h1 h2)
  have HX := Lib.hid HX
  have HY := Lib.hid HY
  rw [ha] at hVa
  rw [hb] at hVb
  generalize sgM (a.n * b.d) (b.n * a.d) = r at *
  clear ha hb
  go_enter Try.func38, Try.ntmps38
  go_wp2_with (first
    | (go_at_call_of 23 (Value.agg #[.int .i64 a.n, .int .i64 a.d]); refine (hVa.out _).mono ?_; rintro e w1 ⟨rfl, hb1⟩; obtain ⟨HA, HB⟩ := two2 hb1; have HA := Lib.hid HA; have HB := Lib.hid HB; obtain ⟨⟨a0, a1⟩, -⟩ := cells2 HA.out; obtain ⟨⟨b0, b1⟩, -⟩ := cells2 HB.out; replace HX := Lib.hid (moveX (by (repeat with_reducible first | exact Below.refl _ _ | apply bDrew | apply bAlloc)) hb1 HX.out); replace HY := Lib.hid (moveX (by (repeat with_reducible first | exact Below.refl _ _ | apply bDrew | apply bAlloc)) hb1 HY.out); replace HW := Lib.hid (bCall (by (repeat with_reducible first | exact HW.out | apply bDrew | apply bAlloc)) hb1); clear hb1)
    | (go_at_call 23; refine (hVb.out _).mono ?_; rintro e w2 ⟨rfl, hb2⟩; replace HA := Lib.hid (moveX (by (repeat with_reducible first | exact Below.refl _ _ | apply bDrew | apply bAlloc)) hb2 HA.out); replace HB := Lib.hid (moveX (by (repeat with_reducible first | exact Below.refl _ _ | apply bDrew | apply bAlloc)) hb2 HB.out); obtain ⟨⟨a0, a1⟩, -⟩ := cells2 HA.out; obtain ⟨⟨b0, b1⟩, -⟩ := cells2 HB.out; replace HX := Lib.hid (moveX (by (repeat with_reducible first | exact Below.refl _ _ | apply bDrew | apply bAlloc)) hb2 HX.out); replace HY := Lib.hid (moveX (by (repeat with_reducible first | exact Below.refl _ _ | apply bDrew | apply bAlloc)) hb2 HY.out); replace HW := Lib.hid (bCall (by (repeat with_reducible first | exact HW.out | apply bDrew | apply bAlloc)) hb2); clear hb2)
    | (go_at_call 39; refine (hC.out _ HX.out HY.out).mono ?_; rintro e w3 ⟨rfl, rfl⟩))
  go_ret2
  exact ⟨rfl, HW.out⟩
theorem Cmp_c (a b : Q) (x y : Nat) (w : World) (HX : w.heap[x]? = some (qb a)) (HY : w.heap[y]? = some (qb b)) : Calls Try.prog 38 #[qv a, qv b, .func (.func 39) #[] #[.pointer (some ⟨x, 0, none⟩), .pointer (some ⟨y, 0, none⟩)]] w (VV (ir (cmpM a b)) w) := by
  rcases h : vvB a b with _ | _
  · have e : cmpM a b = (0, 1) := by unfold cmpM; rw [h]; rfl
    rw [e]; exact Cmp_cbad a b x y h w
  · obtain ⟨ha, hb⟩ := vvB_iff.1 h
    rw [cmp_v ha hb]
    exact Cmp_cok a b x y ha hb w HX HY
set_option maxHeartbeats 1000000 in
set_option maxRecDepth 100000 in
theorem Cmp_any (a b : Q) (w : World) : Calls Try.prog 21 #[qv a, qv b] w (VV (ir (cmpM a b)) w) := by
  have hC := Lib.hid (Cmp_c a b w.heap.size (w.heap.size + 1) ((w.alloc (qb a)).alloc (qb b)) (mvAlloc (newBlk _ _ _ rfl)) (newBlk _ _ _ (by simp)))
  generalize cmpM a b = r at *
  have HW := Lib.hid (Below.refl w.heap.size w)
  go_enter Try.func21, Try.ntmps21
  go_wp2_with (go_at_call 38; refine hC.out.mono ?_; rintro e w1 ⟨rfl, hb1⟩; replace HW := Lib.hid (bCall (by (repeat with_reducible first | exact HW.out | apply bDrew | apply bAlloc)) hb1); clear hb1)
  go_ret2
  exact ⟨rfl, HW.out⟩
set_option maxHeartbeats 1000000 in
set_option maxRecDepth 100000 in
theorem RCmp_ok (a b : Q) (ha : qB a = true) (hb : qB b = true) (w : World) : Calls Try.prog 22 #[qv a, qv b] w (VV (ir (sgM (a.n * b.d) (b.n * a.d), 0)) w) := by
  have hVa := Lib.hid (RValid_any a)
  have hVb := Lib.hid (RValid_any b)
  have HW := Lib.hid (Below.refl w.heap.size w)
  rw [ha] at hVa
  rw [hb] at hVb
  have b0 := pb (vd ha).1 (vd hb).2
  have q0 : IntKind.i64.wrap (a.n * b.d) = a.n * b.d := IntWalk.i64_in _ (by omega)
  have b1 := pb (vd hb).1 (vd ha).2
  have q1 : IntKind.i64.wrap (b.n * a.d) = b.n * a.d := IntWalk.i64_in _ (by omega)
  obtain ⟨p, hp⟩ : ∃ p, a.n * b.d = p := ⟨_, rfl⟩
  obtain ⟨q, hq⟩ : ∃ q, b.n * a.d = q := ⟨_, rfl⟩
  have q0 : IntKind.i64.wrap (a.n * b.d) = p := q0.trans hp
  have q1 : IntKind.i64.wrap (b.n * a.d) = q := q1.trans hq
  rw [hp, hq]
  clear ha hb b0 b1 hp hq
  go_enter Try.func22, Try.ntmps22
  go_wp2_with (first
    | (go_at_call_of 24 (Value.agg #[.int .i64 a.n, .int .i64 a.d]); refine (hVa.out _).mono ?_; rintro e w1 ⟨rfl, hb1⟩; obtain ⟨HA, HB⟩ := two2 hb1; have HA := Lib.hid HA; have HB := Lib.hid HB; obtain ⟨⟨a0, a1⟩, -⟩ := cells2 HA.out; obtain ⟨⟨b0, b1⟩, -⟩ := cells2 HB.out;  replace HW := Lib.hid (bCall (by (repeat with_reducible first | exact HW.out | apply bDrew | apply bAlloc)) hb1); clear hb1)
    | (go_at_call 24; refine (hVb.out _).mono ?_; rintro e w2 ⟨rfl, hb2⟩; replace HA := Lib.hid (moveX (by (repeat with_reducible first | exact Below.refl _ _ | apply bDrew | apply bAlloc)) hb2 HA.out); replace HB := Lib.hid (moveX (by (repeat with_reducible first | exact Below.refl _ _ | apply bDrew | apply bAlloc)) hb2 HB.out); obtain ⟨⟨a0, a1⟩, -⟩ := cells2 HA.out; obtain ⟨⟨b0, b1⟩, -⟩ := cells2 HB.out;  replace HW := Lib.hid (bCall (by (repeat with_reducible first | exact HW.out | apply bDrew | apply bAlloc)) hb2); clear hb2))
  all_goals go_ret2
  all_goals first
    | exact ⟨ret_ir (x := -1) (by unfold sgM; split <;> (try split) <;> omega), HW.out⟩
    | exact ⟨ret_ir (x := 1) (by unfold sgM; split <;> (try split) <;> omega), HW.out⟩
    | exact ⟨ret_ir (x := 0) (by unfold sgM; split <;> (try split) <;> omega), HW.out⟩
theorem RCmp_any (a b : Q) (w : World) : Calls Try.prog 22 #[qv a, qv b] w (VV (ir (cmpM a b)) w) := by
  rcases h : vvB a b with _ | _
  · have e : cmpM a b = (0, 1) := by unfold cmpM; rw [h]; rfl
    rw [e]; exact RCmp_bad a b h w
  · obtain ⟨ha, hb⟩ := vvB_iff.1 h
    rw [cmp_v ha hb]
    exact RCmp_ok a b ha hb w
def smal (s : Q) : Bool := qB s && decide (-10000 ≤ s.n) && decide (s.n ≤ 10000) && decide (s.d ≤ 10000)
theorem run_max2b (p q r : Int) (h : r = max p q) (ts : Array TypeId) (t : TypeId) (w : World) : (Builtin.max_ ts t #[.int .i64 p, .int .i64 q]).run Try.prog w = .ok (.int .i64 r) w := run_max2 p q r h ts t w
set_option maxHeartbeats 1000000 in
set_option maxRecDepth 100000 in
theorem small_any (s : Q) (w : World) : Calls Try.prog 25 #[qv s] w (BB (smal s) w) := by
  have hV := Lib.hid (RValid_any s)
  rcases hq : qB s with _ | _
  · rw [hq] at hV
    have e : smal s = false := by unfold smal; rw [hq]; rfl
    rw [e]
    clear e hq
    go_enter Try.func25, Try.ntmps25
    go_wp2_with (go_at_call 24; refine (hV.out _).mono ?_; rintro e w1 ⟨rfl, hb1⟩; have hb1 := Lib.hid hb1)
    go_ret
    exact ⟨rfl, bCall (bAlloc (Below.refl _ _)) hb1.out⟩
  · rw [hq] at hV
    have e : smal s = (decide (-10000 ≤ s.n) && decide (s.n ≤ 10000) && decide (s.d ≤ 10000)) := by unfold smal; rw [hq]; rfl
    rw [e]
    clear e hq
    go_enter Try.func25, Try.ntmps25
    go_wp2_with (go_at_call 24; refine (hV.out _).mono ?_; rintro e w1 ⟨rfl, hb1⟩; have HA := Lib.hid (moveC hb1 (newBlk w (qb s) _ rfl)); obtain ⟨⟨a0, a1⟩, -⟩ := cells2 HA.out; have hb1 := Lib.hid hb1)
    all_goals
      go_ret
      refine ⟨ret_bool ?_, bCall (bAlloc (Below.refl _ _)) hb1.out⟩
      rw [Bool.eq_iff_iff]
      simp [*]
    all_goals omega
set_option maxHeartbeats 1000000 in
set_option maxRecDepth 100000 in
theorem outside_any (n d : Int) (hn : Fit n) (hd : Fit d) (h0 : 0 < d) (w : World) : Calls Try.prog 26 #[.int .i64 n, .int .i64 d] w (SS (.bool (outB n d)) w) := by
  have qn : IntKind.i64.wrap (-n) = -n := IntWalk.i64_in _ (by unfold Fit at hn; omega)
  have hm : 0 ≤ max n (-n) ∧ Fit (max n (-n)) := by unfold Fit at *; omega
  have hg := gc_pos (n := n) (show d ≠ 0 by omega)
  have hD := Lib.hid (LDiv_any (max n (-n)) d hm.1 (by omega) hm.2 hd)
  have e : outB n d = (decide (1000000000 < (max n (-n)) / gc (max n (-n)) d) || decide (1000000000 < d / gc (max n (-n)) d)) := by
    unfold outB; rw [gc_abs, Int.max_eq_right hg]
  rw [e]
  rw [← gc_abs] at hg
  have b1 := Int.ediv_nonneg hm.1 (show 0 ≤ gc (max n (-n)) d by omega)
  have b2 := Int.ediv_le_self (gc (max n (-n)) d) hm.1
  have b3 := Int.ediv_nonneg (show 0 ≤ d by omega) (show 0 ≤ gc (max n (-n)) d by omega)
  have b4 := Int.ediv_le_self (gc (max n (-n)) d) (show 0 ≤ d by omega)
  have r1 := fun ts t w => run_max2 n (-n) (max n (-n)) rfl ts t w
  have q3 : (max n (-n)).tdiv (gc (max n (-n)) d) = max n (-n) / gc (max n (-n)) d := Int.tdiv_eq_ediv_of_nonneg hm.1
  have q4 : d.tdiv (gc (max n (-n)) d) = d / gc (max n (-n)) d := Int.tdiv_eq_ediv_of_nonneg (by omega)
  generalize max n (-n) = m at *
  generalize gc m d = g at *
  have r2 := fun ts t w => run_max2 1 g g (by omega) ts t w
  have hne : g ≠ 0 := by omega
  have q1 : IntKind.i64.wrap (m / g) = m / g := IntWalk.i64_in _ (by unfold Fit at hm; omega)
  have q2 : IntKind.i64.wrap (d / g) = d / g := IntWalk.i64_in _ (by unfold Fit at hd; omega)
  have q5 : IntKind.i64.wrap (m.tdiv g) = m / g := by rw [q3, q1]
  have q6 : IntKind.i64.wrap (d.tdiv g) = d / g := by rw [q4, q2]
  generalize m / g = u at *
  generalize d / g = v at *
  clear hn hd hm e hg b1 b2 b3 b4 q3 q4
  go_enter Try.func26, Try.ntmps26
  go_wp2_with (go_at_call 46; refine (hD.out _).mono ?_; rintro e w1 ⟨rfl, rfl⟩)
  all_goals
    go_ret
    exact ⟨ret_bool (by first | rfl | (rw [Bool.eq_iff_iff]; simp [*]; done) | (rw [Bool.eq_iff_iff]; simp [*]; omega)), rfl⟩
end Go.Proofs.Ytinmplilejnafaa
