/- Contracts: the operations of the reference, New and Cmp of both, small, outside. -/
import Derived.Test.YtbjhdfakocfapaaRaE
namespace Go.Proofs.Ytbjhdfakocfapaa
open Go.RowKit
set_option linter.unusedVariables false
set_option linter.unusedSimpArgs false
theorem ret_ir {x y : Int} (h : x = y) : Ending.returned (ir (x, 0)) = .returned (ir (y, 0)) := by rw [h]
theorem RRed_any (n d : Int) (hn : Fit n) (hd : Fit d) (h0 : d ≠ 0) (w : World) : Calls Try.prog 76 #[.int .i64 n, .int .i64 d] w (VV (qr (redM n d)) w) := by
  by_cases hs : d < 0
  · exact RRed_m n d hn hd h0 hs w
  · exact RRed_p n d hn hd h0 hs w
set_option maxHeartbeats 1000000 in
set_option maxRecDepth 100000 in
theorem RAdd_bad (a b : Q) (h : vvB a b = false) (w : World) : Calls Try.prog 43 #[qv a, qv b] w (VV (qr (⟨0, 0⟩, 1)) w) := by
  have hVa := Lib.hid (RValid_any a)
  have hVb := Lib.hid (RValid_any b)
  have HW := Lib.hid (Below.refl w.heap.size w)
  unfold vvB at h
  rcases ha : qB a with _ | _
  · rw [ha] at hVa
    clear ha h hVb
    go_enter Try.func43, Try.ntmps43
    go_wp2_with (go_at_call_of 35 (Value.agg #[.int .i64 a.n, .int .i64 a.d]); refine (hVa.out _).mono ?_; rintro e w1 ⟨rfl, hb1⟩; obtain ⟨HA, HB, HR⟩ := three2 hb1; have HA := Lib.hid HA; have HB := Lib.hid HB; have HR := Lib.hid HR; obtain ⟨⟨a0, a1⟩, -⟩ := cells2 HA.out; obtain ⟨⟨b0, b1⟩, -⟩ := cells2 HB.out; obtain ⟨⟨r0, r1⟩, r2, r3⟩ := cells2 HR.out; have hl := blkLt HR.out; replace HW := Lib.hid (bCall (by (repeat with_reducible first | exact HW.out | apply bDrew | apply bAlloc)) hb1); clear hb1)
    exact bodyPost_ret (v := qr (⟨0, 0⟩, 1)) (by simp [results, Try.results43, go_sem, (res2 HR.out).2.1, (res2 HR.out).2.2]) rfl ⟨rfl, below2 HW.out (by omega)⟩
  · rw [ha] at hVa h
    have hb : qB b = false := by simpa using h
    rw [hb] at hVb
    clear ha hb h
    go_enter Try.func43, Try.ntmps43
    go_wp2_with (first
      | (go_at_call_of 35 (Value.agg #[.int .i64 a.n, .int .i64 a.d]); refine (hVa.out _).mono ?_; rintro e w1 ⟨rfl, hb1⟩; obtain ⟨HA, HB, HR⟩ := three2 hb1; have HA := Lib.hid HA; have HB := Lib.hid HB; have HR := Lib.hid HR; obtain ⟨⟨a0, a1⟩, -⟩ := cells2 HA.out; obtain ⟨⟨b0, b1⟩, -⟩ := cells2 HB.out; obtain ⟨⟨r0, r1⟩, r2, r3⟩ := cells2 HR.out; have hl := blkLt HR.out; replace HW := Lib.hid (bCall (by (repeat with_reducible first | exact HW.out | apply bDrew | apply bAlloc)) hb1); clear hb1)
      | (go_at_call 35; refine (hVb.out _).mono ?_; rintro e w2 ⟨rfl, hb2⟩; replace HA := Lib.hid (moveX (by (repeat with_reducible first | exact Below.refl _ _ | apply bDrew | apply bAlloc)) hb2 HA.out); replace HB := Lib.hid (moveX (by (repeat with_reducible first | exact Below.refl _ _ | apply bDrew | apply bAlloc)) hb2 HB.out); replace HR := Lib.hid (moveX (by (repeat with_reducible first | exact Below.refl _ _ | apply bDrew | apply bAlloc)) hb2 HR.out); obtain ⟨⟨a0, a1⟩, -⟩ := cells2 HA.out; obtain ⟨⟨b0, b1⟩, -⟩ := cells2 HB.out; obtain ⟨⟨r0, r1⟩, r2, r3⟩ := cells2 HR.out; have hl := blkLt HR.out; replace HW := Lib.hid (bCall (by (repeat with_reducible first | exact HW.out | apply bDrew | apply bAlloc)) hb2); clear hb2))
    exact bodyPost_ret (v := qr (⟨0, 0⟩, 1)) (by simp [results, Try.results43, go_sem, (res2 HR.out).2.1, (res2 HR.out).2.2]) rfl ⟨rfl, below2 HW.out (by omega)⟩
set_option maxHeartbeats 1000000 in
set_option maxRecDepth 100000 in
theorem RAdd_ok (a b : Q) (ha : qB a = true) (hb : qB b = true) (w : World) : Calls Try.prog 43 #[qv a, qv b] w (VV (qr (redM (a.n * b.d + b.n * a.d) (a.d * b.d))) w) := by
  have hVa := Lib.hid (RValid_any a)
  have hVb := Lib.hid (RValid_any b)
  rw [ha] at hVa
  rw [hb] at hVb
  have HW := Lib.hid (Below.refl w.heap.size w)
  have b0 := pb (vd ha).1 (vd hb).2
  have q0 : IntKind.i64.wrap (a.n * b.d) = a.n * b.d := IntWalk.i64_in _ (by omega)
  have b1 := pb (vd hb).1 (vd ha).2
  have q1 : IntKind.i64.wrap (b.n * a.d) = b.n * a.d := IntWalk.i64_in _ (by omega)
  have b2 := pb (vd ha).2 (vd hb).2
  have q2 : IntKind.i64.wrap (a.d * b.d) = a.d * b.d := IntWalk.i64_in _ (by omega)
  have qs : IntKind.i64.wrap (a.n * b.d + b.n * a.d) = a.n * b.d + b.n * a.d := IntWalk.i64_in _ (by omega)
  have hf : Fit (a.n * b.d + b.n * a.d) ∧ Fit (a.d * b.d) := by unfold Fit; omega
  have hR := Lib.hid (RRed_any (a.n * b.d + b.n * a.d) (a.d * b.d) hf.1 hf.2 (mul_ne (qB_d ha) (qB_d hb)))
  generalize redM (a.n * b.d + b.n * a.d) (a.d * b.d) = r at *
  clear hf ha hb b0 b1 b2
  go_enter Try.func43, Try.ntmps43
  go_wp2_with (first
    | (go_at_call_of 35 (Value.agg #[.int .i64 a.n, .int .i64 a.d]); refine (hVa.out _).mono ?_; rintro e w1 ⟨rfl, hb1⟩; obtain ⟨HA, HB, HR⟩ := three2 hb1; have HA := Lib.hid HA; have HB := Lib.hid HB; have HR := Lib.hid HR; obtain ⟨⟨a0, a1⟩, -⟩ := cells2 HA.out; obtain ⟨⟨b0, b1⟩, -⟩ := cells2 HB.out; obtain ⟨⟨r0, r1⟩, r2, r3⟩ := cells2 HR.out; have hl := blkLt HR.out; replace HW := Lib.hid (bCall (by (repeat with_reducible first | exact HW.out | apply bDrew | apply bAlloc)) hb1); clear hb1)
    | (go_at_call 35; refine (hVb.out _).mono ?_; rintro e w2 ⟨rfl, hb2⟩; replace HA := Lib.hid (moveX (by (repeat with_reducible first | exact Below.refl _ _ | apply bDrew | apply bAlloc)) hb2 HA.out); replace HB := Lib.hid (moveX (by (repeat with_reducible first | exact Below.refl _ _ | apply bDrew | apply bAlloc)) hb2 HB.out); replace HR := Lib.hid (moveX (by (repeat with_reducible first | exact Below.refl _ _ | apply bDrew | apply bAlloc)) hb2 HR.out); obtain ⟨⟨a0, a1⟩, -⟩ := cells2 HA.out; obtain ⟨⟨b0, b1⟩, -⟩ := cells2 HB.out; obtain ⟨⟨r0, r1⟩, r2, r3⟩ := cells2 HR.out; have hl := blkLt HR.out; replace HW := Lib.hid (bCall (by (repeat with_reducible first | exact HW.out | apply bDrew | apply bAlloc)) hb2); clear hb2)
    | (go_at_call 76; refine (hR.out _).mono ?_; rintro e w3 ⟨rfl, hb3⟩; replace HR := Lib.hid (moveX (by (repeat with_reducible first | exact Below.refl _ _ | apply bDrew | apply bAlloc)) hb3 HR.out); obtain ⟨⟨r0, r1⟩, r2, r3⟩ := cells2 HR.out; have hl := blkLt HR.out; replace HW := Lib.hid (bCall (by (repeat with_reducible first | exact HW.out | apply bDrew | apply bAlloc)) hb3); clear hb3))
  exact bodyPost_ret (v := qr r) (by simp [results, Try.results43, go_sem, (res2 HR.out).2.1, (res2 HR.out).2.2]) rfl ⟨rfl, below2 HW.out (by omega)⟩
theorem RAdd_any (a b : Q) (w : World) : Calls Try.prog 43 #[qv a, qv b] w (VV (qr (addM a b)) w) := by
  rcases h : vvB a b with _ | _
  · have e : addM a b = (⟨0, 0⟩, 1) := by unfold addM; rw [h]; rfl
    rw [e]; exact RAdd_bad a b h w
  · have e : addM a b = redM (a.n * b.d + b.n * a.d) (a.d * b.d) := by unfold addM; rw [h]; rfl
    obtain ⟨ha, hb⟩ := vvB_iff.1 h
    rw [e]; exact RAdd_ok a b ha hb w
set_option maxHeartbeats 1000000 in
set_option maxRecDepth 100000 in
theorem RSub_bad (a b : Q) (h : vvB a b = false) (w : World) : Calls Try.prog 47 #[qv a, qv b] w (VV (qr (⟨0, 0⟩, 1)) w) := by
  have hVa := Lib.hid (RValid_any a)
  have hVb := Lib.hid (RValid_any b)
  have HW := Lib.hid (Below.refl w.heap.size w)
  unfold vvB at h
  rcases ha : qB a with _ | _
  · rw [ha] at hVa
    clear ha h hVb
    go_enter Try.func47, Try.ntmps47
    go_wp2_with (go_at_call_of 35 (Value.agg #[.int .i64 a.n, .int .i64 a.d]); refine (hVa.out _).mono ?_; rintro e w1 ⟨rfl, hb1⟩; obtain ⟨HA, HB, HR⟩ := three2 hb1; have HA := Lib.hid HA; have HB := Lib.hid HB; have HR := Lib.hid HR; obtain ⟨⟨a0, a1⟩, -⟩ := cells2 HA.out; obtain ⟨⟨b0, b1⟩, -⟩ := cells2 HB.out; obtain ⟨⟨r0, r1⟩, r2, r3⟩ := cells2 HR.out; have hl := blkLt HR.out; replace HW := Lib.hid (bCall (by (repeat with_reducible first | exact HW.out | apply bDrew | apply bAlloc)) hb1); clear hb1)
    exact bodyPost_ret (v := qr (⟨0, 0⟩, 1)) (by simp [results, Try.results47, go_sem, (res2 HR.out).2.1, (res2 HR.out).2.2]) rfl ⟨rfl, below2 HW.out (by omega)⟩
  · rw [ha] at hVa h
    have hb : qB b = false := by simpa using h
    rw [hb] at hVb
    clear ha hb h
    go_enter Try.func47, Try.ntmps47
    go_wp2_with (first
      | (go_at_call_of 35 (Value.agg #[.int .i64 a.n, .int .i64 a.d]); refine (hVa.out _).mono ?_; rintro e w1 ⟨rfl, hb1⟩; obtain ⟨HA, HB, HR⟩ := three2 hb1; have HA := Lib.hid HA; have HB := Lib.hid HB; have HR := Lib.hid HR; obtain ⟨⟨a0, a1⟩, -⟩ := cells2 HA.out; obtain ⟨⟨b0, b1⟩, -⟩ := cells2 HB.out; obtain ⟨⟨r0, r1⟩, r2, r3⟩ := cells2 HR.out; have hl := blkLt HR.out; replace HW := Lib.hid (bCall (by (repeat with_reducible first | exact HW.out | apply bDrew | apply bAlloc)) hb1); clear hb1)
      | (go_at_call 35; refine (hVb.out _).mono ?_; rintro e w2 ⟨rfl, hb2⟩; replace HA := Lib.hid (moveX (by (repeat with_reducible first | exact Below.refl _ _ | apply bDrew | apply bAlloc)) hb2 HA.out); replace HB := Lib.hid (moveX (by (repeat with_reducible first | exact Below.refl _ _ | apply bDrew | apply bAlloc)) hb2 HB.out); replace HR := Lib.hid (moveX (by (repeat with_reducible first | exact Below.refl _ _ | apply bDrew | apply bAlloc)) hb2 HR.out); obtain ⟨⟨a0, a1⟩, -⟩ := cells2 HA.out; obtain ⟨⟨b0, b1⟩, -⟩ := cells2 HB.out; obtain ⟨⟨r0, r1⟩, r2, r3⟩ := cells2 HR.out; have hl := blkLt HR.out; replace HW := Lib.hid (bCall (by (repeat with_reducible first | exact HW.out | apply bDrew | apply bAlloc)) hb2); clear hb2))
    exact bodyPost_ret (v := qr (⟨0, 0⟩, 1)) (by simp [results, Try.results47, go_sem, (res2 HR.out).2.1, (res2 HR.out).2.2]) rfl ⟨rfl, below2 HW.out (by omega)⟩
set_option maxHeartbeats 1000000 in
set_option maxRecDepth 100000 in
theorem RSub_ok (a b : Q) (ha : qB a = true) (hb : qB b = true) (w : World) : Calls Try.prog 47 #[qv a, qv b] w (VV (qr (redM (a.n * b.d - b.n * a.d) (a.d * b.d))) w) := by
  have hVa := Lib.hid (RValid_any a)
  have hVb := Lib.hid (RValid_any b)
  rw [ha] at hVa
  rw [hb] at hVb
  have HW := Lib.hid (Below.refl w.heap.size w)
  have b0 := pb (vd ha).1 (vd hb).2
  have q0 : IntKind.i64.wrap (a.n * b.d) = a.n * b.d := IntWalk.i64_in _ (by omega)
  have b1 := pb (vd hb).1 (vd ha).2
  have q1 : IntKind.i64.wrap (b.n * a.d) = b.n * a.d := IntWalk.i64_in _ (by omega)
  have b2 := pb (vd ha).2 (vd hb).2
  have q2 : IntKind.i64.wrap (a.d * b.d) = a.d * b.d := IntWalk.i64_in _ (by omega)
  have qs : IntKind.i64.wrap (a.n * b.d - b.n * a.d) = a.n * b.d - b.n * a.d := IntWalk.i64_in _ (by omega)
  have hf : Fit (a.n * b.d - b.n * a.d) ∧ Fit (a.d * b.d) := by unfold Fit; omega
  have hR := Lib.hid (RRed_any (a.n * b.d - b.n * a.d) (a.d * b.d) hf.1 hf.2 (mul_ne (qB_d ha) (qB_d hb)))
  generalize redM (a.n * b.d - b.n * a.d) (a.d * b.d) = r at *
  clear hf ha hb b0 b1 b2
  go_enter Try.func47, Try.ntmps47
  go_wp2_with (first
    | (go_at_call_of 35 (Value.agg #[.int .i64 a.n, .int .i64 a.d]); refine (hVa.out _).mono ?_; rintro e w1 ⟨rfl, hb1⟩; obtain ⟨HA, HB, HR⟩ := three2 hb1; have HA := Lib.hid HA; have HB := Lib.hid HB; have HR := Lib.hid HR; obtain ⟨⟨a0, a1⟩, -⟩ := cells2 HA.out; obtain ⟨⟨b0, b1⟩, -⟩ := cells2 HB.out; obtain ⟨⟨r0, r1⟩, r2, r3⟩ := cells2 HR.out; have hl := blkLt HR.out; replace HW := Lib.hid (bCall (by (repeat with_reducible first | exact HW.out | apply bDrew | apply bAlloc)) hb1); clear hb1)
    | (go_at_call 35; refine (hVb.out _).mono ?_; rintro e w2 ⟨rfl, hb2⟩; replace HA := Lib.hid (moveX (by (repeat with_reducible first | exact Below.refl _ _ | apply bDrew | apply bAlloc)) hb2 HA.out); replace HB := Lib.hid (moveX (by (repeat with_reducible first | exact Below.refl _ _ | apply bDrew | apply bAlloc)) hb2 HB.out); replace HR := Lib.hid (moveX (by (repeat with_reducible first | exact Below.refl _ _ | apply bDrew | apply bAlloc)) hb2 HR.out); obtain ⟨⟨a0, a1⟩, -⟩ := cells2 HA.out; obtain ⟨⟨b0, b1⟩, -⟩ := cells2 HB.out; obtain ⟨⟨r0, r1⟩, r2, r3⟩ := cells2 HR.out; have hl := blkLt HR.out; replace HW := Lib.hid (bCall (by (repeat with_reducible first | exact HW.out | apply bDrew | apply bAlloc)) hb2); clear hb2)
    | (go_at_call 76; refine (hR.out _).mono ?_; rintro e w3 ⟨rfl, hb3⟩; replace HR := Lib.hid (moveX (by (repeat with_reducible first | exact Below.refl _ _ | apply bDrew | apply bAlloc)) hb3 HR.out); obtain ⟨⟨r0, r1⟩, r2, r3⟩ := cells2 HR.out; have hl := blkLt HR.out; replace HW := Lib.hid (bCall (by (repeat with_reducible first | exact HW.out | apply bDrew | apply bAlloc)) hb3); clear hb3))
  exact bodyPost_ret (v := qr r) (by simp [results, Try.results47, go_sem, (res2 HR.out).2.1, (res2 HR.out).2.2]) rfl ⟨rfl, below2 HW.out (by omega)⟩
theorem RSub_any (a b : Q) (w : World) : Calls Try.prog 47 #[qv a, qv b] w (VV (qr (subM a b)) w) := by
  rcases h : vvB a b with _ | _
  · have e : subM a b = (⟨0, 0⟩, 1) := by unfold subM; rw [h]; rfl
    rw [e]; exact RSub_bad a b h w
  · have e : subM a b = redM (a.n * b.d - b.n * a.d) (a.d * b.d) := by unfold subM; rw [h]; rfl
    obtain ⟨ha, hb⟩ := vvB_iff.1 h
    rw [e]; exact RSub_ok a b ha hb w
set_option maxHeartbeats 1000000 in
set_option maxRecDepth 100000 in
theorem RDiv_bad (a b : Q) (h : vvB a b = false) (w : World) : Calls Try.prog 48 #[qv a, qv b] w (VV (qr (⟨0, 0⟩, 1)) w) := by
  have hVa := Lib.hid (RValid_any a)
  have hVb := Lib.hid (RValid_any b)
  have HW := Lib.hid (Below.refl w.heap.size w)
  unfold vvB at h
  rcases ha : qB a with _ | _
  · rw [ha] at hVa
    clear ha h hVb
    go_enter Try.func48, Try.ntmps48
    go_wp2_with (go_at_call_of 35 (Value.agg #[.int .i64 a.n, .int .i64 a.d]); refine (hVa.out _).mono ?_; rintro e w1 ⟨rfl, hb1⟩; obtain ⟨HA, HB, HR⟩ := three2 hb1; have HA := Lib.hid HA; have HB := Lib.hid HB; have HR := Lib.hid HR; obtain ⟨⟨a0, a1⟩, -⟩ := cells2 HA.out; obtain ⟨⟨b0, b1⟩, -⟩ := cells2 HB.out; obtain ⟨⟨r0, r1⟩, r2, r3⟩ := cells2 HR.out; have hl := blkLt HR.out; replace HW := Lib.hid (bCall (by (repeat with_reducible first | exact HW.out | apply bDrew | apply bAlloc)) hb1); clear hb1)
    exact bodyPost_ret (v := qr (⟨0, 0⟩, 1)) (by simp [results, Try.results48, go_sem, (res2 HR.out).2.1, (res2 HR.out).2.2]) rfl ⟨rfl, below2 HW.out (by omega)⟩
  · rw [ha] at hVa h
    have hb : qB b = false := by simpa using h
    rw [hb] at hVb
    clear ha hb h
    go_enter Try.func48, Try.ntmps48
    go_wp2_with (first
      | (go_at_call_of 35 (Value.agg #[.int .i64 a.n, .int .i64 a.d]); refine (hVa.out _).mono ?_; rintro e w1 ⟨rfl, hb1⟩; obtain ⟨HA, HB, HR⟩ := three2 hb1; have HA := Lib.hid HA; have HB := Lib.hid HB; have HR := Lib.hid HR; obtain ⟨⟨a0, a1⟩, -⟩ := cells2 HA.out; obtain ⟨⟨b0, b1⟩, -⟩ := cells2 HB.out; obtain ⟨⟨r0, r1⟩, r2, r3⟩ := cells2 HR.out; have hl := blkLt HR.out; replace HW := Lib.hid (bCall (by (repeat with_reducible first | exact HW.out | apply bDrew | apply bAlloc)) hb1); clear hb1)
      | (go_at_call 35; refine (hVb.out _).mono ?_; rintro e w2 ⟨rfl, hb2⟩; replace HA := Lib.hid (moveX (by (repeat with_reducible first | exact Below.refl _ _ | apply bDrew | apply bAlloc)) hb2 HA.out); replace HB := Lib.hid (moveX (by (repeat with_reducible first | exact Below.refl _ _ | apply bDrew | apply bAlloc)) hb2 HB.out); replace HR := Lib.hid (moveX (by (repeat with_reducible first | exact Below.refl _ _ | apply bDrew | apply bAlloc)) hb2 HR.out); obtain ⟨⟨a0, a1⟩, -⟩ := cells2 HA.out; obtain ⟨⟨b0, b1⟩, -⟩ := cells2 HB.out; obtain ⟨⟨r0, r1⟩, r2, r3⟩ := cells2 HR.out; have hl := blkLt HR.out; replace HW := Lib.hid (bCall (by (repeat with_reducible first | exact HW.out | apply bDrew | apply bAlloc)) hb2); clear hb2))
    exact bodyPost_ret (v := qr (⟨0, 0⟩, 1)) (by simp [results, Try.results48, go_sem, (res2 HR.out).2.1, (res2 HR.out).2.2]) rfl ⟨rfl, below2 HW.out (by omega)⟩
set_option maxHeartbeats 1000000 in
set_option maxRecDepth 100000 in
theorem RDiv_0 (a b : Q) (ha : qB a = true) (hb : qB b = true) (h0 : b.n = 0) (w : World) : Calls Try.prog 48 #[qv a, qv b] w (VV (qr (⟨0, 0⟩, 14)) w) := by
  have hVa := Lib.hid (RValid_any a)
  have hVb := Lib.hid (RValid_any b)
  rw [ha] at hVa
  rw [hb] at hVb
  have HW := Lib.hid (Below.refl w.heap.size w)
  clear ha hb
  obtain ⟨bn, bd⟩ := b
  simp only at h0
  subst h0
  go_enter Try.func48, Try.ntmps48
  go_wp2_with (first
    | (go_at_call_of 35 (Value.agg #[.int .i64 a.n, .int .i64 a.d]); refine (hVa.out _).mono ?_; rintro e w1 ⟨rfl, hb1⟩; obtain ⟨HA, HB, HR⟩ := three2 hb1; have HA := Lib.hid HA; have HB := Lib.hid HB; have HR := Lib.hid HR; obtain ⟨⟨a0, a1⟩, -⟩ := cells2 HA.out; obtain ⟨⟨b0, b1⟩, -⟩ := cells2 HB.out; obtain ⟨⟨r0, r1⟩, r2, r3⟩ := cells2 HR.out; have hl := blkLt HR.out; replace HW := Lib.hid (bCall (by (repeat with_reducible first | exact HW.out | apply bDrew | apply bAlloc)) hb1); clear hb1)
    | (go_at_call 35; refine (hVb.out _).mono ?_; rintro e w2 ⟨rfl, hb2⟩; replace HA := Lib.hid (moveX (by (repeat with_reducible first | exact Below.refl _ _ | apply bDrew | apply bAlloc)) hb2 HA.out); replace HB := Lib.hid (moveX (by (repeat with_reducible first | exact Below.refl _ _ | apply bDrew | apply bAlloc)) hb2 HB.out); replace HR := Lib.hid (moveX (by (repeat with_reducible first | exact Below.refl _ _ | apply bDrew | apply bAlloc)) hb2 HR.out); obtain ⟨⟨a0, a1⟩, -⟩ := cells2 HA.out; obtain ⟨⟨b0, b1⟩, -⟩ := cells2 HB.out; obtain ⟨⟨r0, r1⟩, r2, r3⟩ := cells2 HR.out; have hl := blkLt HR.out; replace HW := Lib.hid (bCall (by (repeat with_reducible first | exact HW.out | apply bDrew | apply bAlloc)) hb2); clear hb2))
  exact bodyPost_ret (v := qr (⟨0, 0⟩, 14)) (by simp [results, Try.results48, go_sem, (res2 HR.out).2.1, (res2 HR.out).2.2]) rfl ⟨rfl, below2 HW.out (by omega)⟩
set_option maxHeartbeats 1000000 in
set_option maxRecDepth 100000 in
theorem RDiv_ok (a b : Q) (ha : qB a = true) (hb : qB b = true) (h0 : b.n ≠ 0) (w : World) : Calls Try.prog 48 #[qv a, qv b] w (VV (qr (redM (a.n * b.d) (a.d * b.n))) w) := by
  have hVa := Lib.hid (RValid_any a)
  have hVb := Lib.hid (RValid_any b)
  rw [ha] at hVa
  rw [hb] at hVb
  have HW := Lib.hid (Below.refl w.heap.size w)
  have b0 := pb (vd ha).1 (vd hb).2
  have q0 : IntKind.i64.wrap (a.n * b.d) = a.n * b.d := IntWalk.i64_in _ (by omega)
  have b1 := pb (vd ha).2 (vd hb).1
  have q1 : IntKind.i64.wrap (a.d * b.n) = a.d * b.n := IntWalk.i64_in _ (by omega)
  have hf : Fit (a.n * b.d) ∧ Fit (a.d * b.n) := by unfold Fit; omega
  have hR := Lib.hid (RRed_any (a.n * b.d) (a.d * b.n) hf.1 hf.2 (mul_ne (qB_d ha) h0))
  generalize redM (a.n * b.d) (a.d * b.n) = r at *
  clear hf ha hb b0 b1
  go_enter Try.func48, Try.ntmps48
  go_wp2_with (first
    | (go_at_call_of 35 (Value.agg #[.int .i64 a.n, .int .i64 a.d]); refine (hVa.out _).mono ?_; rintro e w1 ⟨rfl, hb1⟩; obtain ⟨HA, HB, HR⟩ := three2 hb1; have HA := Lib.hid HA; have HB := Lib.hid HB; have HR := Lib.hid HR; obtain ⟨⟨a0, a1⟩, -⟩ := cells2 HA.out; obtain ⟨⟨b0, b1⟩, -⟩ := cells2 HB.out; obtain ⟨⟨r0, r1⟩, r2, r3⟩ := cells2 HR.out; have hl := blkLt HR.out; replace HW := Lib.hid (bCall (by (repeat with_reducible first | exact HW.out | apply bDrew | apply bAlloc)) hb1); clear hb1)
    | (go_at_call 35; refine (hVb.out _).mono ?_; rintro e w2 ⟨rfl, hb2⟩; replace HA := Lib.hid (moveX (by (repeat with_reducible first | exact Below.refl _ _ | apply bDrew | apply bAlloc)) hb2 HA.out); replace HB := Lib.hid (moveX (by (repeat with_reducible first | exact Below.refl _ _ | apply bDrew | apply bAlloc)) hb2 HB.out); replace HR := Lib.hid (moveX (by (repeat with_reducible first | exact Below.refl _ _ | apply bDrew | apply bAlloc)) hb2 HR.out); obtain ⟨⟨a0, a1⟩, -⟩ := cells2 HA.out; obtain ⟨⟨b0, b1⟩, -⟩ := cells2 HB.out; obtain ⟨⟨r0, r1⟩, r2, r3⟩ := cells2 HR.out; have hl := blkLt HR.out; replace HW := Lib.hid (bCall (by (repeat with_reducible first | exact HW.out | apply bDrew | apply bAlloc)) hb2); clear hb2)
    | (go_at_call 76; refine (hR.out _).mono ?_; rintro e w3 ⟨rfl, hb3⟩; replace HR := Lib.hid (moveX (by (repeat with_reducible first | exact Below.refl _ _ | apply bDrew | apply bAlloc)) hb3 HR.out); obtain ⟨⟨r0, r1⟩, r2, r3⟩ := cells2 HR.out; have hl := blkLt HR.out; replace HW := Lib.hid (bCall (by (repeat with_reducible first | exact HW.out | apply bDrew | apply bAlloc)) hb3); clear hb3))
  exact bodyPost_ret (v := qr r) (by simp [results, Try.results48, go_sem, (res2 HR.out).2.1, (res2 HR.out).2.2]) rfl ⟨rfl, below2 HW.out (by omega)⟩
theorem RDiv_any (a b : Q) (w : World) : Calls Try.prog 48 #[qv a, qv b] w (VV (qr (divM a b)) w) := by
  rcases h : vvB a b with _ | _
  · have e : divM a b = (⟨0, 0⟩, 1) := by unfold divM; rw [h]; rfl
    rw [e]; exact RDiv_bad a b h w
  · have e : divM a b = redM (a.n * b.d) (a.d * b.n) := by unfold divM; rw [h]; rfl
    obtain ⟨ha, hb⟩ := vvB_iff.1 h
    by_cases h0 : b.n = 0
    · rw [div_0 ha hb h0]; exact RDiv_0 a b ha hb h0 w
    · rw [e]; exact RDiv_ok a b ha hb h0 w
set_option maxHeartbeats 1000000 in
set_option maxRecDepth 100000 in
theorem Cmp_1 (a b : Q) (ha : qB a = true) (hb : qB b = true) (x y : Nat) (w : World) (HX : w.heap[x]? = some (qb a)) (HY : w.heap[y]? = some (qb b)) :
    Calls Try.prog 100 #[.pointer (some ⟨x, 0, none⟩), .pointer (some ⟨y, 0, none⟩)] w (SS (ir (sgM (a.n * b.d) (b.n * a.d), 0)) w) := by
  have b0 := pb (vd ha).1 (vd hb).2
  have q0 : IntKind.i64.wrap (a.n * b.d) = a.n * b.d := IntWalk.i64_in _ (by omega)
  have b1 := pb (vd hb).1 (vd ha).2
  have q1 : IntKind.i64.wrap (b.n * a.d) = b.n * a.d := IntWalk.i64_in _ (by omega)
  have hC := Lib.hid (compare_any (a.n * b.d) (b.n * a.d))
  generalize sgM (a.n * b.d) (b.n * a.d) = r at *
  obtain ⟨⟨a0, a1⟩, -⟩ := cells2 HX
  obtain ⟨⟨b2, b3⟩, -⟩ := cells2 HY
  clear ha hb HX HY b0 b1
  go_enter Try.func100, Try.ntmps100
  go_wp2_with (go_at_call 101; refine (hC.out _).mono ?_; rintro e w1 ⟨rfl, rfl⟩)
  go_ret2
  exact ⟨rfl, rfl⟩
set_option maxHeartbeats 1000000 in
set_option maxRecDepth 100000 in
theorem Cmp_cbad (a b : Q) (x y : Nat) (h : vvB a b = false) (w : World) : Calls Try.prog 99 #[qv a, qv b, .func (.func 100) #[] #[.pointer (some ⟨x, 0, none⟩), .pointer (some ⟨y, 0, none⟩)]] w (VV (ir (0, 1)) w) := by
  have hVa := Lib.hid (Valid_any a)
  have hVb := Lib.hid (Valid_any b)
  have HW := Lib.hid (Below.refl w.heap.size w)
  unfold vvB at h
  rcases ha : qB a with _ | _
  · rw [ha] at hVa
    clear ha h hVb
    go_enter Try.func99, Try.ntmps99
    go_wp2_with (go_at_call_of 49 (Value.agg #[.int .i64 a.n, .int .i64 a.d]); refine (hVa.out _).mono ?_; rintro e w1 ⟨rfl, hb1⟩; obtain ⟨HA, HB⟩ := two2 hb1; have HA := Lib.hid HA; have HB := Lib.hid HB; obtain ⟨⟨a0, a1⟩, -⟩ := cells2 HA.out; obtain ⟨⟨b0, b1⟩, -⟩ := cells2 HB.out;  replace HW := Lib.hid (bCall (by (repeat with_reducible first | exact HW.out | apply bDrew | apply bAlloc)) hb1); clear hb1)
    go_ret2
    exact ⟨rfl, HW.out⟩
  · rw [ha] at hVa h
    have hb : qB b = false := by simpa using h
    rw [hb] at hVb
    clear ha hb h
    go_enter Try.func99, Try.ntmps99
    go_wp2_with (first
      | (go_at_call_of 49 (Value.agg #[.int .i64 a.n, .int .i64 a.d]); refine (hVa.out _).mono ?_; rintro e w1 ⟨rfl, hb1⟩; obtain ⟨HA, HB⟩ := two2 hb1; have HA := Lib.hid HA; have HB := Lib.hid HB; obtain ⟨⟨a0, a1⟩, -⟩ := cells2 HA.out; obtain ⟨⟨b0, b1⟩, -⟩ := cells2 HB.out;  replace HW := Lib.hid (bCall (by (repeat with_reducible first | exact HW.out | apply bDrew | apply bAlloc)) hb1); clear hb1)
      | (go_at_call 49; refine (hVb.out _).mono ?_; rintro e w2 ⟨rfl, hb2⟩; replace HA := Lib.hid (moveX (by (repeat with_reducible first | exact Below.refl _ _ | apply bDrew | apply bAlloc)) hb2 HA.out); replace HB := Lib.hid (moveX (by (repeat with_reducible first | exact Below.refl _ _ | apply bDrew | apply bAlloc)) hb2 HB.out); obtain ⟨⟨a0, a1⟩, -⟩ := cells2 HA.out; obtain ⟨⟨b0, b1⟩, -⟩ := cells2 HB.out;  replace HW := Lib.hid (bCall (by (repeat with_reducible first | exact HW.out | apply bDrew | apply bAlloc)) hb2); clear hb2))
    go_ret2
    exact ⟨rfl, HW.out⟩
set_option maxHeartbeats 1000000 in
set_option maxRecDepth 100000 in
theorem RCmp_bad (a b : Q)  (h : vvB a b = false) (w : World) : Calls Try.prog 23 #[qv a, qv b] w (VV (ir (0, 1)) w) := by
  have hVa := Lib.hid (RValid_any a)
  have hVb := Lib.hid (RValid_any b)
  have HW := Lib.hid (Below.refl w.heap.size w)
  unfold vvB at h
  rcases ha : qB a with _ | _
  · rw [ha] at hVa
    clear ha h hVb
    go_enter Try.func23, Try.ntmps23
    go_wp2_with (go_at_call_of 35 (Value.agg #[.int .i64 a.n, .int .i64 a.d]); refine (hVa.out _).mono ?_; rintro e w1 ⟨rfl, hb1⟩; obtain ⟨HA, HB⟩ := two2 hb1; have HA := Lib.hid HA; have HB := Lib.hid HB; obtain ⟨⟨a0, a1⟩, -⟩ := cells2 HA.out; obtain ⟨⟨b0, b1⟩, -⟩ := cells2 HB.out;  replace HW := Lib.hid (bCall (by (repeat with_reducible first | exact HW.out | apply bDrew | apply bAlloc)) hb1); clear hb1)
    go_ret2
    exact ⟨rfl, HW.out⟩
  · rw [ha] at hVa h
    have hb : qB b = false := by simpa using h
    rw [hb] at hVb
    clear ha hb h
    go_enter Try.func23, Try.ntmps23
    go_wp2_with (first
      | (go_at_call_of 35 (Value.agg #[.int .i64 a.n, .int .i64 a.d]); refine (hVa.out _).mono ?_; rintro e w1 ⟨rfl, hb1⟩; obtain ⟨HA, HB⟩ := two2 hb1; have HA := Lib.hid HA; have HB := Lib.hid HB; obtain ⟨⟨a0, a1⟩, -⟩ := cells2 HA.out; obtain ⟨⟨b0, b1⟩, -⟩ := cells2 HB.out;  replace HW := Lib.hid (bCall (by (repeat with_reducible first | exact HW.out | apply bDrew | apply bAlloc)) hb1); clear hb1)
      | (go_at_call 35; refine (hVb.out _).mono ?_; rintro e w2 ⟨rfl, hb2⟩; replace HA := Lib.hid (moveX (by (repeat with_reducible first | exact Below.refl _ _ | apply bDrew | apply bAlloc)) hb2 HA.out); replace HB := Lib.hid (moveX (by (repeat with_reducible first | exact Below.refl _ _ | apply bDrew | apply bAlloc)) hb2 HB.out); obtain ⟨⟨a0, a1⟩, -⟩ := cells2 HA.out; obtain ⟨⟨b0, b1⟩, -⟩ := cells2 HB.out;  replace HW := Lib.hid (bCall (by (repeat with_reducible first | exact HW.out | apply bDrew | apply bAlloc)) hb2); clear hb2))
    go_ret2
    exact ⟨rfl, HW.out⟩
set_option maxHeartbeats 1000000 in
set_option maxRecDepth 100000 in
theorem Cmp_cok (a b : Q) (x y : Nat) (ha : qB a = true) (hb : qB b = true) (w : World) (HX : w.heap[x]? = some (qb a)) (HY : w.heap[y]? = some (qb b)) : Calls Try.prog 99 #[qv a, qv b, .func (.func 100) #[] #[.pointer (some ⟨x, 0, none⟩), .pointer (some ⟨y, 0, none⟩)]] w (VV (ir (sgM (a.n * b.d) (b.n * a.d), 0)) w) := by
  have hVa := Lib.hid (Valid_any a)
  have hVb := Lib.hid (Valid_any b)
  have HW := Lib.hid (Below.refl w.heap.size w)
  have hC := Lib.hid (fun w1 h1 h2 => Cmp_1 a b ha hb x y w1 h1 h2)
  have HX := Lib.hid HX
  have HY := Lib.hid HY
  rw [ha] at hVa
  rw [hb] at hVb
  generalize sgM (a.n * b.d) (b.n * a.d) = r at *
  clear ha hb
  go_enter Try.func99, Try.ntmps99
  go_wp2_with (first
    | (go_at_call_of 49 (Value.agg #[.int .i64 a.n, .int .i64 a.d]); refine (hVa.out _).mono ?_; rintro e w1 ⟨rfl, hb1⟩; obtain ⟨HA, HB⟩ := two2 hb1; have HA := Lib.hid HA; have HB := Lib.hid HB; obtain ⟨⟨a0, a1⟩, -⟩ := cells2 HA.out; obtain ⟨⟨b0, b1⟩, -⟩ := cells2 HB.out; replace HX := Lib.hid (moveX (by (repeat with_reducible first | exact Below.refl _ _ | apply bDrew | apply bAlloc)) hb1 HX.out); replace HY := Lib.hid (moveX (by (repeat with_reducible first | exact Below.refl _ _ | apply bDrew | apply bAlloc)) hb1 HY.out); replace HW := Lib.hid (bCall (by (repeat with_reducible first | exact HW.out | apply bDrew | apply bAlloc)) hb1); clear hb1)
    | (go_at_call 49; refine (hVb.out _).mono ?_; rintro e w2 ⟨rfl, hb2⟩; replace HA := Lib.hid (moveX (by (repeat with_reducible first | exact Below.refl _ _ | apply bDrew | apply bAlloc)) hb2 HA.out); replace HB := Lib.hid (moveX (by (repeat with_reducible first | exact Below.refl _ _ | apply bDrew | apply bAlloc)) hb2 HB.out); obtain ⟨⟨a0, a1⟩, -⟩ := cells2 HA.out; obtain ⟨⟨b0, b1⟩, -⟩ := cells2 HB.out; replace HX := Lib.hid (moveX (by (repeat with_reducible first | exact Below.refl _ _ | apply bDrew | apply bAlloc)) hb2 HX.out); replace HY := Lib.hid (moveX (by (repeat with_reducible first | exact Below.refl _ _ | apply bDrew | apply bAlloc)) hb2 HY.out); replace HW := Lib.hid (bCall (by (repeat with_reducible first | exact HW.out | apply bDrew | apply bAlloc)) hb2); clear hb2)
    | (go_at_call 100; refine (hC.out _ HX.out HY.out).mono ?_; rintro e w3 ⟨rfl, rfl⟩))
  go_ret2
  exact ⟨rfl, HW.out⟩
theorem Cmp_c (a b : Q) (x y : Nat) (w : World) (HX : w.heap[x]? = some (qb a)) (HY : w.heap[y]? = some (qb b)) : Calls Try.prog 99 #[qv a, qv b, .func (.func 100) #[] #[.pointer (some ⟨x, 0, none⟩), .pointer (some ⟨y, 0, none⟩)]] w (VV (ir (cmpM a b)) w) := by
  rcases h : vvB a b with _ | _
  · have e : cmpM a b = (0, 1) := by unfold cmpM; rw [h]; rfl
    rw [e]; exact Cmp_cbad a b x y h w
  · obtain ⟨ha, hb⟩ := vvB_iff.1 h
    rw [cmp_v ha hb]
    exact Cmp_cok a b x y ha hb w HX HY
set_option maxHeartbeats 1000000 in
set_option maxRecDepth 100000 in
theorem Cmp_any (a b : Q) (w : World) : Calls Try.prog 81 #[qv a, qv b] w (VV (ir (cmpM a b)) w) := by
  have hC := Lib.hid (Cmp_c a b w.heap.size (w.heap.size + 1) ((w.alloc (qb a)).alloc (qb b)) (mvAlloc (newBlk _ _ _ rfl)) (newBlk _ _ _ (by simp)))
  generalize cmpM a b = r at *
  have HW := Lib.hid (Below.refl w.heap.size w)
  go_enter Try.func81, Try.ntmps81
  go_wp2_with (go_at_call 99; refine hC.out.mono ?_; rintro e w1 ⟨rfl, hb1⟩; replace HW := Lib.hid (bCall (by (repeat with_reducible first | exact HW.out | apply bDrew | apply bAlloc)) hb1); clear hb1)
  go_ret2
  exact ⟨rfl, HW.out⟩
set_option maxHeartbeats 1000000 in
set_option maxRecDepth 100000 in
theorem RCmp_ok (a b : Q) (ha : qB a = true) (hb : qB b = true) (w : World) : Calls Try.prog 23 #[qv a, qv b] w (VV (ir (sgM (a.n * b.d) (b.n * a.d), 0)) w) := by
  have hVa := Lib.hid (RValid_any a)
  have hVb := Lib.hid (RValid_any b)
  have HW := Lib.hid (Below.refl w.heap.size w)
  rw [ha] at hVa
  rw [hb] at hVb
  have b0 := pb (vd ha).1 (vd hb).2
  have q0 : IntKind.i64.wrap (a.n * b.d) = a.n * b.d := IntWalk.i64_in _ (by omega)
  have b1 := pb (vd hb).1 (vd ha).2
  have q1 : IntKind.i64.wrap (b.n * a.d) = b.n * a.d := IntWalk.i64_in _ (by omega)
  obtain ⟨p, hp⟩ : ∃ p, a.n * b.d = p := ⟨_, rfl⟩
  obtain ⟨q, hq⟩ : ∃ q, b.n * a.d = q := ⟨_, rfl⟩
  have q0 : IntKind.i64.wrap (a.n * b.d) = p := q0.trans hp
  have q1 : IntKind.i64.wrap (b.n * a.d) = q := q1.trans hq
  rw [hp, hq]
  clear ha hb b0 b1 hp hq
  go_enter Try.func23, Try.ntmps23
  go_wp2_with (first
    | (go_at_call_of 35 (Value.agg #[.int .i64 a.n, .int .i64 a.d]); refine (hVa.out _).mono ?_; rintro e w1 ⟨rfl, hb1⟩; obtain ⟨HA, HB⟩ := two2 hb1; have HA := Lib.hid HA; have HB := Lib.hid HB; obtain ⟨⟨a0, a1⟩, -⟩ := cells2 HA.out; obtain ⟨⟨b0, b1⟩, -⟩ := cells2 HB.out;  replace HW := Lib.hid (bCall (by (repeat with_reducible first | exact HW.out | apply bDrew | apply bAlloc)) hb1); clear hb1)
    | (go_at_call 35; refine (hVb.out _).mono ?_; rintro e w2 ⟨rfl, hb2⟩; replace HA := Lib.hid (moveX (by (repeat with_reducible first | exact Below.refl _ _ | apply bDrew | apply bAlloc)) hb2 HA.out); replace HB := Lib.hid (moveX (by (repeat with_reducible first | exact Below.refl _ _ | apply bDrew | apply bAlloc)) hb2 HB.out); obtain ⟨⟨a0, a1⟩, -⟩ := cells2 HA.out; obtain ⟨⟨b0, b1⟩, -⟩ := cells2 HB.out;  replace HW := Lib.hid (bCall (by (repeat with_reducible first | exact HW.out | apply bDrew | apply bAlloc)) hb2); clear hb2))
  all_goals go_ret2
  all_goals first
    | exact ⟨ret_ir (x := -1) (by unfold sgM; split <;> (try split) <;> omega), HW.out⟩
    | exact ⟨ret_ir (x := 1) (by unfold sgM; split <;> (try split) <;> omega), HW.out⟩
    | exact ⟨ret_ir (x := 0) (by unfold sgM; split <;> (try split) <;> omega), HW.out⟩
theorem RCmp_any (a b : Q) (w : World) : Calls Try.prog 23 #[qv a, qv b] w (VV (ir (cmpM a b)) w) := by
  rcases h : vvB a b with _ | _
  · have e : cmpM a b = (0, 1) := by unfold cmpM; rw [h]; rfl
    rw [e]; exact RCmp_bad a b h w
  · obtain ⟨ha, hb⟩ := vvB_iff.1 h
    rw [cmp_v ha hb]
    exact RCmp_ok a b ha hb w
def smal (s : Q) : Bool := qB s && decide (-10000 ≤ s.n) && decide (s.n ≤ 10000) && decide (s.d ≤ 10000)
theorem run_max2b (p q r : Int) (h : r = max p q) (ts : Array TypeId) (t : TypeId) (w : World) : (Builtin.max_ ts t #[.int .i64 p, .int .i64 q]).run Try.prog w = .ok (.int .i64 r) w := run_max2 p q r h ts t w
end Go.Proofs.Ytbjhdfakocfapaa
