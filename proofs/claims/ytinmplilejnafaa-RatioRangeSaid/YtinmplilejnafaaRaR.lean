/- Law package 12: RatioRange. -/
import Derived.Test.YtinmplilejnafaaRaG
namespace Go.Proofs.Ytinmplilejnafaa
open Go.RowKit
set_option linter.unusedVariables false
set_option linter.unusedSimpArgs false
set_option maxHeartbeats 8000000 in
set_option maxRecDepth 100000 in
theorem range_bad0 (a b : Q) (hVa : Hid (∀ w, Calls Try.prog 24 #[qv a] w (BB false w))) (w : World) : Calls Try.prog 9 #[qv a, qv b] w (BB true w) := by
  go_enter Try.func9, Try.ntmps9
  have HW := Lib.hid (Below.refl w.heap.size w)
  go_upto_region 2 with (go_at_call 10; refine (head_any _).mono ?_; rintro e wn ⟨rfl, hbn⟩; obtain ⟨HA, HB⟩ := two2 hbn; have HA := Lib.hid HA; have HB := Lib.hid HB; replace HW := Lib.hid (bCall (by (repeat with_reducible first | exact HW.out | apply bDrew | apply bAlloc)) hbn); clear hbn)
  have A0 := (cells2 HA.out).1.1
  have A1 := (cells2 HA.out).1.2
  have A2 := (cells2 HA.out).2.1
  have A3 := (cells2 HA.out).2.2
  have Al := blkLt HA.out
  have B0 := (cells2 HB.out).1.1
  have B1 := (cells2 HB.out).1.2
  have B2 := (cells2 HB.out).2.1
  have B3 := (cells2 HB.out).2.2
  have Bl := blkLt HB.out
  go_wp2_with (first
    | (go_at_call_of 24 (Value.agg #[Value.int IntKind.i64 a.n, Value.int IntKind.i64 a.d]); refine (hVa.out _).mono ?_; rintro e wn ⟨rfl, hbn⟩; replace HW := Lib.hid (bCall (by (repeat with_reducible first | exact HW.out | apply bDrew | apply bAlloc)) hbn); replace HA := Lib.hid (moveX (by (repeat with_reducible first | exact Below.refl _ _ | apply bDrew | apply bAlloc)) hbn HA.out); replace HB := Lib.hid (moveX (by (repeat with_reducible first | exact Below.refl _ _ | apply bDrew | apply bAlloc)) hbn HB.out); replace A0 := (cells2 HA.out).1.1; replace A1 := (cells2 HA.out).1.2; replace A2 := (cells2 HA.out).2.1; replace A3 := (cells2 HA.out).2.2; replace Al := blkLt HA.out; replace B0 := (cells2 HB.out).1.1; replace B1 := (cells2 HB.out).1.2; replace B2 := (cells2 HB.out).2.1; replace B3 := (cells2 HB.out).2.2; replace Bl := blkLt HB.out; clear hbn))
  go_ret
  exact ⟨rfl, HW.out⟩
set_option maxHeartbeats 8000000 in
set_option maxRecDepth 100000 in
theorem range_bad1 (a b : Q) (hVa : Hid (∀ w, Calls Try.prog 24 #[qv a] w (BB true w))) (hVb : Hid (∀ w, Calls Try.prog 24 #[qv b] w (BB false w))) (w : World) : Calls Try.prog 9 #[qv a, qv b] w (BB true w) := by
  go_enter Try.func9, Try.ntmps9
  have HW := Lib.hid (Below.refl w.heap.size w)
  go_upto_region 2 with (go_at_call 10; refine (head_any _).mono ?_; rintro e wn ⟨rfl, hbn⟩; obtain ⟨HA, HB⟩ := two2 hbn; have HA := Lib.hid HA; have HB := Lib.hid HB; replace HW := Lib.hid (bCall (by (repeat with_reducible first | exact HW.out | apply bDrew | apply bAlloc)) hbn); clear hbn)
  have A0 := (cells2 HA.out).1.1
  have A1 := (cells2 HA.out).1.2
  have A2 := (cells2 HA.out).2.1
  have A3 := (cells2 HA.out).2.2
  have Al := blkLt HA.out
  have B0 := (cells2 HB.out).1.1
  have B1 := (cells2 HB.out).1.2
  have B2 := (cells2 HB.out).2.1
  have B3 := (cells2 HB.out).2.2
  have Bl := blkLt HB.out
  go_wp2_with (first
    | (go_at_call_of 24 (Value.agg #[Value.int IntKind.i64 a.n, Value.int IntKind.i64 a.d]); refine (hVa.out _).mono ?_; rintro e wn ⟨rfl, hbn⟩; replace HW := Lib.hid (bCall (by (repeat with_reducible first | exact HW.out | apply bDrew | apply bAlloc)) hbn); replace HA := Lib.hid (moveX (by (repeat with_reducible first | exact Below.refl _ _ | apply bDrew | apply bAlloc)) hbn HA.out); replace HB := Lib.hid (moveX (by (repeat with_reducible first | exact Below.refl _ _ | apply bDrew | apply bAlloc)) hbn HB.out); replace A0 := (cells2 HA.out).1.1; replace A1 := (cells2 HA.out).1.2; replace A2 := (cells2 HA.out).2.1; replace A3 := (cells2 HA.out).2.2; replace Al := blkLt HA.out; replace B0 := (cells2 HB.out).1.1; replace B1 := (cells2 HB.out).1.2; replace B2 := (cells2 HB.out).2.1; replace B3 := (cells2 HB.out).2.2; replace Bl := blkLt HB.out; clear hbn)
    | (go_at_call_of 24 (Value.agg #[Value.int IntKind.i64 b.n, Value.int IntKind.i64 b.d]); refine (hVb.out _).mono ?_; rintro e wn ⟨rfl, hbn⟩; replace HW := Lib.hid (bCall (by (repeat with_reducible first | exact HW.out | apply bDrew | apply bAlloc)) hbn); replace HA := Lib.hid (moveX (by (repeat with_reducible first | exact Below.refl _ _ | apply bDrew | apply bAlloc)) hbn HA.out); replace HB := Lib.hid (moveX (by (repeat with_reducible first | exact Below.refl _ _ | apply bDrew | apply bAlloc)) hbn HB.out); replace A0 := (cells2 HA.out).1.1; replace A1 := (cells2 HA.out).1.2; replace A2 := (cells2 HA.out).2.1; replace A3 := (cells2 HA.out).2.2; replace Al := blkLt HA.out; replace B0 := (cells2 HB.out).1.1; replace B1 := (cells2 HB.out).1.2; replace B2 := (cells2 HB.out).2.1; replace B3 := (cells2 HB.out).2.2; replace Bl := blkLt HB.out; clear hbn))
  go_ret
  exact ⟨rfl, HW.out⟩
set_option maxHeartbeats 8000000 in
set_option maxRecDepth 100000 in
theorem range_go (a b s t : Q) (e f p0 p1 p2 p3 p4 : Int) (x y : Bool)
    (hVa : Hid (∀ w, Calls Try.prog 24 #[qv a] w (BB true w)))
    (hVb : Hid (∀ w, Calls Try.prog 24 #[qv b] w (BB true w)))
    (hA : Hid (∀ w, Calls Try.prog 13 #[qv a, qv b] w (VV (.tuple #[qv s, .int .i64 e]) w)))
    (hM : Hid (∀ w, Calls Try.prog 17 #[qv a, qv b] w (VV (.tuple #[qv t, .int .i64 f]) w)))
    (q0 : IntKind.i64.wrap (a.n * b.d) = p0)
    (q1 : IntKind.i64.wrap (b.n * a.d) = p1)
    (q2 : IntKind.i64.wrap (p0 + p1) = p2)
    (q3 : IntKind.i64.wrap (a.d * b.d) = p3)
    (q4 : IntKind.i64.wrap (a.n * b.n) = p4)
    (hO1 : Hid (∀ w, Calls Try.prog 26 #[.int .i64 p2, .int .i64 p3] w (SS (.bool x) w)))
    (hO2 : Hid (∀ w, Calls Try.prog 26 #[.int .i64 p4, .int .i64 p3] w (SS (.bool y) w)))
    (he : Hid ((e = 3 ∧ x = true) ∨ (e = 0 ∧ x = false)))
    (hf : Hid ((f = 3 ∧ y = true) ∨ (f = 0 ∧ y = false))) (w : World) : Calls Try.prog 9 #[qv a, qv b] w (BB true w) := by
  go_enter Try.func9, Try.ntmps9
  have HW := Lib.hid (Below.refl w.heap.size w)
  go_upto_region 2 with (go_at_call 10; refine (head_any _).mono ?_; rintro e wn ⟨rfl, hbn⟩; obtain ⟨HA, HB⟩ := two2 hbn; have HA := Lib.hid HA; have HB := Lib.hid HB; replace HW := Lib.hid (bCall (by (repeat with_reducible first | exact HW.out | apply bDrew | apply bAlloc)) hbn); clear hbn)
  have A0 := (cells2 HA.out).1.1
  have A1 := (cells2 HA.out).1.2
  have A2 := (cells2 HA.out).2.1
  have A3 := (cells2 HA.out).2.2
  have Al := blkLt HA.out
  have B0 := (cells2 HB.out).1.1
  have B1 := (cells2 HB.out).1.2
  have B2 := (cells2 HB.out).2.1
  have B3 := (cells2 HB.out).2.2
  have Bl := blkLt HB.out
  go_upto_region 4 with (first
      | (go_at_call_of 24 (Value.agg #[Value.int IntKind.i64 a.n, Value.int IntKind.i64 a.d]); refine (hVa.out _).mono ?_; rintro e wn ⟨rfl, hbn⟩; replace HW := Lib.hid (bCall (by (repeat with_reducible first | exact HW.out | apply bDrew | apply bAlloc)) hbn); replace HA := Lib.hid (moveX (by (repeat with_reducible first | exact Below.refl _ _ | apply bDrew | apply bAlloc)) hbn HA.out); replace HB := Lib.hid (moveX (by (repeat with_reducible first | exact Below.refl _ _ | apply bDrew | apply bAlloc)) hbn HB.out); replace A0 := (cells2 HA.out).1.1; replace A1 := (cells2 HA.out).1.2; replace A2 := (cells2 HA.out).2.1; replace A3 := (cells2 HA.out).2.2; replace Al := blkLt HA.out; replace B0 := (cells2 HB.out).1.1; replace B1 := (cells2 HB.out).1.2; replace B2 := (cells2 HB.out).2.1; replace B3 := (cells2 HB.out).2.2; replace Bl := blkLt HB.out; clear hbn)
      | (go_at_call_of 24 (Value.agg #[Value.int IntKind.i64 b.n, Value.int IntKind.i64 b.d]); refine (hVb.out _).mono ?_; rintro e wn ⟨rfl, hbn⟩; replace HW := Lib.hid (bCall (by (repeat with_reducible first | exact HW.out | apply bDrew | apply bAlloc)) hbn); replace HA := Lib.hid (moveX (by (repeat with_reducible first | exact Below.refl _ _ | apply bDrew | apply bAlloc)) hbn HA.out); replace HB := Lib.hid (moveX (by (repeat with_reducible first | exact Below.refl _ _ | apply bDrew | apply bAlloc)) hbn HB.out); replace A0 := (cells2 HA.out).1.1; replace A1 := (cells2 HA.out).1.2; replace A2 := (cells2 HA.out).2.1; replace A3 := (cells2 HA.out).2.2; replace Al := blkLt HA.out; replace B0 := (cells2 HB.out).1.1; replace B1 := (cells2 HB.out).1.2; replace B2 := (cells2 HB.out).2.1; replace B3 := (cells2 HB.out).2.2; replace Bl := blkLt HB.out; clear hbn))
  clear hVa hVb A0 A1 A2 A3 Al B0 B1 B2 B3 Bl
  go_cut [6, 7] (fun s1 s2 wx => ∃ bS : Nat, s1 = .pointer (some ⟨bS, 0, none⟩) ∧ s2 = .int .i64 e ∧ Hid (wx.heap[w.heap.size]? = some (.cells #[.int .i64 (a.n), .int .i64 (a.d)] 23 (0, 0))) ∧ Hid (wx.heap[w.heap.size + 1]? = some (.cells #[.int .i64 (b.n), .int .i64 (b.d)] 23 (0, 0))) ∧ Hid (wx.heap[bS]? = some (.cells #[.int .i64 (s.n), .int .i64 (s.d)] 23 (0, 0))) ∧ Hid (Below w.heap.size w wx))
  case first => as_aux_lemma =>
    have A0 := (cells2 HA.out).1.1
    have A1 := (cells2 HA.out).1.2
    have A2 := (cells2 HA.out).2.1
    have A3 := (cells2 HA.out).2.2
    have Al := blkLt HA.out
    have B0 := (cells2 HB.out).1.1
    have B1 := (cells2 HB.out).1.2
    have B2 := (cells2 HB.out).2.1
    have B3 := (cells2 HB.out).2.2
    have Bl := blkLt HB.out
    go_wp2_with (go_at_call 13; refine (hA.out _).mono ?_; rintro e wn ⟨rfl, hbn⟩; replace HW := Lib.hid (bCall (by (repeat with_reducible first | exact HW.out | apply bDrew | apply bAlloc)) hbn); replace HA := Lib.hid (moveX (by (repeat with_reducible first | exact Below.refl _ _ | apply bDrew | apply bAlloc)) hbn HA.out); replace HB := Lib.hid (moveX (by (repeat with_reducible first | exact Below.refl _ _ | apply bDrew | apply bAlloc)) hbn HB.out); replace A0 := (cells2 HA.out).1.1; replace A1 := (cells2 HA.out).1.2; replace A2 := (cells2 HA.out).2.1; replace A3 := (cells2 HA.out).2.2; replace Al := blkLt HA.out; replace B0 := (cells2 HB.out).1.1; replace B1 := (cells2 HB.out).1.2; replace B2 := (cells2 HB.out).2.1; replace B3 := (cells2 HB.out).2.2; replace Bl := blkLt HB.out; clear hbn)
    go_meet
    exact ⟨_, rfl, rfl, Lib.hid (mvAlloc HA.out), Lib.hid (mvAlloc HB.out), Lib.hid (newBlk _ _ _ rfl), Lib.hid (bAlloc HW.out)⟩
  case rest =>
    clear HW HA HB
    obtain ⟨bS, rfl, rfl, HA, HB, HS, HW⟩ := hcut
    clear hA
    go_upto_region 5 with fail
    go_cut [8, 9] (fun s1 s2 wx => ∃ bT : Nat, s1 = .pointer (some ⟨bT, 0, none⟩) ∧ s2 = .int .i64 f ∧ Hid (wx.heap[w.heap.size]? = some (.cells #[.int .i64 (a.n), .int .i64 (a.d)] 23 (0, 0))) ∧ Hid (wx.heap[w.heap.size + 1]? = some (.cells #[.int .i64 (b.n), .int .i64 (b.d)] 23 (0, 0))) ∧ Hid (wx.heap[bS]? = some (.cells #[.int .i64 (s.n), .int .i64 (s.d)] 23 (0, 0))) ∧ Hid (wx.heap[bT]? = some (.cells #[.int .i64 (t.n), .int .i64 (t.d)] 23 (0, 0))) ∧ Hid (Below w.heap.size w wx))
    case first => as_aux_lemma =>
      have A0 := (cells2 HA.out).1.1
      have A1 := (cells2 HA.out).1.2
      have A2 := (cells2 HA.out).2.1
      have A3 := (cells2 HA.out).2.2
      have Al := blkLt HA.out
      have B0 := (cells2 HB.out).1.1
      have B1 := (cells2 HB.out).1.2
      have B2 := (cells2 HB.out).2.1
      have B3 := (cells2 HB.out).2.2
      have Bl := blkLt HB.out
      have S0 := (cells2 HS.out).1.1
      have S1 := (cells2 HS.out).1.2
      have S2 := (cells2 HS.out).2.1
      have S3 := (cells2 HS.out).2.2
      have Sl := blkLt HS.out
      go_wp2_with (go_at_call 17; refine (hM.out _).mono ?_; rintro e wn ⟨rfl, hbn⟩; replace HW := Lib.hid (bCall (by (repeat with_reducible first | exact HW.out | apply bDrew | apply bAlloc)) hbn); replace HA := Lib.hid (moveX (by (repeat with_reducible first | exact Below.refl _ _ | apply bDrew | apply bAlloc)) hbn HA.out); replace HB := Lib.hid (moveX (by (repeat with_reducible first | exact Below.refl _ _ | apply bDrew | apply bAlloc)) hbn HB.out); replace HS := Lib.hid (moveX (by (repeat with_reducible first | exact Below.refl _ _ | apply bDrew | apply bAlloc)) hbn HS.out); replace A0 := (cells2 HA.out).1.1; replace A1 := (cells2 HA.out).1.2; replace A2 := (cells2 HA.out).2.1; replace A3 := (cells2 HA.out).2.2; replace Al := blkLt HA.out; replace B0 := (cells2 HB.out).1.1; replace B1 := (cells2 HB.out).1.2; replace B2 := (cells2 HB.out).2.1; replace B3 := (cells2 HB.out).2.2; replace Bl := blkLt HB.out; replace S0 := (cells2 HS.out).1.1; replace S1 := (cells2 HS.out).1.2; replace S2 := (cells2 HS.out).2.1; replace S3 := (cells2 HS.out).2.2; replace Sl := blkLt HS.out; clear hbn)
      go_meet
      exact ⟨_, rfl, rfl, Lib.hid (mvAlloc HA.out), Lib.hid (mvAlloc HB.out), Lib.hid (mvAlloc HS.out), Lib.hid (newBlk _ _ _ rfl), Lib.hid (bAlloc HW.out)⟩
    case rest =>
      clear HW HA HB HS
      obtain ⟨bT, rfl, rfl, HA, HB, HS, HT, HW⟩ := hcut
      clear hM
      go_upto_region 6 with fail
      have A0 := (cells2 HA.out).1.1
      have A1 := (cells2 HA.out).1.2
      have A2 := (cells2 HA.out).2.1
      have A3 := (cells2 HA.out).2.2
      have Al := blkLt HA.out
      have B0 := (cells2 HB.out).1.1
      have B1 := (cells2 HB.out).1.2
      have B2 := (cells2 HB.out).2.1
      have B3 := (cells2 HB.out).2.2
      have Bl := blkLt HB.out
      go_cut [10, 11] (fun s1 s2 wx => s1 = .bool x ∧ s2 = .bool y ∧ Hid (Below w.heap.size w wx))
      case first =>
        refine wp_region_G (S := fun wq => Gr wc wq) (by kernel_rfl) (grDrew _) (fun hHeld => ?_)
        have hSG : Hid (∀ wp wq : World, Gr wc wp → Gr wp wq → Gr wc wq) := Lib.hid (fun _ _ h k => h.tr k)
        have hmv := Lib.hid (fun (wq : World) (hq : Gr wc wq) => And.intro (grCell hq A0) (And.intro (grCell hq A1) (And.intro (grCell hq B0) (grCell hq B1))))
        first
         | (refine tk hSG 0 (v := ?_) rfl (by kernel_rfl) (fun _ _ _ h => h) (by rfl) ?_ hHeld ?_; rotate_left; focus (intro w' hSw; obtain ⟨A0, A1, B0, B1⟩ := hmv.out _ hSw; go_simp; (try with_reducible rfl)))
         | refine tn hSG 0 rfl (by kernel_rfl) (fun _ _ _ h => h) (by rfl) hHeld ?_
        (try simp only [zq1, zq2, zq3, Act.put, zq4, zq5, zq6])
        first
         | (refine tk hSG 1 (v := ?_) rfl (by kernel_rfl) (fun _ _ _ h => h) (by rfl) ?_ hHeld ?_; rotate_left; focus (intro w' hSw; obtain ⟨A0, A1, B0, B1⟩ := hmv.out _ hSw; go_simp; (try with_reducible rfl)))
         | refine tn hSG 1 rfl (by kernel_rfl) (fun _ _ _ h => h) (by rfl) hHeld ?_
        (try simp only [zq1, zq2, zq3, Act.put, zq4, zq5, zq6])
        first
         | (refine tk hSG 2 (v := ?_) rfl (by kernel_rfl) (fun _ _ _ h => h) (by rfl) ?_ hHeld ?_; rotate_left; focus (intro w' hSw; obtain ⟨A0, A1, B0, B1⟩ := hmv.out _ hSw; go_simp; (try with_reducible rfl)))
         | refine tn hSG 2 rfl (by kernel_rfl) (fun _ _ _ h => h) (by rfl) hHeld ?_
        (try simp only [zq1, zq2, zq3, Act.put, zq4, zq5, zq6])
        first
         | (refine tk hSG 3 (v := ?_) rfl (by kernel_rfl) (fun _ _ _ h => h) (by rfl) ?_ hHeld ?_; rotate_left; focus (intro w' hSw; obtain ⟨A0, A1, B0, B1⟩ := hmv.out _ hSw; go_simp; (try with_reducible rfl)))
         | refine tn hSG 3 rfl (by kernel_rfl) (fun _ _ _ h => h) (by rfl) hHeld ?_
        (try simp only [zq1, zq2, zq3, Act.put, zq4, zq5, zq6])
        first
         | (refine tk hSG 4 (v := ?_) rfl (by kernel_rfl) (fun _ _ _ h => h) (by rfl) ?_ hHeld ?_; rotate_left; focus (intro w' hSw; obtain ⟨A0, A1, B0, B1⟩ := hmv.out _ hSw; go_simp; (try with_reducible rfl)))
         | refine tn hSG 4 rfl (by kernel_rfl) (fun _ _ _ h => h) (by rfl) hHeld ?_
        (try simp only [zq1, zq2, zq3, Act.put, zq4, zq5, zq6])
        first
         | (refine tk hSG 5 (v := ?_) rfl (by kernel_rfl) (fun _ _ _ h => h) (by rfl) ?_ hHeld ?_; rotate_left; focus (intro w' hSw; obtain ⟨A0, A1, B0, B1⟩ := hmv.out _ hSw; go_simp; (try with_reducible rfl)))
         | refine tn hSG 5 rfl (by kernel_rfl) (fun _ _ _ h => h) (by rfl) hHeld ?_
        (try simp only [zq1, zq2, zq3, Act.put, zq4, zq5, zq6])
        first
         | (refine tk hSG 6 (v := ?_) rfl (by kernel_rfl) (fun _ _ _ h => h) (by rfl) ?_ hHeld ?_; rotate_left; focus (intro w' hSw; obtain ⟨A0, A1, B0, B1⟩ := hmv.out _ hSw; go_simp; (try with_reducible rfl)))
         | refine tn hSG 6 rfl (by kernel_rfl) (fun _ _ _ h => h) (by rfl) hHeld ?_
        (try simp only [zq1, zq2, zq3, Act.put, zq4, zq5, zq6])
        first
         | (refine tk hSG 7 (v := ?_) rfl (by kernel_rfl) (fun _ _ _ h => h) (by rfl) ?_ hHeld ?_; rotate_left; focus (intro w' hSw; obtain ⟨A0, A1, B0, B1⟩ := hmv.out _ hSw; go_simp; (try with_reducible rfl)))
         | refine tn hSG 7 rfl (by kernel_rfl) (fun _ _ _ h => h) (by rfl) hHeld ?_
        (try simp only [zq1, zq2, zq3, Act.put, zq4, zq5, zq6])
        first
         | (refine tk hSG 8 (v := ?_) rfl (by kernel_rfl) (fun _ _ _ h => h) (by rfl) ?_ hHeld ?_; rotate_left; focus (intro w' hSw; obtain ⟨A0, A1, B0, B1⟩ := hmv.out _ hSw; go_simp; (try with_reducible rfl)))
         | refine tn hSG 8 rfl (by kernel_rfl) (fun _ _ _ h => h) (by rfl) hHeld ?_
        (try simp only [zq1, zq2, zq3, Act.put, zq4, zq5, zq6])
        first
         | (refine tk hSG 9 (v := ?_) rfl (by kernel_rfl) (fun _ _ _ h => h) (by rfl) ?_ hHeld ?_; rotate_left; focus (intro w' hSw; obtain ⟨A0, A1, B0, B1⟩ := hmv.out _ hSw; go_simp; (try with_reducible rfl)))
         | refine tn hSG 9 rfl (by kernel_rfl) (fun _ _ _ h => h) (by rfl) hHeld ?_
        (try simp only [zq1, zq2, zq3, Act.put, zq4, zq5, zq6])
        first
         | (refine tk hSG 10 (v := ?_) rfl (by kernel_rfl) (fun _ _ _ h => h) (by rfl) ?_ hHeld ?_; rotate_left; focus (intro w' hSw; obtain ⟨A0, A1, B0, B1⟩ := hmv.out _ hSw; go_simp; (try with_reducible rfl)))
         | refine tn hSG 10 rfl (by kernel_rfl) (fun _ _ _ h => h) (by rfl) hHeld ?_
        (try simp only [zq1, zq2, zq3, Act.put, zq4, zq5, zq6])
        first
         | (refine tk hSG 11 (v := ?_) rfl (by kernel_rfl) (fun _ _ _ h => h) (by rfl) ?_ hHeld ?_; rotate_left; focus (intro w' hSw; obtain ⟨A0, A1, B0, B1⟩ := hmv.out _ hSw; go_simp; (try with_reducible rfl)))
         | refine tn hSG 11 rfl (by kernel_rfl) (fun _ _ _ h => h) (by rfl) hHeld ?_
        (try simp only [zq1, zq2, zq3, Act.put, zq4, zq5, zq6])
        first
         | (refine tk hSG 12 (v := ?_) rfl (by kernel_rfl) (fun _ _ _ h => h) (by rfl) ?_ hHeld ?_; rotate_left; focus (intro w' hSw; obtain ⟨A0, A1, B0, B1⟩ := hmv.out _ hSw; go_simp; (try with_reducible rfl)))
         | refine tn hSG 12 rfl (by kernel_rfl) (fun _ _ _ h => h) (by rfl) hHeld ?_
        (try simp only [zq1, zq2, zq3, Act.put, zq4, zq5, zq6])
        first
         | (refine tk hSG 13 (v := ?_) rfl (by kernel_rfl) (fun _ _ _ h => h) (by rfl) ?_ hHeld ?_; rotate_left; focus (intro w' hSw; obtain ⟨A0, A1, B0, B1⟩ := hmv.out _ hSw; go_simp; (try with_reducible rfl)))
         | refine tn hSG 13 rfl (by kernel_rfl) (fun _ _ _ h => h) (by rfl) hHeld ?_
        (try simp only [zq1, zq2, zq3, Act.put, zq4, zq5, zq6])
        first
         | (refine tk hSG 14 (v := ?_) rfl (by kernel_rfl) (fun _ _ _ h => h) (by rfl) ?_ hHeld ?_; rotate_left; focus (intro w' hSw; obtain ⟨A0, A1, B0, B1⟩ := hmv.out _ hSw; go_simp; (try with_reducible rfl)))
         | refine tn hSG 14 rfl (by kernel_rfl) (fun _ _ _ h => h) (by rfl) hHeld ?_
        (try simp only [zq1, zq2, zq3, Act.put, zq4, zq5, zq6])
        first
         | (refine tk hSG 15 (v := ?_) rfl (by kernel_rfl) (fun _ _ _ h => h) (by rfl) ?_ hHeld ?_; rotate_left; focus (intro w' hSw; obtain ⟨A0, A1, B0, B1⟩ := hmv.out _ hSw; go_simp; (try with_reducible rfl)))
         | refine tn hSG 15 rfl (by kernel_rfl) (fun _ _ _ h => h) (by rfl) hHeld ?_
        (try simp only [zq1, zq2, zq3, Act.put, zq4, zq5, zq6])
        refine tc hSG 16 (v := .bool x) rfl (by kernel_rfl) (fun _ _ _ h => h) (by rfl) ?_ hHeld ?_
        focus (intro wz hSw K hK; obtain ⟨A0, A1, B0, B1⟩ := hmv.out _ hSw; go_simp; go_at_call 26; refine (hO1.out _).mono ?_; rintro e w2 ⟨rfl, rfl⟩; have hb2 := Below.refl w2.heap.size w2; first | exact hK.out _ hb2 | (have h9 := hK.out _ hb2; (try simp only [zq1, zq2, zq3, Act.put, zq4, zq5, zq6] at h9 ⊢); exact h9) | (have h9 := hK.out _ hb2; go_simp; exact h9))
        (try simp only [zq1, zq2, zq3, Act.put, zq4, zq5, zq6])
        first
         | (refine tk hSG 17 (v := ?_) rfl (by kernel_rfl) (fun _ _ _ h => h) (by rfl) ?_ hHeld ?_; rotate_left; focus (intro w' hSw; obtain ⟨A0, A1, B0, B1⟩ := hmv.out _ hSw; go_simp; (try with_reducible rfl)))
         | refine tn hSG 17 rfl (by kernel_rfl) (fun _ _ _ h => h) (by rfl) hHeld ?_
        (try simp only [zq1, zq2, zq3, Act.put, zq4, zq5, zq6])
        first
         | (refine tk hSG 18 (v := ?_) rfl (by kernel_rfl) (fun _ _ _ h => h) (by rfl) ?_ hHeld ?_; rotate_left; focus (intro w' hSw; obtain ⟨A0, A1, B0, B1⟩ := hmv.out _ hSw; go_simp; (try with_reducible rfl)))
         | refine tn hSG 18 rfl (by kernel_rfl) (fun _ _ _ h => h) (by rfl) hHeld ?_
        (try simp only [zq1, zq2, zq3, Act.put, zq4, zq5, zq6])
        first
         | (refine tk hSG 19 (v := ?_) rfl (by kernel_rfl) (fun _ _ _ h => h) (by rfl) ?_ hHeld ?_; rotate_left; focus (intro w' hSw; obtain ⟨A0, A1, B0, B1⟩ := hmv.out _ hSw; go_simp; (try with_reducible rfl)))
         | refine tn hSG 19 rfl (by kernel_rfl) (fun _ _ _ h => h) (by rfl) hHeld ?_
        (try simp only [zq1, zq2, zq3, Act.put, zq4, zq5, zq6])
        first
         | (refine tk hSG 20 (v := ?_) rfl (by kernel_rfl) (fun _ _ _ h => h) (by rfl) ?_ hHeld ?_; rotate_left; focus (intro w' hSw; obtain ⟨A0, A1, B0, B1⟩ := hmv.out _ hSw; go_simp; (try with_reducible rfl)))
         | refine tn hSG 20 rfl (by kernel_rfl) (fun _ _ _ h => h) (by rfl) hHeld ?_
        (try simp only [zq1, zq2, zq3, Act.put, zq4, zq5, zq6])
        first
         | (refine tk hSG 21 (v := ?_) rfl (by kernel_rfl) (fun _ _ _ h => h) (by rfl) ?_ hHeld ?_; rotate_left; focus (intro w' hSw; obtain ⟨A0, A1, B0, B1⟩ := hmv.out _ hSw; go_simp; (try with_reducible rfl)))
         | refine tn hSG 21 rfl (by kernel_rfl) (fun _ _ _ h => h) (by rfl) hHeld ?_
        (try simp only [zq1, zq2, zq3, Act.put, zq4, zq5, zq6])
        first
         | (refine tk hSG 22 (v := ?_) rfl (by kernel_rfl) (fun _ _ _ h => h) (by rfl) ?_ hHeld ?_; rotate_left; focus (intro w' hSw; obtain ⟨A0, A1, B0, B1⟩ := hmv.out _ hSw; go_simp; (try with_reducible rfl)))
         | refine tn hSG 22 rfl (by kernel_rfl) (fun _ _ _ h => h) (by rfl) hHeld ?_
        (try simp only [zq1, zq2, zq3, Act.put, zq4, zq5, zq6])
        first
         | (refine tk hSG 23 (v := ?_) rfl (by kernel_rfl) (fun _ _ _ h => h) (by rfl) ?_ hHeld ?_; rotate_left; focus (intro w' hSw; obtain ⟨A0, A1, B0, B1⟩ := hmv.out _ hSw; go_simp; (try with_reducible rfl)))
         | refine tn hSG 23 rfl (by kernel_rfl) (fun _ _ _ h => h) (by rfl) hHeld ?_
        (try simp only [zq1, zq2, zq3, Act.put, zq4, zq5, zq6])
        first
         | (refine tk hSG 24 (v := ?_) rfl (by kernel_rfl) (fun _ _ _ h => h) (by rfl) ?_ hHeld ?_; rotate_left; focus (intro w' hSw; obtain ⟨A0, A1, B0, B1⟩ := hmv.out _ hSw; go_simp; (try with_reducible rfl)))
         | refine tn hSG 24 rfl (by kernel_rfl) (fun _ _ _ h => h) (by rfl) hHeld ?_
        (try simp only [zq1, zq2, zq3, Act.put, zq4, zq5, zq6])
        first
         | (refine tk hSG 25 (v := ?_) rfl (by kernel_rfl) (fun _ _ _ h => h) (by rfl) ?_ hHeld ?_; rotate_left; focus (intro w' hSw; obtain ⟨A0, A1, B0, B1⟩ := hmv.out _ hSw; go_simp; (try with_reducible rfl)))
         | refine tn hSG 25 rfl (by kernel_rfl) (fun _ _ _ h => h) (by rfl) hHeld ?_
        (try simp only [zq1, zq2, zq3, Act.put, zq4, zq5, zq6])
        first
         | (refine tk hSG 26 (v := ?_) rfl (by kernel_rfl) (fun _ _ _ h => h) (by rfl) ?_ hHeld ?_; rotate_left; focus (intro w' hSw; obtain ⟨A0, A1, B0, B1⟩ := hmv.out _ hSw; go_simp; (try with_reducible rfl)))
         | refine tn hSG 26 rfl (by kernel_rfl) (fun _ _ _ h => h) (by rfl) hHeld ?_
        (try simp only [zq1, zq2, zq3, Act.put, zq4, zq5, zq6])
        refine tc hSG 27 (v := .bool y) rfl (by kernel_rfl) (fun _ _ _ h => h) (by rfl) ?_ hHeld ?_
        focus (intro wz hSw K hK; obtain ⟨A0, A1, B0, B1⟩ := hmv.out _ hSw; go_simp; go_at_call 26; refine (hO2.out _).mono ?_; rintro e w2 ⟨rfl, rfl⟩; have hb2 := Below.refl w2.heap.size w2; first | exact hK.out _ hb2 | (have h9 := hK.out _ hb2; (try simp only [zq1, zq2, zq3, Act.put, zq4, zq5, zq6] at h9 ⊢); exact h9) | (have h9 := hK.out _ hb2; go_simp; exact h9))
        (try simp only [zq1, zq2, zq3, Act.put, zq4, zq5, zq6])
        first
         | (refine tk hSG 28 (v := ?_) rfl (by kernel_rfl) (fun _ _ _ h => h) (by rfl) ?_ hHeld ?_; rotate_left; focus (intro w' hSw; obtain ⟨A0, A1, B0, B1⟩ := hmv.out _ hSw; go_simp; (try with_reducible rfl)))
         | refine tn hSG 28 rfl (by kernel_rfl) (fun _ _ _ h => h) (by rfl) hHeld ?_
        (try simp only [zq1, zq2, zq3, Act.put, zq4, zq5, zq6])
        first
         | (refine tk hSG 29 (v := ?_) rfl (by kernel_rfl) (fun _ _ _ h => h) (by rfl) ?_ hHeld ?_; rotate_left; focus (intro w' hSw; obtain ⟨A0, A1, B0, B1⟩ := hmv.out _ hSw; go_simp; (try with_reducible rfl)))
         | refine tn hSG 29 rfl (by kernel_rfl) (fun _ _ _ h => h) (by rfl) hHeld ?_
        (try simp only [zq1, zq2, zq3, Act.put, zq4, zq5, zq6])
        refine wpAnyG_done (by kernel_rfl) (fun w5 hgD => ?_) _
        have hg5 : Gr wc w5 := (grDrew wc).tr hgD
        clear hgD hSG hHeld
        go_wp2_with fail
        go_meet
        exact ⟨rfl, rfl, Lib.hid (bCall HW.out hg5)⟩
      case rest => as_aux_lemma =>
        clear HW HA HB HS HT A0 A1 A2 A3 Al B0 B1 B2 B3 Bl
        obtain ⟨rfl, rfl, HW⟩ := hcut
        rcases he.out with ⟨rfl, rfl⟩ | ⟨rfl, rfl⟩ <;> rcases hf.out with ⟨rfl, rfl⟩ | ⟨rfl, rfl⟩
        all_goals
          clear he hf
          go_wp2_with fail
          go_ret
          exact ⟨rfl, HW.out⟩
theorem range_any (a b : Q) (w : World) : Calls Try.prog 9 #[qv a, qv b] w (BB true w) := by
  have V : ∀ (q : Q) (r : Bool), qB q = r → Hid (∀ w, Calls Try.prog 24 #[qv q] w (BB r w)) := fun q r h => Lib.hid (fun w => h ▸ RValid_any q w)
  rcases ha : qB a with _ | _
  · exact range_bad0 a b (V a _ ha) w
  rcases hb : qB b with _ | _
  · exact range_bad1 a b (V a _ ha) (V b _ hb) w
  have b0 := pb (vd ha).1 (vd hb).2
  have b1 := pb (vd hb).1 (vd ha).2
  have b3 := pb (vd ha).2 (vd hb).2
  have b4 := pb (vd ha).1 (vd hb).1
  have pd := Int.mul_pos (qB_p ha) (qB_p hb)
  have e1 : (addM a b).2 = if outB (a.n * b.d + b.n * a.d) (a.d * b.d) = true then 3 else 0 := by unfold addM; rw [if_pos (vvB_iff.2 ⟨ha, hb⟩)]; exact out_red pd
  have e2 : (mulM a b).2 = if outB (a.n * b.n) (a.d * b.d) = true then 3 else 0 := by unfold mulM; rw [if_pos (vvB_iff.2 ⟨ha, hb⟩)]; exact out_red pd
  refine range_go a b (addM a b).1 (mulM a b).1 (addM a b).2 (mulM a b).2 (a.n * b.d) (b.n * a.d) (a.n * b.d + b.n * a.d) (a.d * b.d) (a.n * b.n) (outB (a.n * b.d + b.n * a.d) (a.d * b.d)) (outB (a.n * b.n) (a.d * b.d)) (V a _ ha) (V b _ hb) (Lib.hid (Add_any a b)) (Lib.hid (Mul_any a b)) (IntWalk.i64_in _ (by omega)) (IntWalk.i64_in _ (by omega)) (IntWalk.i64_in _ (by omega)) (IntWalk.i64_in _ (by omega)) (IntWalk.i64_in _ (by omega))
    (Lib.hid (outside_any _ _ (by unfold Fit; omega) (by unfold Fit; omega) pd)) (Lib.hid (outside_any _ _ (by unfold Fit; omega) (by unfold Fit; omega) pd)) (Lib.hid ?_) (Lib.hid ?_) w
  · rw [e1]; rcases outB (a.n * b.d + b.n * a.d) (a.d * b.d) <;> simp
  · rw [e2]; rcases outB (a.n * b.n) (a.d * b.d) <;> simp
end Go.Proofs.Ytinmplilejnafaa
