/- Law package 12: RatioExact. -/
import Derived.Test.YtinmplilejnafaaRaG
namespace Go.Proofs.Ytinmplilejnafaa
open Go.RowKit
set_option linter.unusedVariables false
set_option linter.unusedSimpArgs false
set_option maxHeartbeats 8000000 in
set_option maxRecDepth 100000 in
theorem exact_bad0 (a b : Q) (hVa : Hid (∀ w, Calls Try.prog 25 #[qv a] w (BB false w))) (w : World) : Calls Try.prog 4 #[qv a, qv b] w (BB true w) := by
  go_enter Try.func4, Try.ntmps4
  have HW := Lib.hid (Below.refl w.heap.size w)
  go_upto_region 2 with (go_at_call 10; refine (head_any _).mono ?_; rintro e wn ⟨rfl, hbn⟩; obtain ⟨HA, HB⟩ := two2 hbn; have HA := Lib.hid HA; have HB := Lib.hid HB; replace HW := Lib.hid (bCall (by (repeat with_reducible first | exact HW.out | apply bDrew | apply bAlloc)) hbn); clear hbn)
  have A0 := (cells2 HA.out).1.1
  have A1 := (cells2 HA.out).1.2
  have A2 := (cells2 HA.out).2.1
  have A3 := (cells2 HA.out).2.2
  have Al := blkLt HA.out
  have B0 := (cells2 HB.out).1.1
  have B1 := (cells2 HB.out).1.2
  have B2 := (cells2 HB.out).2.1
  have B3 := (cells2 HB.out).2.2
  have Bl := blkLt HB.out
  go_wp2_with (first
    | (go_at_call_of 25 (Value.agg #[Value.int IntKind.i64 a.n, Value.int IntKind.i64 a.d]); refine (hVa.out _).mono ?_; rintro e wn ⟨rfl, hbn⟩; replace HW := Lib.hid (bCall (by (repeat with_reducible first | exact HW.out | apply bDrew | apply bAlloc)) hbn); replace HA := Lib.hid (moveX (by (repeat with_reducible first | exact Below.refl _ _ | apply bDrew | apply bAlloc)) hbn HA.out); replace HB := Lib.hid (moveX (by (repeat with_reducible first | exact Below.refl _ _ | apply bDrew | apply bAlloc)) hbn HB.out); replace A0 := (cells2 HA.out).1.1; replace A1 := (cells2 HA.out).1.2; replace A2 := (cells2 HA.out).2.1; replace A3 := (cells2 HA.out).2.2; replace Al := blkLt HA.out; replace B0 := (cells2 HB.out).1.1; replace B1 := (cells2 HB.out).1.2; replace B2 := (cells2 HB.out).2.1; replace B3 := (cells2 HB.out).2.2; replace Bl := blkLt HB.out; clear hbn))
  go_ret
  exact ⟨rfl, HW.out⟩
set_option maxHeartbeats 8000000 in
set_option maxRecDepth 100000 in
theorem exact_bad1 (a b : Q) (hVa : Hid (∀ w, Calls Try.prog 25 #[qv a] w (BB true w))) (hVb : Hid (∀ w, Calls Try.prog 25 #[qv b] w (BB false w))) (w : World) : Calls Try.prog 4 #[qv a, qv b] w (BB true w) := by
  go_enter Try.func4, Try.ntmps4
  have HW := Lib.hid (Below.refl w.heap.size w)
  go_upto_region 2 with (go_at_call 10; refine (head_any _).mono ?_; rintro e wn ⟨rfl, hbn⟩; obtain ⟨HA, HB⟩ := two2 hbn; have HA := Lib.hid HA; have HB := Lib.hid HB; replace HW := Lib.hid (bCall (by (repeat with_reducible first | exact HW.out | apply bDrew | apply bAlloc)) hbn); clear hbn)
  have A0 := (cells2 HA.out).1.1
  have A1 := (cells2 HA.out).1.2
  have A2 := (cells2 HA.out).2.1
  have A3 := (cells2 HA.out).2.2
  have Al := blkLt HA.out
  have B0 := (cells2 HB.out).1.1
  have B1 := (cells2 HB.out).1.2
  have B2 := (cells2 HB.out).2.1
  have B3 := (cells2 HB.out).2.2
  have Bl := blkLt HB.out
  go_wp2_with (first
    | (go_at_call_of 25 (Value.agg #[Value.int IntKind.i64 a.n, Value.int IntKind.i64 a.d]); refine (hVa.out _).mono ?_; rintro e wn ⟨rfl, hbn⟩; replace HW := Lib.hid (bCall (by (repeat with_reducible first | exact HW.out | apply bDrew | apply bAlloc)) hbn); replace HA := Lib.hid (moveX (by (repeat with_reducible first | exact Below.refl _ _ | apply bDrew | apply bAlloc)) hbn HA.out); replace HB := Lib.hid (moveX (by (repeat with_reducible first | exact Below.refl _ _ | apply bDrew | apply bAlloc)) hbn HB.out); replace A0 := (cells2 HA.out).1.1; replace A1 := (cells2 HA.out).1.2; replace A2 := (cells2 HA.out).2.1; replace A3 := (cells2 HA.out).2.2; replace Al := blkLt HA.out; replace B0 := (cells2 HB.out).1.1; replace B1 := (cells2 HB.out).1.2; replace B2 := (cells2 HB.out).2.1; replace B3 := (cells2 HB.out).2.2; replace Bl := blkLt HB.out; clear hbn)
    | (go_at_call_of 25 (Value.agg #[Value.int IntKind.i64 b.n, Value.int IntKind.i64 b.d]); refine (hVb.out _).mono ?_; rintro e wn ⟨rfl, hbn⟩; replace HW := Lib.hid (bCall (by (repeat with_reducible first | exact HW.out | apply bDrew | apply bAlloc)) hbn); replace HA := Lib.hid (moveX (by (repeat with_reducible first | exact Below.refl _ _ | apply bDrew | apply bAlloc)) hbn HA.out); replace HB := Lib.hid (moveX (by (repeat with_reducible first | exact Below.refl _ _ | apply bDrew | apply bAlloc)) hbn HB.out); replace A0 := (cells2 HA.out).1.1; replace A1 := (cells2 HA.out).1.2; replace A2 := (cells2 HA.out).2.1; replace A3 := (cells2 HA.out).2.2; replace Al := blkLt HA.out; replace B0 := (cells2 HB.out).1.1; replace B1 := (cells2 HB.out).1.2; replace B2 := (cells2 HB.out).2.1; replace B3 := (cells2 HB.out).2.2; replace Bl := blkLt HB.out; clear hbn))
  go_ret
  exact ⟨rfl, HW.out⟩
set_option maxHeartbeats 8000000 in
set_option maxRecDepth 100000 in
theorem exact_go0 (a b s t u v : Q) (D p1 p2 p3 p4 x1 x2 x3 y3 z4 x4 y4 : Int)
    (hVa : Hid (∀ w, Calls Try.prog 25 #[qv a] w (BB true w)))
    (hVb : Hid (∀ w, Calls Try.prog 25 #[qv b] w (BB true w)))
    (hA : Hid (∀ w, Calls Try.prog 13 #[qv a, qv b] w (VV (.tuple #[qv s, .int .i64 0]) w)))
    (hS : Hid (∀ w, Calls Try.prog 15 #[qv a, qv b] w (VV (.tuple #[qv t, .int .i64 0]) w)))
    (hM : Hid (∀ w, Calls Try.prog 17 #[qv a, qv b] w (VV (.tuple #[qv u, .int .i64 0]) w)))
    (hD : Hid (∀ w, Calls Try.prog 19 #[qv a, qv b] w (VV (.tuple #[qv v, .int .i64 14]) w)))
    (q0 : IntKind.i64.wrap (a.d * b.d) = D)
    (q1 : IntKind.i64.wrap (a.n * b.d) = p1)
    (q2 : IntKind.i64.wrap (b.n * a.d) = p2)
    (q3 : IntKind.i64.wrap (p1 + p2) = p3)
    (q4 : IntKind.i64.wrap (p1 - p2) = p4)
    (q5 : IntKind.i64.wrap (s.n * D) = x1)
    (q6 : IntKind.i64.wrap (s.d * p3) = x1)
    (q7 : IntKind.i64.wrap (t.n * D) = x2)
    (q8 : IntKind.i64.wrap (t.d * p4) = x2)
    (q9 : IntKind.i64.wrap (u.n * D) = x3)
    (r0 : IntKind.i64.wrap (u.d * a.n) = y3)
    (r1 : IntKind.i64.wrap (y3 * b.n) = x3)
    (td : (b.n == 0) = true) (w : World) : Calls Try.prog 4 #[qv a, qv b] w (BB true w) := by
  go_enter Try.func4, Try.ntmps4
  have HW := Lib.hid (Below.refl w.heap.size w)
  go_upto_region 2 with (go_at_call 10; refine (head_any _).mono ?_; rintro e wn ⟨rfl, hbn⟩; obtain ⟨HA, HB⟩ := two2 hbn; have HA := Lib.hid HA; have HB := Lib.hid HB; replace HW := Lib.hid (bCall (by (repeat with_reducible first | exact HW.out | apply bDrew | apply bAlloc)) hbn); clear hbn)
  have A0 := (cells2 HA.out).1.1
  have A1 := (cells2 HA.out).1.2
  have A2 := (cells2 HA.out).2.1
  have A3 := (cells2 HA.out).2.2
  have Al := blkLt HA.out
  have B0 := (cells2 HB.out).1.1
  have B1 := (cells2 HB.out).1.2
  have B2 := (cells2 HB.out).2.1
  have B3 := (cells2 HB.out).2.2
  have Bl := blkLt HB.out
  go_upto_region 4 with (first
      | (go_at_call_of 25 (Value.agg #[Value.int IntKind.i64 a.n, Value.int IntKind.i64 a.d]); refine (hVa.out _).mono ?_; rintro e wn ⟨rfl, hbn⟩; replace HW := Lib.hid (bCall (by (repeat with_reducible first | exact HW.out | apply bDrew | apply bAlloc)) hbn); replace HA := Lib.hid (moveX (by (repeat with_reducible first | exact Below.refl _ _ | apply bDrew | apply bAlloc)) hbn HA.out); replace HB := Lib.hid (moveX (by (repeat with_reducible first | exact Below.refl _ _ | apply bDrew | apply bAlloc)) hbn HB.out); replace A0 := (cells2 HA.out).1.1; replace A1 := (cells2 HA.out).1.2; replace A2 := (cells2 HA.out).2.1; replace A3 := (cells2 HA.out).2.2; replace Al := blkLt HA.out; replace B0 := (cells2 HB.out).1.1; replace B1 := (cells2 HB.out).1.2; replace B2 := (cells2 HB.out).2.1; replace B3 := (cells2 HB.out).2.2; replace Bl := blkLt HB.out; clear hbn)
      | (go_at_call_of 25 (Value.agg #[Value.int IntKind.i64 b.n, Value.int IntKind.i64 b.d]); refine (hVb.out _).mono ?_; rintro e wn ⟨rfl, hbn⟩; replace HW := Lib.hid (bCall (by (repeat with_reducible first | exact HW.out | apply bDrew | apply bAlloc)) hbn); replace HA := Lib.hid (moveX (by (repeat with_reducible first | exact Below.refl _ _ | apply bDrew | apply bAlloc)) hbn HA.out); replace HB := Lib.hid (moveX (by (repeat with_reducible first | exact Below.refl _ _ | apply bDrew | apply bAlloc)) hbn HB.out); replace A0 := (cells2 HA.out).1.1; replace A1 := (cells2 HA.out).1.2; replace A2 := (cells2 HA.out).2.1; replace A3 := (cells2 HA.out).2.2; replace Al := blkLt HA.out; replace B0 := (cells2 HB.out).1.1; replace B1 := (cells2 HB.out).1.2; replace B2 := (cells2 HB.out).2.1; replace B3 := (cells2 HB.out).2.2; replace Bl := blkLt HB.out; clear hbn))
  clear hVa hVb A0 A1 A2 A3 Al B0 B1 B2 B3 Bl
  go_cut [6, 7] (fun s1 s2 wx => ∃ bS : Nat, s1 = .pointer (some ⟨bS, 0, none⟩) ∧ s2 = .int .i64 0 ∧ Hid (wx.heap[w.heap.size]? = some (.cells #[.int .i64 (a.n), .int .i64 (a.d)] 23 (0, 0))) ∧ Hid (wx.heap[w.heap.size + 1]? = some (.cells #[.int .i64 (b.n), .int .i64 (b.d)] 23 (0, 0))) ∧ Hid (wx.heap[bS]? = some (.cells #[.int .i64 (s.n), .int .i64 (s.d)] 23 (0, 0))) ∧ Hid (Below w.heap.size w wx))
  case first => as_aux_lemma =>
    have A0 := (cells2 HA.out).1.1
    have A1 := (cells2 HA.out).1.2
    have A2 := (cells2 HA.out).2.1
    have A3 := (cells2 HA.out).2.2
    have Al := blkLt HA.out
    have B0 := (cells2 HB.out).1.1
    have B1 := (cells2 HB.out).1.2
    have B2 := (cells2 HB.out).2.1
    have B3 := (cells2 HB.out).2.2
    have Bl := blkLt HB.out
    go_wp2_with (go_at_call 13; refine (hA.out _).mono ?_; rintro e wn ⟨rfl, hbn⟩; replace HW := Lib.hid (bCall (by (repeat with_reducible first | exact HW.out | apply bDrew | apply bAlloc)) hbn); replace HA := Lib.hid (moveX (by (repeat with_reducible first | exact Below.refl _ _ | apply bDrew | apply bAlloc)) hbn HA.out); replace HB := Lib.hid (moveX (by (repeat with_reducible first | exact Below.refl _ _ | apply bDrew | apply bAlloc)) hbn HB.out); replace A0 := (cells2 HA.out).1.1; replace A1 := (cells2 HA.out).1.2; replace A2 := (cells2 HA.out).2.1; replace A3 := (cells2 HA.out).2.2; replace Al := blkLt HA.out; replace B0 := (cells2 HB.out).1.1; replace B1 := (cells2 HB.out).1.2; replace B2 := (cells2 HB.out).2.1; replace B3 := (cells2 HB.out).2.2; replace Bl := blkLt HB.out; clear hbn)
    go_meet
    exact ⟨_, rfl, rfl, Lib.hid (mvAlloc HA.out), Lib.hid (mvAlloc HB.out), Lib.hid (newBlk _ _ _ rfl), Lib.hid (bAlloc HW.out)⟩
  case rest =>
    clear HW HA HB
    obtain ⟨bS, rfl, rfl, HA, HB, HS, HW⟩ := hcut
    clear hA
    go_upto_region 5 with fail
    go_cut [8, 9] (fun s1 s2 wx => ∃ bT : Nat, s1 = .pointer (some ⟨bT, 0, none⟩) ∧ s2 = .int .i64 0 ∧ Hid (wx.heap[w.heap.size]? = some (.cells #[.int .i64 (a.n), .int .i64 (a.d)] 23 (0, 0))) ∧ Hid (wx.heap[w.heap.size + 1]? = some (.cells #[.int .i64 (b.n), .int .i64 (b.d)] 23 (0, 0))) ∧ Hid (wx.heap[bS]? = some (.cells #[.int .i64 (s.n), .int .i64 (s.d)] 23 (0, 0))) ∧ Hid (wx.heap[bT]? = some (.cells #[.int .i64 (t.n), .int .i64 (t.d)] 23 (0, 0))) ∧ Hid (Below w.heap.size w wx))
    case first => as_aux_lemma =>
      have A0 := (cells2 HA.out).1.1
      have A1 := (cells2 HA.out).1.2
      have A2 := (cells2 HA.out).2.1
      have A3 := (cells2 HA.out).2.2
      have Al := blkLt HA.out
      have B0 := (cells2 HB.out).1.1
      have B1 := (cells2 HB.out).1.2
      have B2 := (cells2 HB.out).2.1
      have B3 := (cells2 HB.out).2.2
      have Bl := blkLt HB.out
      have S0 := (cells2 HS.out).1.1
      have S1 := (cells2 HS.out).1.2
      have S2 := (cells2 HS.out).2.1
      have S3 := (cells2 HS.out).2.2
      have Sl := blkLt HS.out
      go_wp2_with (go_at_call 15; refine (hS.out _).mono ?_; rintro e wn ⟨rfl, hbn⟩; replace HW := Lib.hid (bCall (by (repeat with_reducible first | exact HW.out | apply bDrew | apply bAlloc)) hbn); replace HA := Lib.hid (moveX (by (repeat with_reducible first | exact Below.refl _ _ | apply bDrew | apply bAlloc)) hbn HA.out); replace HB := Lib.hid (moveX (by (repeat with_reducible first | exact Below.refl _ _ | apply bDrew | apply bAlloc)) hbn HB.out); replace HS := Lib.hid (moveX (by (repeat with_reducible first | exact Below.refl _ _ | apply bDrew | apply bAlloc)) hbn HS.out); replace A0 := (cells2 HA.out).1.1; replace A1 := (cells2 HA.out).1.2; replace A2 := (cells2 HA.out).2.1; replace A3 := (cells2 HA.out).2.2; replace Al := blkLt HA.out; replace B0 := (cells2 HB.out).1.1; replace B1 := (cells2 HB.out).1.2; replace B2 := (cells2 HB.out).2.1; replace B3 := (cells2 HB.out).2.2; replace Bl := blkLt HB.out; replace S0 := (cells2 HS.out).1.1; replace S1 := (cells2 HS.out).1.2; replace S2 := (cells2 HS.out).2.1; replace S3 := (cells2 HS.out).2.2; replace Sl := blkLt HS.out; clear hbn)
      go_meet
      exact ⟨_, rfl, rfl, Lib.hid (mvAlloc HA.out), Lib.hid (mvAlloc HB.out), Lib.hid (mvAlloc HS.out), Lib.hid (newBlk _ _ _ rfl), Lib.hid (bAlloc HW.out)⟩
    case rest =>
      clear HW HA HB HS
      obtain ⟨bT, rfl, rfl, HA, HB, HS, HT, HW⟩ := hcut
      clear hS
      go_upto_region 6 with fail
      go_cut [10, 11] (fun s1 s2 wx => ∃ bU : Nat, s1 = .pointer (some ⟨bU, 0, none⟩) ∧ s2 = .int .i64 0 ∧ Hid (wx.heap[w.heap.size]? = some (.cells #[.int .i64 (a.n), .int .i64 (a.d)] 23 (0, 0))) ∧ Hid (wx.heap[w.heap.size + 1]? = some (.cells #[.int .i64 (b.n), .int .i64 (b.d)] 23 (0, 0))) ∧ Hid (wx.heap[bS]? = some (.cells #[.int .i64 (s.n), .int .i64 (s.d)] 23 (0, 0))) ∧ Hid (wx.heap[bT]? = some (.cells #[.int .i64 (t.n), .int .i64 (t.d)] 23 (0, 0))) ∧ Hid (wx.heap[bU]? = some (.cells #[.int .i64 (u.n), .int .i64 (u.d)] 23 (0, 0))) ∧ Hid (Below w.heap.size w wx))
      case first => as_aux_lemma =>
        have A0 := (cells2 HA.out).1.1
        have A1 := (cells2 HA.out).1.2
        have A2 := (cells2 HA.out).2.1
        have A3 := (cells2 HA.out).2.2
        have Al := blkLt HA.out
        have B0 := (cells2 HB.out).1.1
        have B1 := (cells2 HB.out).1.2
        have B2 := (cells2 HB.out).2.1
        have B3 := (cells2 HB.out).2.2
        have Bl := blkLt HB.out
        have S0 := (cells2 HS.out).1.1
        have S1 := (cells2 HS.out).1.2
        have S2 := (cells2 HS.out).2.1
        have S3 := (cells2 HS.out).2.2
        have Sl := blkLt HS.out
        have T0 := (cells2 HT.out).1.1
        have T1 := (cells2 HT.out).1.2
        have T2 := (cells2 HT.out).2.1
        have T3 := (cells2 HT.out).2.2
        have Tl := blkLt HT.out
        go_wp2_with (go_at_call 17; refine (hM.out _).mono ?_; rintro e wn ⟨rfl, hbn⟩; replace HW := Lib.hid (bCall (by (repeat with_reducible first | exact HW.out | apply bDrew | apply bAlloc)) hbn); replace HA := Lib.hid (moveX (by (repeat with_reducible first | exact Below.refl _ _ | apply bDrew | apply bAlloc)) hbn HA.out); replace HB := Lib.hid (moveX (by (repeat with_reducible first | exact Below.refl _ _ | apply bDrew | apply bAlloc)) hbn HB.out); replace HS := Lib.hid (moveX (by (repeat with_reducible first | exact Below.refl _ _ | apply bDrew | apply bAlloc)) hbn HS.out); replace HT := Lib.hid (moveX (by (repeat with_reducible first | exact Below.refl _ _ | apply bDrew | apply bAlloc)) hbn HT.out); replace A0 := (cells2 HA.out).1.1; replace A1 := (cells2 HA.out).1.2; replace A2 := (cells2 HA.out).2.1; replace A3 := (cells2 HA.out).2.2; replace Al := blkLt HA.out; replace B0 := (cells2 HB.out).1.1; replace B1 := (cells2 HB.out).1.2; replace B2 := (cells2 HB.out).2.1; replace B3 := (cells2 HB.out).2.2; replace Bl := blkLt HB.out; replace S0 := (cells2 HS.out).1.1; replace S1 := (cells2 HS.out).1.2; replace S2 := (cells2 HS.out).2.1; replace S3 := (cells2 HS.out).2.2; replace Sl := blkLt HS.out; replace T0 := (cells2 HT.out).1.1; replace T1 := (cells2 HT.out).1.2; replace T2 := (cells2 HT.out).2.1; replace T3 := (cells2 HT.out).2.2; replace Tl := blkLt HT.out; clear hbn)
        go_meet
        exact ⟨_, rfl, rfl, Lib.hid (mvAlloc HA.out), Lib.hid (mvAlloc HB.out), Lib.hid (mvAlloc HS.out), Lib.hid (mvAlloc HT.out), Lib.hid (newBlk _ _ _ rfl), Lib.hid (bAlloc HW.out)⟩
      case rest =>
        clear HW HA HB HS HT
        obtain ⟨bU, rfl, rfl, HA, HB, HS, HT, HU, HW⟩ := hcut
        clear hM
        go_upto_region 7 with fail
        go_cut [12] (fun s1 wx => s1 = .int .i64 D ∧ Hid (wx.heap[w.heap.size]? = some (.cells #[.int .i64 (a.n), .int .i64 (a.d)] 23 (0, 0))) ∧ Hid (wx.heap[w.heap.size + 1]? = some (.cells #[.int .i64 (b.n), .int .i64 (b.d)] 23 (0, 0))) ∧ Hid (wx.heap[bS]? = some (.cells #[.int .i64 (s.n), .int .i64 (s.d)] 23 (0, 0))) ∧ Hid (wx.heap[bT]? = some (.cells #[.int .i64 (t.n), .int .i64 (t.d)] 23 (0, 0))) ∧ Hid (wx.heap[bU]? = some (.cells #[.int .i64 (u.n), .int .i64 (u.d)] 23 (0, 0))) ∧ Hid (Below w.heap.size w wx))
        case first => as_aux_lemma =>
          have A0 := (cells2 HA.out).1.1
          have A1 := (cells2 HA.out).1.2
          have A2 := (cells2 HA.out).2.1
          have A3 := (cells2 HA.out).2.2
          have Al := blkLt HA.out
          have B0 := (cells2 HB.out).1.1
          have B1 := (cells2 HB.out).1.2
          have B2 := (cells2 HB.out).2.1
          have B3 := (cells2 HB.out).2.2
          have Bl := blkLt HB.out
          go_wp2_with fail
          go_meet
          exact ⟨rfl, HA, HB, HS, HT, HU, HW⟩
        case rest =>
          clear HW HA HB HS HT HU
          obtain ⟨rfl, HA, HB, HS, HT, HU, HW⟩ := hcut
          go_upto_region 8 with fail
          simp only [List.append, List.append_eq, List.cons_append, List.nil_append]
          go_cut [5] (fun s1 wx => s1 = .bool true ∧ Hid (wx.heap[w.heap.size]? = some (.cells #[.int .i64 (a.n), .int .i64 (a.d)] 23 (0, 0))) ∧ Hid (wx.heap[w.heap.size + 1]? = some (.cells #[.int .i64 (b.n), .int .i64 (b.d)] 23 (0, 0))) ∧ Hid (Below w.heap.size w wx))
          case first => as_aux_lemma =>
            have A0 := (cells2 HA.out).1.1
            have A1 := (cells2 HA.out).1.2
            have A2 := (cells2 HA.out).2.1
            have A3 := (cells2 HA.out).2.2
            have Al := blkLt HA.out
            have B0 := (cells2 HB.out).1.1
            have B1 := (cells2 HB.out).1.2
            have B2 := (cells2 HB.out).2.1
            have B3 := (cells2 HB.out).2.2
            have Bl := blkLt HB.out
            have S0 := (cells2 HS.out).1.1
            have S1 := (cells2 HS.out).1.2
            have S2 := (cells2 HS.out).2.1
            have S3 := (cells2 HS.out).2.2
            have Sl := blkLt HS.out
            have T0 := (cells2 HT.out).1.1
            have T1 := (cells2 HT.out).1.2
            have T2 := (cells2 HT.out).2.1
            have T3 := (cells2 HT.out).2.2
            have Tl := blkLt HT.out
            have U0 := (cells2 HU.out).1.1
            have U1 := (cells2 HU.out).1.2
            have U2 := (cells2 HU.out).2.1
            have U3 := (cells2 HU.out).2.2
            have Ul := blkLt HU.out
            first
              | (go_wp2_with fail; go_meet; exact ⟨rfl, HA, HB, HW⟩)
              | (go_quiet (fail); go_meet; exact ⟨rfl, HA, HB, Lib.hid (bDrewN HW.out _)⟩)
          case rest =>
            clear HW HA HB HS HT HU
            obtain ⟨rfl, HA, HB, HW⟩ := hcut
            clear q0 q3 q4 q5 q6 q7 q8 q9 r0 r1
            go_upto_region 9 with fail
            go_cut [13, 14] (fun s1 s2 wx => ∃ bV : Nat, s1 = .pointer (some ⟨bV, 0, none⟩) ∧ s2 = .int .i64 14 ∧ Hid (wx.heap[w.heap.size]? = some (.cells #[.int .i64 (a.n), .int .i64 (a.d)] 23 (0, 0))) ∧ Hid (wx.heap[w.heap.size + 1]? = some (.cells #[.int .i64 (b.n), .int .i64 (b.d)] 23 (0, 0))) ∧ Hid (wx.heap[bV]? = some (.cells #[.int .i64 (v.n), .int .i64 (v.d)] 23 (0, 0))) ∧ Hid (Below w.heap.size w wx))
            case first => as_aux_lemma =>
              have A0 := (cells2 HA.out).1.1
              have A1 := (cells2 HA.out).1.2
              have A2 := (cells2 HA.out).2.1
              have A3 := (cells2 HA.out).2.2
              have Al := blkLt HA.out
              have B0 := (cells2 HB.out).1.1
              have B1 := (cells2 HB.out).1.2
              have B2 := (cells2 HB.out).2.1
              have B3 := (cells2 HB.out).2.2
              have Bl := blkLt HB.out
              go_wp2_with (go_at_call 19; refine (hD.out _).mono ?_; rintro e wn ⟨rfl, hbn⟩; replace HW := Lib.hid (bCall (by (repeat with_reducible first | exact HW.out | apply bDrew | apply bAlloc)) hbn); replace HA := Lib.hid (moveX (by (repeat with_reducible first | exact Below.refl _ _ | apply bDrew | apply bAlloc)) hbn HA.out); replace HB := Lib.hid (moveX (by (repeat with_reducible first | exact Below.refl _ _ | apply bDrew | apply bAlloc)) hbn HB.out); replace A0 := (cells2 HA.out).1.1; replace A1 := (cells2 HA.out).1.2; replace A2 := (cells2 HA.out).2.1; replace A3 := (cells2 HA.out).2.2; replace Al := blkLt HA.out; replace B0 := (cells2 HB.out).1.1; replace B1 := (cells2 HB.out).1.2; replace B2 := (cells2 HB.out).2.1; replace B3 := (cells2 HB.out).2.2; replace Bl := blkLt HB.out; clear hbn)
              go_meet
              exact ⟨_, rfl, rfl, Lib.hid (mvAlloc HA.out), Lib.hid (mvAlloc HB.out), Lib.hid (newBlk _ _ _ rfl), Lib.hid (bAlloc HW.out)⟩
            case rest =>
              clear HW HA HB
              obtain ⟨bV, rfl, rfl, HA, HB, HV, HW⟩ := hcut
              clear q1 q2 hD
              have B0 := (cells2 HB.out).1.1
              have B1 := (cells2 HB.out).1.2
              have B2 := (cells2 HB.out).2.1
              have B3 := (cells2 HB.out).2.2
              have Bl := blkLt HB.out
              go_wp2_with fail
              go_ret
              exact ⟨rfl, HW.out⟩
set_option maxHeartbeats 8000000 in
set_option maxRecDepth 100000 in
theorem exact_go1 (a b s t u v : Q) (D p1 p2 p3 p4 x1 x2 x3 y3 z4 x4 y4 : Int)
    (hVa : Hid (∀ w, Calls Try.prog 25 #[qv a] w (BB true w)))
    (hVb : Hid (∀ w, Calls Try.prog 25 #[qv b] w (BB true w)))
    (hA : Hid (∀ w, Calls Try.prog 13 #[qv a, qv b] w (VV (.tuple #[qv s, .int .i64 0]) w)))
    (hS : Hid (∀ w, Calls Try.prog 15 #[qv a, qv b] w (VV (.tuple #[qv t, .int .i64 0]) w)))
    (hM : Hid (∀ w, Calls Try.prog 17 #[qv a, qv b] w (VV (.tuple #[qv u, .int .i64 0]) w)))
    (hD : Hid (∀ w, Calls Try.prog 19 #[qv a, qv b] w (VV (.tuple #[qv v, .int .i64 0]) w)))
    (q0 : IntKind.i64.wrap (a.d * b.d) = D)
    (q1 : IntKind.i64.wrap (a.n * b.d) = p1)
    (q2 : IntKind.i64.wrap (b.n * a.d) = p2)
    (q3 : IntKind.i64.wrap (p1 + p2) = p3)
    (q4 : IntKind.i64.wrap (p1 - p2) = p4)
    (q5 : IntKind.i64.wrap (s.n * D) = x1)
    (q6 : IntKind.i64.wrap (s.d * p3) = x1)
    (q7 : IntKind.i64.wrap (t.n * D) = x2)
    (q8 : IntKind.i64.wrap (t.d * p4) = x2)
    (q9 : IntKind.i64.wrap (u.n * D) = x3)
    (r0 : IntKind.i64.wrap (u.d * a.n) = y3)
    (r1 : IntKind.i64.wrap (y3 * b.n) = x3)
    (td : (b.n == 0) = false)
    (r2 : IntKind.i64.wrap (v.n * a.d) = z4)
    (r3 : IntKind.i64.wrap (z4 * b.n) = x4)
    (r4 : IntKind.i64.wrap (v.d * a.n) = y4)
    (r5 : IntKind.i64.wrap (y4 * b.d) = x4) (w : World) : Calls Try.prog 4 #[qv a, qv b] w (BB true w) := by
  go_enter Try.func4, Try.ntmps4
  have HW := Lib.hid (Below.refl w.heap.size w)
  go_upto_region 2 with (go_at_call 10; refine (head_any _).mono ?_; rintro e wn ⟨rfl, hbn⟩; obtain ⟨HA, HB⟩ := two2 hbn; have HA := Lib.hid HA; have HB := Lib.hid HB; replace HW := Lib.hid (bCall (by (repeat with_reducible first | exact HW.out | apply bDrew | apply bAlloc)) hbn); clear hbn)
  have A0 := (cells2 HA.out).1.1
  have A1 := (cells2 HA.out).1.2
  have A2 := (cells2 HA.out).2.1
  have A3 := (cells2 HA.out).2.2
  have Al := blkLt HA.out
  have B0 := (cells2 HB.out).1.1
  have B1 := (cells2 HB.out).1.2
  have B2 := (cells2 HB.out).2.1
  have B3 := (cells2 HB.out).2.2
  have Bl := blkLt HB.out
  go_upto_region 4 with (first
      | (go_at_call_of 25 (Value.agg #[Value.int IntKind.i64 a.n, Value.int IntKind.i64 a.d]); refine (hVa.out _).mono ?_; rintro e wn ⟨rfl, hbn⟩; replace HW := Lib.hid (bCall (by (repeat with_reducible first | exact HW.out | apply bDrew | apply bAlloc)) hbn); replace HA := Lib.hid (moveX (by (repeat with_reducible first | exact Below.refl _ _ | apply bDrew | apply bAlloc)) hbn HA.out); replace HB := Lib.hid (moveX (by (repeat with_reducible first | exact Below.refl _ _ | apply bDrew | apply bAlloc)) hbn HB.out); replace A0 := (cells2 HA.out).1.1; replace A1 := (cells2 HA.out).1.2; replace A2 := (cells2 HA.out).2.1; replace A3 := (cells2 HA.out).2.2; replace Al := blkLt HA.out; replace B0 := (cells2 HB.out).1.1; replace B1 := (cells2 HB.out).1.2; replace B2 := (cells2 HB.out).2.1; replace B3 := (cells2 HB.out).2.2; replace Bl := blkLt HB.out; clear hbn)
      | (go_at_call_of 25 (Value.agg #[Value.int IntKind.i64 b.n, Value.int IntKind.i64 b.d]); refine (hVb.out _).mono ?_; rintro e wn ⟨rfl, hbn⟩; replace HW := Lib.hid (bCall (by (repeat with_reducible first | exact HW.out | apply bDrew | apply bAlloc)) hbn); replace HA := Lib.hid (moveX (by (repeat with_reducible first | exact Below.refl _ _ | apply bDrew | apply bAlloc)) hbn HA.out); replace HB := Lib.hid (moveX (by (repeat with_reducible first | exact Below.refl _ _ | apply bDrew | apply bAlloc)) hbn HB.out); replace A0 := (cells2 HA.out).1.1; replace A1 := (cells2 HA.out).1.2; replace A2 := (cells2 HA.out).2.1; replace A3 := (cells2 HA.out).2.2; replace Al := blkLt HA.out; replace B0 := (cells2 HB.out).1.1; replace B1 := (cells2 HB.out).1.2; replace B2 := (cells2 HB.out).2.1; replace B3 := (cells2 HB.out).2.2; replace Bl := blkLt HB.out; clear hbn))
  clear hVa hVb A0 A1 A2 A3 Al B0 B1 B2 B3 Bl
  go_cut [6, 7] (fun s1 s2 wx => ∃ bS : Nat, s1 = .pointer (some ⟨bS, 0, none⟩) ∧ s2 = .int .i64 0 ∧ Hid (wx.heap[w.heap.size]? = some (.cells #[.int .i64 (a.n), .int .i64 (a.d)] 23 (0, 0))) ∧ Hid (wx.heap[w.heap.size + 1]? = some (.cells #[.int .i64 (b.n), .int .i64 (b.d)] 23 (0, 0))) ∧ Hid (wx.heap[bS]? = some (.cells #[.int .i64 (s.n), .int .i64 (s.d)] 23 (0, 0))) ∧ Hid (Below w.heap.size w wx))
  case first => as_aux_lemma =>
    have A0 := (cells2 HA.out).1.1
    have A1 := (cells2 HA.out).1.2
    have A2 := (cells2 HA.out).2.1
    have A3 := (cells2 HA.out).2.2
    have Al := blkLt HA.out
    have B0 := (cells2 HB.out).1.1
    have B1 := (cells2 HB.out).1.2
    have B2 := (cells2 HB.out).2.1
    have B3 := (cells2 HB.out).2.2
    have Bl := blkLt HB.out
    go_wp2_with (go_at_call 13; refine (hA.out _).mono ?_; rintro e wn ⟨rfl, hbn⟩; replace HW := Lib.hid (bCall (by (repeat with_reducible first | exact HW.out | apply bDrew | apply bAlloc)) hbn); replace HA := Lib.hid (moveX (by (repeat with_reducible first | exact Below.refl _ _ | apply bDrew | apply bAlloc)) hbn HA.out); replace HB := Lib.hid (moveX (by (repeat with_reducible first | exact Below.refl _ _ | apply bDrew | apply bAlloc)) hbn HB.out); replace A0 := (cells2 HA.out).1.1; replace A1 := (cells2 HA.out).1.2; replace A2 := (cells2 HA.out).2.1; replace A3 := (cells2 HA.out).2.2; replace Al := blkLt HA.out; replace B0 := (cells2 HB.out).1.1; replace B1 := (cells2 HB.out).1.2; replace B2 := (cells2 HB.out).2.1; replace B3 := (cells2 HB.out).2.2; replace Bl := blkLt HB.out; clear hbn)
    go_meet
    exact ⟨_, rfl, rfl, Lib.hid (mvAlloc HA.out), Lib.hid (mvAlloc HB.out), Lib.hid (newBlk _ _ _ rfl), Lib.hid (bAlloc HW.out)⟩
  case rest =>
    clear HW HA HB
    obtain ⟨bS, rfl, rfl, HA, HB, HS, HW⟩ := hcut
    clear hA
    go_upto_region 5 with fail
    go_cut [8, 9] (fun s1 s2 wx => ∃ bT : Nat, s1 = .pointer (some ⟨bT, 0, none⟩) ∧ s2 = .int .i64 0 ∧ Hid (wx.heap[w.heap.size]? = some (.cells #[.int .i64 (a.n), .int .i64 (a.d)] 23 (0, 0))) ∧ Hid (wx.heap[w.heap.size + 1]? = some (.cells #[.int .i64 (b.n), .int .i64 (b.d)] 23 (0, 0))) ∧ Hid (wx.heap[bS]? = some (.cells #[.int .i64 (s.n), .int .i64 (s.d)] 23 (0, 0))) ∧ Hid (wx.heap[bT]? = some (.cells #[.int .i64 (t.n), .int .i64 (t.d)] 23 (0, 0))) ∧ Hid (Below w.heap.size w wx))
    case first => as_aux_lemma =>
      have A0 := (cells2 HA.out).1.1
      have A1 := (cells2 HA.out).1.2
      have A2 := (cells2 HA.out).2.1
      have A3 := (cells2 HA.out).2.2
      have Al := blkLt HA.out
      have B0 := (cells2 HB.out).1.1
      have B1 := (cells2 HB.out).1.2
      have B2 := (cells2 HB.out).2.1
      have B3 := (cells2 HB.out).2.2
      have Bl := blkLt HB.out
      have S0 := (cells2 HS.out).1.1
      have S1 := (cells2 HS.out).1.2
      have S2 := (cells2 HS.out).2.1
      have S3 := (cells2 HS.out).2.2
      have Sl := blkLt HS.out
      go_wp2_with (go_at_call 15; refine (hS.out _).mono ?_; rintro e wn ⟨rfl, hbn⟩; replace HW := Lib.hid (bCall (by (repeat with_reducible first | exact HW.out | apply bDrew | apply bAlloc)) hbn); replace HA := Lib.hid (moveX (by (repeat with_reducible first | exact Below.refl _ _ | apply bDrew | apply bAlloc)) hbn HA.out); replace HB := Lib.hid (moveX (by (repeat with_reducible first | exact Below.refl _ _ | apply bDrew | apply bAlloc)) hbn HB.out); replace HS := Lib.hid (moveX (by (repeat with_reducible first | exact Below.refl _ _ | apply bDrew | apply bAlloc)) hbn HS.out); replace A0 := (cells2 HA.out).1.1; replace A1 := (cells2 HA.out).1.2; replace A2 := (cells2 HA.out).2.1; replace A3 := (cells2 HA.out).2.2; replace Al := blkLt HA.out; replace B0 := (cells2 HB.out).1.1; replace B1 := (cells2 HB.out).1.2; replace B2 := (cells2 HB.out).2.1; replace B3 := (cells2 HB.out).2.2; replace Bl := blkLt HB.out; replace S0 := (cells2 HS.out).1.1; replace S1 := (cells2 HS.out).1.2; replace S2 := (cells2 HS.out).2.1; replace S3 := (cells2 HS.out).2.2; replace Sl := blkLt HS.out; clear hbn)
      go_meet
      exact ⟨_, rfl, rfl, Lib.hid (mvAlloc HA.out), Lib.hid (mvAlloc HB.out), Lib.hid (mvAlloc HS.out), Lib.hid (newBlk _ _ _ rfl), Lib.hid (bAlloc HW.out)⟩
    case rest =>
      clear HW HA HB HS
      obtain ⟨bT, rfl, rfl, HA, HB, HS, HT, HW⟩ := hcut
      clear hS
      go_upto_region 6 with fail
      go_cut [10, 11] (fun s1 s2 wx => ∃ bU : Nat, s1 = .pointer (some ⟨bU, 0, none⟩) ∧ s2 = .int .i64 0 ∧ Hid (wx.heap[w.heap.size]? = some (.cells #[.int .i64 (a.n), .int .i64 (a.d)] 23 (0, 0))) ∧ Hid (wx.heap[w.heap.size + 1]? = some (.cells #[.int .i64 (b.n), .int .i64 (b.d)] 23 (0, 0))) ∧ Hid (wx.heap[bS]? = some (.cells #[.int .i64 (s.n), .int .i64 (s.d)] 23 (0, 0))) ∧ Hid (wx.heap[bT]? = some (.cells #[.int .i64 (t.n), .int .i64 (t.d)] 23 (0, 0))) ∧ Hid (wx.heap[bU]? = some (.cells #[.int .i64 (u.n), .int .i64 (u.d)] 23 (0, 0))) ∧ Hid (Below w.heap.size w wx))
      case first => as_aux_lemma =>
        have A0 := (cells2 HA.out).1.1
        have A1 := (cells2 HA.out).1.2
        have A2 := (cells2 HA.out).2.1
        have A3 := (cells2 HA.out).2.2
        have Al := blkLt HA.out
        have B0 := (cells2 HB.out).1.1
        have B1 := (cells2 HB.out).1.2
        have B2 := (cells2 HB.out).2.1
        have B3 := (cells2 HB.out).2.2
        have Bl := blkLt HB.out
        have S0 := (cells2 HS.out).1.1
        have S1 := (cells2 HS.out).1.2
        have S2 := (cells2 HS.out).2.1
        have S3 := (cells2 HS.out).2.2
        have Sl := blkLt HS.out
        have T0 := (cells2 HT.out).1.1
        have T1 := (cells2 HT.out).1.2
        have T2 := (cells2 HT.out).2.1
        have T3 := (cells2 HT.out).2.2
        have Tl := blkLt HT.out
        go_wp2_with (go_at_call 17; refine (hM.out _).mono ?_; rintro e wn ⟨rfl, hbn⟩; replace HW := Lib.hid (bCall (by (repeat with_reducible first | exact HW.out | apply bDrew | apply bAlloc)) hbn); replace HA := Lib.hid (moveX (by (repeat with_reducible first | exact Below.refl _ _ | apply bDrew | apply bAlloc)) hbn HA.out); replace HB := Lib.hid (moveX (by (repeat with_reducible first | exact Below.refl _ _ | apply bDrew | apply bAlloc)) hbn HB.out); replace HS := Lib.hid (moveX (by (repeat with_reducible first | exact Below.refl _ _ | apply bDrew | apply bAlloc)) hbn HS.out); replace HT := Lib.hid (moveX (by (repeat with_reducible first | exact Below.refl _ _ | apply bDrew | apply bAlloc)) hbn HT.out); replace A0 := (cells2 HA.out).1.1; replace A1 := (cells2 HA.out).1.2; replace A2 := (cells2 HA.out).2.1; replace A3 := (cells2 HA.out).2.2; replace Al := blkLt HA.out; replace B0 := (cells2 HB.out).1.1; replace B1 := (cells2 HB.out).1.2; replace B2 := (cells2 HB.out).2.1; replace B3 := (cells2 HB.out).2.2; replace Bl := blkLt HB.out; replace S0 := (cells2 HS.out).1.1; replace S1 := (cells2 HS.out).1.2; replace S2 := (cells2 HS.out).2.1; replace S3 := (cells2 HS.out).2.2; replace Sl := blkLt HS.out; replace T0 := (cells2 HT.out).1.1; replace T1 := (cells2 HT.out).1.2; replace T2 := (cells2 HT.out).2.1; replace T3 := (cells2 HT.out).2.2; replace Tl := blkLt HT.out; clear hbn)
        go_meet
        exact ⟨_, rfl, rfl, Lib.hid (mvAlloc HA.out), Lib.hid (mvAlloc HB.out), Lib.hid (mvAlloc HS.out), Lib.hid (mvAlloc HT.out), Lib.hid (newBlk _ _ _ rfl), Lib.hid (bAlloc HW.out)⟩
      case rest =>
        clear HW HA HB HS HT
        obtain ⟨bU, rfl, rfl, HA, HB, HS, HT, HU, HW⟩ := hcut
        clear hM
        go_upto_region 7 with fail
        go_cut [12] (fun s1 wx => s1 = .int .i64 D ∧ Hid (wx.heap[w.heap.size]? = some (.cells #[.int .i64 (a.n), .int .i64 (a.d)] 23 (0, 0))) ∧ Hid (wx.heap[w.heap.size + 1]? = some (.cells #[.int .i64 (b.n), .int .i64 (b.d)] 23 (0, 0))) ∧ Hid (wx.heap[bS]? = some (.cells #[.int .i64 (s.n), .int .i64 (s.d)] 23 (0, 0))) ∧ Hid (wx.heap[bT]? = some (.cells #[.int .i64 (t.n), .int .i64 (t.d)] 23 (0, 0))) ∧ Hid (wx.heap[bU]? = some (.cells #[.int .i64 (u.n), .int .i64 (u.d)] 23 (0, 0))) ∧ Hid (Below w.heap.size w wx))
        case first => as_aux_lemma =>
          have A0 := (cells2 HA.out).1.1
          have A1 := (cells2 HA.out).1.2
          have A2 := (cells2 HA.out).2.1
          have A3 := (cells2 HA.out).2.2
          have Al := blkLt HA.out
          have B0 := (cells2 HB.out).1.1
          have B1 := (cells2 HB.out).1.2
          have B2 := (cells2 HB.out).2.1
          have B3 := (cells2 HB.out).2.2
          have Bl := blkLt HB.out
          go_wp2_with fail
          go_meet
          exact ⟨rfl, HA, HB, HS, HT, HU, HW⟩
        case rest =>
          clear HW HA HB HS HT HU
          obtain ⟨rfl, HA, HB, HS, HT, HU, HW⟩ := hcut
          go_upto_region 8 with fail
          simp only [List.append, List.append_eq, List.cons_append, List.nil_append]
          go_cut [5] (fun s1 wx => s1 = .bool true ∧ Hid (wx.heap[w.heap.size]? = some (.cells #[.int .i64 (a.n), .int .i64 (a.d)] 23 (0, 0))) ∧ Hid (wx.heap[w.heap.size + 1]? = some (.cells #[.int .i64 (b.n), .int .i64 (b.d)] 23 (0, 0))) ∧ Hid (Below w.heap.size w wx))
          case first => as_aux_lemma =>
            have A0 := (cells2 HA.out).1.1
            have A1 := (cells2 HA.out).1.2
            have A2 := (cells2 HA.out).2.1
            have A3 := (cells2 HA.out).2.2
            have Al := blkLt HA.out
            have B0 := (cells2 HB.out).1.1
            have B1 := (cells2 HB.out).1.2
            have B2 := (cells2 HB.out).2.1
            have B3 := (cells2 HB.out).2.2
            have Bl := blkLt HB.out
            have S0 := (cells2 HS.out).1.1
            have S1 := (cells2 HS.out).1.2
            have S2 := (cells2 HS.out).2.1
            have S3 := (cells2 HS.out).2.2
            have Sl := blkLt HS.out
            have T0 := (cells2 HT.out).1.1
            have T1 := (cells2 HT.out).1.2
            have T2 := (cells2 HT.out).2.1
            have T3 := (cells2 HT.out).2.2
            have Tl := blkLt HT.out
            have U0 := (cells2 HU.out).1.1
            have U1 := (cells2 HU.out).1.2
            have U2 := (cells2 HU.out).2.1
            have U3 := (cells2 HU.out).2.2
            have Ul := blkLt HU.out
            first
              | (go_wp2_with fail; go_meet; exact ⟨rfl, HA, HB, HW⟩)
              | (go_quiet (fail); go_meet; exact ⟨rfl, HA, HB, Lib.hid (bDrewN HW.out _)⟩)
          case rest =>
            clear HW HA HB HS HT HU
            obtain ⟨rfl, HA, HB, HW⟩ := hcut
            clear q0 q3 q4 q5 q6 q7 q8 q9 r0 r1
            go_upto_region 9 with fail
            go_cut [13, 14] (fun s1 s2 wx => ∃ bV : Nat, s1 = .pointer (some ⟨bV, 0, none⟩) ∧ s2 = .int .i64 0 ∧ Hid (wx.heap[w.heap.size]? = some (.cells #[.int .i64 (a.n), .int .i64 (a.d)] 23 (0, 0))) ∧ Hid (wx.heap[w.heap.size + 1]? = some (.cells #[.int .i64 (b.n), .int .i64 (b.d)] 23 (0, 0))) ∧ Hid (wx.heap[bV]? = some (.cells #[.int .i64 (v.n), .int .i64 (v.d)] 23 (0, 0))) ∧ Hid (Below w.heap.size w wx))
            case first => as_aux_lemma =>
              have A0 := (cells2 HA.out).1.1
              have A1 := (cells2 HA.out).1.2
              have A2 := (cells2 HA.out).2.1
              have A3 := (cells2 HA.out).2.2
              have Al := blkLt HA.out
              have B0 := (cells2 HB.out).1.1
              have B1 := (cells2 HB.out).1.2
              have B2 := (cells2 HB.out).2.1
              have B3 := (cells2 HB.out).2.2
              have Bl := blkLt HB.out
              go_wp2_with (go_at_call 19; refine (hD.out _).mono ?_; rintro e wn ⟨rfl, hbn⟩; replace HW := Lib.hid (bCall (by (repeat with_reducible first | exact HW.out | apply bDrew | apply bAlloc)) hbn); replace HA := Lib.hid (moveX (by (repeat with_reducible first | exact Below.refl _ _ | apply bDrew | apply bAlloc)) hbn HA.out); replace HB := Lib.hid (moveX (by (repeat with_reducible first | exact Below.refl _ _ | apply bDrew | apply bAlloc)) hbn HB.out); replace A0 := (cells2 HA.out).1.1; replace A1 := (cells2 HA.out).1.2; replace A2 := (cells2 HA.out).2.1; replace A3 := (cells2 HA.out).2.2; replace Al := blkLt HA.out; replace B0 := (cells2 HB.out).1.1; replace B1 := (cells2 HB.out).1.2; replace B2 := (cells2 HB.out).2.1; replace B3 := (cells2 HB.out).2.2; replace Bl := blkLt HB.out; clear hbn)
              go_meet
              exact ⟨_, rfl, rfl, Lib.hid (mvAlloc HA.out), Lib.hid (mvAlloc HB.out), Lib.hid (newBlk _ _ _ rfl), Lib.hid (bAlloc HW.out)⟩
            case rest =>
              clear HW HA HB
              obtain ⟨bV, rfl, rfl, HA, HB, HV, HW⟩ := hcut
              clear q1 q2 hD
              have A0 := (cells2 HA.out).1.1
              have A1 := (cells2 HA.out).1.2
              have A2 := (cells2 HA.out).2.1
              have A3 := (cells2 HA.out).2.2
              have Al := blkLt HA.out
              have B0 := (cells2 HB.out).1.1
              have B1 := (cells2 HB.out).1.2
              have B2 := (cells2 HB.out).2.1
              have B3 := (cells2 HB.out).2.2
              have Bl := blkLt HB.out
              have V0 := (cells2 HV.out).1.1
              have V1 := (cells2 HV.out).1.2
              have V2 := (cells2 HV.out).2.1
              have V3 := (cells2 HV.out).2.2
              have Vl := blkLt HV.out
              go_wp2_with fail
              go_ret
              exact ⟨rfl, HW.out⟩
theorem sm_of {q : Q} (h : smal q = true) : qB q = true ∧ smB 10000 q := by
  simp only [smal, Bool.and_eq_true, decide_eq_true_eq] at h
  exact ⟨h.1.1.1, h.1.1.2, h.1.2, h.2⟩
theorem exact_any (a b : Q) (w : World) : Calls Try.prog 4 #[qv a, qv b] w (BB true w) := by
  have V : ∀ (q : Q) (r : Bool), smal q = r → Hid (∀ w, Calls Try.prog 25 #[qv q] w (BB r w)) := fun q r h => Lib.hid (fun w => h ▸ small_any q w)
  rcases ha : smal a with _ | _
  · exact exact_bad0 a b (V a _ ha) w
  rcases hb : smal b with _ | _
  · exact exact_bad1 a b (V a _ ha) (V b _ hb) w
  obtain ⟨va, sa⟩ := sm_of ha
  obtain ⟨vb, sb⟩ := sm_of hb
  have kk : (10000 : Int) * 10000 + 10000 * 10000 ≤ 1000000000 := by decide
  have e1 := add_sm 10000 kk va vb sa sb
  have e2 := sub_sm 10000 kk va vb sa sb
  have e3 := mul_sm 10000 kk va vb sa sb
  have f1 := add_ok.1 e1
  have f2 := sub_ok.1 e2
  have f3 := mul_ok.1 e3
  have g1 := vd f1.2.2.1
  have g2 := vd f2.2.2.1
  have g3 := vd f3.2.2.1
  have c1 := f1.2.2.2
  have c2 := f2.2.2.2
  have c3 := f3.2.2.2
  have hAc : ∀ w, Calls Try.prog 13 #[qv a, qv b] w (VV (.tuple #[qv (addM a b).1, .int .i64 0]) w) := fun w => by have h := Add_any a b w; rw [e1] at h; exact h
  have hSc : ∀ w, Calls Try.prog 15 #[qv a, qv b] w (VV (.tuple #[qv (subM a b).1, .int .i64 0]) w) := fun w => by have h := Sub_any a b w; rw [e2] at h; exact h
  have hMc : ∀ w, Calls Try.prog 17 #[qv a, qv b] w (VV (.tuple #[qv (mulM a b).1, .int .i64 0]) w) := fun w => by have h := Mul_any a b w; rw [e3] at h; exact h
  have hD : b.n ≠ 0 → divM a b = ((divM a b).1, 0) := div_sm 10000 kk va vb sa sb
  have da := dbd va sa
  have db := dbd vb sb
  have bD := mulb da db
  have b1 := mulb (x := a.n) (y := b.d) ⟨sa.1, sa.2.1⟩ db
  have b2 := mulb (x := b.n) (y := a.d) ⟨sb.1, sb.2.1⟩ da
  generalize (addM a b).1 = s at *
  generalize (subM a b).1 = t at *
  generalize (mulM a b).1 = u at *
  have b5 := mulb (x := s.n) (y := a.d * b.d) (c := 1000000000) (e := 100000000) g1.1 (by omega)
  have b7 := mulb (x := t.n) (y := a.d * b.d) (c := 1000000000) (e := 100000000) g2.1 (by omega)
  have b9 := mulb (x := u.n) (y := a.d * b.d) (c := 1000000000) (e := 100000000) g3.1 (by omega)
  have b10 := mulb (x := u.d) (y := a.n) (c := 1000000000) (e := 10000) g3.2 ⟨sa.1, sa.2.1⟩
  have c1' : s.d * (a.n * b.d + b.n * a.d) = s.n * (a.d * b.d) := by rw [c1, Int.mul_comm]
  have c2' : t.d * (a.n * b.d - b.n * a.d) = t.n * (a.d * b.d) := by rw [c2, Int.mul_comm]
  have c3' : u.d * a.n * b.n = u.n * (a.d * b.d) := by rw [c3]; grind
  have I : ∀ x : Int, -1000000000000000000 ≤ x ∧ x ≤ 1000000000000000000 → IntKind.i64.wrap x = x := fun x h => IntWalk.i64_in _ (by omega)
  have J : ∀ x y : Int, x = y → -1000000000000000000 ≤ y ∧ y ≤ 1000000000000000000 → IntKind.i64.wrap x = y := fun x y h hy => by rw [h]; exact I y hy
  by_cases h0 : b.n = 0
  · refine exact_go0 a b s t u ⟨0, 0⟩ _ _ _ _ _ _ _ _ _ 0 0 0 (V a _ ha) (V b _ hb) (Lib.hid hAc) (Lib.hid hSc) (Lib.hid hMc) (Lib.hid fun w => ?_) (I _ (by omega)) (I _ (by omega)) (I _ (by omega)) (I _ (by omega)) (I _ (by omega)) (I _ (by omega)) (J _ _ c1' (by omega)) (I _ (by omega)) (J _ _ c2' (by omega)) (I _ (by omega)) (I _ (by omega)) (J _ _ c3' (by omega)) (by simp [h0]) w
    have h := Div_any a b w
    rw [div_0 va vb h0] at h
    exact h
  · have e4 := hD h0
    have f4 := (div_ok h0).1 e4
    have g4 := vd f4.2.2.1
    have c4 := f4.2.2.2
    have hDc : ∀ w, Calls Try.prog 19 #[qv a, qv b] w (VV (.tuple #[qv (divM a b).1, .int .i64 0]) w) := fun w => by have h := Div_any a b w; rw [e4] at h; exact h
    generalize (divM a b).1 = v at *
    have b11 := mulb (x := v.n) (y := a.d) (c := 1000000000) (e := 10000) g4.1 da
    have b12 := mulb (x := v.n * a.d) (y := b.n) (c := 10000000000000) (e := 10000) (by omega) ⟨sb.1, sb.2.1⟩
    have b13 := mulb (x := v.d) (y := a.n) (c := 1000000000) (e := 10000) g4.2 ⟨sa.1, sa.2.1⟩
    have c4' : v.d * a.n * b.d = v.n * a.d * b.n := by
      have : v.n * a.d * b.n = v.n * (a.d * b.n) := by grind
      rw [this, c4]; grind
    exact exact_go1 a b s t u v _ _ _ _ _ _ _ _ _ _ _ _ (V a _ ha) (V b _ hb) (Lib.hid hAc) (Lib.hid hSc) (Lib.hid hMc) (Lib.hid hDc) (I _ (by omega)) (I _ (by omega)) (I _ (by omega)) (I _ (by omega)) (I _ (by omega)) (I _ (by omega)) (J _ _ c1' (by omega)) (I _ (by omega)) (J _ _ c2' (by omega)) (I _ (by omega)) (I _ (by omega)) (J _ _ c3' (by omega)) (by simp [h0]) (I _ (by omega)) (I _ (by omega)) (I _ (by omega)) (J _ _ c4' (by omega)) w
end Go.Proofs.Ytinmplilejnafaa
