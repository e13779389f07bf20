/- Law package 06: IntervalErrors, one way. -/
import Derived.Test.YtphjkkkjkfclgaaIxU
namespace Go.Proofs.Ytphjkkkjkfclgaa
open Go.RowKit
set_option linter.unusedVariables false
set_option linter.unusedSimpArgs false
set_option maxHeartbeats 16000000 in
set_option maxRecDepth 100000 in
theorem errors_ok_fttf (a b s t u v x : Sp) (e f g h m1 m2 m3 m4 : Int) (p1 p2 q1 q2 r1 r2 r3 r4 : Bool)
    (hVa : Hid (∀ w, Calls Try.prog 6 #[sv a] w (BB true w)))
    (hVb : Hid (∀ w, Calls Try.prog 6 #[sv b] w (BB true w)))
    (hAdd : Hid (∀ w, Calls Try.prog 9 #[sv a, sv b] w (VV (.tuple #[sv s, .int .i64 e]) w)))
    (hSub : Hid (∀ w, Calls Try.prog 11 #[sv a, sv b] w (VV (.tuple #[sv t, .int .i64 f]) w)))
    (hMul : Hid (∀ w, Calls Try.prog 12 #[sv a, sv b] w (VV (.tuple #[sv u, .int .i64 g]) w)))
    (hDiv : Hid (∀ w, Calls Try.prog 13 #[sv a, sv b] w (VV (.tuple #[sv v, .int .i64 h]) w)))
    (hJoin : Hid (∀ w, Calls Try.prog 17 #[sv a, sv b] w (VV (.tuple #[sv x, .int .i64 0]) w)))
    (y1 : IntKind.i64.wrap (a.lo + b.lo) = a.lo + b.lo)
    (y2 : IntKind.i64.wrap (a.hi + b.hi) = a.hi + b.hi)
    (y3 : IntKind.i64.wrap (a.lo - b.hi) = a.lo - b.hi)
    (y4 : IntKind.i64.wrap (a.hi - b.lo) = a.hi - b.lo)
    (hp1 : Hid (∀ w, Calls Try.prog 18 #[.int .i64 (a.lo + b.lo)] w (SS (.bool p1) w)))
    (hp2 : Hid (∀ w, Calls Try.prog 18 #[.int .i64 (a.hi + b.hi)] w (SS (.bool p2) w)))
    (hq1 : Hid (∀ w, Calls Try.prog 18 #[.int .i64 (a.lo - b.hi)] w (SS (.bool q1) w)))
    (hq2 : Hid (∀ w, Calls Try.prog 18 #[.int .i64 (a.hi - b.lo)] w (SS (.bool q2) w)))
    (hr1 : Hid (∀ w, Calls Try.prog 18 #[.int .i64 (m1)] w (SS (.bool r1) w)))
    (hr2 : Hid (∀ w, Calls Try.prog 18 #[.int .i64 (m2)] w (SS (.bool r2) w)))
    (hr3 : Hid (∀ w, Calls Try.prog 18 #[.int .i64 (m3)] w (SS (.bool r3) w)))
    (hr4 : Hid (∀ w, Calls Try.prog 18 #[.int .i64 (m4)] w (SS (.bool r4) w)))
    (hm1 : Hid (∀ w, Calls Try.prog 19 #[.int .i64 (a.lo), .int .i64 (b.lo)] w (SS (.int .i64 m1) w)))
    (hm2 : Hid (∀ w, Calls Try.prog 19 #[.int .i64 (a.lo), .int .i64 (b.hi)] w (SS (.int .i64 m2) w)))
    (hm3 : Hid (∀ w, Calls Try.prog 19 #[.int .i64 (a.hi), .int .i64 (b.lo)] w (SS (.int .i64 m3) w)))
    (hm4 : Hid (∀ w, Calls Try.prog 19 #[.int .i64 (a.hi), .int .i64 (b.hi)] w (SS (.int .i64 m4) w)))
    (hp : Hid ((p1 && p2) = false ∧ e = 3 ∧ s = ⟨0, 0⟩))
    (hq : Hid ((q1 && q2) = true ∧ f = 0))
    (hr : Hid ((r1 && (r2 && (r3 && r4))) = true ∧ g = 0))
    (hh : Hid (zB b = false ∧ h = 0)) (w : World) : Calls Try.prog 4 #[sv a, sv b] w (BB true w) := by
  go_enter Try.func4, Try.ntmps4
  have HW := Lib.hid (Below.refl w.heap.size w)
  go_upto_region 2 with (go_at_call 5; refine (head_any _).mono ?_; rintro e wn ⟨rfl, hbn⟩; obtain ⟨HA, HB⟩ := two2 hbn; have HA := Lib.hid HA; have HB := Lib.hid HB; replace HW := Lib.hid (bCall (by (repeat with_reducible first | exact HW.out | apply bDrew | apply bAlloc)) hbn); clear hbn)
  go_cut [6] (fun s1 wx => s1 = .bool true ∧ Hid (wx.heap[w.heap.size]? = some (.cells #[.int .i64 (a.lo), .int .i64 (a.hi)] 23 (0, 0))) ∧ Hid (wx.heap[w.heap.size + 1]? = some (.cells #[.int .i64 (b.lo), .int .i64 (b.hi)] 23 (0, 0))) ∧ Hid (Below w.heap.size w wx))
  case first => as_aux_lemma =>
    have A0 := (cells2 HA.out).1.1
    have A1 := (cells2 HA.out).1.2
    have A2 := (cells2 HA.out).2.1
    have A3 := (cells2 HA.out).2.2
    have Al := blkLt HA.out
    have B0 := (cells2 HB.out).1.1
    have B1 := (cells2 HB.out).1.2
    have B2 := (cells2 HB.out).2.1
    have B3 := (cells2 HB.out).2.2
    have Bl := blkLt HB.out
    go_wp2_with (first
      | (go_at_call_of 6 (Value.agg #[.int .i64 a.lo, .int .i64 a.hi]); refine (hVa.out _).mono ?_; rintro e2 wn ⟨rfl, hbn⟩; replace HW := Lib.hid (bCall (by (repeat with_reducible first | exact HW.out | apply bDrew | apply bAlloc)) hbn); replace HA := Lib.hid (moveX (by (repeat with_reducible first | exact Below.refl _ _ | apply bDrew | apply bAlloc)) hbn HA.out); replace HB := Lib.hid (moveX (by (repeat with_reducible first | exact Below.refl _ _ | apply bDrew | apply bAlloc)) hbn HB.out); replace A0 := (cells2 HA.out).1.1; replace A1 := (cells2 HA.out).1.2; replace A2 := (cells2 HA.out).2.1; replace A3 := (cells2 HA.out).2.2; replace Al := blkLt HA.out; replace B0 := (cells2 HB.out).1.1; replace B1 := (cells2 HB.out).1.2; replace B2 := (cells2 HB.out).2.1; replace B3 := (cells2 HB.out).2.2; replace Bl := blkLt HB.out; clear hbn)
      | (go_at_call_of 6 (Value.agg #[.int .i64 b.lo, .int .i64 b.hi]); refine (hVb.out _).mono ?_; rintro e2 wn ⟨rfl, hbn⟩; replace HW := Lib.hid (bCall (by (repeat with_reducible first | exact HW.out | apply bDrew | apply bAlloc)) hbn); replace HA := Lib.hid (moveX (by (repeat with_reducible first | exact Below.refl _ _ | apply bDrew | apply bAlloc)) hbn HA.out); replace HB := Lib.hid (moveX (by (repeat with_reducible first | exact Below.refl _ _ | apply bDrew | apply bAlloc)) hbn HB.out); replace A0 := (cells2 HA.out).1.1; replace A1 := (cells2 HA.out).1.2; replace A2 := (cells2 HA.out).2.1; replace A3 := (cells2 HA.out).2.2; replace Al := blkLt HA.out; replace B0 := (cells2 HB.out).1.1; replace B1 := (cells2 HB.out).1.2; replace B2 := (cells2 HB.out).2.1; replace B3 := (cells2 HB.out).2.2; replace Bl := blkLt HB.out; clear hbn))
    go_meet
    exact ⟨rfl, HA, HB, HW⟩
  case rest =>
    clear HW HA HB
    obtain ⟨rfl, HA, HB, HW⟩ := hcut
    clear hVa hVb
    go_upto_region 3 with fail
    go_cut [7, 8] (fun s1 s2 wx => ∃ bS : Nat, s1 = .pointer (some ⟨bS, 0, none⟩) ∧ s2 = .int .i64 e ∧ Hid (wx.heap[w.heap.size]? = some (.cells #[.int .i64 (a.lo), .int .i64 (a.hi)] 23 (0, 0))) ∧ Hid (wx.heap[w.heap.size + 1]? = some (.cells #[.int .i64 (b.lo), .int .i64 (b.hi)] 23 (0, 0))) ∧ Hid (wx.heap[bS]? = some (.cells #[.int .i64 (s.lo), .int .i64 (s.hi)] 23 (0, 0))) ∧ Hid (Below w.heap.size w wx))
    case first => as_aux_lemma =>
      have A0 := (cells2 HA.out).1.1
      have A1 := (cells2 HA.out).1.2
      have A2 := (cells2 HA.out).2.1
      have A3 := (cells2 HA.out).2.2
      have Al := blkLt HA.out
      have B0 := (cells2 HB.out).1.1
      have B1 := (cells2 HB.out).1.2
      have B2 := (cells2 HB.out).2.1
      have B3 := (cells2 HB.out).2.2
      have Bl := blkLt HB.out
      go_wp2_with (go_at_call 9; refine (hAdd.out _).mono ?_; rintro e wn ⟨rfl, hbn⟩; replace HW := Lib.hid (bCall (by (repeat with_reducible first | exact HW.out | apply bDrew | apply bAlloc)) hbn); replace HA := Lib.hid (moveX (by (repeat with_reducible first | exact Below.refl _ _ | apply bDrew | apply bAlloc)) hbn HA.out); replace HB := Lib.hid (moveX (by (repeat with_reducible first | exact Below.refl _ _ | apply bDrew | apply bAlloc)) hbn HB.out); replace A0 := (cells2 HA.out).1.1; replace A1 := (cells2 HA.out).1.2; replace A2 := (cells2 HA.out).2.1; replace A3 := (cells2 HA.out).2.2; replace Al := blkLt HA.out; replace B0 := (cells2 HB.out).1.1; replace B1 := (cells2 HB.out).1.2; replace B2 := (cells2 HB.out).2.1; replace B3 := (cells2 HB.out).2.2; replace Bl := blkLt HB.out; clear hbn)
      go_meet
      exact ⟨_, rfl, rfl, Lib.hid (mvAlloc HA.out), Lib.hid (mvAlloc HB.out), Lib.hid (newBlk _ _ _ rfl), Lib.hid (bAlloc HW.out)⟩
    case rest =>
      clear HW HA HB
      obtain ⟨bS, rfl, rfl, HA, HB, HS, HW⟩ := hcut
      clear hAdd
      go_upto_region 4 with fail
      go_cut [9, 10] (fun s1 s2 wx => ∃ bT : Nat, s1 = .pointer (some ⟨bT, 0, none⟩) ∧ s2 = .int .i64 f ∧ Hid (wx.heap[w.heap.size]? = some (.cells #[.int .i64 (a.lo), .int .i64 (a.hi)] 23 (0, 0))) ∧ Hid (wx.heap[w.heap.size + 1]? = some (.cells #[.int .i64 (b.lo), .int .i64 (b.hi)] 23 (0, 0))) ∧ Hid (wx.heap[bS]? = some (.cells #[.int .i64 (s.lo), .int .i64 (s.hi)] 23 (0, 0))) ∧ Hid (wx.heap[bT]? = some (.cells #[.int .i64 (t.lo), .int .i64 (t.hi)] 23 (0, 0))) ∧ Hid (Below w.heap.size w wx))
      case first => as_aux_lemma =>
        have A0 := (cells2 HA.out).1.1
        have A1 := (cells2 HA.out).1.2
        have A2 := (cells2 HA.out).2.1
        have A3 := (cells2 HA.out).2.2
        have Al := blkLt HA.out
        have B0 := (cells2 HB.out).1.1
        have B1 := (cells2 HB.out).1.2
        have B2 := (cells2 HB.out).2.1
        have B3 := (cells2 HB.out).2.2
        have Bl := blkLt HB.out
        have S0 := (cells2 HS.out).1.1
        have S1 := (cells2 HS.out).1.2
        have S2 := (cells2 HS.out).2.1
        have S3 := (cells2 HS.out).2.2
        have Sl := blkLt HS.out
        go_wp2_with (go_at_call 11; refine (hSub.out _).mono ?_; rintro e wn ⟨rfl, hbn⟩; replace HW := Lib.hid (bCall (by (repeat with_reducible first | exact HW.out | apply bDrew | apply bAlloc)) hbn); replace HA := Lib.hid (moveX (by (repeat with_reducible first | exact Below.refl _ _ | apply bDrew | apply bAlloc)) hbn HA.out); replace HB := Lib.hid (moveX (by (repeat with_reducible first | exact Below.refl _ _ | apply bDrew | apply bAlloc)) hbn HB.out); replace HS := Lib.hid (moveX (by (repeat with_reducible first | exact Below.refl _ _ | apply bDrew | apply bAlloc)) hbn HS.out); replace A0 := (cells2 HA.out).1.1; replace A1 := (cells2 HA.out).1.2; replace A2 := (cells2 HA.out).2.1; replace A3 := (cells2 HA.out).2.2; replace Al := blkLt HA.out; replace B0 := (cells2 HB.out).1.1; replace B1 := (cells2 HB.out).1.2; replace B2 := (cells2 HB.out).2.1; replace B3 := (cells2 HB.out).2.2; replace Bl := blkLt HB.out; replace S0 := (cells2 HS.out).1.1; replace S1 := (cells2 HS.out).1.2; replace S2 := (cells2 HS.out).2.1; replace S3 := (cells2 HS.out).2.2; replace Sl := blkLt HS.out; clear hbn)
        go_meet
        exact ⟨_, rfl, rfl, Lib.hid (mvAlloc HA.out), Lib.hid (mvAlloc HB.out), Lib.hid (mvAlloc HS.out), Lib.hid (newBlk _ _ _ rfl), Lib.hid (bAlloc HW.out)⟩
      case rest =>
        clear HW HA HB HS
        obtain ⟨bT, rfl, rfl, HA, HB, HS, HT, HW⟩ := hcut
        clear hSub
        go_upto_region 5 with fail
        go_cut [11, 12] (fun s1 s2 wx => ∃ bU : Nat, s1 = .pointer (some ⟨bU, 0, none⟩) ∧ s2 = .int .i64 g ∧ Hid (wx.heap[w.heap.size]? = some (.cells #[.int .i64 (a.lo), .int .i64 (a.hi)] 23 (0, 0))) ∧ Hid (wx.heap[w.heap.size + 1]? = some (.cells #[.int .i64 (b.lo), .int .i64 (b.hi)] 23 (0, 0))) ∧ Hid (wx.heap[bS]? = some (.cells #[.int .i64 (s.lo), .int .i64 (s.hi)] 23 (0, 0))) ∧ Hid (wx.heap[bT]? = some (.cells #[.int .i64 (t.lo), .int .i64 (t.hi)] 23 (0, 0))) ∧ Hid (wx.heap[bU]? = some (.cells #[.int .i64 (u.lo), .int .i64 (u.hi)] 23 (0, 0))) ∧ Hid (Below w.heap.size w wx))
        case first => as_aux_lemma =>
          have A0 := (cells2 HA.out).1.1
          have A1 := (cells2 HA.out).1.2
          have A2 := (cells2 HA.out).2.1
          have A3 := (cells2 HA.out).2.2
          have Al := blkLt HA.out
          have B0 := (cells2 HB.out).1.1
          have B1 := (cells2 HB.out).1.2
          have B2 := (cells2 HB.out).2.1
          have B3 := (cells2 HB.out).2.2
          have Bl := blkLt HB.out
          have S0 := (cells2 HS.out).1.1
          have S1 := (cells2 HS.out).1.2
          have S2 := (cells2 HS.out).2.1
          have S3 := (cells2 HS.out).2.2
          have Sl := blkLt HS.out
          have T0 := (cells2 HT.out).1.1
          have T1 := (cells2 HT.out).1.2
          have T2 := (cells2 HT.out).2.1
          have T3 := (cells2 HT.out).2.2
          have Tl := blkLt HT.out
          go_wp2_with (go_at_call 12; refine (hMul.out _).mono ?_; rintro e wn ⟨rfl, hbn⟩; replace HW := Lib.hid (bCall (by (repeat with_reducible first | exact HW.out | apply bDrew | apply bAlloc)) hbn); replace HA := Lib.hid (moveX (by (repeat with_reducible first | exact Below.refl _ _ | apply bDrew | apply bAlloc)) hbn HA.out); replace HB := Lib.hid (moveX (by (repeat with_reducible first | exact Below.refl _ _ | apply bDrew | apply bAlloc)) hbn HB.out); replace HS := Lib.hid (moveX (by (repeat with_reducible first | exact Below.refl _ _ | apply bDrew | apply bAlloc)) hbn HS.out); replace HT := Lib.hid (moveX (by (repeat with_reducible first | exact Below.refl _ _ | apply bDrew | apply bAlloc)) hbn HT.out); replace A0 := (cells2 HA.out).1.1; replace A1 := (cells2 HA.out).1.2; replace A2 := (cells2 HA.out).2.1; replace A3 := (cells2 HA.out).2.2; replace Al := blkLt HA.out; replace B0 := (cells2 HB.out).1.1; replace B1 := (cells2 HB.out).1.2; replace B2 := (cells2 HB.out).2.1; replace B3 := (cells2 HB.out).2.2; replace Bl := blkLt HB.out; replace S0 := (cells2 HS.out).1.1; replace S1 := (cells2 HS.out).1.2; replace S2 := (cells2 HS.out).2.1; replace S3 := (cells2 HS.out).2.2; replace Sl := blkLt HS.out; replace T0 := (cells2 HT.out).1.1; replace T1 := (cells2 HT.out).1.2; replace T2 := (cells2 HT.out).2.1; replace T3 := (cells2 HT.out).2.2; replace Tl := blkLt HT.out; clear hbn)
          go_meet
          exact ⟨_, rfl, rfl, Lib.hid (mvAlloc HA.out), Lib.hid (mvAlloc HB.out), Lib.hid (mvAlloc HS.out), Lib.hid (mvAlloc HT.out), Lib.hid (newBlk _ _ _ rfl), Lib.hid (bAlloc HW.out)⟩
        case rest =>
          clear HW HA HB HS HT
          obtain ⟨bU, rfl, rfl, HA, HB, HS, HT, HU, HW⟩ := hcut
          clear hMul
          go_upto_region 6 with fail
          go_cut [13, 14] (fun s1 s2 wx => ∃ bV : Nat, s1 = .pointer (some ⟨bV, 0, none⟩) ∧ s2 = .int .i64 h ∧ Hid (wx.heap[w.heap.size]? = some (.cells #[.int .i64 (a.lo), .int .i64 (a.hi)] 23 (0, 0))) ∧ Hid (wx.heap[w.heap.size + 1]? = some (.cells #[.int .i64 (b.lo), .int .i64 (b.hi)] 23 (0, 0))) ∧ Hid (wx.heap[bS]? = some (.cells #[.int .i64 (s.lo), .int .i64 (s.hi)] 23 (0, 0))) ∧ Hid (wx.heap[bT]? = some (.cells #[.int .i64 (t.lo), .int .i64 (t.hi)] 23 (0, 0))) ∧ Hid (wx.heap[bU]? = some (.cells #[.int .i64 (u.lo), .int .i64 (u.hi)] 23 (0, 0))) ∧ Hid (wx.heap[bV]? = some (.cells #[.int .i64 (v.lo), .int .i64 (v.hi)] 23 (0, 0))) ∧ Hid (Below w.heap.size w wx))
          case first => as_aux_lemma =>
            have A0 := (cells2 HA.out).1.1
            have A1 := (cells2 HA.out).1.2
            have A2 := (cells2 HA.out).2.1
            have A3 := (cells2 HA.out).2.2
            have Al := blkLt HA.out
            have B0 := (cells2 HB.out).1.1
            have B1 := (cells2 HB.out).1.2
            have B2 := (cells2 HB.out).2.1
            have B3 := (cells2 HB.out).2.2
            have Bl := blkLt HB.out
            have S0 := (cells2 HS.out).1.1
            have S1 := (cells2 HS.out).1.2
            have S2 := (cells2 HS.out).2.1
            have S3 := (cells2 HS.out).2.2
            have Sl := blkLt HS.out
            have T0 := (cells2 HT.out).1.1
            have T1 := (cells2 HT.out).1.2
            have T2 := (cells2 HT.out).2.1
            have T3 := (cells2 HT.out).2.2
            have Tl := blkLt HT.out
            have U0 := (cells2 HU.out).1.1
            have U1 := (cells2 HU.out).1.2
            have U2 := (cells2 HU.out).2.1
            have U3 := (cells2 HU.out).2.2
            have Ul := blkLt HU.out
            go_wp2_with (go_at_call 13; refine (hDiv.out _).mono ?_; rintro e wn ⟨rfl, hbn⟩; replace HW := Lib.hid (bCall (by (repeat with_reducible first | exact HW.out | apply bDrew | apply bAlloc)) hbn); replace HA := Lib.hid (moveX (by (repeat with_reducible first | exact Below.refl _ _ | apply bDrew | apply bAlloc)) hbn HA.out); replace HB := Lib.hid (moveX (by (repeat with_reducible first | exact Below.refl _ _ | apply bDrew | apply bAlloc)) hbn HB.out); replace HS := Lib.hid (moveX (by (repeat with_reducible first | exact Below.refl _ _ | apply bDrew | apply bAlloc)) hbn HS.out); replace HT := Lib.hid (moveX (by (repeat with_reducible first | exact Below.refl _ _ | apply bDrew | apply bAlloc)) hbn HT.out); replace HU := Lib.hid (moveX (by (repeat with_reducible first | exact Below.refl _ _ | apply bDrew | apply bAlloc)) hbn HU.out); replace A0 := (cells2 HA.out).1.1; replace A1 := (cells2 HA.out).1.2; replace A2 := (cells2 HA.out).2.1; replace A3 := (cells2 HA.out).2.2; replace Al := blkLt HA.out; replace B0 := (cells2 HB.out).1.1; replace B1 := (cells2 HB.out).1.2; replace B2 := (cells2 HB.out).2.1; replace B3 := (cells2 HB.out).2.2; replace Bl := blkLt HB.out; replace S0 := (cells2 HS.out).1.1; replace S1 := (cells2 HS.out).1.2; replace S2 := (cells2 HS.out).2.1; replace S3 := (cells2 HS.out).2.2; replace Sl := blkLt HS.out; replace T0 := (cells2 HT.out).1.1; replace T1 := (cells2 HT.out).1.2; replace T2 := (cells2 HT.out).2.1; replace T3 := (cells2 HT.out).2.2; replace Tl := blkLt HT.out; replace U0 := (cells2 HU.out).1.1; replace U1 := (cells2 HU.out).1.2; replace U2 := (cells2 HU.out).2.1; replace U3 := (cells2 HU.out).2.2; replace Ul := blkLt HU.out; clear hbn)
            go_meet
            exact ⟨_, rfl, rfl, Lib.hid (mvAlloc HA.out), Lib.hid (mvAlloc HB.out), Lib.hid (mvAlloc HS.out), Lib.hid (mvAlloc HT.out), Lib.hid (mvAlloc HU.out), Lib.hid (newBlk _ _ _ rfl), Lib.hid (bAlloc HW.out)⟩
          case rest =>
            clear HW HA HB HS HT HU
            obtain ⟨bV, rfl, rfl, HA, HB, HS, HT, HU, HV, HW⟩ := hcut
            clear hDiv
            go_upto_region 7 with fail
            go_cut [15, 16] (fun s1 s2 wx => ∃ bX : Nat, s1 = .pointer (some ⟨bX, 0, none⟩) ∧ s2 = .int .i64 0 ∧ Hid (wx.heap[w.heap.size]? = some (.cells #[.int .i64 (a.lo), .int .i64 (a.hi)] 23 (0, 0))) ∧ Hid (wx.heap[w.heap.size + 1]? = some (.cells #[.int .i64 (b.lo), .int .i64 (b.hi)] 23 (0, 0))) ∧ Hid (wx.heap[bS]? = some (.cells #[.int .i64 (s.lo), .int .i64 (s.hi)] 23 (0, 0))) ∧ Hid (wx.heap[bT]? = some (.cells #[.int .i64 (t.lo), .int .i64 (t.hi)] 23 (0, 0))) ∧ Hid (wx.heap[bU]? = some (.cells #[.int .i64 (u.lo), .int .i64 (u.hi)] 23 (0, 0))) ∧ Hid (wx.heap[bV]? = some (.cells #[.int .i64 (v.lo), .int .i64 (v.hi)] 23 (0, 0))) ∧ Hid (wx.heap[bX]? = some (.cells #[.int .i64 (x.lo), .int .i64 (x.hi)] 23 (0, 0))) ∧ Hid (Below w.heap.size w wx))
            case first => as_aux_lemma =>
              have A0 := (cells2 HA.out).1.1
              have A1 := (cells2 HA.out).1.2
              have A2 := (cells2 HA.out).2.1
              have A3 := (cells2 HA.out).2.2
              have Al := blkLt HA.out
              have B0 := (cells2 HB.out).1.1
              have B1 := (cells2 HB.out).1.2
              have B2 := (cells2 HB.out).2.1
              have B3 := (cells2 HB.out).2.2
              have Bl := blkLt HB.out
              have S0 := (cells2 HS.out).1.1
              have S1 := (cells2 HS.out).1.2
              have S2 := (cells2 HS.out).2.1
              have S3 := (cells2 HS.out).2.2
              have Sl := blkLt HS.out
              have T0 := (cells2 HT.out).1.1
              have T1 := (cells2 HT.out).1.2
              have T2 := (cells2 HT.out).2.1
              have T3 := (cells2 HT.out).2.2
              have Tl := blkLt HT.out
              have U0 := (cells2 HU.out).1.1
              have U1 := (cells2 HU.out).1.2
              have U2 := (cells2 HU.out).2.1
              have U3 := (cells2 HU.out).2.2
              have Ul := blkLt HU.out
              have V0 := (cells2 HV.out).1.1
              have V1 := (cells2 HV.out).1.2
              have V2 := (cells2 HV.out).2.1
              have V3 := (cells2 HV.out).2.2
              have Vl := blkLt HV.out
              go_wp2_with (go_at_call 17; refine (hJoin.out _).mono ?_; rintro e wn ⟨rfl, hbn⟩; replace HW := Lib.hid (bCall (by (repeat with_reducible first | exact HW.out | apply bDrew | apply bAlloc)) hbn); replace HA := Lib.hid (moveX (by (repeat with_reducible first | exact Below.refl _ _ | apply bDrew | apply bAlloc)) hbn HA.out); replace HB := Lib.hid (moveX (by (repeat with_reducible first | exact Below.refl _ _ | apply bDrew | apply bAlloc)) hbn HB.out); replace HS := Lib.hid (moveX (by (repeat with_reducible first | exact Below.refl _ _ | apply bDrew | apply bAlloc)) hbn HS.out); replace HT := Lib.hid (moveX (by (repeat with_reducible first | exact Below.refl _ _ | apply bDrew | apply bAlloc)) hbn HT.out); replace HU := Lib.hid (moveX (by (repeat with_reducible first | exact Below.refl _ _ | apply bDrew | apply bAlloc)) hbn HU.out); replace HV := Lib.hid (moveX (by (repeat with_reducible first | exact Below.refl _ _ | apply bDrew | apply bAlloc)) hbn HV.out); replace A0 := (cells2 HA.out).1.1; replace A1 := (cells2 HA.out).1.2; replace A2 := (cells2 HA.out).2.1; replace A3 := (cells2 HA.out).2.2; replace Al := blkLt HA.out; replace B0 := (cells2 HB.out).1.1; replace B1 := (cells2 HB.out).1.2; replace B2 := (cells2 HB.out).2.1; replace B3 := (cells2 HB.out).2.2; replace Bl := blkLt HB.out; replace S0 := (cells2 HS.out).1.1; replace S1 := (cells2 HS.out).1.2; replace S2 := (cells2 HS.out).2.1; replace S3 := (cells2 HS.out).2.2; replace Sl := blkLt HS.out; replace T0 := (cells2 HT.out).1.1; replace T1 := (cells2 HT.out).1.2; replace T2 := (cells2 HT.out).2.1; replace T3 := (cells2 HT.out).2.2; replace Tl := blkLt HT.out; replace U0 := (cells2 HU.out).1.1; replace U1 := (cells2 HU.out).1.2; replace U2 := (cells2 HU.out).2.1; replace U3 := (cells2 HU.out).2.2; replace Ul := blkLt HU.out; replace V0 := (cells2 HV.out).1.1; replace V1 := (cells2 HV.out).1.2; replace V2 := (cells2 HV.out).2.1; replace V3 := (cells2 HV.out).2.2; replace Vl := blkLt HV.out; clear hbn)
              go_meet
              exact ⟨_, rfl, rfl, Lib.hid (mvAlloc HA.out), Lib.hid (mvAlloc HB.out), Lib.hid (mvAlloc HS.out), Lib.hid (mvAlloc HT.out), Lib.hid (mvAlloc HU.out), Lib.hid (mvAlloc HV.out), Lib.hid (newBlk _ _ _ rfl), Lib.hid (bAlloc HW.out)⟩
            case rest =>
              clear HW HA HB HS HT HU HV
              obtain ⟨bX, rfl, rfl, HA, HB, HS, HT, HU, HV, HX, HW⟩ := hcut
              clear hJoin
              go_upto_region 10 with fail
              go_cut [17] (fun s1 wx => s1 = .bool (p1 && p2) ∧ Hid (wx.heap[w.heap.size]? = some (.cells #[.int .i64 (a.lo), .int .i64 (a.hi)] 23 (0, 0))) ∧ Hid (wx.heap[w.heap.size + 1]? = some (.cells #[.int .i64 (b.lo), .int .i64 (b.hi)] 23 (0, 0))) ∧ Hid (wx.heap[bS]? = some (.cells #[.int .i64 (s.lo), .int .i64 (s.hi)] 23 (0, 0))) ∧ Hid (wx.heap[bT]? = some (.cells #[.int .i64 (t.lo), .int .i64 (t.hi)] 23 (0, 0))) ∧ Hid (wx.heap[bU]? = some (.cells #[.int .i64 (u.lo), .int .i64 (u.hi)] 23 (0, 0))) ∧ Hid (wx.heap[bV]? = some (.cells #[.int .i64 (v.lo), .int .i64 (v.hi)] 23 (0, 0))) ∧ Hid (wx.heap[bX]? = some (.cells #[.int .i64 (x.lo), .int .i64 (x.hi)] 23 (0, 0))) ∧ Hid (Below w.heap.size w wx))
              case first => as_aux_lemma =>
                have A0 := (cells2 HA.out).1.1
                have A1 := (cells2 HA.out).1.2
                have A2 := (cells2 HA.out).2.1
                have A3 := (cells2 HA.out).2.2
                have Al := blkLt HA.out
                have B0 := (cells2 HB.out).1.1
                have B1 := (cells2 HB.out).1.2
                have B2 := (cells2 HB.out).2.1
                have B3 := (cells2 HB.out).2.2
                have Bl := blkLt HB.out
                cases p1
                · go_wp2_with (go_at_call_of 18 (Value.int IntKind.i64 (a.lo + b.lo)); refine (hp1.out _).mono ?_; rintro e2 wn ⟨rfl, rfl⟩)
                  go_meet
                  exact ⟨rfl, HA, HB, HS, HT, HU, HV, HX, HW⟩
                · go_wp2_with (first
                    | (go_at_call_of 18 (Value.int IntKind.i64 (a.lo + b.lo)); refine (hp1.out _).mono ?_; rintro e2 wn ⟨rfl, rfl⟩)
                    | (go_at_call_of 18 (Value.int IntKind.i64 (a.hi + b.hi)); refine (hp2.out _).mono ?_; rintro e2 wn ⟨rfl, rfl⟩))
                  go_meet
                  exact ⟨rfl, HA, HB, HS, HT, HU, HV, HX, HW⟩
              case rest =>
                clear HW HA HB HS HT HU HV HX
                obtain ⟨rfl, HA, HB, HS, HT, HU, HV, HX, HW⟩ := hcut
                clear hp1 hp2 y1 y2
                go_upto_region 11 with fail
                go_cut [18] (fun s1 wx => s1 = .bool (q1 && q2) ∧ Hid (wx.heap[w.heap.size]? = some (.cells #[.int .i64 (a.lo), .int .i64 (a.hi)] 23 (0, 0))) ∧ Hid (wx.heap[w.heap.size + 1]? = some (.cells #[.int .i64 (b.lo), .int .i64 (b.hi)] 23 (0, 0))) ∧ Hid (wx.heap[bS]? = some (.cells #[.int .i64 (s.lo), .int .i64 (s.hi)] 23 (0, 0))) ∧ Hid (wx.heap[bT]? = some (.cells #[.int .i64 (t.lo), .int .i64 (t.hi)] 23 (0, 0))) ∧ Hid (wx.heap[bU]? = some (.cells #[.int .i64 (u.lo), .int .i64 (u.hi)] 23 (0, 0))) ∧ Hid (wx.heap[bV]? = some (.cells #[.int .i64 (v.lo), .int .i64 (v.hi)] 23 (0, 0))) ∧ Hid (wx.heap[bX]? = some (.cells #[.int .i64 (x.lo), .int .i64 (x.hi)] 23 (0, 0))) ∧ Hid (Below w.heap.size w wx))
                case first => as_aux_lemma =>
                  have A0 := (cells2 HA.out).1.1
                  have A1 := (cells2 HA.out).1.2
                  have A2 := (cells2 HA.out).2.1
                  have A3 := (cells2 HA.out).2.2
                  have Al := blkLt HA.out
                  have B0 := (cells2 HB.out).1.1
                  have B1 := (cells2 HB.out).1.2
                  have B2 := (cells2 HB.out).2.1
                  have B3 := (cells2 HB.out).2.2
                  have Bl := blkLt HB.out
                  cases q1
                  · go_wp2_with (go_at_call_of 18 (Value.int IntKind.i64 (a.lo - b.hi)); refine (hq1.out _).mono ?_; rintro e2 wn ⟨rfl, rfl⟩)
                    go_meet
                    exact ⟨rfl, HA, HB, HS, HT, HU, HV, HX, HW⟩
                  · go_wp2_with (first
                      | (go_at_call_of 18 (Value.int IntKind.i64 (a.lo - b.hi)); refine (hq1.out _).mono ?_; rintro e2 wn ⟨rfl, rfl⟩)
                      | (go_at_call_of 18 (Value.int IntKind.i64 (a.hi - b.lo)); refine (hq2.out _).mono ?_; rintro e2 wn ⟨rfl, rfl⟩))
                    go_meet
                    exact ⟨rfl, HA, HB, HS, HT, HU, HV, HX, HW⟩
                case rest =>
                  clear HW HA HB HS HT HU HV HX
                  obtain ⟨rfl, HA, HB, HS, HT, HU, HV, HX, HW⟩ := hcut
                  clear hq1 hq2 y3 y4
                  go_upto_region 12 with fail
                  go_cut [19] (fun s1 wx => s1 = .bool (r1 && (r2 && (r3 && r4))) ∧ Hid (wx.heap[w.heap.size]? = some (.cells #[.int .i64 (a.lo), .int .i64 (a.hi)] 23 (0, 0))) ∧ Hid (wx.heap[w.heap.size + 1]? = some (.cells #[.int .i64 (b.lo), .int .i64 (b.hi)] 23 (0, 0))) ∧ Hid (wx.heap[bS]? = some (.cells #[.int .i64 (s.lo), .int .i64 (s.hi)] 23 (0, 0))) ∧ Hid (wx.heap[bT]? = some (.cells #[.int .i64 (t.lo), .int .i64 (t.hi)] 23 (0, 0))) ∧ Hid (wx.heap[bU]? = some (.cells #[.int .i64 (u.lo), .int .i64 (u.hi)] 23 (0, 0))) ∧ Hid (wx.heap[bV]? = some (.cells #[.int .i64 (v.lo), .int .i64 (v.hi)] 23 (0, 0))) ∧ Hid (wx.heap[bX]? = some (.cells #[.int .i64 (x.lo), .int .i64 (x.hi)] 23 (0, 0))) ∧ Hid (Below w.heap.size w wx))
                  case first => as_aux_lemma =>
                    have A0 := (cells2 HA.out).1.1
                    have A1 := (cells2 HA.out).1.2
                    have A2 := (cells2 HA.out).2.1
                    have A3 := (cells2 HA.out).2.2
                    have Al := blkLt HA.out
                    have B0 := (cells2 HB.out).1.1
                    have B1 := (cells2 HB.out).1.2
                    have B2 := (cells2 HB.out).2.1
                    have B3 := (cells2 HB.out).2.2
                    have Bl := blkLt HB.out
                    cases r1
                    · go_wp2_with (first
                        | (go_at_call_of 19 (Value.int IntKind.i64 a.lo); (with_reducible refine (hm1.out _).mono ?_); rintro e2 wn ⟨rfl, rfl⟩)
                        | (go_at_call_of 19 (Value.int IntKind.i64 a.lo); (with_reducible refine (hm2.out _).mono ?_); rintro e2 wn ⟨rfl, rfl⟩)
                        | (go_at_call_of 19 (Value.int IntKind.i64 a.hi); (with_reducible refine (hm3.out _).mono ?_); rintro e2 wn ⟨rfl, rfl⟩)
                        | (go_at_call_of 19 (Value.int IntKind.i64 a.hi); (with_reducible refine (hm4.out _).mono ?_); rintro e2 wn ⟨rfl, rfl⟩)
                        | (go_at_call_of 18 (Value.int IntKind.i64 (m1)); refine (hr1.out _).mono ?_; rintro e2 wn ⟨rfl, rfl⟩)
                        | (go_at_call_of 18 (Value.int IntKind.i64 (m2)); refine (hr2.out _).mono ?_; rintro e2 wn ⟨rfl, rfl⟩)
                        | (go_at_call_of 18 (Value.int IntKind.i64 (m3)); refine (hr3.out _).mono ?_; rintro e2 wn ⟨rfl, rfl⟩)
                        | (go_at_call_of 18 (Value.int IntKind.i64 (m4)); refine (hr4.out _).mono ?_; rintro e2 wn ⟨rfl, rfl⟩))
                      go_meet
                      exact ⟨rfl, HA, HB, HS, HT, HU, HV, HX, HW⟩
                    · cases r2
                      · go_wp2_with (first
                          | (go_at_call_of 19 (Value.int IntKind.i64 a.lo); (with_reducible refine (hm1.out _).mono ?_); rintro e2 wn ⟨rfl, rfl⟩)
                          | (go_at_call_of 19 (Value.int IntKind.i64 a.lo); (with_reducible refine (hm2.out _).mono ?_); rintro e2 wn ⟨rfl, rfl⟩)
                          | (go_at_call_of 19 (Value.int IntKind.i64 a.hi); (with_reducible refine (hm3.out _).mono ?_); rintro e2 wn ⟨rfl, rfl⟩)
                          | (go_at_call_of 19 (Value.int IntKind.i64 a.hi); (with_reducible refine (hm4.out _).mono ?_); rintro e2 wn ⟨rfl, rfl⟩)
                          | (go_at_call_of 18 (Value.int IntKind.i64 (m1)); refine (hr1.out _).mono ?_; rintro e2 wn ⟨rfl, rfl⟩)
                          | (go_at_call_of 18 (Value.int IntKind.i64 (m2)); refine (hr2.out _).mono ?_; rintro e2 wn ⟨rfl, rfl⟩)
                          | (go_at_call_of 18 (Value.int IntKind.i64 (m3)); refine (hr3.out _).mono ?_; rintro e2 wn ⟨rfl, rfl⟩)
                          | (go_at_call_of 18 (Value.int IntKind.i64 (m4)); refine (hr4.out _).mono ?_; rintro e2 wn ⟨rfl, rfl⟩))
                        go_meet
                        exact ⟨rfl, HA, HB, HS, HT, HU, HV, HX, HW⟩
                      · cases r3
                        · go_wp2_with (first
                            | (go_at_call_of 19 (Value.int IntKind.i64 a.lo); (with_reducible refine (hm1.out _).mono ?_); rintro e2 wn ⟨rfl, rfl⟩)
                            | (go_at_call_of 19 (Value.int IntKind.i64 a.lo); (with_reducible refine (hm2.out _).mono ?_); rintro e2 wn ⟨rfl, rfl⟩)
                            | (go_at_call_of 19 (Value.int IntKind.i64 a.hi); (with_reducible refine (hm3.out _).mono ?_); rintro e2 wn ⟨rfl, rfl⟩)
                            | (go_at_call_of 19 (Value.int IntKind.i64 a.hi); (with_reducible refine (hm4.out _).mono ?_); rintro e2 wn ⟨rfl, rfl⟩)
                            | (go_at_call_of 18 (Value.int IntKind.i64 (m1)); refine (hr1.out _).mono ?_; rintro e2 wn ⟨rfl, rfl⟩)
                            | (go_at_call_of 18 (Value.int IntKind.i64 (m2)); refine (hr2.out _).mono ?_; rintro e2 wn ⟨rfl, rfl⟩)
                            | (go_at_call_of 18 (Value.int IntKind.i64 (m3)); refine (hr3.out _).mono ?_; rintro e2 wn ⟨rfl, rfl⟩)
                            | (go_at_call_of 18 (Value.int IntKind.i64 (m4)); refine (hr4.out _).mono ?_; rintro e2 wn ⟨rfl, rfl⟩))
                          go_meet
                          exact ⟨rfl, HA, HB, HS, HT, HU, HV, HX, HW⟩
                        · go_wp2_with (first
                            | (go_at_call_of 19 (Value.int IntKind.i64 a.lo); (with_reducible refine (hm1.out _).mono ?_); rintro e2 wn ⟨rfl, rfl⟩)
                            | (go_at_call_of 19 (Value.int IntKind.i64 a.lo); (with_reducible refine (hm2.out _).mono ?_); rintro e2 wn ⟨rfl, rfl⟩)
                            | (go_at_call_of 19 (Value.int IntKind.i64 a.hi); (with_reducible refine (hm3.out _).mono ?_); rintro e2 wn ⟨rfl, rfl⟩)
                            | (go_at_call_of 19 (Value.int IntKind.i64 a.hi); (with_reducible refine (hm4.out _).mono ?_); rintro e2 wn ⟨rfl, rfl⟩)
                            | (go_at_call_of 18 (Value.int IntKind.i64 (m1)); refine (hr1.out _).mono ?_; rintro e2 wn ⟨rfl, rfl⟩)
                            | (go_at_call_of 18 (Value.int IntKind.i64 (m2)); refine (hr2.out _).mono ?_; rintro e2 wn ⟨rfl, rfl⟩)
                            | (go_at_call_of 18 (Value.int IntKind.i64 (m3)); refine (hr3.out _).mono ?_; rintro e2 wn ⟨rfl, rfl⟩)
                            | (go_at_call_of 18 (Value.int IntKind.i64 (m4)); refine (hr4.out _).mono ?_; rintro e2 wn ⟨rfl, rfl⟩))
                          go_meet
                          exact ⟨rfl, HA, HB, HS, HT, HU, HV, HX, HW⟩
                  case rest =>
                    clear HW HA HB HS HT HU HV HX
                    obtain ⟨rfl, HA, HB, HS, HT, HU, HV, HX, HW⟩ := hcut
                    clear hm1 hm2 hm3 hm4 hr1 hr2 hr3 hr4
                    generalize (p1 && p2) = p at *
                    generalize (q1 && q2) = q at *
                    generalize (r1 && (r2 && (r3 && r4))) = r at *
                    go_upto_region 13 with fail
                    go_cut [20] (fun s1 wx => s1 = .bool (zB b) ∧ Hid (wx.heap[w.heap.size]? = some (.cells #[.int .i64 (a.lo), .int .i64 (a.hi)] 23 (0, 0))) ∧ Hid (wx.heap[w.heap.size + 1]? = some (.cells #[.int .i64 (b.lo), .int .i64 (b.hi)] 23 (0, 0))) ∧ Hid (wx.heap[bS]? = some (.cells #[.int .i64 (s.lo), .int .i64 (s.hi)] 23 (0, 0))) ∧ Hid (wx.heap[bT]? = some (.cells #[.int .i64 (t.lo), .int .i64 (t.hi)] 23 (0, 0))) ∧ Hid (wx.heap[bU]? = some (.cells #[.int .i64 (u.lo), .int .i64 (u.hi)] 23 (0, 0))) ∧ Hid (wx.heap[bV]? = some (.cells #[.int .i64 (v.lo), .int .i64 (v.hi)] 23 (0, 0))) ∧ Hid (wx.heap[bX]? = some (.cells #[.int .i64 (x.lo), .int .i64 (x.hi)] 23 (0, 0))) ∧ Hid (Below w.heap.size w wx))
                    case first => as_aux_lemma =>
                      clear hp hq hr hh
                      have B0 := (cells2 HB.out).1.1
                      have B1 := (cells2 HB.out).1.2
                      have B2 := (cells2 HB.out).2.1
                      have B3 := (cells2 HB.out).2.2
                      have Bl := blkLt HB.out
                      by_cases h1 : b.lo ≤ 0 <;> by_cases h2 : 0 ≤ b.hi
                      all_goals
                        go_wp2_with fail
                        go_meet
                        exact ⟨by simp [zB, h1, h2], HA, HB, HS, HT, HU, HV, HX, HW⟩
                    case rest =>
                      clear HW HA HB HS HT HU HV HX
                      obtain ⟨rfl, HA, HB, HS, HT, HU, HV, HX, HW⟩ := hcut
                      generalize zB b = zb at *
                      have z := z_zero
                      go_upto_region 14 with fail
                      clear HA HB HT HV HX
                      have S0 := (cells2 HS.out).1.1
                      have S1 := (cells2 HS.out).1.2
                      have S2 := (cells2 HS.out).2.1
                      have S3 := (cells2 HS.out).2.2
                      have Sl := blkLt HS.out
                      have U0 := (cells2 HU.out).1.1
                      have U1 := (cells2 HU.out).1.2
                      have U2 := (cells2 HU.out).2.1
                      have U3 := (cells2 HU.out).2.2
                      have Ul := blkLt HU.out
                      obtain ⟨ep, rfl, rfl⟩ := hp.out
                      obtain ⟨er, rfl⟩ := hr.out
                      subst ep er
                      clear hp hr
                      (try dsimp only at S0 S1 HS)
                      (try dsimp only at U0 U1 HU)
                      have hSG : Hid (∀ w1 w2 : World, (w1.cell? ⟨bS, 0, none⟩ = some (.int .i64 0) ∧ w1.cell? ⟨bS, 1, none⟩ = some (.int .i64 0) ∧ w1.cell? ⟨bU, 0, none⟩ = some (.int .i64 u.lo) ∧ w1.cell? ⟨bU, 1, none⟩ = some (.int .i64 u.hi)) → Gr w1 w2 → (w2.cell? ⟨bS, 0, none⟩ = some (.int .i64 0) ∧ w2.cell? ⟨bS, 1, none⟩ = some (.int .i64 0) ∧ w2.cell? ⟨bU, 0, none⟩ = some (.int .i64 u.lo) ∧ w2.cell? ⟨bU, 1, none⟩ = some (.int .i64 u.hi))) := Lib.hid (fun w1 w2 h hg => ⟨grCell hg h.1, grCell hg h.2.1, grCell hg h.2.2.1, grCell hg h.2.2.2⟩)
                      obtain ⟨rfl, rfl⟩ := hq.out
                      obtain ⟨rfl, rfl⟩ := hh.out
                      clear hq hh z
                      refine wp_region_GK (S := fun w5 => w5.cell? ⟨bS, 0, none⟩ = some (.int .i64 0) ∧ w5.cell? ⟨bS, 1, none⟩ = some (.int .i64 0) ∧ w5.cell? ⟨bU, 0, none⟩ = some (.int .i64 u.lo) ∧ w5.cell? ⟨bU, 1, none⟩ = some (.int .i64 u.hi)) (by kernel_rfl) (by exact ⟨S0, S1, U0, U1⟩) (fun _ _ _ _ hd h => ⟨hd.symm.trans h.1, h.2⟩) (fun hQ hHeld => ?_)
                      refine wpAnyG_takeQ hSG 0 (some 172) (.bool true) (by decide +kernel) hQ (Gives.q (by kernel_rfl) (fun w => by kernel_rfl)) hHeld ?_
                      refine wpAnyG_takeQ hSG 1 (some 173) (.bool true) (by decide +kernel) hQ (Gives.q (by kernel_rfl) (fun w => by kernel_rfl)) hHeld ?_
                      refine wpAnyG_takeQ hSG 2 (some 174) (.int .i64 3) (by decide +kernel) hQ (Gives.q (by kernel_rfl) (fun w => by kernel_rfl)) hHeld ?_
                      refine wpAnyG_takeQ hSG 3 (some 175) (.bool false) (by decide +kernel) hQ (Gives.q (by kernel_rfl) (fun w => by kernel_rfl)) hHeld ?_
                      refine wpAnyG_takeQ hSG 4 (some 176) (.bool false) (by decide +kernel) hQ (Gives.q (by kernel_rfl) (fun w => by kernel_rfl)) hHeld ?_
                      refine wpAnyG_takeQ hSG 5 (some 177) (.bool true) (by decide +kernel) hQ (Gives.q (by kernel_rfl) (fun w => by kernel_rfl)) hHeld ?_
                      refine wpAnyG_takeQ hSG 6 (some 178) (.bool true) (by decide +kernel) hQ (Gives.q (by kernel_rfl) (fun w => by kernel_rfl)) hHeld ?_
                      refine wpAnyG_takeQ hSG 7 (some 179) (.bool true) (by decide +kernel) hQ (Gives.q (by kernel_rfl) (fun w => by kernel_rfl)) hHeld ?_
                      refine wpAnyG_takeQ hSG 8 (some 180) (.bool false) (by decide +kernel) hQ (Gives.q (by kernel_rfl) (fun w => by kernel_rfl)) hHeld ?_
                      refine wpAnyG_takeQ hSG 9 (some 181) (.bool false) (by decide +kernel) hQ (Gives.q (by kernel_rfl) (fun w => by kernel_rfl)) hHeld ?_
                      refine wpAnyG_takeQ hSG 10 (some 182) (.int .i64 3) (by decide +kernel) hQ (Gives.q (by kernel_rfl) (fun w => by kernel_rfl)) hHeld ?_
                      refine wpAnyG_takeQ hSG 11 (some 183) (.bool true) (by decide +kernel) hQ (Gives.q (by kernel_rfl) (fun w => by kernel_rfl)) hHeld ?_
                      refine wpAnyG_takeQ hSG 12 (some 184) (.bool true) (by decide +kernel) hQ (Gives.q (by kernel_rfl) (fun w => by kernel_rfl)) hHeld ?_
                      refine wpAnyG_takeQ hSG 13 (some 185) (sv ⟨0, 0⟩) (by decide +kernel) hQ (Gives.ld (by kernel_rfl) (by kernel_rfl) (fun w hS => ld_sp hS.1 hS.2.1)) hHeld ?_
                      refine wpAnyG_takeQ hSG 14 (some 186) (sv ⟨0, 0⟩) (by decide +kernel) hQ (Gives.call (f := 7) (args := #[.int .i64 0, .int .i64 0]) (by kernel_rfl) (fun w => by kernel_rfl) (fun w hS => span_any 0 0 w)) hHeld ?_
                      refine wpAnyG_takeQ hSG 15 (some 187) (.bool true) (by decide +kernel) hQ (Gives.q (by kernel_rfl) (fun w => by kernel_rfl)) hHeld ?_
                      refine wpAnyG_takeQ hSG 16 (some 188) (.bool true) (by decide +kernel) hQ (Gives.q (by kernel_rfl) (fun w => by kernel_rfl)) hHeld ?_
                      refine wpAnyG_takeQ hSG 17 (some 189) (.bool true) (by decide +kernel) hQ (Gives.q (by kernel_rfl) (fun w => by kernel_rfl)) hHeld ?_
                      refine wpAnyG_takeQ hSG 18 (some 190) (.bool true) (by decide +kernel) hQ (Gives.q (by kernel_rfl) (fun w => by kernel_rfl)) hHeld ?_
                      refine wpAnyG_takeQ hSG 19 (some 191) (.bool true) (by decide +kernel) hQ (Gives.q (by kernel_rfl) (fun w => by kernel_rfl)) hHeld ?_
                      refine wpAnyG_takeQ hSG 20 (some 192) (.int .i64 0) (by decide +kernel) hQ (Gives.q (by kernel_rfl) (fun w => by kernel_rfl)) hHeld ?_
                      refine wpAnyG_takeQ hSG 21 (some 193) (.bool true) (by decide +kernel) hQ (Gives.q (by kernel_rfl) (fun w => by kernel_rfl)) hHeld ?_
                      refine wpAnyG_takeQ hSG 22 (some 194) (.bool true) (by decide +kernel) hQ (Gives.q (by kernel_rfl) (fun w => by kernel_rfl)) hHeld ?_
                      refine wpAnyG_takeQ hSG 23 (some 195) (.bool true) (by decide +kernel) hQ (Gives.q (by kernel_rfl) (fun w => by kernel_rfl)) hHeld ?_
                      refine wpAnyG_takeQ hSG 24 (some 196) (.bool true) (by decide +kernel) hQ (Gives.q (by kernel_rfl) (fun w => by kernel_rfl)) hHeld ?_
                      refine wpAnyG_takeQ hSG 25 (some 197) (.bool true) (by decide +kernel) hQ (Gives.q (by kernel_rfl) (fun w => by kernel_rfl)) hHeld ?_
                      refine wpAnyG_takeQ hSG 26 (some 198) (.bool true) (by decide +kernel) hQ (Gives.q (by kernel_rfl) (fun w => by kernel_rfl)) hHeld ?_
                      refine wpAnyG_takeQ hSG 27 (some 199) (.bool true) (by decide +kernel) hQ (Gives.q (by kernel_rfl) (fun w => by kernel_rfl)) hHeld ?_
                      refine wpAnyG_takeQ hSG 28 (some 200) (undef) (by decide +kernel) hQ (Gives.no (by kernel_rfl)) hHeld ?_
                      refine wpAnyG_takeQ hSG 29 (some 201) (undef) (by decide +kernel) hQ (Gives.no (by kernel_rfl)) hHeld ?_
                      refine wpAnyG_takeQ hSG 30 (some 202) (.bool true) (by decide +kernel) hQ (Gives.q (by kernel_rfl) (fun w => by kernel_rfl)) hHeld ?_
                      refine wpAnyG_takeQ hSG 31 (some 203) (.bool true) (by decide +kernel) hQ (Gives.q (by kernel_rfl) (fun w => by kernel_rfl)) hHeld ?_
                      refine wpAnyG_takeQ hSG 32 (some 204) (.bool true) (by decide +kernel) hQ (Gives.q (by kernel_rfl) (fun w => by kernel_rfl)) hHeld ?_
                      refine wpAnyG_takeQ hSG 33 (some 205) (.int .i64 0) (by decide +kernel) hQ (Gives.q (by kernel_rfl) (fun w => by kernel_rfl)) hHeld ?_
                      refine wpAnyG_takeQ hSG 34 (some 206) (.bool true) (by decide +kernel) hQ (Gives.q (by kernel_rfl) (fun w => by kernel_rfl)) hHeld ?_
                      refine wpAnyG_takeQ hSG 35 (some 207) (.bool true) (by decide +kernel) hQ (Gives.q (by kernel_rfl) (fun w => by kernel_rfl)) hHeld ?_
                      refine wpAnyG_takeQ hSG 36 (some 208) (.bool true) (by decide +kernel) hQ (Gives.q (by kernel_rfl) (fun w => by kernel_rfl)) hHeld ?_
                      refine wpAnyG_takeQ hSG 37 (some 209) (.bool true) (by decide +kernel) hQ (Gives.q (by kernel_rfl) (fun w => by kernel_rfl)) hHeld ?_
                      refine wpAnyG_takeQ hSG 38 (some 210) (.bool true) (by decide +kernel) hQ (Gives.q (by kernel_rfl) (fun w => by kernel_rfl)) hHeld ?_
                      refine wpAnyG_takeQ hSG 39 (some 211) (.bool true) (by decide +kernel) hQ (Gives.q (by kernel_rfl) (fun w => by kernel_rfl)) hHeld ?_
                      refine wpAnyG_takeQ hSG 40 (some 212) (.bool true) (by decide +kernel) hQ (Gives.q (by kernel_rfl) (fun w => by kernel_rfl)) hHeld ?_
                      refine wpAnyG_takeQ hSG 41 (some 213) (undef) (by decide +kernel) hQ (Gives.no (by kernel_rfl)) hHeld ?_
                      refine wpAnyG_takeQ hSG 42 (some 214) (undef) (by decide +kernel) hQ (Gives.no (by kernel_rfl)) hHeld ?_
                      refine wpAnyG_takeQ hSG 43 (some 215) (undef) (by decide +kernel) hQ (Gives.no (by kernel_rfl)) hHeld ?_
                      refine wpAnyG_takeQ hSG 44 (some 216) (undef) (by decide +kernel) hQ (Gives.no (by kernel_rfl)) hHeld ?_
                      refine wpAnyG_takeQ hSG 45 (some 217) (undef) (by decide +kernel) hQ (Gives.no (by kernel_rfl)) hHeld ?_
                      refine wpAnyG_takeQ hSG 46 (some 218) (undef) (by decide +kernel) hQ (Gives.no (by kernel_rfl)) hHeld ?_
                      refine wpAnyG_takeQ hSG 47 (some 219) (undef) (by decide +kernel) hQ (Gives.no (by kernel_rfl)) hHeld ?_
                      refine wpAnyG_takeQ hSG 48 (some 220) (.bool true) (by decide +kernel) hQ (Gives.q (by kernel_rfl) (fun w => by kernel_rfl)) hHeld ?_
                      refine wpAnyG_takeQ hSG 49 (some 221) (.bool true) (by decide +kernel) hQ (Gives.q (by kernel_rfl) (fun w => by kernel_rfl)) hHeld ?_
                      refine wpAnyG_takeQ hSG 50 (some 222) (.bool true) (by decide +kernel) hQ (Gives.q (by kernel_rfl) (fun w => by kernel_rfl)) hHeld ?_
                      refine wpAnyG_takeQ hSG 51 (some 223) (.int .i64 0) (by decide +kernel) hQ (Gives.q (by kernel_rfl) (fun w => by kernel_rfl)) hHeld ?_
                      refine wpAnyG_takeQ hSG 52 (some 224) (.bool false) (by decide +kernel) hQ (Gives.q (by kernel_rfl) (fun w => by kernel_rfl)) hHeld ?_
                      refine wpAnyG_takeQ hSG 53 (some 225) (.bool false) (by decide +kernel) hQ (Gives.q (by kernel_rfl) (fun w => by kernel_rfl)) hHeld ?_
                      refine wpAnyG_takeQ hSG 54 (some 226) (.bool true) (by decide +kernel) hQ (Gives.q (by kernel_rfl) (fun w => by kernel_rfl)) hHeld ?_
                      refine wpAnyG_takeQ hSG 55 (some 227) (.bool true) (by decide +kernel) hQ (Gives.q (by kernel_rfl) (fun w => by kernel_rfl)) hHeld ?_
                      refine wpAnyG_takeQ hSG 56 (some 228) (.bool true) (by decide +kernel) hQ (Gives.q (by kernel_rfl) (fun w => by kernel_rfl)) hHeld ?_
                      refine wpAnyG_takeQ hSG 57 (some 229) (.bool false) (by decide +kernel) hQ (Gives.q (by kernel_rfl) (fun w => by kernel_rfl)) hHeld ?_
                      refine wpAnyG_takeQ hSG 58 (some 230) (.bool false) (by decide +kernel) hQ (Gives.q (by kernel_rfl) (fun w => by kernel_rfl)) hHeld ?_
                      refine wpAnyG_takeQ hSG 59 (some 231) (.int .i64 0) (by decide +kernel) hQ (Gives.q (by kernel_rfl) (fun w => by kernel_rfl)) hHeld ?_
                      refine wpAnyG_takeQ hSG 60 (some 232) (.bool true) (by decide +kernel) hQ (Gives.q (by kernel_rfl) (fun w => by kernel_rfl)) hHeld ?_
                      refine wpAnyG_takeQ hSG 61 (some 233) (.bool true) (by decide +kernel) hQ (Gives.q (by kernel_rfl) (fun w => by kernel_rfl)) hHeld ?_
                      refine wpAnyG_takeQ hSG 62 (some 234) (.bool true) (by decide +kernel) hQ (Gives.q (by kernel_rfl) (fun w => by kernel_rfl)) hHeld ?_
                      refine wpAnyG_takeQ hSG 63 (some 235) (.bool true) (by decide +kernel) hQ (Gives.q (by kernel_rfl) (fun w => by kernel_rfl)) hHeld ?_
                      refine wpAnyG_takeQ hSG 64 (some 236) (.int .i64 0) (by decide +kernel) hQ (Gives.q (by kernel_rfl) (fun w => by kernel_rfl)) hHeld ?_
                      refine wpAnyG_takeQ hSG 65 (some 237) (.bool true) (by decide +kernel) hQ (Gives.q (by kernel_rfl) (fun w => by kernel_rfl)) hHeld ?_
                      refine wpAnyG_takeQ hSG 66 (some 238) (.bool true) (by decide +kernel) hQ (Gives.q (by kernel_rfl) (fun w => by kernel_rfl)) hHeld ?_
                      refine wpAnyG_takeQ hSG 67 (some 4) (.bool true) (by decide +kernel) hQ (Gives.q (by kernel_rfl) (fun w => by kernel_rfl)) hHeld ?_
                      refine wpAnyG_done (by kernel_rfl) (fun w5 hg => ?_) _
                      have HW := Lib.hid (HW.out.drew.trans (hg.mono HW.out.size))
                      simp only [List.getElem_toArray, List.getElem_cons_succ, List.getElem_cons_zero, Act.put, List.setIfInBounds_toArray, List.set_cons_zero, List.set_cons_succ]
                      go_wp2
                      go_ret
                      exact ⟨rfl, HW.out⟩
end Go.Proofs.Ytphjkkkjkfclgaa
