/- Law package 12: RatioMatchesReference. -/
import Derived.Test.YtinmplilejnafaaRaG
namespace Go.Proofs.Ytinmplilejnafaa
open Go.RowKit
set_option linter.unusedVariables false
set_option linter.unusedSimpArgs false
set_option maxHeartbeats 8000000 in
set_option maxRecDepth 100000 in
theorem matches_any (a b : Q) (m k : Int) (w : World) : Calls Try.prog 3 #[qv a, qv b, .int .i64 m, .int .i64 k] w (BB true w) := by
  go_enter Try.func3, Try.ntmps3
  have HW := Lib.hid (Below.refl w.heap.size w)
  go_upto_region 2 with (go_at_call 10; refine (head_any _).mono ?_; rintro e wn ⟨rfl, hbn⟩; obtain ⟨HA, HB⟩ := two2 hbn; have HA := Lib.hid HA; have HB := Lib.hid HB; replace HW := Lib.hid (bCall (by (repeat with_reducible first | exact HW.out | apply bDrew | apply bAlloc)) hbn); clear hbn)
  go_cut [10, 11] (fun s1 s2 wx => ∃ bS : Nat, s1 = .pointer (some ⟨bS, 0, none⟩) ∧ s2 = .int .i64 (newM m k).2 ∧ w.heap.size + 2 ≤ bS ∧ Hid (wx.heap[w.heap.size]? = some (.cells #[.int .i64 (a.n), .int .i64 (a.d)] 23 (0, 0))) ∧ Hid (wx.heap[w.heap.size + 1]? = some (.cells #[.int .i64 (b.n), .int .i64 (b.d)] 23 (0, 0))) ∧ Hid (wx.heap[bS]? = some (.cells #[.int .i64 ((newM m k).1.n), .int .i64 ((newM m k).1.d)] 23 (0, 0))) ∧ Hid (Below w.heap.size w wx))
  case first => as_aux_lemma =>
    have A0 := (cells2 HA.out).1.1
    have A1 := (cells2 HA.out).1.2
    have A2 := (cells2 HA.out).2.1
    have A3 := (cells2 HA.out).2.2
    have Al := blkLt HA.out
    have B0 := (cells2 HB.out).1.1
    have B1 := (cells2 HB.out).1.2
    have B2 := (cells2 HB.out).2.1
    have B3 := (cells2 HB.out).2.2
    have Bl := blkLt HB.out
    go_wp2_with (go_at_call 11; refine (New_any m k _).mono ?_; rintro e wn ⟨rfl, hbn⟩; replace HW := Lib.hid (bCall (by (repeat with_reducible first | exact HW.out | apply bDrew | apply bAlloc)) hbn); replace HA := Lib.hid (moveX (by (repeat with_reducible first | exact Below.refl _ _ | apply bDrew | apply bAlloc)) hbn HA.out); replace HB := Lib.hid (moveX (by (repeat with_reducible first | exact Below.refl _ _ | apply bDrew | apply bAlloc)) hbn HB.out); replace A0 := (cells2 HA.out).1.1; replace A1 := (cells2 HA.out).1.2; replace A2 := (cells2 HA.out).2.1; replace A3 := (cells2 HA.out).2.2; replace Al := blkLt HA.out; replace B0 := (cells2 HB.out).1.1; replace B1 := (cells2 HB.out).1.2; replace B2 := (cells2 HB.out).2.1; replace B3 := (cells2 HB.out).2.2; replace Bl := blkLt HB.out; clear hbn)
    go_meet
    exact ⟨_, rfl, rfl, by have := Bl; omega, Lib.hid (mvAlloc HA.out), Lib.hid (mvAlloc HB.out), Lib.hid (newBlk _ _ _ rfl), Lib.hid (bAlloc HW.out)⟩
  case rest => as_aux_lemma =>
    clear HW HA HB
    obtain ⟨bS, rfl, rfl, hSn, HA, HB, HS, HW⟩ := hcut
    go_upto_region 3 with fail
    go_cut [12, 13] (fun s1 s2 wx => ∃ bT : Nat, s1 = .pointer (some ⟨bT, 0, none⟩) ∧ s2 = .int .i64 (newM m k).2 ∧ w.heap.size + 2 ≤ bT ∧ bS < bT ∧ Hid (wx.heap[w.heap.size]? = some (.cells #[.int .i64 (a.n), .int .i64 (a.d)] 23 (0, 0))) ∧ Hid (wx.heap[w.heap.size + 1]? = some (.cells #[.int .i64 (b.n), .int .i64 (b.d)] 23 (0, 0))) ∧ Hid (wx.heap[bS]? = some (.cells #[.int .i64 ((newM m k).1.n), .int .i64 ((newM m k).1.d)] 23 (0, 0))) ∧ Hid (wx.heap[bT]? = some (.cells #[.int .i64 ((newM m k).1.n), .int .i64 ((newM m k).1.d)] 23 (0, 0))) ∧ Hid (Below w.heap.size w wx))
    case first => as_aux_lemma =>
      have A0 := (cells2 HA.out).1.1
      have A1 := (cells2 HA.out).1.2
      have A2 := (cells2 HA.out).2.1
      have A3 := (cells2 HA.out).2.2
      have Al := blkLt HA.out
      have B0 := (cells2 HB.out).1.1
      have B1 := (cells2 HB.out).1.2
      have B2 := (cells2 HB.out).2.1
      have B3 := (cells2 HB.out).2.2
      have Bl := blkLt HB.out
      have S0 := (cells2 HS.out).1.1
      have S1 := (cells2 HS.out).1.2
      have S2 := (cells2 HS.out).2.1
      have S3 := (cells2 HS.out).2.2
      have Sl := blkLt HS.out
      go_wp2_with (go_at_call 12; refine (RNew_any m k _).mono ?_; rintro e wn ⟨rfl, hbn⟩; replace HW := Lib.hid (bCall (by (repeat with_reducible first | exact HW.out | apply bDrew | apply bAlloc)) hbn); replace HA := Lib.hid (moveX (by (repeat with_reducible first | exact Below.refl _ _ | apply bDrew | apply bAlloc)) hbn HA.out); replace HB := Lib.hid (moveX (by (repeat with_reducible first | exact Below.refl _ _ | apply bDrew | apply bAlloc)) hbn HB.out); replace HS := Lib.hid (moveX (by (repeat with_reducible first | exact Below.refl _ _ | apply bDrew | apply bAlloc)) hbn HS.out); replace A0 := (cells2 HA.out).1.1; replace A1 := (cells2 HA.out).1.2; replace A2 := (cells2 HA.out).2.1; replace A3 := (cells2 HA.out).2.2; replace Al := blkLt HA.out; replace B0 := (cells2 HB.out).1.1; replace B1 := (cells2 HB.out).1.2; replace B2 := (cells2 HB.out).2.1; replace B3 := (cells2 HB.out).2.2; replace Bl := blkLt HB.out; replace S0 := (cells2 HS.out).1.1; replace S1 := (cells2 HS.out).1.2; replace S2 := (cells2 HS.out).2.1; replace S3 := (cells2 HS.out).2.2; replace Sl := blkLt HS.out; clear hbn)
      go_meet
      exact ⟨_, rfl, rfl, by have := Bl; omega, Sl, Lib.hid (mvAlloc HA.out), Lib.hid (mvAlloc HB.out), Lib.hid (mvAlloc HS.out), Lib.hid (newBlk _ _ _ rfl), Lib.hid (bAlloc HW.out)⟩
    case rest => as_aux_lemma =>
      clear HW HA HB HS
      obtain ⟨bT, rfl, rfl, hTn, hST, HA, HB, HS, HT, HW⟩ := hcut
      go_upto_region 4 with fail
      go_cut [9] (fun s1 wx => s1 = .bool true ∧ Hid (wx.heap[w.heap.size]? = some (.cells #[.int .i64 (a.n), .int .i64 (a.d)] 23 (0, 0))) ∧ Hid (wx.heap[w.heap.size + 1]? = some (.cells #[.int .i64 (b.n), .int .i64 (b.d)] 23 (0, 0))) ∧ Hid (wx.heap[bS]? = some (.cells #[.int .i64 ((newM m k).1.n), .int .i64 ((newM m k).1.d)] 23 (0, 0))) ∧ Hid (wx.heap[bT]? = some (.cells #[.int .i64 ((newM m k).1.n), .int .i64 ((newM m k).1.d)] 23 (0, 0))) ∧ Hid (Below w.heap.size w wx))
      case first => as_aux_lemma =>
        have S0 := (cells2 HS.out).1.1
        have S1 := (cells2 HS.out).1.2
        have S2 := (cells2 HS.out).2.1
        have S3 := (cells2 HS.out).2.2
        have Sl := blkLt HS.out
        have T0 := (cells2 HT.out).1.1
        have T1 := (cells2 HT.out).1.2
        have T2 := (cells2 HT.out).2.1
        have T3 := (cells2 HT.out).2.2
        have Tl := blkLt HT.out
        have z := fun w => run_q_eq (newM m k).1 (newM m k).1 w
        rw [qEq_rfl] at z
        go_wp2_with fail
        go_meet
        exact ⟨rfl, HA, HB, HS, HT, HW⟩
      case rest => as_aux_lemma =>
        clear HW HA HB HS HT
        obtain ⟨rfl, HA, HB, HS, HT, HW⟩ := hcut
        go_upto_region 5 with fail
        go_cut [11] (fun s2 wx => s2 = .int .i64 (addM a b).2 ∧ Hid (wx.heap[w.heap.size]? = some (.cells #[.int .i64 (a.n), .int .i64 (a.d)] 23 (0, 0))) ∧ Hid (wx.heap[w.heap.size + 1]? = some (.cells #[.int .i64 (b.n), .int .i64 (b.d)] 23 (0, 0))) ∧ Hid (wx.heap[bS]? = some (.cells #[.int .i64 ((addM a b).1.n), .int .i64 ((addM a b).1.d)] 23 (0, 0))) ∧ Hid (wx.heap[bT]? = some (.cells #[.int .i64 ((newM m k).1.n), .int .i64 ((newM m k).1.d)] 23 (0, 0))) ∧ Hid (Below w.heap.size w wx))
        case first => as_aux_lemma =>
          have A0 := (cells2 HA.out).1.1
          have A1 := (cells2 HA.out).1.2
          have A2 := (cells2 HA.out).2.1
          have A3 := (cells2 HA.out).2.2
          have Al := blkLt HA.out
          have B0 := (cells2 HB.out).1.1
          have B1 := (cells2 HB.out).1.2
          have B2 := (cells2 HB.out).2.1
          have B3 := (cells2 HB.out).2.2
          have Bl := blkLt HB.out
          have S0 := (cells2 HS.out).1.1
          have S1 := (cells2 HS.out).1.2
          have S2 := (cells2 HS.out).2.1
          have S3 := (cells2 HS.out).2.2
          have Sl := blkLt HS.out
          have T0 := (cells2 HT.out).1.1
          have T1 := (cells2 HT.out).1.2
          have T2 := (cells2 HT.out).2.1
          have T3 := (cells2 HT.out).2.2
          have Tl := blkLt HT.out
          go_wp2_with (go_at_call 13; refine (Add_any a b _).mono ?_; rintro e wn ⟨rfl, hbn⟩; replace HW := Lib.hid (bCall (by (repeat with_reducible first | exact HW.out | apply bDrew | apply bAlloc)) hbn); replace HA := Lib.hid (moveX (by (repeat with_reducible first | exact Below.refl _ _ | apply bDrew | apply bAlloc)) hbn HA.out); replace HB := Lib.hid (moveX (by (repeat with_reducible first | exact Below.refl _ _ | apply bDrew | apply bAlloc)) hbn HB.out); replace HS := Lib.hid (moveX (by (repeat with_reducible first | exact Below.refl _ _ | apply bDrew | apply bAlloc)) hbn HS.out); replace HT := Lib.hid (moveX (by (repeat with_reducible first | exact Below.refl _ _ | apply bDrew | apply bAlloc)) hbn HT.out); replace A0 := (cells2 HA.out).1.1; replace A1 := (cells2 HA.out).1.2; replace A2 := (cells2 HA.out).2.1; replace A3 := (cells2 HA.out).2.2; replace Al := blkLt HA.out; replace B0 := (cells2 HB.out).1.1; replace B1 := (cells2 HB.out).1.2; replace B2 := (cells2 HB.out).2.1; replace B3 := (cells2 HB.out).2.2; replace Bl := blkLt HB.out; replace S0 := (cells2 HS.out).1.1; replace S1 := (cells2 HS.out).1.2; replace S2 := (cells2 HS.out).2.1; replace S3 := (cells2 HS.out).2.2; replace Sl := blkLt HS.out; replace T0 := (cells2 HT.out).1.1; replace T1 := (cells2 HT.out).1.2; replace T2 := (cells2 HT.out).2.1; replace T3 := (cells2 HT.out).2.2; replace Tl := blkLt HT.out; clear hbn)
          go_meet
          exact ⟨rfl, Lib.hid (setK HA.out (by omega)), Lib.hid (setK HB.out (by omega)), Lib.hid (res2 HS.out).1, Lib.hid (setK HT.out (by omega)), Lib.hid (below2 HW.out (by omega))⟩
        case rest => as_aux_lemma =>
          clear HW HA HB HS HT
          obtain ⟨rfl, HA, HB, HS, HT, HW⟩ := hcut
          go_upto_region 6 with fail
          go_cut [13] (fun s2 wx => s2 = .int .i64 (addM a b).2 ∧ Hid (wx.heap[w.heap.size]? = some (.cells #[.int .i64 (a.n), .int .i64 (a.d)] 23 (0, 0))) ∧ Hid (wx.heap[w.heap.size + 1]? = some (.cells #[.int .i64 (b.n), .int .i64 (b.d)] 23 (0, 0))) ∧ Hid (wx.heap[bS]? = some (.cells #[.int .i64 ((addM a b).1.n), .int .i64 ((addM a b).1.d)] 23 (0, 0))) ∧ Hid (wx.heap[bT]? = some (.cells #[.int .i64 ((addM a b).1.n), .int .i64 ((addM a b).1.d)] 23 (0, 0))) ∧ Hid (Below w.heap.size w wx))
          case first => as_aux_lemma =>
            have A0 := (cells2 HA.out).1.1
            have A1 := (cells2 HA.out).1.2
            have A2 := (cells2 HA.out).2.1
            have A3 := (cells2 HA.out).2.2
            have Al := blkLt HA.out
            have B0 := (cells2 HB.out).1.1
            have B1 := (cells2 HB.out).1.2
            have B2 := (cells2 HB.out).2.1
            have B3 := (cells2 HB.out).2.2
            have Bl := blkLt HB.out
            have S0 := (cells2 HS.out).1.1
            have S1 := (cells2 HS.out).1.2
            have S2 := (cells2 HS.out).2.1
            have S3 := (cells2 HS.out).2.2
            have Sl := blkLt HS.out
            have T0 := (cells2 HT.out).1.1
            have T1 := (cells2 HT.out).1.2
            have T2 := (cells2 HT.out).2.1
            have T3 := (cells2 HT.out).2.2
            have Tl := blkLt HT.out
            go_wp2_with (go_at_call 14; refine (RAdd_any a b _).mono ?_; rintro e wn ⟨rfl, hbn⟩; replace HW := Lib.hid (bCall (by (repeat with_reducible first | exact HW.out | apply bDrew | apply bAlloc)) hbn); replace HA := Lib.hid (moveX (by (repeat with_reducible first | exact Below.refl _ _ | apply bDrew | apply bAlloc)) hbn HA.out); replace HB := Lib.hid (moveX (by (repeat with_reducible first | exact Below.refl _ _ | apply bDrew | apply bAlloc)) hbn HB.out); replace HS := Lib.hid (moveX (by (repeat with_reducible first | exact Below.refl _ _ | apply bDrew | apply bAlloc)) hbn HS.out); replace HT := Lib.hid (moveX (by (repeat with_reducible first | exact Below.refl _ _ | apply bDrew | apply bAlloc)) hbn HT.out); replace A0 := (cells2 HA.out).1.1; replace A1 := (cells2 HA.out).1.2; replace A2 := (cells2 HA.out).2.1; replace A3 := (cells2 HA.out).2.2; replace Al := blkLt HA.out; replace B0 := (cells2 HB.out).1.1; replace B1 := (cells2 HB.out).1.2; replace B2 := (cells2 HB.out).2.1; replace B3 := (cells2 HB.out).2.2; replace Bl := blkLt HB.out; replace S0 := (cells2 HS.out).1.1; replace S1 := (cells2 HS.out).1.2; replace S2 := (cells2 HS.out).2.1; replace S3 := (cells2 HS.out).2.2; replace Sl := blkLt HS.out; replace T0 := (cells2 HT.out).1.1; replace T1 := (cells2 HT.out).1.2; replace T2 := (cells2 HT.out).2.1; replace T3 := (cells2 HT.out).2.2; replace Tl := blkLt HT.out; clear hbn)
            go_meet
            exact ⟨rfl, Lib.hid (setK HA.out (by omega)), Lib.hid (setK HB.out (by omega)), Lib.hid (setK HS.out (by omega)), Lib.hid (res2 HT.out).1, Lib.hid (below2 HW.out (by omega))⟩
          case rest => as_aux_lemma =>
            clear HW HA HB HS HT
            obtain ⟨rfl, HA, HB, HS, HT, HW⟩ := hcut
            go_upto_region 7 with fail
            go_cut [9] (fun s1 wx => s1 = .bool true ∧ Hid (wx.heap[w.heap.size]? = some (.cells #[.int .i64 (a.n), .int .i64 (a.d)] 23 (0, 0))) ∧ Hid (wx.heap[w.heap.size + 1]? = some (.cells #[.int .i64 (b.n), .int .i64 (b.d)] 23 (0, 0))) ∧ Hid (wx.heap[bS]? = some (.cells #[.int .i64 ((addM a b).1.n), .int .i64 ((addM a b).1.d)] 23 (0, 0))) ∧ Hid (wx.heap[bT]? = some (.cells #[.int .i64 ((addM a b).1.n), .int .i64 ((addM a b).1.d)] 23 (0, 0))) ∧ Hid (Below w.heap.size w wx))
            case first => as_aux_lemma =>
              have S0 := (cells2 HS.out).1.1
              have S1 := (cells2 HS.out).1.2
              have S2 := (cells2 HS.out).2.1
              have S3 := (cells2 HS.out).2.2
              have Sl := blkLt HS.out
              have T0 := (cells2 HT.out).1.1
              have T1 := (cells2 HT.out).1.2
              have T2 := (cells2 HT.out).2.1
              have T3 := (cells2 HT.out).2.2
              have Tl := blkLt HT.out
              have z := fun w => run_q_eq (addM a b).1 (addM a b).1 w
              rw [qEq_rfl] at z
              go_wp2_with fail
              go_meet
              exact ⟨rfl, HA, HB, HS, HT, HW⟩
            case rest => as_aux_lemma =>
              clear HW HA HB HS HT
              obtain ⟨rfl, HA, HB, HS, HT, HW⟩ := hcut
              go_upto_region 8 with fail
              go_cut [11] (fun s2 wx => s2 = .int .i64 (subM a b).2 ∧ Hid (wx.heap[w.heap.size]? = some (.cells #[.int .i64 (a.n), .int .i64 (a.d)] 23 (0, 0))) ∧ Hid (wx.heap[w.heap.size + 1]? = some (.cells #[.int .i64 (b.n), .int .i64 (b.d)] 23 (0, 0))) ∧ Hid (wx.heap[bS]? = some (.cells #[.int .i64 ((subM a b).1.n), .int .i64 ((subM a b).1.d)] 23 (0, 0))) ∧ Hid (wx.heap[bT]? = some (.cells #[.int .i64 ((addM a b).1.n), .int .i64 ((addM a b).1.d)] 23 (0, 0))) ∧ Hid (Below w.heap.size w wx))
              case first => as_aux_lemma =>
                have A0 := (cells2 HA.out).1.1
                have A1 := (cells2 HA.out).1.2
                have A2 := (cells2 HA.out).2.1
                have A3 := (cells2 HA.out).2.2
                have Al := blkLt HA.out
                have B0 := (cells2 HB.out).1.1
                have B1 := (cells2 HB.out).1.2
                have B2 := (cells2 HB.out).2.1
                have B3 := (cells2 HB.out).2.2
                have Bl := blkLt HB.out
                have S0 := (cells2 HS.out).1.1
                have S1 := (cells2 HS.out).1.2
                have S2 := (cells2 HS.out).2.1
                have S3 := (cells2 HS.out).2.2
                have Sl := blkLt HS.out
                have T0 := (cells2 HT.out).1.1
                have T1 := (cells2 HT.out).1.2
                have T2 := (cells2 HT.out).2.1
                have T3 := (cells2 HT.out).2.2
                have Tl := blkLt HT.out
                go_wp2_with (go_at_call 15; refine (Sub_any a b _).mono ?_; rintro e wn ⟨rfl, hbn⟩; replace HW := Lib.hid (bCall (by (repeat with_reducible first | exact HW.out | apply bDrew | apply bAlloc)) hbn); replace HA := Lib.hid (moveX (by (repeat with_reducible first | exact Below.refl _ _ | apply bDrew | apply bAlloc)) hbn HA.out); replace HB := Lib.hid (moveX (by (repeat with_reducible first | exact Below.refl _ _ | apply bDrew | apply bAlloc)) hbn HB.out); replace HS := Lib.hid (moveX (by (repeat with_reducible first | exact Below.refl _ _ | apply bDrew | apply bAlloc)) hbn HS.out); replace HT := Lib.hid (moveX (by (repeat with_reducible first | exact Below.refl _ _ | apply bDrew | apply bAlloc)) hbn HT.out); replace A0 := (cells2 HA.out).1.1; replace A1 := (cells2 HA.out).1.2; replace A2 := (cells2 HA.out).2.1; replace A3 := (cells2 HA.out).2.2; replace Al := blkLt HA.out; replace B0 := (cells2 HB.out).1.1; replace B1 := (cells2 HB.out).1.2; replace B2 := (cells2 HB.out).2.1; replace B3 := (cells2 HB.out).2.2; replace Bl := blkLt HB.out; replace S0 := (cells2 HS.out).1.1; replace S1 := (cells2 HS.out).1.2; replace S2 := (cells2 HS.out).2.1; replace S3 := (cells2 HS.out).2.2; replace Sl := blkLt HS.out; replace T0 := (cells2 HT.out).1.1; replace T1 := (cells2 HT.out).1.2; replace T2 := (cells2 HT.out).2.1; replace T3 := (cells2 HT.out).2.2; replace Tl := blkLt HT.out; clear hbn)
                go_meet
                exact ⟨rfl, Lib.hid (setK HA.out (by omega)), Lib.hid (setK HB.out (by omega)), Lib.hid (res2 HS.out).1, Lib.hid (setK HT.out (by omega)), Lib.hid (below2 HW.out (by omega))⟩
              case rest => as_aux_lemma =>
                clear HW HA HB HS HT
                obtain ⟨rfl, HA, HB, HS, HT, HW⟩ := hcut
                go_upto_region 9 with fail
                go_cut [13] (fun s2 wx => s2 = .int .i64 (subM a b).2 ∧ Hid (wx.heap[w.heap.size]? = some (.cells #[.int .i64 (a.n), .int .i64 (a.d)] 23 (0, 0))) ∧ Hid (wx.heap[w.heap.size + 1]? = some (.cells #[.int .i64 (b.n), .int .i64 (b.d)] 23 (0, 0))) ∧ Hid (wx.heap[bS]? = some (.cells #[.int .i64 ((subM a b).1.n), .int .i64 ((subM a b).1.d)] 23 (0, 0))) ∧ Hid (wx.heap[bT]? = some (.cells #[.int .i64 ((subM a b).1.n), .int .i64 ((subM a b).1.d)] 23 (0, 0))) ∧ Hid (Below w.heap.size w wx))
                case first => as_aux_lemma =>
                  have A0 := (cells2 HA.out).1.1
                  have A1 := (cells2 HA.out).1.2
                  have A2 := (cells2 HA.out).2.1
                  have A3 := (cells2 HA.out).2.2
                  have Al := blkLt HA.out
                  have B0 := (cells2 HB.out).1.1
                  have B1 := (cells2 HB.out).1.2
                  have B2 := (cells2 HB.out).2.1
                  have B3 := (cells2 HB.out).2.2
                  have Bl := blkLt HB.out
                  have S0 := (cells2 HS.out).1.1
                  have S1 := (cells2 HS.out).1.2
                  have S2 := (cells2 HS.out).2.1
                  have S3 := (cells2 HS.out).2.2
                  have Sl := blkLt HS.out
                  have T0 := (cells2 HT.out).1.1
                  have T1 := (cells2 HT.out).1.2
                  have T2 := (cells2 HT.out).2.1
                  have T3 := (cells2 HT.out).2.2
                  have Tl := blkLt HT.out
                  go_wp2_with (go_at_call 16; refine (RSub_any a b _).mono ?_; rintro e wn ⟨rfl, hbn⟩; replace HW := Lib.hid (bCall (by (repeat with_reducible first | exact HW.out | apply bDrew | apply bAlloc)) hbn); replace HA := Lib.hid (moveX (by (repeat with_reducible first | exact Below.refl _ _ | apply bDrew | apply bAlloc)) hbn HA.out); replace HB := Lib.hid (moveX (by (repeat with_reducible first | exact Below.refl _ _ | apply bDrew | apply bAlloc)) hbn HB.out); replace HS := Lib.hid (moveX (by (repeat with_reducible first | exact Below.refl _ _ | apply bDrew | apply bAlloc)) hbn HS.out); replace HT := Lib.hid (moveX (by (repeat with_reducible first | exact Below.refl _ _ | apply bDrew | apply bAlloc)) hbn HT.out); replace A0 := (cells2 HA.out).1.1; replace A1 := (cells2 HA.out).1.2; replace A2 := (cells2 HA.out).2.1; replace A3 := (cells2 HA.out).2.2; replace Al := blkLt HA.out; replace B0 := (cells2 HB.out).1.1; replace B1 := (cells2 HB.out).1.2; replace B2 := (cells2 HB.out).2.1; replace B3 := (cells2 HB.out).2.2; replace Bl := blkLt HB.out; replace S0 := (cells2 HS.out).1.1; replace S1 := (cells2 HS.out).1.2; replace S2 := (cells2 HS.out).2.1; replace S3 := (cells2 HS.out).2.2; replace Sl := blkLt HS.out; replace T0 := (cells2 HT.out).1.1; replace T1 := (cells2 HT.out).1.2; replace T2 := (cells2 HT.out).2.1; replace T3 := (cells2 HT.out).2.2; replace Tl := blkLt HT.out; clear hbn)
                  go_meet
                  exact ⟨rfl, Lib.hid (setK HA.out (by omega)), Lib.hid (setK HB.out (by omega)), Lib.hid (setK HS.out (by omega)), Lib.hid (res2 HT.out).1, Lib.hid (below2 HW.out (by omega))⟩
                case rest => as_aux_lemma =>
                  clear HW HA HB HS HT
                  obtain ⟨rfl, HA, HB, HS, HT, HW⟩ := hcut
                  go_upto_region 10 with fail
                  go_cut [9] (fun s1 wx => s1 = .bool true ∧ Hid (wx.heap[w.heap.size]? = some (.cells #[.int .i64 (a.n), .int .i64 (a.d)] 23 (0, 0))) ∧ Hid (wx.heap[w.heap.size + 1]? = some (.cells #[.int .i64 (b.n), .int .i64 (b.d)] 23 (0, 0))) ∧ Hid (wx.heap[bS]? = some (.cells #[.int .i64 ((subM a b).1.n), .int .i64 ((subM a b).1.d)] 23 (0, 0))) ∧ Hid (wx.heap[bT]? = some (.cells #[.int .i64 ((subM a b).1.n), .int .i64 ((subM a b).1.d)] 23 (0, 0))) ∧ Hid (Below w.heap.size w wx))
                  case first => as_aux_lemma =>
                    have S0 := (cells2 HS.out).1.1
                    have S1 := (cells2 HS.out).1.2
                    have S2 := (cells2 HS.out).2.1
                    have S3 := (cells2 HS.out).2.2
                    have Sl := blkLt HS.out
                    have T0 := (cells2 HT.out).1.1
                    have T1 := (cells2 HT.out).1.2
                    have T2 := (cells2 HT.out).2.1
                    have T3 := (cells2 HT.out).2.2
                    have Tl := blkLt HT.out
                    have z := fun w => run_q_eq (subM a b).1 (subM a b).1 w
                    rw [qEq_rfl] at z
                    go_wp2_with fail
                    go_meet
                    exact ⟨rfl, HA, HB, HS, HT, HW⟩
                  case rest => as_aux_lemma =>
                    clear HW HA HB HS HT
                    obtain ⟨rfl, HA, HB, HS, HT, HW⟩ := hcut
                    go_upto_region 11 with fail
                    go_cut [11] (fun s2 wx => s2 = .int .i64 (mulM a b).2 ∧ Hid (wx.heap[w.heap.size]? = some (.cells #[.int .i64 (a.n), .int .i64 (a.d)] 23 (0, 0))) ∧ Hid (wx.heap[w.heap.size + 1]? = some (.cells #[.int .i64 (b.n), .int .i64 (b.d)] 23 (0, 0))) ∧ Hid (wx.heap[bS]? = some (.cells #[.int .i64 ((mulM a b).1.n), .int .i64 ((mulM a b).1.d)] 23 (0, 0))) ∧ Hid (wx.heap[bT]? = some (.cells #[.int .i64 ((subM a b).1.n), .int .i64 ((subM a b).1.d)] 23 (0, 0))) ∧ Hid (Below w.heap.size w wx))
                    case first => as_aux_lemma =>
                      have A0 := (cells2 HA.out).1.1
                      have A1 := (cells2 HA.out).1.2
                      have A2 := (cells2 HA.out).2.1
                      have A3 := (cells2 HA.out).2.2
                      have Al := blkLt HA.out
                      have B0 := (cells2 HB.out).1.1
                      have B1 := (cells2 HB.out).1.2
                      have B2 := (cells2 HB.out).2.1
                      have B3 := (cells2 HB.out).2.2
                      have Bl := blkLt HB.out
                      have S0 := (cells2 HS.out).1.1
                      have S1 := (cells2 HS.out).1.2
                      have S2 := (cells2 HS.out).2.1
                      have S3 := (cells2 HS.out).2.2
                      have Sl := blkLt HS.out
                      have T0 := (cells2 HT.out).1.1
                      have T1 := (cells2 HT.out).1.2
                      have T2 := (cells2 HT.out).2.1
                      have T3 := (cells2 HT.out).2.2
                      have Tl := blkLt HT.out
                      go_wp2_with (go_at_call 17; refine (Mul_any a b _).mono ?_; rintro e wn ⟨rfl, hbn⟩; replace HW := Lib.hid (bCall (by (repeat with_reducible first | exact HW.out | apply bDrew | apply bAlloc)) hbn); replace HA := Lib.hid (moveX (by (repeat with_reducible first | exact Below.refl _ _ | apply bDrew | apply bAlloc)) hbn HA.out); replace HB := Lib.hid (moveX (by (repeat with_reducible first | exact Below.refl _ _ | apply bDrew | apply bAlloc)) hbn HB.out); replace HS := Lib.hid (moveX (by (repeat with_reducible first | exact Below.refl _ _ | apply bDrew | apply bAlloc)) hbn HS.out); replace HT := Lib.hid (moveX (by (repeat with_reducible first | exact Below.refl _ _ | apply bDrew | apply bAlloc)) hbn HT.out); replace A0 := (cells2 HA.out).1.1; replace A1 := (cells2 HA.out).1.2; replace A2 := (cells2 HA.out).2.1; replace A3 := (cells2 HA.out).2.2; replace Al := blkLt HA.out; replace B0 := (cells2 HB.out).1.1; replace B1 := (cells2 HB.out).1.2; replace B2 := (cells2 HB.out).2.1; replace B3 := (cells2 HB.out).2.2; replace Bl := blkLt HB.out; replace S0 := (cells2 HS.out).1.1; replace S1 := (cells2 HS.out).1.2; replace S2 := (cells2 HS.out).2.1; replace S3 := (cells2 HS.out).2.2; replace Sl := blkLt HS.out; replace T0 := (cells2 HT.out).1.1; replace T1 := (cells2 HT.out).1.2; replace T2 := (cells2 HT.out).2.1; replace T3 := (cells2 HT.out).2.2; replace Tl := blkLt HT.out; clear hbn)
                      go_meet
                      exact ⟨rfl, Lib.hid (setK HA.out (by omega)), Lib.hid (setK HB.out (by omega)), Lib.hid (res2 HS.out).1, Lib.hid (setK HT.out (by omega)), Lib.hid (below2 HW.out (by omega))⟩
                    case rest => as_aux_lemma =>
                      clear HW HA HB HS HT
                      obtain ⟨rfl, HA, HB, HS, HT, HW⟩ := hcut
                      go_upto_region 12 with fail
                      go_cut [13] (fun s2 wx => s2 = .int .i64 (mulM a b).2 ∧ Hid (wx.heap[w.heap.size]? = some (.cells #[.int .i64 (a.n), .int .i64 (a.d)] 23 (0, 0))) ∧ Hid (wx.heap[w.heap.size + 1]? = some (.cells #[.int .i64 (b.n), .int .i64 (b.d)] 23 (0, 0))) ∧ Hid (wx.heap[bS]? = some (.cells #[.int .i64 ((mulM a b).1.n), .int .i64 ((mulM a b).1.d)] 23 (0, 0))) ∧ Hid (wx.heap[bT]? = some (.cells #[.int .i64 ((mulM a b).1.n), .int .i64 ((mulM a b).1.d)] 23 (0, 0))) ∧ Hid (Below w.heap.size w wx))
                      case first => as_aux_lemma =>
                        have A0 := (cells2 HA.out).1.1
                        have A1 := (cells2 HA.out).1.2
                        have A2 := (cells2 HA.out).2.1
                        have A3 := (cells2 HA.out).2.2
                        have Al := blkLt HA.out
                        have B0 := (cells2 HB.out).1.1
                        have B1 := (cells2 HB.out).1.2
                        have B2 := (cells2 HB.out).2.1
                        have B3 := (cells2 HB.out).2.2
                        have Bl := blkLt HB.out
                        have S0 := (cells2 HS.out).1.1
                        have S1 := (cells2 HS.out).1.2
                        have S2 := (cells2 HS.out).2.1
                        have S3 := (cells2 HS.out).2.2
                        have Sl := blkLt HS.out
                        have T0 := (cells2 HT.out).1.1
                        have T1 := (cells2 HT.out).1.2
                        have T2 := (cells2 HT.out).2.1
                        have T3 := (cells2 HT.out).2.2
                        have Tl := blkLt HT.out
                        go_wp2_with (go_at_call 18; refine (RMul_any a b _).mono ?_; rintro e wn ⟨rfl, hbn⟩; replace HW := Lib.hid (bCall (by (repeat with_reducible first | exact HW.out | apply bDrew | apply bAlloc)) hbn); replace HA := Lib.hid (moveX (by (repeat with_reducible first | exact Below.refl _ _ | apply bDrew | apply bAlloc)) hbn HA.out); replace HB := Lib.hid (moveX (by (repeat with_reducible first | exact Below.refl _ _ | apply bDrew | apply bAlloc)) hbn HB.out); replace HS := Lib.hid (moveX (by (repeat with_reducible first | exact Below.refl _ _ | apply bDrew | apply bAlloc)) hbn HS.out); replace HT := Lib.hid (moveX (by (repeat with_reducible first | exact Below.refl _ _ | apply bDrew | apply bAlloc)) hbn HT.out); replace A0 := (cells2 HA.out).1.1; replace A1 := (cells2 HA.out).1.2; replace A2 := (cells2 HA.out).2.1; replace A3 := (cells2 HA.out).2.2; replace Al := blkLt HA.out; replace B0 := (cells2 HB.out).1.1; replace B1 := (cells2 HB.out).1.2; replace B2 := (cells2 HB.out).2.1; replace B3 := (cells2 HB.out).2.2; replace Bl := blkLt HB.out; replace S0 := (cells2 HS.out).1.1; replace S1 := (cells2 HS.out).1.2; replace S2 := (cells2 HS.out).2.1; replace S3 := (cells2 HS.out).2.2; replace Sl := blkLt HS.out; replace T0 := (cells2 HT.out).1.1; replace T1 := (cells2 HT.out).1.2; replace T2 := (cells2 HT.out).2.1; replace T3 := (cells2 HT.out).2.2; replace Tl := blkLt HT.out; clear hbn)
                        go_meet
                        exact ⟨rfl, Lib.hid (setK HA.out (by omega)), Lib.hid (setK HB.out (by omega)), Lib.hid (setK HS.out (by omega)), Lib.hid (res2 HT.out).1, Lib.hid (below2 HW.out (by omega))⟩
                      case rest => as_aux_lemma =>
                        clear HW HA HB HS HT
                        obtain ⟨rfl, HA, HB, HS, HT, HW⟩ := hcut
                        go_upto_region 13 with fail
                        go_cut [9] (fun s1 wx => s1 = .bool true ∧ Hid (wx.heap[w.heap.size]? = some (.cells #[.int .i64 (a.n), .int .i64 (a.d)] 23 (0, 0))) ∧ Hid (wx.heap[w.heap.size + 1]? = some (.cells #[.int .i64 (b.n), .int .i64 (b.d)] 23 (0, 0))) ∧ Hid (wx.heap[bS]? = some (.cells #[.int .i64 ((mulM a b).1.n), .int .i64 ((mulM a b).1.d)] 23 (0, 0))) ∧ Hid (wx.heap[bT]? = some (.cells #[.int .i64 ((mulM a b).1.n), .int .i64 ((mulM a b).1.d)] 23 (0, 0))) ∧ Hid (Below w.heap.size w wx))
                        case first => as_aux_lemma =>
                          have S0 := (cells2 HS.out).1.1
                          have S1 := (cells2 HS.out).1.2
                          have S2 := (cells2 HS.out).2.1
                          have S3 := (cells2 HS.out).2.2
                          have Sl := blkLt HS.out
                          have T0 := (cells2 HT.out).1.1
                          have T1 := (cells2 HT.out).1.2
                          have T2 := (cells2 HT.out).2.1
                          have T3 := (cells2 HT.out).2.2
                          have Tl := blkLt HT.out
                          have z := fun w => run_q_eq (mulM a b).1 (mulM a b).1 w
                          rw [qEq_rfl] at z
                          go_wp2_with fail
                          go_meet
                          exact ⟨rfl, HA, HB, HS, HT, HW⟩
                        case rest => as_aux_lemma =>
                          clear HW HA HB HS HT
                          obtain ⟨rfl, HA, HB, HS, HT, HW⟩ := hcut
                          go_upto_region 14 with fail
                          go_cut [11] (fun s2 wx => s2 = .int .i64 (divM a b).2 ∧ Hid (wx.heap[w.heap.size]? = some (.cells #[.int .i64 (a.n), .int .i64 (a.d)] 23 (0, 0))) ∧ Hid (wx.heap[w.heap.size + 1]? = some (.cells #[.int .i64 (b.n), .int .i64 (b.d)] 23 (0, 0))) ∧ Hid (wx.heap[bS]? = some (.cells #[.int .i64 ((divM a b).1.n), .int .i64 ((divM a b).1.d)] 23 (0, 0))) ∧ Hid (wx.heap[bT]? = some (.cells #[.int .i64 ((mulM a b).1.n), .int .i64 ((mulM a b).1.d)] 23 (0, 0))) ∧ Hid (Below w.heap.size w wx))
                          case first => as_aux_lemma =>
                            have A0 := (cells2 HA.out).1.1
                            have A1 := (cells2 HA.out).1.2
                            have A2 := (cells2 HA.out).2.1
                            have A3 := (cells2 HA.out).2.2
                            have Al := blkLt HA.out
                            have B0 := (cells2 HB.out).1.1
                            have B1 := (cells2 HB.out).1.2
                            have B2 := (cells2 HB.out).2.1
                            have B3 := (cells2 HB.out).2.2
                            have Bl := blkLt HB.out
                            have S0 := (cells2 HS.out).1.1
                            have S1 := (cells2 HS.out).1.2
                            have S2 := (cells2 HS.out).2.1
                            have S3 := (cells2 HS.out).2.2
                            have Sl := blkLt HS.out
                            have T0 := (cells2 HT.out).1.1
                            have T1 := (cells2 HT.out).1.2
                            have T2 := (cells2 HT.out).2.1
                            have T3 := (cells2 HT.out).2.2
                            have Tl := blkLt HT.out
                            go_wp2_with (go_at_call 19; refine (Div_any a b _).mono ?_; rintro e wn ⟨rfl, hbn⟩; replace HW := Lib.hid (bCall (by (repeat with_reducible first | exact HW.out | apply bDrew | apply bAlloc)) hbn); replace HA := Lib.hid (moveX (by (repeat with_reducible first | exact Below.refl _ _ | apply bDrew | apply bAlloc)) hbn HA.out); replace HB := Lib.hid (moveX (by (repeat with_reducible first | exact Below.refl _ _ | apply bDrew | apply bAlloc)) hbn HB.out); replace HS := Lib.hid (moveX (by (repeat with_reducible first | exact Below.refl _ _ | apply bDrew | apply bAlloc)) hbn HS.out); replace HT := Lib.hid (moveX (by (repeat with_reducible first | exact Below.refl _ _ | apply bDrew | apply bAlloc)) hbn HT.out); replace A0 := (cells2 HA.out).1.1; replace A1 := (cells2 HA.out).1.2; replace A2 := (cells2 HA.out).2.1; replace A3 := (cells2 HA.out).2.2; replace Al := blkLt HA.out; replace B0 := (cells2 HB.out).1.1; replace B1 := (cells2 HB.out).1.2; replace B2 := (cells2 HB.out).2.1; replace B3 := (cells2 HB.out).2.2; replace Bl := blkLt HB.out; replace S0 := (cells2 HS.out).1.1; replace S1 := (cells2 HS.out).1.2; replace S2 := (cells2 HS.out).2.1; replace S3 := (cells2 HS.out).2.2; replace Sl := blkLt HS.out; replace T0 := (cells2 HT.out).1.1; replace T1 := (cells2 HT.out).1.2; replace T2 := (cells2 HT.out).2.1; replace T3 := (cells2 HT.out).2.2; replace Tl := blkLt HT.out; clear hbn)
                            go_meet
                            exact ⟨rfl, Lib.hid (setK HA.out (by omega)), Lib.hid (setK HB.out (by omega)), Lib.hid (res2 HS.out).1, Lib.hid (setK HT.out (by omega)), Lib.hid (below2 HW.out (by omega))⟩
                          case rest => as_aux_lemma =>
                            clear HW HA HB HS HT
                            obtain ⟨rfl, HA, HB, HS, HT, HW⟩ := hcut
                            go_upto_region 15 with fail
                            go_cut [13] (fun s2 wx => s2 = .int .i64 (divM a b).2 ∧ Hid (wx.heap[w.heap.size]? = some (.cells #[.int .i64 (a.n), .int .i64 (a.d)] 23 (0, 0))) ∧ Hid (wx.heap[w.heap.size + 1]? = some (.cells #[.int .i64 (b.n), .int .i64 (b.d)] 23 (0, 0))) ∧ Hid (wx.heap[bS]? = some (.cells #[.int .i64 ((divM a b).1.n), .int .i64 ((divM a b).1.d)] 23 (0, 0))) ∧ Hid (wx.heap[bT]? = some (.cells #[.int .i64 ((divM a b).1.n), .int .i64 ((divM a b).1.d)] 23 (0, 0))) ∧ Hid (Below w.heap.size w wx))
                            case first => as_aux_lemma =>
                              have A0 := (cells2 HA.out).1.1
                              have A1 := (cells2 HA.out).1.2
                              have A2 := (cells2 HA.out).2.1
                              have A3 := (cells2 HA.out).2.2
                              have Al := blkLt HA.out
                              have B0 := (cells2 HB.out).1.1
                              have B1 := (cells2 HB.out).1.2
                              have B2 := (cells2 HB.out).2.1
                              have B3 := (cells2 HB.out).2.2
                              have Bl := blkLt HB.out
                              have S0 := (cells2 HS.out).1.1
                              have S1 := (cells2 HS.out).1.2
                              have S2 := (cells2 HS.out).2.1
                              have S3 := (cells2 HS.out).2.2
                              have Sl := blkLt HS.out
                              have T0 := (cells2 HT.out).1.1
                              have T1 := (cells2 HT.out).1.2
                              have T2 := (cells2 HT.out).2.1
                              have T3 := (cells2 HT.out).2.2
                              have Tl := blkLt HT.out
                              go_wp2_with (go_at_call 20; refine (RDiv_any a b _).mono ?_; rintro e wn ⟨rfl, hbn⟩; replace HW := Lib.hid (bCall (by (repeat with_reducible first | exact HW.out | apply bDrew | apply bAlloc)) hbn); replace HA := Lib.hid (moveX (by (repeat with_reducible first | exact Below.refl _ _ | apply bDrew | apply bAlloc)) hbn HA.out); replace HB := Lib.hid (moveX (by (repeat with_reducible first | exact Below.refl _ _ | apply bDrew | apply bAlloc)) hbn HB.out); replace HS := Lib.hid (moveX (by (repeat with_reducible first | exact Below.refl _ _ | apply bDrew | apply bAlloc)) hbn HS.out); replace HT := Lib.hid (moveX (by (repeat with_reducible first | exact Below.refl _ _ | apply bDrew | apply bAlloc)) hbn HT.out); replace A0 := (cells2 HA.out).1.1; replace A1 := (cells2 HA.out).1.2; replace A2 := (cells2 HA.out).2.1; replace A3 := (cells2 HA.out).2.2; replace Al := blkLt HA.out; replace B0 := (cells2 HB.out).1.1; replace B1 := (cells2 HB.out).1.2; replace B2 := (cells2 HB.out).2.1; replace B3 := (cells2 HB.out).2.2; replace Bl := blkLt HB.out; replace S0 := (cells2 HS.out).1.1; replace S1 := (cells2 HS.out).1.2; replace S2 := (cells2 HS.out).2.1; replace S3 := (cells2 HS.out).2.2; replace Sl := blkLt HS.out; replace T0 := (cells2 HT.out).1.1; replace T1 := (cells2 HT.out).1.2; replace T2 := (cells2 HT.out).2.1; replace T3 := (cells2 HT.out).2.2; replace Tl := blkLt HT.out; clear hbn)
                              go_meet
                              exact ⟨rfl, Lib.hid (setK HA.out (by omega)), Lib.hid (setK HB.out (by omega)), Lib.hid (setK HS.out (by omega)), Lib.hid (res2 HT.out).1, Lib.hid (below2 HW.out (by omega))⟩
                            case rest => as_aux_lemma =>
                              clear HW HA HB HS HT
                              obtain ⟨rfl, HA, HB, HS, HT, HW⟩ := hcut
                              go_upto_region 16 with fail
                              go_cut [9] (fun s1 wx => s1 = .bool true ∧ Hid (wx.heap[w.heap.size]? = some (.cells #[.int .i64 (a.n), .int .i64 (a.d)] 23 (0, 0))) ∧ Hid (wx.heap[w.heap.size + 1]? = some (.cells #[.int .i64 (b.n), .int .i64 (b.d)] 23 (0, 0))) ∧ Hid (wx.heap[bS]? = some (.cells #[.int .i64 ((divM a b).1.n), .int .i64 ((divM a b).1.d)] 23 (0, 0))) ∧ Hid (wx.heap[bT]? = some (.cells #[.int .i64 ((divM a b).1.n), .int .i64 ((divM a b).1.d)] 23 (0, 0))) ∧ Hid (Below w.heap.size w wx))
                              case first => as_aux_lemma =>
                                have S0 := (cells2 HS.out).1.1
                                have S1 := (cells2 HS.out).1.2
                                have S2 := (cells2 HS.out).2.1
                                have S3 := (cells2 HS.out).2.2
                                have Sl := blkLt HS.out
                                have T0 := (cells2 HT.out).1.1
                                have T1 := (cells2 HT.out).1.2
                                have T2 := (cells2 HT.out).2.1
                                have T3 := (cells2 HT.out).2.2
                                have Tl := blkLt HT.out
                                have z := fun w => run_q_eq (divM a b).1 (divM a b).1 w
                                rw [qEq_rfl] at z
                                go_wp2_with fail
                                go_meet
                                exact ⟨rfl, HA, HB, HS, HT, HW⟩
                              case rest => as_aux_lemma =>
                                clear HW HA HB HS HT
                                obtain ⟨rfl, HA, HB, HS, HT, HW⟩ := hcut
                                go_upto_region 17 with fail
                                go_cut [14, 15] (fun s1 s2 wx => s1 = .int .i64 (cmpM a b).1 ∧ s2 = .int .i64 (cmpM a b).2 ∧ Hid (wx.heap[w.heap.size]? = some (.cells #[.int .i64 (a.n), .int .i64 (a.d)] 23 (0, 0))) ∧ Hid (wx.heap[w.heap.size + 1]? = some (.cells #[.int .i64 (b.n), .int .i64 (b.d)] 23 (0, 0))) ∧ Hid (wx.heap[bS]? = some (.cells #[.int .i64 ((divM a b).1.n), .int .i64 ((divM a b).1.d)] 23 (0, 0))) ∧ Hid (wx.heap[bT]? = some (.cells #[.int .i64 ((divM a b).1.n), .int .i64 ((divM a b).1.d)] 23 (0, 0))) ∧ Hid (Below w.heap.size w wx))
                                case first => as_aux_lemma =>
                                  have A0 := (cells2 HA.out).1.1
                                  have A1 := (cells2 HA.out).1.2
                                  have A2 := (cells2 HA.out).2.1
                                  have A3 := (cells2 HA.out).2.2
                                  have Al := blkLt HA.out
                                  have B0 := (cells2 HB.out).1.1
                                  have B1 := (cells2 HB.out).1.2
                                  have B2 := (cells2 HB.out).2.1
                                  have B3 := (cells2 HB.out).2.2
                                  have Bl := blkLt HB.out
                                  have S0 := (cells2 HS.out).1.1
                                  have S1 := (cells2 HS.out).1.2
                                  have S2 := (cells2 HS.out).2.1
                                  have S3 := (cells2 HS.out).2.2
                                  have Sl := blkLt HS.out
                                  have T0 := (cells2 HT.out).1.1
                                  have T1 := (cells2 HT.out).1.2
                                  have T2 := (cells2 HT.out).2.1
                                  have T3 := (cells2 HT.out).2.2
                                  have Tl := blkLt HT.out
                                  go_wp2_with (go_at_call 21; refine (Cmp_any a b _).mono ?_; rintro e wn ⟨rfl, hbn⟩; replace HW := Lib.hid (bCall (by (repeat with_reducible first | exact HW.out | apply bDrew | apply bAlloc)) hbn); replace HA := Lib.hid (moveX (by (repeat with_reducible first | exact Below.refl _ _ | apply bDrew | apply bAlloc)) hbn HA.out); replace HB := Lib.hid (moveX (by (repeat with_reducible first | exact Below.refl _ _ | apply bDrew | apply bAlloc)) hbn HB.out); replace HS := Lib.hid (moveX (by (repeat with_reducible first | exact Below.refl _ _ | apply bDrew | apply bAlloc)) hbn HS.out); replace HT := Lib.hid (moveX (by (repeat with_reducible first | exact Below.refl _ _ | apply bDrew | apply bAlloc)) hbn HT.out); replace A0 := (cells2 HA.out).1.1; replace A1 := (cells2 HA.out).1.2; replace A2 := (cells2 HA.out).2.1; replace A3 := (cells2 HA.out).2.2; replace Al := blkLt HA.out; replace B0 := (cells2 HB.out).1.1; replace B1 := (cells2 HB.out).1.2; replace B2 := (cells2 HB.out).2.1; replace B3 := (cells2 HB.out).2.2; replace Bl := blkLt HB.out; replace S0 := (cells2 HS.out).1.1; replace S1 := (cells2 HS.out).1.2; replace S2 := (cells2 HS.out).2.1; replace S3 := (cells2 HS.out).2.2; replace Sl := blkLt HS.out; replace T0 := (cells2 HT.out).1.1; replace T1 := (cells2 HT.out).1.2; replace T2 := (cells2 HT.out).2.1; replace T3 := (cells2 HT.out).2.2; replace Tl := blkLt HT.out; clear hbn)
                                  go_meet
                                  exact ⟨rfl, rfl, HA, HB, HS, HT, HW⟩
                                case rest => as_aux_lemma =>
                                  clear HW HA HB HS HT
                                  obtain ⟨rfl, rfl, HA, HB, HS, HT, HW⟩ := hcut
                                  go_upto_region 18 with fail
                                  go_cut [16, 17] (fun s1 s2 wx => s1 = .int .i64 (cmpM a b).1 ∧ s2 = .int .i64 (cmpM a b).2 ∧ Hid (wx.heap[w.heap.size]? = some (.cells #[.int .i64 (a.n), .int .i64 (a.d)] 23 (0, 0))) ∧ Hid (wx.heap[w.heap.size + 1]? = some (.cells #[.int .i64 (b.n), .int .i64 (b.d)] 23 (0, 0))) ∧ Hid (wx.heap[bS]? = some (.cells #[.int .i64 ((divM a b).1.n), .int .i64 ((divM a b).1.d)] 23 (0, 0))) ∧ Hid (wx.heap[bT]? = some (.cells #[.int .i64 ((divM a b).1.n), .int .i64 ((divM a b).1.d)] 23 (0, 0))) ∧ Hid (Below w.heap.size w wx))
                                  case first => as_aux_lemma =>
                                    have A0 := (cells2 HA.out).1.1
                                    have A1 := (cells2 HA.out).1.2
                                    have A2 := (cells2 HA.out).2.1
                                    have A3 := (cells2 HA.out).2.2
                                    have Al := blkLt HA.out
                                    have B0 := (cells2 HB.out).1.1
                                    have B1 := (cells2 HB.out).1.2
                                    have B2 := (cells2 HB.out).2.1
                                    have B3 := (cells2 HB.out).2.2
                                    have Bl := blkLt HB.out
                                    have S0 := (cells2 HS.out).1.1
                                    have S1 := (cells2 HS.out).1.2
                                    have S2 := (cells2 HS.out).2.1
                                    have S3 := (cells2 HS.out).2.2
                                    have Sl := blkLt HS.out
                                    have T0 := (cells2 HT.out).1.1
                                    have T1 := (cells2 HT.out).1.2
                                    have T2 := (cells2 HT.out).2.1
                                    have T3 := (cells2 HT.out).2.2
                                    have Tl := blkLt HT.out
                                    go_wp2_with (go_at_call 22; refine (RCmp_any a b _).mono ?_; rintro e wn ⟨rfl, hbn⟩; replace HW := Lib.hid (bCall (by (repeat with_reducible first | exact HW.out | apply bDrew | apply bAlloc)) hbn); replace HA := Lib.hid (moveX (by (repeat with_reducible first | exact Below.refl _ _ | apply bDrew | apply bAlloc)) hbn HA.out); replace HB := Lib.hid (moveX (by (repeat with_reducible first | exact Below.refl _ _ | apply bDrew | apply bAlloc)) hbn HB.out); replace HS := Lib.hid (moveX (by (repeat with_reducible first | exact Below.refl _ _ | apply bDrew | apply bAlloc)) hbn HS.out); replace HT := Lib.hid (moveX (by (repeat with_reducible first | exact Below.refl _ _ | apply bDrew | apply bAlloc)) hbn HT.out); replace A0 := (cells2 HA.out).1.1; replace A1 := (cells2 HA.out).1.2; replace A2 := (cells2 HA.out).2.1; replace A3 := (cells2 HA.out).2.2; replace Al := blkLt HA.out; replace B0 := (cells2 HB.out).1.1; replace B1 := (cells2 HB.out).1.2; replace B2 := (cells2 HB.out).2.1; replace B3 := (cells2 HB.out).2.2; replace Bl := blkLt HB.out; replace S0 := (cells2 HS.out).1.1; replace S1 := (cells2 HS.out).1.2; replace S2 := (cells2 HS.out).2.1; replace S3 := (cells2 HS.out).2.2; replace Sl := blkLt HS.out; replace T0 := (cells2 HT.out).1.1; replace T1 := (cells2 HT.out).1.2; replace T2 := (cells2 HT.out).2.1; replace T3 := (cells2 HT.out).2.2; replace Tl := blkLt HT.out; clear hbn)
                                    go_meet
                                    exact ⟨rfl, rfl, HA, HB, HS, HT, HW⟩
                                  case rest => as_aux_lemma =>
                                    clear HW HA HB HS HT
                                    obtain ⟨rfl, rfl, HA, HB, HS, HT, HW⟩ := hcut
                                    go_upto_region 19 with fail
                                    have A0 := (cells2 HA.out).1.1
                                    have A1 := (cells2 HA.out).1.2
                                    have A2 := (cells2 HA.out).2.1
                                    have A3 := (cells2 HA.out).2.2
                                    have Al := blkLt HA.out
                                    go_region_held3 (fun w' => w'.cell? ⟨w.heap.size, 0, none⟩ = some (.int .i64 a.n) ∧ w'.cell? ⟨w.heap.size, 1, none⟩ = some (.int .i64 a.d))
                                      (first | (with_reducible exact ⟨A0, A1⟩) | go_keep)
                                      (first
                                      | (go_at_call 23; refine (Valid_any a _).mono ?_; rintro e wn ⟨rfl, hbn⟩; replace HW := Lib.hid (bCall (by (repeat with_reducible first | exact HW.out | apply bDrew | apply bAlloc)) hbn); replace HA := Lib.hid (moveX (by (repeat with_reducible first | exact Below.refl _ _ | apply bDrew | apply bAlloc)) hbn HA.out); replace A0 := (cells2 HA.out).1.1; replace A1 := (cells2 HA.out).1.2; replace A2 := (cells2 HA.out).2.1; replace A3 := (cells2 HA.out).2.2; replace Al := blkLt HA.out; clear hbn)
                                      | (go_at_call 24; refine (RValid_any a _).mono ?_; rintro e wn ⟨rfl, hbn⟩; replace HW := Lib.hid (bCall (by (repeat with_reducible first | exact HW.out | apply bDrew | apply bAlloc)) hbn); replace HA := Lib.hid (moveX (by (repeat with_reducible first | exact Below.refl _ _ | apply bDrew | apply bAlloc)) hbn HA.out); replace A0 := (cells2 HA.out).1.1; replace A1 := (cells2 HA.out).1.2; replace A2 := (cells2 HA.out).2.1; replace A3 := (cells2 HA.out).2.2; replace Al := blkLt HA.out; clear hbn))
                                    all_goals go_wp2
                                    all_goals go_ret
                                    all_goals exact ⟨rfl, HW.out⟩
end Go.Proofs.Ytinmplilejnafaa
