/- Law package 06: IntervalExchanged. -/
import Derived.Test.YtiijplgaikdioaaIxL
import Derived.Test.YtiijplgaikdioaaIxN
import Derived.Test.YtiijplgaikdioaaIxQ
namespace Go.Proofs.Ytiijplgaikdioaa
open Go.RowKit
set_option linter.unusedVariables false
set_option linter.unusedSimpArgs false
theorem Add_sy (a b : Sp) (w : World) : Calls Try.prog 11 #[sv b, sv a] w (VV (rv (addM a b)) w) := by
  rw [← add_sym a b]; exact Add_any b a w
theorem Mul_sy (a b : Sp) (w : World) : Calls Try.prog 15 #[sv b, sv a] w (VV (rv (mulM a b)) w) := by
  rw [← mul_sym a b]; exact Mul_any b a w
theorem Min_sy (a b : Sp) (w : World) : Calls Try.prog 21 #[sv b, sv a] w (VV (rv (minM a b)) w) := by
  rw [← min_sym a b]; exact Min_any b a w
theorem Max_sy (a b : Sp) (w : World) : Calls Try.prog 23 #[sv b, sv a] w (VV (rv (maxM a b)) w) := by
  rw [← max_sym a b]; exact Max_any b a w
theorem Join_sy (a b : Sp) (w : World) : Calls Try.prog 25 #[sv b, sv a] w (VV (rv (joinM a b)) w) := by
  rw [← join_sym a b]; exact Join_any b a w
theorem Join_pt {a : Sp} (c : Sp) (ha : vB a = true) (h : Part c a) (w : World) : Calls Try.prog 25 #[sv a, sv c] w (VV (.tuple #[sv a, .int .i64 0]) w) := by
  have h1 := Join_any a c w
  rw [show rv (joinM a c) = .tuple #[sv a, .int .i64 0] by rw [join_part ha h]] at h1
  exact h1
set_option maxHeartbeats 8000000 in
set_option maxRecDepth 100000 in
theorem exchanged_bad (a b : Sp) (m n : Int) (ha : vB a = false) (w : World) : Calls Try.prog 8 #[sv a, sv b, .int .u64 m, .int .u64 n] w (BB true w) := by
  have hVa := Lib.hid (RValid_any a)
  rw [ha] at hVa
  clear ha
  go_enter Try.func8, Try.ntmps8
  have HW := Lib.hid (Below.refl w.heap.size w)
  go_upto_region 2 with (go_at_call 10; refine (head_any _).mono ?_; rintro e wn ⟨rfl, hbn⟩; obtain ⟨HA, HB⟩ := two2 hbn; have HA := Lib.hid HA; have HB := Lib.hid HB; replace HW := Lib.hid (bCall (by (repeat with_reducible first | exact HW.out | apply bDrew | apply bAlloc)) hbn); clear hbn)
  go_cut [10, 11] (fun s1 s2 wx => ∃ bS : Nat, s1 = .pointer (some ⟨bS, 0, none⟩) ∧ s2 = .int .i64 (addM a b).2 ∧ w.heap.size + 2 ≤ bS ∧ Hid (wx.heap[w.heap.size]? = some (.cells #[.int .i64 (a.lo), .int .i64 (a.hi)] 23 (0, 0))) ∧ Hid (wx.heap[w.heap.size + 1]? = some (.cells #[.int .i64 (b.lo), .int .i64 (b.hi)] 23 (0, 0))) ∧ Hid (wx.heap[bS]? = some (.cells #[.int .i64 ((addM a b).1.lo), .int .i64 ((addM a b).1.hi)] 23 (0, 0))) ∧ Hid (Below w.heap.size w wx))
  case first => as_aux_lemma =>
    have A0 := (cells2 HA.out).1.1
    have A1 := (cells2 HA.out).1.2
    have A2 := (cells2 HA.out).2.1
    have A3 := (cells2 HA.out).2.2
    have Al := blkLt HA.out
    have B0 := (cells2 HB.out).1.1
    have B1 := (cells2 HB.out).1.2
    have B2 := (cells2 HB.out).2.1
    have B3 := (cells2 HB.out).2.2
    have Bl := blkLt HB.out
    go_wp2_with (go_at_call 11; refine (Add_any a b _).mono ?_; rintro e wn ⟨rfl, hbn⟩; replace HW := Lib.hid (bCall (by (repeat with_reducible first | exact HW.out | apply bDrew | apply bAlloc)) hbn); replace HA := Lib.hid (moveX (by (repeat with_reducible first | exact Below.refl _ _ | apply bDrew | apply bAlloc)) hbn HA.out); replace HB := Lib.hid (moveX (by (repeat with_reducible first | exact Below.refl _ _ | apply bDrew | apply bAlloc)) hbn HB.out); replace A0 := (cells2 HA.out).1.1; replace A1 := (cells2 HA.out).1.2; replace A2 := (cells2 HA.out).2.1; replace A3 := (cells2 HA.out).2.2; replace Al := blkLt HA.out; replace B0 := (cells2 HB.out).1.1; replace B1 := (cells2 HB.out).1.2; replace B2 := (cells2 HB.out).2.1; replace B3 := (cells2 HB.out).2.2; replace Bl := blkLt HB.out; clear hbn)
    go_meet
    exact ⟨_, rfl, rfl, by have := Bl; omega, Lib.hid (mvAlloc HA.out), Lib.hid (mvAlloc HB.out), Lib.hid (newBlk _ _ _ rfl), Lib.hid (bAlloc HW.out)⟩
  case rest => as_aux_lemma =>
    clear HW HA HB
    obtain ⟨bS, rfl, rfl, hSn, HA, HB, HS, HW⟩ := hcut
    go_upto_region 3 with fail
    go_cut [12, 13] (fun s1 s2 wx => ∃ bT : Nat, s1 = .pointer (some ⟨bT, 0, none⟩) ∧ s2 = .int .i64 (addM a b).2 ∧ w.heap.size + 2 ≤ bT ∧ bS < bT ∧ Hid (wx.heap[w.heap.size]? = some (.cells #[.int .i64 (a.lo), .int .i64 (a.hi)] 23 (0, 0))) ∧ Hid (wx.heap[w.heap.size + 1]? = some (.cells #[.int .i64 (b.lo), .int .i64 (b.hi)] 23 (0, 0))) ∧ Hid (wx.heap[bS]? = some (.cells #[.int .i64 ((addM a b).1.lo), .int .i64 ((addM a b).1.hi)] 23 (0, 0))) ∧ Hid (wx.heap[bT]? = some (.cells #[.int .i64 ((addM a b).1.lo), .int .i64 ((addM a b).1.hi)] 23 (0, 0))) ∧ Hid (Below w.heap.size w wx))
    case first => as_aux_lemma =>
      have A0 := (cells2 HA.out).1.1
      have A1 := (cells2 HA.out).1.2
      have A2 := (cells2 HA.out).2.1
      have A3 := (cells2 HA.out).2.2
      have Al := blkLt HA.out
      have B0 := (cells2 HB.out).1.1
      have B1 := (cells2 HB.out).1.2
      have B2 := (cells2 HB.out).2.1
      have B3 := (cells2 HB.out).2.2
      have Bl := blkLt HB.out
      have S0 := (cells2 HS.out).1.1
      have S1 := (cells2 HS.out).1.2
      have S2 := (cells2 HS.out).2.1
      have S3 := (cells2 HS.out).2.2
      have Sl := blkLt HS.out
      go_wp2_with (go_at_call 11; refine (Add_sy a b _).mono ?_; rintro e wn ⟨rfl, hbn⟩; replace HW := Lib.hid (bCall (by (repeat with_reducible first | exact HW.out | apply bDrew | apply bAlloc)) hbn); replace HA := Lib.hid (moveX (by (repeat with_reducible first | exact Below.refl _ _ | apply bDrew | apply bAlloc)) hbn HA.out); replace HB := Lib.hid (moveX (by (repeat with_reducible first | exact Below.refl _ _ | apply bDrew | apply bAlloc)) hbn HB.out); replace HS := Lib.hid (moveX (by (repeat with_reducible first | exact Below.refl _ _ | apply bDrew | apply bAlloc)) hbn HS.out); replace A0 := (cells2 HA.out).1.1; replace A1 := (cells2 HA.out).1.2; replace A2 := (cells2 HA.out).2.1; replace A3 := (cells2 HA.out).2.2; replace Al := blkLt HA.out; replace B0 := (cells2 HB.out).1.1; replace B1 := (cells2 HB.out).1.2; replace B2 := (cells2 HB.out).2.1; replace B3 := (cells2 HB.out).2.2; replace Bl := blkLt HB.out; replace S0 := (cells2 HS.out).1.1; replace S1 := (cells2 HS.out).1.2; replace S2 := (cells2 HS.out).2.1; replace S3 := (cells2 HS.out).2.2; replace Sl := blkLt HS.out; clear hbn)
      go_meet
      exact ⟨_, rfl, rfl, by have := Bl; omega, Sl, Lib.hid (mvAlloc HA.out), Lib.hid (mvAlloc HB.out), Lib.hid (mvAlloc HS.out), Lib.hid (newBlk _ _ _ rfl), Lib.hid (bAlloc HW.out)⟩
    case rest => as_aux_lemma =>
      clear HW HA HB HS
      obtain ⟨bT, rfl, rfl, hTn, hST, HA, HB, HS, HT, HW⟩ := hcut
      go_upto_region 4 with fail
      go_cut [9] (fun s1 wx => s1 = .bool true ∧ Hid (wx.heap[w.heap.size]? = some (.cells #[.int .i64 (a.lo), .int .i64 (a.hi)] 23 (0, 0))) ∧ Hid (wx.heap[w.heap.size + 1]? = some (.cells #[.int .i64 (b.lo), .int .i64 (b.hi)] 23 (0, 0))) ∧ Hid (wx.heap[bS]? = some (.cells #[.int .i64 ((addM a b).1.lo), .int .i64 ((addM a b).1.hi)] 23 (0, 0))) ∧ Hid (wx.heap[bT]? = some (.cells #[.int .i64 ((addM a b).1.lo), .int .i64 ((addM a b).1.hi)] 23 (0, 0))) ∧ Hid (Below w.heap.size w wx))
      case first => as_aux_lemma =>
        have S0 := (cells2 HS.out).1.1
        have S1 := (cells2 HS.out).1.2
        have S2 := (cells2 HS.out).2.1
        have S3 := (cells2 HS.out).2.2
        have Sl := blkLt HS.out
        have T0 := (cells2 HT.out).1.1
        have T1 := (cells2 HT.out).1.2
        have T2 := (cells2 HT.out).2.1
        have T3 := (cells2 HT.out).2.2
        have Tl := blkLt HT.out
        have z := fun w => run_sp_eq (addM a b).1 (addM a b).1 w
        rw [spEq_rfl] at z
        go_wp2_with fail
        go_meet
        exact ⟨rfl, HA, HB, HS, HT, HW⟩
      case rest => as_aux_lemma =>
        clear HW HA HB HS HT
        obtain ⟨rfl, HA, HB, HS, HT, HW⟩ := hcut
        go_upto_region 5 with fail
        go_cut [11] (fun s2 wx => s2 = .int .i64 (mulM a b).2 ∧ Hid (wx.heap[w.heap.size]? = some (.cells #[.int .i64 (a.lo), .int .i64 (a.hi)] 23 (0, 0))) ∧ Hid (wx.heap[w.heap.size + 1]? = some (.cells #[.int .i64 (b.lo), .int .i64 (b.hi)] 23 (0, 0))) ∧ Hid (wx.heap[bS]? = some (.cells #[.int .i64 ((mulM a b).1.lo), .int .i64 ((mulM a b).1.hi)] 23 (0, 0))) ∧ Hid (wx.heap[bT]? = some (.cells #[.int .i64 ((addM a b).1.lo), .int .i64 ((addM a b).1.hi)] 23 (0, 0))) ∧ Hid (Below w.heap.size w wx))
        case first => as_aux_lemma =>
          have A0 := (cells2 HA.out).1.1
          have A1 := (cells2 HA.out).1.2
          have A2 := (cells2 HA.out).2.1
          have A3 := (cells2 HA.out).2.2
          have Al := blkLt HA.out
          have B0 := (cells2 HB.out).1.1
          have B1 := (cells2 HB.out).1.2
          have B2 := (cells2 HB.out).2.1
          have B3 := (cells2 HB.out).2.2
          have Bl := blkLt HB.out
          have S0 := (cells2 HS.out).1.1
          have S1 := (cells2 HS.out).1.2
          have S2 := (cells2 HS.out).2.1
          have S3 := (cells2 HS.out).2.2
          have Sl := blkLt HS.out
          have T0 := (cells2 HT.out).1.1
          have T1 := (cells2 HT.out).1.2
          have T2 := (cells2 HT.out).2.1
          have T3 := (cells2 HT.out).2.2
          have Tl := blkLt HT.out
          go_wp2_with (go_at_call 15; refine (Mul_any a b _).mono ?_; rintro e wn ⟨rfl, hbn⟩; replace HW := Lib.hid (bCall (by (repeat with_reducible first | exact HW.out | apply bDrew | apply bAlloc)) hbn); replace HA := Lib.hid (moveX (by (repeat with_reducible first | exact Below.refl _ _ | apply bDrew | apply bAlloc)) hbn HA.out); replace HB := Lib.hid (moveX (by (repeat with_reducible first | exact Below.refl _ _ | apply bDrew | apply bAlloc)) hbn HB.out); replace HS := Lib.hid (moveX (by (repeat with_reducible first | exact Below.refl _ _ | apply bDrew | apply bAlloc)) hbn HS.out); replace HT := Lib.hid (moveX (by (repeat with_reducible first | exact Below.refl _ _ | apply bDrew | apply bAlloc)) hbn HT.out); replace A0 := (cells2 HA.out).1.1; replace A1 := (cells2 HA.out).1.2; replace A2 := (cells2 HA.out).2.1; replace A3 := (cells2 HA.out).2.2; replace Al := blkLt HA.out; replace B0 := (cells2 HB.out).1.1; replace B1 := (cells2 HB.out).1.2; replace B2 := (cells2 HB.out).2.1; replace B3 := (cells2 HB.out).2.2; replace Bl := blkLt HB.out; replace S0 := (cells2 HS.out).1.1; replace S1 := (cells2 HS.out).1.2; replace S2 := (cells2 HS.out).2.1; replace S3 := (cells2 HS.out).2.2; replace Sl := blkLt HS.out; replace T0 := (cells2 HT.out).1.1; replace T1 := (cells2 HT.out).1.2; replace T2 := (cells2 HT.out).2.1; replace T3 := (cells2 HT.out).2.2; replace Tl := blkLt HT.out; clear hbn)
          go_meet
          exact ⟨rfl, Lib.hid (setK HA.out (by omega)), Lib.hid (setK HB.out (by omega)), Lib.hid (res2 HS.out).1, Lib.hid (setK HT.out (by omega)), Lib.hid (below2 HW.out (by omega))⟩
        case rest => as_aux_lemma =>
          clear HW HA HB HS HT
          obtain ⟨rfl, HA, HB, HS, HT, HW⟩ := hcut
          go_upto_region 6 with fail
          go_cut [13] (fun s2 wx => s2 = .int .i64 (mulM a b).2 ∧ Hid (wx.heap[w.heap.size]? = some (.cells #[.int .i64 (a.lo), .int .i64 (a.hi)] 23 (0, 0))) ∧ Hid (wx.heap[w.heap.size + 1]? = some (.cells #[.int .i64 (b.lo), .int .i64 (b.hi)] 23 (0, 0))) ∧ Hid (wx.heap[bS]? = some (.cells #[.int .i64 ((mulM a b).1.lo), .int .i64 ((mulM a b).1.hi)] 23 (0, 0))) ∧ Hid (wx.heap[bT]? = some (.cells #[.int .i64 ((mulM a b).1.lo), .int .i64 ((mulM a b).1.hi)] 23 (0, 0))) ∧ Hid (Below w.heap.size w wx))
          case first => as_aux_lemma =>
            have A0 := (cells2 HA.out).1.1
            have A1 := (cells2 HA.out).1.2
            have A2 := (cells2 HA.out).2.1
            have A3 := (cells2 HA.out).2.2
            have Al := blkLt HA.out
            have B0 := (cells2 HB.out).1.1
            have B1 := (cells2 HB.out).1.2
            have B2 := (cells2 HB.out).2.1
            have B3 := (cells2 HB.out).2.2
            have Bl := blkLt HB.out
            have S0 := (cells2 HS.out).1.1
            have S1 := (cells2 HS.out).1.2
            have S2 := (cells2 HS.out).2.1
            have S3 := (cells2 HS.out).2.2
            have Sl := blkLt HS.out
            have T0 := (cells2 HT.out).1.1
            have T1 := (cells2 HT.out).1.2
            have T2 := (cells2 HT.out).2.1
            have T3 := (cells2 HT.out).2.2
            have Tl := blkLt HT.out
            go_wp2_with (go_at_call 15; refine (Mul_sy a b _).mono ?_; rintro e wn ⟨rfl, hbn⟩; replace HW := Lib.hid (bCall (by (repeat with_reducible first | exact HW.out | apply bDrew | apply bAlloc)) hbn); replace HA := Lib.hid (moveX (by (repeat with_reducible first | exact Below.refl _ _ | apply bDrew | apply bAlloc)) hbn HA.out); replace HB := Lib.hid (moveX (by (repeat with_reducible first | exact Below.refl _ _ | apply bDrew | apply bAlloc)) hbn HB.out); replace HS := Lib.hid (moveX (by (repeat with_reducible first | exact Below.refl _ _ | apply bDrew | apply bAlloc)) hbn HS.out); replace HT := Lib.hid (moveX (by (repeat with_reducible first | exact Below.refl _ _ | apply bDrew | apply bAlloc)) hbn HT.out); replace A0 := (cells2 HA.out).1.1; replace A1 := (cells2 HA.out).1.2; replace A2 := (cells2 HA.out).2.1; replace A3 := (cells2 HA.out).2.2; replace Al := blkLt HA.out; replace B0 := (cells2 HB.out).1.1; replace B1 := (cells2 HB.out).1.2; replace B2 := (cells2 HB.out).2.1; replace B3 := (cells2 HB.out).2.2; replace Bl := blkLt HB.out; replace S0 := (cells2 HS.out).1.1; replace S1 := (cells2 HS.out).1.2; replace S2 := (cells2 HS.out).2.1; replace S3 := (cells2 HS.out).2.2; replace Sl := blkLt HS.out; replace T0 := (cells2 HT.out).1.1; replace T1 := (cells2 HT.out).1.2; replace T2 := (cells2 HT.out).2.1; replace T3 := (cells2 HT.out).2.2; replace Tl := blkLt HT.out; clear hbn)
            go_meet
            exact ⟨rfl, Lib.hid (setK HA.out (by omega)), Lib.hid (setK HB.out (by omega)), Lib.hid (setK HS.out (by omega)), Lib.hid (res2 HT.out).1, Lib.hid (below2 HW.out (by omega))⟩
          case rest => as_aux_lemma =>
            clear HW HA HB HS HT
            obtain ⟨rfl, HA, HB, HS, HT, HW⟩ := hcut
            go_upto_region 7 with fail
            go_cut [9] (fun s1 wx => s1 = .bool true ∧ Hid (wx.heap[w.heap.size]? = some (.cells #[.int .i64 (a.lo), .int .i64 (a.hi)] 23 (0, 0))) ∧ Hid (wx.heap[w.heap.size + 1]? = some (.cells #[.int .i64 (b.lo), .int .i64 (b.hi)] 23 (0, 0))) ∧ Hid (wx.heap[bS]? = some (.cells #[.int .i64 ((mulM a b).1.lo), .int .i64 ((mulM a b).1.hi)] 23 (0, 0))) ∧ Hid (wx.heap[bT]? = some (.cells #[.int .i64 ((mulM a b).1.lo), .int .i64 ((mulM a b).1.hi)] 23 (0, 0))) ∧ Hid (Below w.heap.size w wx))
            case first => as_aux_lemma =>
              have S0 := (cells2 HS.out).1.1
              have S1 := (cells2 HS.out).1.2
              have S2 := (cells2 HS.out).2.1
              have S3 := (cells2 HS.out).2.2
              have Sl := blkLt HS.out
              have T0 := (cells2 HT.out).1.1
              have T1 := (cells2 HT.out).1.2
              have T2 := (cells2 HT.out).2.1
              have T3 := (cells2 HT.out).2.2
              have Tl := blkLt HT.out
              have z := fun w => run_sp_eq (mulM a b).1 (mulM a b).1 w
              rw [spEq_rfl] at z
              go_wp2_with fail
              go_meet
              exact ⟨rfl, HA, HB, HS, HT, HW⟩
            case rest => as_aux_lemma =>
              clear HW HA HB HS HT
              obtain ⟨rfl, HA, HB, HS, HT, HW⟩ := hcut
              go_upto_region 8 with fail
              go_cut [11] (fun s2 wx => s2 = .int .i64 (minM a b).2 ∧ Hid (wx.heap[w.heap.size]? = some (.cells #[.int .i64 (a.lo), .int .i64 (a.hi)] 23 (0, 0))) ∧ Hid (wx.heap[w.heap.size + 1]? = some (.cells #[.int .i64 (b.lo), .int .i64 (b.hi)] 23 (0, 0))) ∧ Hid (wx.heap[bS]? = some (.cells #[.int .i64 ((minM a b).1.lo), .int .i64 ((minM a b).1.hi)] 23 (0, 0))) ∧ Hid (wx.heap[bT]? = some (.cells #[.int .i64 ((mulM a b).1.lo), .int .i64 ((mulM a b).1.hi)] 23 (0, 0))) ∧ Hid (Below w.heap.size w wx))
              case first => as_aux_lemma =>
                have A0 := (cells2 HA.out).1.1
                have A1 := (cells2 HA.out).1.2
                have A2 := (cells2 HA.out).2.1
                have A3 := (cells2 HA.out).2.2
                have Al := blkLt HA.out
                have B0 := (cells2 HB.out).1.1
                have B1 := (cells2 HB.out).1.2
                have B2 := (cells2 HB.out).2.1
                have B3 := (cells2 HB.out).2.2
                have Bl := blkLt HB.out
                have S0 := (cells2 HS.out).1.1
                have S1 := (cells2 HS.out).1.2
                have S2 := (cells2 HS.out).2.1
                have S3 := (cells2 HS.out).2.2
                have Sl := blkLt HS.out
                have T0 := (cells2 HT.out).1.1
                have T1 := (cells2 HT.out).1.2
                have T2 := (cells2 HT.out).2.1
                have T3 := (cells2 HT.out).2.2
                have Tl := blkLt HT.out
                go_wp2_with (go_at_call 21; refine (Min_any a b _).mono ?_; rintro e wn ⟨rfl, hbn⟩; replace HW := Lib.hid (bCall (by (repeat with_reducible first | exact HW.out | apply bDrew | apply bAlloc)) hbn); replace HA := Lib.hid (moveX (by (repeat with_reducible first | exact Below.refl _ _ | apply bDrew | apply bAlloc)) hbn HA.out); replace HB := Lib.hid (moveX (by (repeat with_reducible first | exact Below.refl _ _ | apply bDrew | apply bAlloc)) hbn HB.out); replace HS := Lib.hid (moveX (by (repeat with_reducible first | exact Below.refl _ _ | apply bDrew | apply bAlloc)) hbn HS.out); replace HT := Lib.hid (moveX (by (repeat with_reducible first | exact Below.refl _ _ | apply bDrew | apply bAlloc)) hbn HT.out); replace A0 := (cells2 HA.out).1.1; replace A1 := (cells2 HA.out).1.2; replace A2 := (cells2 HA.out).2.1; replace A3 := (cells2 HA.out).2.2; replace Al := blkLt HA.out; replace B0 := (cells2 HB.out).1.1; replace B1 := (cells2 HB.out).1.2; replace B2 := (cells2 HB.out).2.1; replace B3 := (cells2 HB.out).2.2; replace Bl := blkLt HB.out; replace S0 := (cells2 HS.out).1.1; replace S1 := (cells2 HS.out).1.2; replace S2 := (cells2 HS.out).2.1; replace S3 := (cells2 HS.out).2.2; replace Sl := blkLt HS.out; replace T0 := (cells2 HT.out).1.1; replace T1 := (cells2 HT.out).1.2; replace T2 := (cells2 HT.out).2.1; replace T3 := (cells2 HT.out).2.2; replace Tl := blkLt HT.out; clear hbn)
                go_meet
                exact ⟨rfl, Lib.hid (setK HA.out (by omega)), Lib.hid (setK HB.out (by omega)), Lib.hid (res2 HS.out).1, Lib.hid (setK HT.out (by omega)), Lib.hid (below2 HW.out (by omega))⟩
              case rest => as_aux_lemma =>
                clear HW HA HB HS HT
                obtain ⟨rfl, HA, HB, HS, HT, HW⟩ := hcut
                go_upto_region 9 with fail
                go_cut [13] (fun s2 wx => s2 = .int .i64 (minM a b).2 ∧ Hid (wx.heap[w.heap.size]? = some (.cells #[.int .i64 (a.lo), .int .i64 (a.hi)] 23 (0, 0))) ∧ Hid (wx.heap[w.heap.size + 1]? = some (.cells #[.int .i64 (b.lo), .int .i64 (b.hi)] 23 (0, 0))) ∧ Hid (wx.heap[bS]? = some (.cells #[.int .i64 ((minM a b).1.lo), .int .i64 ((minM a b).1.hi)] 23 (0, 0))) ∧ Hid (wx.heap[bT]? = some (.cells #[.int .i64 ((minM a b).1.lo), .int .i64 ((minM a b).1.hi)] 23 (0, 0))) ∧ Hid (Below w.heap.size w wx))
                case first => as_aux_lemma =>
                  have A0 := (cells2 HA.out).1.1
                  have A1 := (cells2 HA.out).1.2
                  have A2 := (cells2 HA.out).2.1
                  have A3 := (cells2 HA.out).2.2
                  have Al := blkLt HA.out
                  have B0 := (cells2 HB.out).1.1
                  have B1 := (cells2 HB.out).1.2
                  have B2 := (cells2 HB.out).2.1
                  have B3 := (cells2 HB.out).2.2
                  have Bl := blkLt HB.out
                  have S0 := (cells2 HS.out).1.1
                  have S1 := (cells2 HS.out).1.2
                  have S2 := (cells2 HS.out).2.1
                  have S3 := (cells2 HS.out).2.2
                  have Sl := blkLt HS.out
                  have T0 := (cells2 HT.out).1.1
                  have T1 := (cells2 HT.out).1.2
                  have T2 := (cells2 HT.out).2.1
                  have T3 := (cells2 HT.out).2.2
                  have Tl := blkLt HT.out
                  go_wp2_with (go_at_call 21; refine (Min_sy a b _).mono ?_; rintro e wn ⟨rfl, hbn⟩; replace HW := Lib.hid (bCall (by (repeat with_reducible first | exact HW.out | apply bDrew | apply bAlloc)) hbn); replace HA := Lib.hid (moveX (by (repeat with_reducible first | exact Below.refl _ _ | apply bDrew | apply bAlloc)) hbn HA.out); replace HB := Lib.hid (moveX (by (repeat with_reducible first | exact Below.refl _ _ | apply bDrew | apply bAlloc)) hbn HB.out); replace HS := Lib.hid (moveX (by (repeat with_reducible first | exact Below.refl _ _ | apply bDrew | apply bAlloc)) hbn HS.out); replace HT := Lib.hid (moveX (by (repeat with_reducible first | exact Below.refl _ _ | apply bDrew | apply bAlloc)) hbn HT.out); replace A0 := (cells2 HA.out).1.1; replace A1 := (cells2 HA.out).1.2; replace A2 := (cells2 HA.out).2.1; replace A3 := (cells2 HA.out).2.2; replace Al := blkLt HA.out; replace B0 := (cells2 HB.out).1.1; replace B1 := (cells2 HB.out).1.2; replace B2 := (cells2 HB.out).2.1; replace B3 := (cells2 HB.out).2.2; replace Bl := blkLt HB.out; replace S0 := (cells2 HS.out).1.1; replace S1 := (cells2 HS.out).1.2; replace S2 := (cells2 HS.out).2.1; replace S3 := (cells2 HS.out).2.2; replace Sl := blkLt HS.out; replace T0 := (cells2 HT.out).1.1; replace T1 := (cells2 HT.out).1.2; replace T2 := (cells2 HT.out).2.1; replace T3 := (cells2 HT.out).2.2; replace Tl := blkLt HT.out; clear hbn)
                  go_meet
                  exact ⟨rfl, Lib.hid (setK HA.out (by omega)), Lib.hid (setK HB.out (by omega)), Lib.hid (setK HS.out (by omega)), Lib.hid (res2 HT.out).1, Lib.hid (below2 HW.out (by omega))⟩
                case rest => as_aux_lemma =>
                  clear HW HA HB HS HT
                  obtain ⟨rfl, HA, HB, HS, HT, HW⟩ := hcut
                  go_upto_region 10 with fail
                  go_cut [9] (fun s1 wx => s1 = .bool true ∧ Hid (wx.heap[w.heap.size]? = some (.cells #[.int .i64 (a.lo), .int .i64 (a.hi)] 23 (0, 0))) ∧ Hid (wx.heap[w.heap.size + 1]? = some (.cells #[.int .i64 (b.lo), .int .i64 (b.hi)] 23 (0, 0))) ∧ Hid (wx.heap[bS]? = some (.cells #[.int .i64 ((minM a b).1.lo), .int .i64 ((minM a b).1.hi)] 23 (0, 0))) ∧ Hid (wx.heap[bT]? = some (.cells #[.int .i64 ((minM a b).1.lo), .int .i64 ((minM a b).1.hi)] 23 (0, 0))) ∧ Hid (Below w.heap.size w wx))
                  case first => as_aux_lemma =>
                    have S0 := (cells2 HS.out).1.1
                    have S1 := (cells2 HS.out).1.2
                    have S2 := (cells2 HS.out).2.1
                    have S3 := (cells2 HS.out).2.2
                    have Sl := blkLt HS.out
                    have T0 := (cells2 HT.out).1.1
                    have T1 := (cells2 HT.out).1.2
                    have T2 := (cells2 HT.out).2.1
                    have T3 := (cells2 HT.out).2.2
                    have Tl := blkLt HT.out
                    have z := fun w => run_sp_eq (minM a b).1 (minM a b).1 w
                    rw [spEq_rfl] at z
                    go_wp2_with fail
                    go_meet
                    exact ⟨rfl, HA, HB, HS, HT, HW⟩
                  case rest => as_aux_lemma =>
                    clear HW HA HB HS HT
                    obtain ⟨rfl, HA, HB, HS, HT, HW⟩ := hcut
                    go_upto_region 11 with fail
                    go_cut [11] (fun s2 wx => s2 = .int .i64 (maxM a b).2 ∧ Hid (wx.heap[w.heap.size]? = some (.cells #[.int .i64 (a.lo), .int .i64 (a.hi)] 23 (0, 0))) ∧ Hid (wx.heap[w.heap.size + 1]? = some (.cells #[.int .i64 (b.lo), .int .i64 (b.hi)] 23 (0, 0))) ∧ Hid (wx.heap[bS]? = some (.cells #[.int .i64 ((maxM a b).1.lo), .int .i64 ((maxM a b).1.hi)] 23 (0, 0))) ∧ Hid (wx.heap[bT]? = some (.cells #[.int .i64 ((minM a b).1.lo), .int .i64 ((minM a b).1.hi)] 23 (0, 0))) ∧ Hid (Below w.heap.size w wx))
                    case first => as_aux_lemma =>
                      have A0 := (cells2 HA.out).1.1
                      have A1 := (cells2 HA.out).1.2
                      have A2 := (cells2 HA.out).2.1
                      have A3 := (cells2 HA.out).2.2
                      have Al := blkLt HA.out
                      have B0 := (cells2 HB.out).1.1
                      have B1 := (cells2 HB.out).1.2
                      have B2 := (cells2 HB.out).2.1
                      have B3 := (cells2 HB.out).2.2
                      have Bl := blkLt HB.out
                      have S0 := (cells2 HS.out).1.1
                      have S1 := (cells2 HS.out).1.2
                      have S2 := (cells2 HS.out).2.1
                      have S3 := (cells2 HS.out).2.2
                      have Sl := blkLt HS.out
                      have T0 := (cells2 HT.out).1.1
                      have T1 := (cells2 HT.out).1.2
                      have T2 := (cells2 HT.out).2.1
                      have T3 := (cells2 HT.out).2.2
                      have Tl := blkLt HT.out
                      go_wp2_with (go_at_call 23; refine (Max_any a b _).mono ?_; rintro e wn ⟨rfl, hbn⟩; replace HW := Lib.hid (bCall (by (repeat with_reducible first | exact HW.out | apply bDrew | apply bAlloc)) hbn); replace HA := Lib.hid (moveX (by (repeat with_reducible first | exact Below.refl _ _ | apply bDrew | apply bAlloc)) hbn HA.out); replace HB := Lib.hid (moveX (by (repeat with_reducible first | exact Below.refl _ _ | apply bDrew | apply bAlloc)) hbn HB.out); replace HS := Lib.hid (moveX (by (repeat with_reducible first | exact Below.refl _ _ | apply bDrew | apply bAlloc)) hbn HS.out); replace HT := Lib.hid (moveX (by (repeat with_reducible first | exact Below.refl _ _ | apply bDrew | apply bAlloc)) hbn HT.out); replace A0 := (cells2 HA.out).1.1; replace A1 := (cells2 HA.out).1.2; replace A2 := (cells2 HA.out).2.1; replace A3 := (cells2 HA.out).2.2; replace Al := blkLt HA.out; replace B0 := (cells2 HB.out).1.1; replace B1 := (cells2 HB.out).1.2; replace B2 := (cells2 HB.out).2.1; replace B3 := (cells2 HB.out).2.2; replace Bl := blkLt HB.out; replace S0 := (cells2 HS.out).1.1; replace S1 := (cells2 HS.out).1.2; replace S2 := (cells2 HS.out).2.1; replace S3 := (cells2 HS.out).2.2; replace Sl := blkLt HS.out; replace T0 := (cells2 HT.out).1.1; replace T1 := (cells2 HT.out).1.2; replace T2 := (cells2 HT.out).2.1; replace T3 := (cells2 HT.out).2.2; replace Tl := blkLt HT.out; clear hbn)
                      go_meet
                      exact ⟨rfl, Lib.hid (setK HA.out (by omega)), Lib.hid (setK HB.out (by omega)), Lib.hid (res2 HS.out).1, Lib.hid (setK HT.out (by omega)), Lib.hid (below2 HW.out (by omega))⟩
                    case rest => as_aux_lemma =>
                      clear HW HA HB HS HT
                      obtain ⟨rfl, HA, HB, HS, HT, HW⟩ := hcut
                      go_upto_region 12 with fail
                      go_cut [13] (fun s2 wx => s2 = .int .i64 (maxM a b).2 ∧ Hid (wx.heap[w.heap.size]? = some (.cells #[.int .i64 (a.lo), .int .i64 (a.hi)] 23 (0, 0))) ∧ Hid (wx.heap[w.heap.size + 1]? = some (.cells #[.int .i64 (b.lo), .int .i64 (b.hi)] 23 (0, 0))) ∧ Hid (wx.heap[bS]? = some (.cells #[.int .i64 ((maxM a b).1.lo), .int .i64 ((maxM a b).1.hi)] 23 (0, 0))) ∧ Hid (wx.heap[bT]? = some (.cells #[.int .i64 ((maxM a b).1.lo), .int .i64 ((maxM a b).1.hi)] 23 (0, 0))) ∧ Hid (Below w.heap.size w wx))
                      case first => as_aux_lemma =>
                        have A0 := (cells2 HA.out).1.1
                        have A1 := (cells2 HA.out).1.2
                        have A2 := (cells2 HA.out).2.1
                        have A3 := (cells2 HA.out).2.2
                        have Al := blkLt HA.out
                        have B0 := (cells2 HB.out).1.1
                        have B1 := (cells2 HB.out).1.2
                        have B2 := (cells2 HB.out).2.1
                        have B3 := (cells2 HB.out).2.2
                        have Bl := blkLt HB.out
                        have S0 := (cells2 HS.out).1.1
                        have S1 := (cells2 HS.out).1.2
                        have S2 := (cells2 HS.out).2.1
                        have S3 := (cells2 HS.out).2.2
                        have Sl := blkLt HS.out
                        have T0 := (cells2 HT.out).1.1
                        have T1 := (cells2 HT.out).1.2
                        have T2 := (cells2 HT.out).2.1
                        have T3 := (cells2 HT.out).2.2
                        have Tl := blkLt HT.out
                        go_wp2_with (go_at_call 23; refine (Max_sy a b _).mono ?_; rintro e wn ⟨rfl, hbn⟩; replace HW := Lib.hid (bCall (by (repeat with_reducible first | exact HW.out | apply bDrew | apply bAlloc)) hbn); replace HA := Lib.hid (moveX (by (repeat with_reducible first | exact Below.refl _ _ | apply bDrew | apply bAlloc)) hbn HA.out); replace HB := Lib.hid (moveX (by (repeat with_reducible first | exact Below.refl _ _ | apply bDrew | apply bAlloc)) hbn HB.out); replace HS := Lib.hid (moveX (by (repeat with_reducible first | exact Below.refl _ _ | apply bDrew | apply bAlloc)) hbn HS.out); replace HT := Lib.hid (moveX (by (repeat with_reducible first | exact Below.refl _ _ | apply bDrew | apply bAlloc)) hbn HT.out); replace A0 := (cells2 HA.out).1.1; replace A1 := (cells2 HA.out).1.2; replace A2 := (cells2 HA.out).2.1; replace A3 := (cells2 HA.out).2.2; replace Al := blkLt HA.out; replace B0 := (cells2 HB.out).1.1; replace B1 := (cells2 HB.out).1.2; replace B2 := (cells2 HB.out).2.1; replace B3 := (cells2 HB.out).2.2; replace Bl := blkLt HB.out; replace S0 := (cells2 HS.out).1.1; replace S1 := (cells2 HS.out).1.2; replace S2 := (cells2 HS.out).2.1; replace S3 := (cells2 HS.out).2.2; replace Sl := blkLt HS.out; replace T0 := (cells2 HT.out).1.1; replace T1 := (cells2 HT.out).1.2; replace T2 := (cells2 HT.out).2.1; replace T3 := (cells2 HT.out).2.2; replace Tl := blkLt HT.out; clear hbn)
                        go_meet
                        exact ⟨rfl, Lib.hid (setK HA.out (by omega)), Lib.hid (setK HB.out (by omega)), Lib.hid (setK HS.out (by omega)), Lib.hid (res2 HT.out).1, Lib.hid (below2 HW.out (by omega))⟩
                      case rest => as_aux_lemma =>
                        clear HW HA HB HS HT
                        obtain ⟨rfl, HA, HB, HS, HT, HW⟩ := hcut
                        go_upto_region 13 with fail
                        go_cut [9] (fun s1 wx => s1 = .bool true ∧ Hid (wx.heap[w.heap.size]? = some (.cells #[.int .i64 (a.lo), .int .i64 (a.hi)] 23 (0, 0))) ∧ Hid (wx.heap[w.heap.size + 1]? = some (.cells #[.int .i64 (b.lo), .int .i64 (b.hi)] 23 (0, 0))) ∧ Hid (wx.heap[bS]? = some (.cells #[.int .i64 ((maxM a b).1.lo), .int .i64 ((maxM a b).1.hi)] 23 (0, 0))) ∧ Hid (wx.heap[bT]? = some (.cells #[.int .i64 ((maxM a b).1.lo), .int .i64 ((maxM a b).1.hi)] 23 (0, 0))) ∧ Hid (Below w.heap.size w wx))
                        case first => as_aux_lemma =>
                          have S0 := (cells2 HS.out).1.1
                          have S1 := (cells2 HS.out).1.2
                          have S2 := (cells2 HS.out).2.1
                          have S3 := (cells2 HS.out).2.2
                          have Sl := blkLt HS.out
                          have T0 := (cells2 HT.out).1.1
                          have T1 := (cells2 HT.out).1.2
                          have T2 := (cells2 HT.out).2.1
                          have T3 := (cells2 HT.out).2.2
                          have Tl := blkLt HT.out
                          have z := fun w => run_sp_eq (maxM a b).1 (maxM a b).1 w
                          rw [spEq_rfl] at z
                          go_wp2_with fail
                          go_meet
                          exact ⟨rfl, HA, HB, HS, HT, HW⟩
                        case rest => as_aux_lemma =>
                          clear HW HA HB HS HT
                          obtain ⟨rfl, HA, HB, HS, HT, HW⟩ := hcut
                          go_upto_region 14 with fail
                          go_cut [11] (fun s2 wx => s2 = .int .i64 (joinM a b).2 ∧ Hid (wx.heap[w.heap.size]? = some (.cells #[.int .i64 (a.lo), .int .i64 (a.hi)] 23 (0, 0))) ∧ Hid (wx.heap[w.heap.size + 1]? = some (.cells #[.int .i64 (b.lo), .int .i64 (b.hi)] 23 (0, 0))) ∧ Hid (wx.heap[bS]? = some (.cells #[.int .i64 ((joinM a b).1.lo), .int .i64 ((joinM a b).1.hi)] 23 (0, 0))) ∧ Hid (wx.heap[bT]? = some (.cells #[.int .i64 ((maxM a b).1.lo), .int .i64 ((maxM a b).1.hi)] 23 (0, 0))) ∧ Hid (Below w.heap.size w wx))
                          case first => as_aux_lemma =>
                            have A0 := (cells2 HA.out).1.1
                            have A1 := (cells2 HA.out).1.2
                            have A2 := (cells2 HA.out).2.1
                            have A3 := (cells2 HA.out).2.2
                            have Al := blkLt HA.out
                            have B0 := (cells2 HB.out).1.1
                            have B1 := (cells2 HB.out).1.2
                            have B2 := (cells2 HB.out).2.1
                            have B3 := (cells2 HB.out).2.2
                            have Bl := blkLt HB.out
                            have S0 := (cells2 HS.out).1.1
                            have S1 := (cells2 HS.out).1.2
                            have S2 := (cells2 HS.out).2.1
                            have S3 := (cells2 HS.out).2.2
                            have Sl := blkLt HS.out
                            have T0 := (cells2 HT.out).1.1
                            have T1 := (cells2 HT.out).1.2
                            have T2 := (cells2 HT.out).2.1
                            have T3 := (cells2 HT.out).2.2
                            have Tl := blkLt HT.out
                            go_wp2_with (go_at_call 25; refine (Join_any a b _).mono ?_; rintro e wn ⟨rfl, hbn⟩; replace HW := Lib.hid (bCall (by (repeat with_reducible first | exact HW.out | apply bDrew | apply bAlloc)) hbn); replace HA := Lib.hid (moveX (by (repeat with_reducible first | exact Below.refl _ _ | apply bDrew | apply bAlloc)) hbn HA.out); replace HB := Lib.hid (moveX (by (repeat with_reducible first | exact Below.refl _ _ | apply bDrew | apply bAlloc)) hbn HB.out); replace HS := Lib.hid (moveX (by (repeat with_reducible first | exact Below.refl _ _ | apply bDrew | apply bAlloc)) hbn HS.out); replace HT := Lib.hid (moveX (by (repeat with_reducible first | exact Below.refl _ _ | apply bDrew | apply bAlloc)) hbn HT.out); replace A0 := (cells2 HA.out).1.1; replace A1 := (cells2 HA.out).1.2; replace A2 := (cells2 HA.out).2.1; replace A3 := (cells2 HA.out).2.2; replace Al := blkLt HA.out; replace B0 := (cells2 HB.out).1.1; replace B1 := (cells2 HB.out).1.2; replace B2 := (cells2 HB.out).2.1; replace B3 := (cells2 HB.out).2.2; replace Bl := blkLt HB.out; replace S0 := (cells2 HS.out).1.1; replace S1 := (cells2 HS.out).1.2; replace S2 := (cells2 HS.out).2.1; replace S3 := (cells2 HS.out).2.2; replace Sl := blkLt HS.out; replace T0 := (cells2 HT.out).1.1; replace T1 := (cells2 HT.out).1.2; replace T2 := (cells2 HT.out).2.1; replace T3 := (cells2 HT.out).2.2; replace Tl := blkLt HT.out; clear hbn)
                            go_meet
                            exact ⟨rfl, Lib.hid (setK HA.out (by omega)), Lib.hid (setK HB.out (by omega)), Lib.hid (res2 HS.out).1, Lib.hid (setK HT.out (by omega)), Lib.hid (below2 HW.out (by omega))⟩
                          case rest => as_aux_lemma =>
                            clear HW HA HB HS HT
                            obtain ⟨rfl, HA, HB, HS, HT, HW⟩ := hcut
                            go_upto_region 15 with fail
                            go_cut [13] (fun s2 wx => s2 = .int .i64 (joinM a b).2 ∧ Hid (wx.heap[w.heap.size]? = some (.cells #[.int .i64 (a.lo), .int .i64 (a.hi)] 23 (0, 0))) ∧ Hid (wx.heap[w.heap.size + 1]? = some (.cells #[.int .i64 (b.lo), .int .i64 (b.hi)] 23 (0, 0))) ∧ Hid (wx.heap[bS]? = some (.cells #[.int .i64 ((joinM a b).1.lo), .int .i64 ((joinM a b).1.hi)] 23 (0, 0))) ∧ Hid (wx.heap[bT]? = some (.cells #[.int .i64 ((joinM a b).1.lo), .int .i64 ((joinM a b).1.hi)] 23 (0, 0))) ∧ Hid (Below w.heap.size w wx))
                            case first => as_aux_lemma =>
                              have A0 := (cells2 HA.out).1.1
                              have A1 := (cells2 HA.out).1.2
                              have A2 := (cells2 HA.out).2.1
                              have A3 := (cells2 HA.out).2.2
                              have Al := blkLt HA.out
                              have B0 := (cells2 HB.out).1.1
                              have B1 := (cells2 HB.out).1.2
                              have B2 := (cells2 HB.out).2.1
                              have B3 := (cells2 HB.out).2.2
                              have Bl := blkLt HB.out
                              have S0 := (cells2 HS.out).1.1
                              have S1 := (cells2 HS.out).1.2
                              have S2 := (cells2 HS.out).2.1
                              have S3 := (cells2 HS.out).2.2
                              have Sl := blkLt HS.out
                              have T0 := (cells2 HT.out).1.1
                              have T1 := (cells2 HT.out).1.2
                              have T2 := (cells2 HT.out).2.1
                              have T3 := (cells2 HT.out).2.2
                              have Tl := blkLt HT.out
                              go_wp2_with (go_at_call 25; refine (Join_sy a b _).mono ?_; rintro e wn ⟨rfl, hbn⟩; replace HW := Lib.hid (bCall (by (repeat with_reducible first | exact HW.out | apply bDrew | apply bAlloc)) hbn); replace HA := Lib.hid (moveX (by (repeat with_reducible first | exact Below.refl _ _ | apply bDrew | apply bAlloc)) hbn HA.out); replace HB := Lib.hid (moveX (by (repeat with_reducible first | exact Below.refl _ _ | apply bDrew | apply bAlloc)) hbn HB.out); replace HS := Lib.hid (moveX (by (repeat with_reducible first | exact Below.refl _ _ | apply bDrew | apply bAlloc)) hbn HS.out); replace HT := Lib.hid (moveX (by (repeat with_reducible first | exact Below.refl _ _ | apply bDrew | apply bAlloc)) hbn HT.out); replace A0 := (cells2 HA.out).1.1; replace A1 := (cells2 HA.out).1.2; replace A2 := (cells2 HA.out).2.1; replace A3 := (cells2 HA.out).2.2; replace Al := blkLt HA.out; replace B0 := (cells2 HB.out).1.1; replace B1 := (cells2 HB.out).1.2; replace B2 := (cells2 HB.out).2.1; replace B3 := (cells2 HB.out).2.2; replace Bl := blkLt HB.out; replace S0 := (cells2 HS.out).1.1; replace S1 := (cells2 HS.out).1.2; replace S2 := (cells2 HS.out).2.1; replace S3 := (cells2 HS.out).2.2; replace Sl := blkLt HS.out; replace T0 := (cells2 HT.out).1.1; replace T1 := (cells2 HT.out).1.2; replace T2 := (cells2 HT.out).2.1; replace T3 := (cells2 HT.out).2.2; replace Tl := blkLt HT.out; clear hbn)
                              go_meet
                              exact ⟨rfl, Lib.hid (setK HA.out (by omega)), Lib.hid (setK HB.out (by omega)), Lib.hid (setK HS.out (by omega)), Lib.hid (res2 HT.out).1, Lib.hid (below2 HW.out (by omega))⟩
                            case rest => as_aux_lemma =>
                              clear HW HA HB HS HT
                              obtain ⟨rfl, HA, HB, HS, HT, HW⟩ := hcut
                              go_upto_region 16 with fail
                              go_cut [9] (fun s1 wx => s1 = .bool true ∧ Hid (wx.heap[w.heap.size]? = some (.cells #[.int .i64 (a.lo), .int .i64 (a.hi)] 23 (0, 0))) ∧ Hid (wx.heap[w.heap.size + 1]? = some (.cells #[.int .i64 (b.lo), .int .i64 (b.hi)] 23 (0, 0))) ∧ Hid (wx.heap[bS]? = some (.cells #[.int .i64 ((joinM a b).1.lo), .int .i64 ((joinM a b).1.hi)] 23 (0, 0))) ∧ Hid (wx.heap[bT]? = some (.cells #[.int .i64 ((joinM a b).1.lo), .int .i64 ((joinM a b).1.hi)] 23 (0, 0))) ∧ Hid (Below w.heap.size w wx))
                              case first => as_aux_lemma =>
                                have S0 := (cells2 HS.out).1.1
                                have S1 := (cells2 HS.out).1.2
                                have S2 := (cells2 HS.out).2.1
                                have S3 := (cells2 HS.out).2.2
                                have Sl := blkLt HS.out
                                have T0 := (cells2 HT.out).1.1
                                have T1 := (cells2 HT.out).1.2
                                have T2 := (cells2 HT.out).2.1
                                have T3 := (cells2 HT.out).2.2
                                have Tl := blkLt HT.out
                                have z := fun w => run_sp_eq (joinM a b).1 (joinM a b).1 w
                                rw [spEq_rfl] at z
                                go_wp2_with fail
                                go_meet
                                exact ⟨rfl, HA, HB, HS, HT, HW⟩
                              case rest => as_aux_lemma =>
                                clear HW HA HB HS HT
                                obtain ⟨rfl, HA, HB, HS, HT, HW⟩ := hcut
                                go_upto_region 17 with fail
                                have A0 := (cells2 HA.out).1.1
                                have A1 := (cells2 HA.out).1.2
                                have A2 := (cells2 HA.out).2.1
                                have A3 := (cells2 HA.out).2.2
                                have Al := blkLt HA.out
                                have B0 := (cells2 HB.out).1.1
                                have B1 := (cells2 HB.out).1.2
                                have B2 := (cells2 HB.out).2.1
                                have B3 := (cells2 HB.out).2.2
                                have Bl := blkLt HB.out
                                have S0 := (cells2 HS.out).1.1
                                have S1 := (cells2 HS.out).1.2
                                have S2 := (cells2 HS.out).2.1
                                have S3 := (cells2 HS.out).2.2
                                have Sl := blkLt HS.out
                                have T0 := (cells2 HT.out).1.1
                                have T1 := (cells2 HT.out).1.2
                                have T2 := (cells2 HT.out).2.1
                                have T3 := (cells2 HT.out).2.2
                                have Tl := blkLt HT.out
                                go_wp2_with (go_at_call 28; refine (hVa.out _).mono ?_; rintro e wn ⟨rfl, hbn⟩; replace HW := Lib.hid (bCall (by (repeat with_reducible first | exact HW.out | apply bDrew | apply bAlloc)) hbn); replace HA := Lib.hid (moveX (by (repeat with_reducible first | exact Below.refl _ _ | apply bDrew | apply bAlloc)) hbn HA.out); replace HB := Lib.hid (moveX (by (repeat with_reducible first | exact Below.refl _ _ | apply bDrew | apply bAlloc)) hbn HB.out); replace HS := Lib.hid (moveX (by (repeat with_reducible first | exact Below.refl _ _ | apply bDrew | apply bAlloc)) hbn HS.out); replace HT := Lib.hid (moveX (by (repeat with_reducible first | exact Below.refl _ _ | apply bDrew | apply bAlloc)) hbn HT.out); replace A0 := (cells2 HA.out).1.1; replace A1 := (cells2 HA.out).1.2; replace A2 := (cells2 HA.out).2.1; replace A3 := (cells2 HA.out).2.2; replace Al := blkLt HA.out; replace B0 := (cells2 HB.out).1.1; replace B1 := (cells2 HB.out).1.2; replace B2 := (cells2 HB.out).2.1; replace B3 := (cells2 HB.out).2.2; replace Bl := blkLt HB.out; replace S0 := (cells2 HS.out).1.1; replace S1 := (cells2 HS.out).1.2; replace S2 := (cells2 HS.out).2.1; replace S3 := (cells2 HS.out).2.2; replace Sl := blkLt HS.out; replace T0 := (cells2 HT.out).1.1; replace T1 := (cells2 HT.out).1.2; replace T2 := (cells2 HT.out).2.1; replace T3 := (cells2 HT.out).2.2; replace Tl := blkLt HT.out; clear hbn)
                                go_ret
                                exact ⟨rfl, HW.out⟩
set_option maxHeartbeats 8000000 in
set_option maxRecDepth 100000 in
theorem exchanged_ok (a b : Sp) (m n : Int) (hm : 0 ≤ m ∧ m < 18446744073709551616) (hn : 0 ≤ n ∧ n < 18446744073709551616) (ha : vB a = true) (w : World) : Calls Try.prog 8 #[sv a, sv b, .int .u64 m, .int .u64 n] w (BB true w) := by
  have hVa := Lib.hid (RValid_any a)
  have hPm := Lib.hid (pick_any a m ha hm)
  have hPn := Lib.hid (pick_any a n ha hn)
  obtain ⟨c, hc⟩ : ∃ c : Sp, c = ⟨min (pickM a m) (pickM a n), max (pickM a m) (pickM a n)⟩ := ⟨_, rfl⟩
  have hJ := Lib.hid (Join_pt c ha (by rw [hc]; exact pick_part ha hm.1 hn.1))
  have e1 := run_min2 (pickM a m) (pickM a n) c.lo (by rw [hc])
  have e2 := run_max2 (pickM a m) (pickM a n) c.hi (by rw [hc])
  rw [ha] at hVa
  generalize pickM a m = x at *
  generalize pickM a n = y at *
  clear ha hm hn hc
  go_enter Try.func8, Try.ntmps8
  have HW := Lib.hid (Below.refl w.heap.size w)
  go_upto_region 2 with (go_at_call 10; refine (head_any _).mono ?_; rintro e wn ⟨rfl, hbn⟩; obtain ⟨HA, HB⟩ := two2 hbn; have HA := Lib.hid HA; have HB := Lib.hid HB; replace HW := Lib.hid (bCall (by (repeat with_reducible first | exact HW.out | apply bDrew | apply bAlloc)) hbn); clear hbn)
  go_cut [10, 11] (fun s1 s2 wx => ∃ bS : Nat, s1 = .pointer (some ⟨bS, 0, none⟩) ∧ s2 = .int .i64 (addM a b).2 ∧ w.heap.size + 2 ≤ bS ∧ Hid (wx.heap[w.heap.size]? = some (.cells #[.int .i64 (a.lo), .int .i64 (a.hi)] 23 (0, 0))) ∧ Hid (wx.heap[w.heap.size + 1]? = some (.cells #[.int .i64 (b.lo), .int .i64 (b.hi)] 23 (0, 0))) ∧ Hid (wx.heap[bS]? = some (.cells #[.int .i64 ((addM a b).1.lo), .int .i64 ((addM a b).1.hi)] 23 (0, 0))) ∧ Hid (Below w.heap.size w wx))
  case first => as_aux_lemma =>
    have A0 := (cells2 HA.out).1.1
    have A1 := (cells2 HA.out).1.2
    have A2 := (cells2 HA.out).2.1
    have A3 := (cells2 HA.out).2.2
    have Al := blkLt HA.out
    have B0 := (cells2 HB.out).1.1
    have B1 := (cells2 HB.out).1.2
    have B2 := (cells2 HB.out).2.1
    have B3 := (cells2 HB.out).2.2
    have Bl := blkLt HB.out
    go_wp2_with (go_at_call 11; refine (Add_any a b _).mono ?_; rintro e wn ⟨rfl, hbn⟩; replace HW := Lib.hid (bCall (by (repeat with_reducible first | exact HW.out | apply bDrew | apply bAlloc)) hbn); replace HA := Lib.hid (moveX (by (repeat with_reducible first | exact Below.refl _ _ | apply bDrew | apply bAlloc)) hbn HA.out); replace HB := Lib.hid (moveX (by (repeat with_reducible first | exact Below.refl _ _ | apply bDrew | apply bAlloc)) hbn HB.out); replace A0 := (cells2 HA.out).1.1; replace A1 := (cells2 HA.out).1.2; replace A2 := (cells2 HA.out).2.1; replace A3 := (cells2 HA.out).2.2; replace Al := blkLt HA.out; replace B0 := (cells2 HB.out).1.1; replace B1 := (cells2 HB.out).1.2; replace B2 := (cells2 HB.out).2.1; replace B3 := (cells2 HB.out).2.2; replace Bl := blkLt HB.out; clear hbn)
    go_meet
    exact ⟨_, rfl, rfl, by have := Bl; omega, Lib.hid (mvAlloc HA.out), Lib.hid (mvAlloc HB.out), Lib.hid (newBlk _ _ _ rfl), Lib.hid (bAlloc HW.out)⟩
  case rest => as_aux_lemma =>
    clear HW HA HB
    obtain ⟨bS, rfl, rfl, hSn, HA, HB, HS, HW⟩ := hcut
    go_upto_region 3 with fail
    go_cut [12, 13] (fun s1 s2 wx => ∃ bT : Nat, s1 = .pointer (some ⟨bT, 0, none⟩) ∧ s2 = .int .i64 (addM a b).2 ∧ w.heap.size + 2 ≤ bT ∧ bS < bT ∧ Hid (wx.heap[w.heap.size]? = some (.cells #[.int .i64 (a.lo), .int .i64 (a.hi)] 23 (0, 0))) ∧ Hid (wx.heap[w.heap.size + 1]? = some (.cells #[.int .i64 (b.lo), .int .i64 (b.hi)] 23 (0, 0))) ∧ Hid (wx.heap[bS]? = some (.cells #[.int .i64 ((addM a b).1.lo), .int .i64 ((addM a b).1.hi)] 23 (0, 0))) ∧ Hid (wx.heap[bT]? = some (.cells #[.int .i64 ((addM a b).1.lo), .int .i64 ((addM a b).1.hi)] 23 (0, 0))) ∧ Hid (Below w.heap.size w wx))
    case first => as_aux_lemma =>
      have A0 := (cells2 HA.out).1.1
      have A1 := (cells2 HA.out).1.2
      have A2 := (cells2 HA.out).2.1
      have A3 := (cells2 HA.out).2.2
      have Al := blkLt HA.out
      have B0 := (cells2 HB.out).1.1
      have B1 := (cells2 HB.out).1.2
      have B2 := (cells2 HB.out).2.1
      have B3 := (cells2 HB.out).2.2
      have Bl := blkLt HB.out
      have S0 := (cells2 HS.out).1.1
      have S1 := (cells2 HS.out).1.2
      have S2 := (cells2 HS.out).2.1
      have S3 := (cells2 HS.out).2.2
      have Sl := blkLt HS.out
      go_wp2_with (go_at_call 11; refine (Add_sy a b _).mono ?_; rintro e wn ⟨rfl, hbn⟩; replace HW := Lib.hid (bCall (by (repeat with_reducible first | exact HW.out | apply bDrew | apply bAlloc)) hbn); replace HA := Lib.hid (moveX (by (repeat with_reducible first | exact Below.refl _ _ | apply bDrew | apply bAlloc)) hbn HA.out); replace HB := Lib.hid (moveX (by (repeat with_reducible first | exact Below.refl _ _ | apply bDrew | apply bAlloc)) hbn HB.out); replace HS := Lib.hid (moveX (by (repeat with_reducible first | exact Below.refl _ _ | apply bDrew | apply bAlloc)) hbn HS.out); replace A0 := (cells2 HA.out).1.1; replace A1 := (cells2 HA.out).1.2; replace A2 := (cells2 HA.out).2.1; replace A3 := (cells2 HA.out).2.2; replace Al := blkLt HA.out; replace B0 := (cells2 HB.out).1.1; replace B1 := (cells2 HB.out).1.2; replace B2 := (cells2 HB.out).2.1; replace B3 := (cells2 HB.out).2.2; replace Bl := blkLt HB.out; replace S0 := (cells2 HS.out).1.1; replace S1 := (cells2 HS.out).1.2; replace S2 := (cells2 HS.out).2.1; replace S3 := (cells2 HS.out).2.2; replace Sl := blkLt HS.out; clear hbn)
      go_meet
      exact ⟨_, rfl, rfl, by have := Bl; omega, Sl, Lib.hid (mvAlloc HA.out), Lib.hid (mvAlloc HB.out), Lib.hid (mvAlloc HS.out), Lib.hid (newBlk _ _ _ rfl), Lib.hid (bAlloc HW.out)⟩
    case rest => as_aux_lemma =>
      clear HW HA HB HS
      obtain ⟨bT, rfl, rfl, hTn, hST, HA, HB, HS, HT, HW⟩ := hcut
      go_upto_region 4 with fail
      go_cut [9] (fun s1 wx => s1 = .bool true ∧ Hid (wx.heap[w.heap.size]? = some (.cells #[.int .i64 (a.lo), .int .i64 (a.hi)] 23 (0, 0))) ∧ Hid (wx.heap[w.heap.size + 1]? = some (.cells #[.int .i64 (b.lo), .int .i64 (b.hi)] 23 (0, 0))) ∧ Hid (wx.heap[bS]? = some (.cells #[.int .i64 ((addM a b).1.lo), .int .i64 ((addM a b).1.hi)] 23 (0, 0))) ∧ Hid (wx.heap[bT]? = some (.cells #[.int .i64 ((addM a b).1.lo), .int .i64 ((addM a b).1.hi)] 23 (0, 0))) ∧ Hid (Below w.heap.size w wx))
      case first => as_aux_lemma =>
        have S0 := (cells2 HS.out).1.1
        have S1 := (cells2 HS.out).1.2
        have S2 := (cells2 HS.out).2.1
        have S3 := (cells2 HS.out).2.2
        have Sl := blkLt HS.out
        have T0 := (cells2 HT.out).1.1
        have T1 := (cells2 HT.out).1.2
        have T2 := (cells2 HT.out).2.1
        have T3 := (cells2 HT.out).2.2
        have Tl := blkLt HT.out
        have z := fun w => run_sp_eq (addM a b).1 (addM a b).1 w
        rw [spEq_rfl] at z
        go_wp2_with fail
        go_meet
        exact ⟨rfl, HA, HB, HS, HT, HW⟩
      case rest => as_aux_lemma =>
        clear HW HA HB HS HT
        obtain ⟨rfl, HA, HB, HS, HT, HW⟩ := hcut
        go_upto_region 5 with fail
        go_cut [11] (fun s2 wx => s2 = .int .i64 (mulM a b).2 ∧ Hid (wx.heap[w.heap.size]? = some (.cells #[.int .i64 (a.lo), .int .i64 (a.hi)] 23 (0, 0))) ∧ Hid (wx.heap[w.heap.size + 1]? = some (.cells #[.int .i64 (b.lo), .int .i64 (b.hi)] 23 (0, 0))) ∧ Hid (wx.heap[bS]? = some (.cells #[.int .i64 ((mulM a b).1.lo), .int .i64 ((mulM a b).1.hi)] 23 (0, 0))) ∧ Hid (wx.heap[bT]? = some (.cells #[.int .i64 ((addM a b).1.lo), .int .i64 ((addM a b).1.hi)] 23 (0, 0))) ∧ Hid (Below w.heap.size w wx))
        case first => as_aux_lemma =>
          have A0 := (cells2 HA.out).1.1
          have A1 := (cells2 HA.out).1.2
          have A2 := (cells2 HA.out).2.1
          have A3 := (cells2 HA.out).2.2
          have Al := blkLt HA.out
          have B0 := (cells2 HB.out).1.1
          have B1 := (cells2 HB.out).1.2
          have B2 := (cells2 HB.out).2.1
          have B3 := (cells2 HB.out).2.2
          have Bl := blkLt HB.out
          have S0 := (cells2 HS.out).1.1
          have S1 := (cells2 HS.out).1.2
          have S2 := (cells2 HS.out).2.1
          have S3 := (cells2 HS.out).2.2
          have Sl := blkLt HS.out
          have T0 := (cells2 HT.out).1.1
          have T1 := (cells2 HT.out).1.2
          have T2 := (cells2 HT.out).2.1
          have T3 := (cells2 HT.out).2.2
          have Tl := blkLt HT.out
          go_wp2_with (go_at_call 15; refine (Mul_any a b _).mono ?_; rintro e wn ⟨rfl, hbn⟩; replace HW := Lib.hid (bCall (by (repeat with_reducible first | exact HW.out | apply bDrew | apply bAlloc)) hbn); replace HA := Lib.hid (moveX (by (repeat with_reducible first | exact Below.refl _ _ | apply bDrew | apply bAlloc)) hbn HA.out); replace HB := Lib.hid (moveX (by (repeat with_reducible first | exact Below.refl _ _ | apply bDrew | apply bAlloc)) hbn HB.out); replace HS := Lib.hid (moveX (by (repeat with_reducible first | exact Below.refl _ _ | apply bDrew | apply bAlloc)) hbn HS.out); replace HT := Lib.hid (moveX (by (repeat with_reducible first | exact Below.refl _ _ | apply bDrew | apply bAlloc)) hbn HT.out); replace A0 := (cells2 HA.out).1.1; replace A1 := (cells2 HA.out).1.2; replace A2 := (cells2 HA.out).2.1; replace A3 := (cells2 HA.out).2.2; replace Al := blkLt HA.out; replace B0 := (cells2 HB.out).1.1; replace B1 := (cells2 HB.out).1.2; replace B2 := (cells2 HB.out).2.1; replace B3 := (cells2 HB.out).2.2; replace Bl := blkLt HB.out; replace S0 := (cells2 HS.out).1.1; replace S1 := (cells2 HS.out).1.2; replace S2 := (cells2 HS.out).2.1; replace S3 := (cells2 HS.out).2.2; replace Sl := blkLt HS.out; replace T0 := (cells2 HT.out).1.1; replace T1 := (cells2 HT.out).1.2; replace T2 := (cells2 HT.out).2.1; replace T3 := (cells2 HT.out).2.2; replace Tl := blkLt HT.out; clear hbn)
          go_meet
          exact ⟨rfl, Lib.hid (setK HA.out (by omega)), Lib.hid (setK HB.out (by omega)), Lib.hid (res2 HS.out).1, Lib.hid (setK HT.out (by omega)), Lib.hid (below2 HW.out (by omega))⟩
        case rest => as_aux_lemma =>
          clear HW HA HB HS HT
          obtain ⟨rfl, HA, HB, HS, HT, HW⟩ := hcut
          go_upto_region 6 with fail
          go_cut [13] (fun s2 wx => s2 = .int .i64 (mulM a b).2 ∧ Hid (wx.heap[w.heap.size]? = some (.cells #[.int .i64 (a.lo), .int .i64 (a.hi)] 23 (0, 0))) ∧ Hid (wx.heap[w.heap.size + 1]? = some (.cells #[.int .i64 (b.lo), .int .i64 (b.hi)] 23 (0, 0))) ∧ Hid (wx.heap[bS]? = some (.cells #[.int .i64 ((mulM a b).1.lo), .int .i64 ((mulM a b).1.hi)] 23 (0, 0))) ∧ Hid (wx.heap[bT]? = some (.cells #[.int .i64 ((mulM a b).1.lo), .int .i64 ((mulM a b).1.hi)] 23 (0, 0))) ∧ Hid (Below w.heap.size w wx))
          case first => as_aux_lemma =>
            have A0 := (cells2 HA.out).1.1
            have A1 := (cells2 HA.out).1.2
            have A2 := (cells2 HA.out).2.1
            have A3 := (cells2 HA.out).2.2
            have Al := blkLt HA.out
            have B0 := (cells2 HB.out).1.1
            have B1 := (cells2 HB.out).1.2
            have B2 := (cells2 HB.out).2.1
            have B3 := (cells2 HB.out).2.2
            have Bl := blkLt HB.out
            have S0 := (cells2 HS.out).1.1
            have S1 := (cells2 HS.out).1.2
            have S2 := (cells2 HS.out).2.1
            have S3 := (cells2 HS.out).2.2
            have Sl := blkLt HS.out
            have T0 := (cells2 HT.out).1.1
            have T1 := (cells2 HT.out).1.2
            have T2 := (cells2 HT.out).2.1
            have T3 := (cells2 HT.out).2.2
            have Tl := blkLt HT.out
            go_wp2_with (go_at_call 15; refine (Mul_sy a b _).mono ?_; rintro e wn ⟨rfl, hbn⟩; replace HW := Lib.hid (bCall (by (repeat with_reducible first | exact HW.out | apply bDrew | apply bAlloc)) hbn); replace HA := Lib.hid (moveX (by (repeat with_reducible first | exact Below.refl _ _ | apply bDrew | apply bAlloc)) hbn HA.out); replace HB := Lib.hid (moveX (by (repeat with_reducible first | exact Below.refl _ _ | apply bDrew | apply bAlloc)) hbn HB.out); replace HS := Lib.hid (moveX (by (repeat with_reducible first | exact Below.refl _ _ | apply bDrew | apply bAlloc)) hbn HS.out); replace HT := Lib.hid (moveX (by (repeat with_reducible first | exact Below.refl _ _ | apply bDrew | apply bAlloc)) hbn HT.out); replace A0 := (cells2 HA.out).1.1; replace A1 := (cells2 HA.out).1.2; replace A2 := (cells2 HA.out).2.1; replace A3 := (cells2 HA.out).2.2; replace Al := blkLt HA.out; replace B0 := (cells2 HB.out).1.1; replace B1 := (cells2 HB.out).1.2; replace B2 := (cells2 HB.out).2.1; replace B3 := (cells2 HB.out).2.2; replace Bl := blkLt HB.out; replace S0 := (cells2 HS.out).1.1; replace S1 := (cells2 HS.out).1.2; replace S2 := (cells2 HS.out).2.1; replace S3 := (cells2 HS.out).2.2; replace Sl := blkLt HS.out; replace T0 := (cells2 HT.out).1.1; replace T1 := (cells2 HT.out).1.2; replace T2 := (cells2 HT.out).2.1; replace T3 := (cells2 HT.out).2.2; replace Tl := blkLt HT.out; clear hbn)
            go_meet
            exact ⟨rfl, Lib.hid (setK HA.out (by omega)), Lib.hid (setK HB.out (by omega)), Lib.hid (setK HS.out (by omega)), Lib.hid (res2 HT.out).1, Lib.hid (below2 HW.out (by omega))⟩
          case rest => as_aux_lemma =>
            clear HW HA HB HS HT
            obtain ⟨rfl, HA, HB, HS, HT, HW⟩ := hcut
            go_upto_region 7 with fail
            go_cut [9] (fun s1 wx => s1 = .bool true ∧ Hid (wx.heap[w.heap.size]? = some (.cells #[.int .i64 (a.lo), .int .i64 (a.hi)] 23 (0, 0))) ∧ Hid (wx.heap[w.heap.size + 1]? = some (.cells #[.int .i64 (b.lo), .int .i64 (b.hi)] 23 (0, 0))) ∧ Hid (wx.heap[bS]? = some (.cells #[.int .i64 ((mulM a b).1.lo), .int .i64 ((mulM a b).1.hi)] 23 (0, 0))) ∧ Hid (wx.heap[bT]? = some (.cells #[.int .i64 ((mulM a b).1.lo), .int .i64 ((mulM a b).1.hi)] 23 (0, 0))) ∧ Hid (Below w.heap.size w wx))
            case first => as_aux_lemma =>
              have S0 := (cells2 HS.out).1.1
              have S1 := (cells2 HS.out).1.2
              have S2 := (cells2 HS.out).2.1
              have S3 := (cells2 HS.out).2.2
              have Sl := blkLt HS.out
              have T0 := (cells2 HT.out).1.1
              have T1 := (cells2 HT.out).1.2
              have T2 := (cells2 HT.out).2.1
              have T3 := (cells2 HT.out).2.2
              have Tl := blkLt HT.out
              have z := fun w => run_sp_eq (mulM a b).1 (mulM a b).1 w
              rw [spEq_rfl] at z
              go_wp2_with fail
              go_meet
              exact ⟨rfl, HA, HB, HS, HT, HW⟩
            case rest => as_aux_lemma =>
              clear HW HA HB HS HT
              obtain ⟨rfl, HA, HB, HS, HT, HW⟩ := hcut
              go_upto_region 8 with fail
              go_cut [11] (fun s2 wx => s2 = .int .i64 (minM a b).2 ∧ Hid (wx.heap[w.heap.size]? = some (.cells #[.int .i64 (a.lo), .int .i64 (a.hi)] 23 (0, 0))) ∧ Hid (wx.heap[w.heap.size + 1]? = some (.cells #[.int .i64 (b.lo), .int .i64 (b.hi)] 23 (0, 0))) ∧ Hid (wx.heap[bS]? = some (.cells #[.int .i64 ((minM a b).1.lo), .int .i64 ((minM a b).1.hi)] 23 (0, 0))) ∧ Hid (wx.heap[bT]? = some (.cells #[.int .i64 ((mulM a b).1.lo), .int .i64 ((mulM a b).1.hi)] 23 (0, 0))) ∧ Hid (Below w.heap.size w wx))
              case first => as_aux_lemma =>
                have A0 := (cells2 HA.out).1.1
                have A1 := (cells2 HA.out).1.2
                have A2 := (cells2 HA.out).2.1
                have A3 := (cells2 HA.out).2.2
                have Al := blkLt HA.out
                have B0 := (cells2 HB.out).1.1
                have B1 := (cells2 HB.out).1.2
                have B2 := (cells2 HB.out).2.1
                have B3 := (cells2 HB.out).2.2
                have Bl := blkLt HB.out
                have S0 := (cells2 HS.out).1.1
                have S1 := (cells2 HS.out).1.2
                have S2 := (cells2 HS.out).2.1
                have S3 := (cells2 HS.out).2.2
                have Sl := blkLt HS.out
                have T0 := (cells2 HT.out).1.1
                have T1 := (cells2 HT.out).1.2
                have T2 := (cells2 HT.out).2.1
                have T3 := (cells2 HT.out).2.2
                have Tl := blkLt HT.out
                go_wp2_with (go_at_call 21; refine (Min_any a b _).mono ?_; rintro e wn ⟨rfl, hbn⟩; replace HW := Lib.hid (bCall (by (repeat with_reducible first | exact HW.out | apply bDrew | apply bAlloc)) hbn); replace HA := Lib.hid (moveX (by (repeat with_reducible first | exact Below.refl _ _ | apply bDrew | apply bAlloc)) hbn HA.out); replace HB := Lib.hid (moveX (by (repeat with_reducible first | exact Below.refl _ _ | apply bDrew | apply bAlloc)) hbn HB.out); replace HS := Lib.hid (moveX (by (repeat with_reducible first | exact Below.refl _ _ | apply bDrew | apply bAlloc)) hbn HS.out); replace HT := Lib.hid (moveX (by (repeat with_reducible first | exact Below.refl _ _ | apply bDrew | apply bAlloc)) hbn HT.out); replace A0 := (cells2 HA.out).1.1; replace A1 := (cells2 HA.out).1.2; replace A2 := (cells2 HA.out).2.1; replace A3 := (cells2 HA.out).2.2; replace Al := blkLt HA.out; replace B0 := (cells2 HB.out).1.1; replace B1 := (cells2 HB.out).1.2; replace B2 := (cells2 HB.out).2.1; replace B3 := (cells2 HB.out).2.2; replace Bl := blkLt HB.out; replace S0 := (cells2 HS.out).1.1; replace S1 := (cells2 HS.out).1.2; replace S2 := (cells2 HS.out).2.1; replace S3 := (cells2 HS.out).2.2; replace Sl := blkLt HS.out; replace T0 := (cells2 HT.out).1.1; replace T1 := (cells2 HT.out).1.2; replace T2 := (cells2 HT.out).2.1; replace T3 := (cells2 HT.out).2.2; replace Tl := blkLt HT.out; clear hbn)
                go_meet
                exact ⟨rfl, Lib.hid (setK HA.out (by omega)), Lib.hid (setK HB.out (by omega)), Lib.hid (res2 HS.out).1, Lib.hid (setK HT.out (by omega)), Lib.hid (below2 HW.out (by omega))⟩
              case rest => as_aux_lemma =>
                clear HW HA HB HS HT
                obtain ⟨rfl, HA, HB, HS, HT, HW⟩ := hcut
                go_upto_region 9 with fail
                go_cut [13] (fun s2 wx => s2 = .int .i64 (minM a b).2 ∧ Hid (wx.heap[w.heap.size]? = some (.cells #[.int .i64 (a.lo), .int .i64 (a.hi)] 23 (0, 0))) ∧ Hid (wx.heap[w.heap.size + 1]? = some (.cells #[.int .i64 (b.lo), .int .i64 (b.hi)] 23 (0, 0))) ∧ Hid (wx.heap[bS]? = some (.cells #[.int .i64 ((minM a b).1.lo), .int .i64 ((minM a b).1.hi)] 23 (0, 0))) ∧ Hid (wx.heap[bT]? = some (.cells #[.int .i64 ((minM a b).1.lo), .int .i64 ((minM a b).1.hi)] 23 (0, 0))) ∧ Hid (Below w.heap.size w wx))
                case first => as_aux_lemma =>
                  have A0 := (cells2 HA.out).1.1
                  have A1 := (cells2 HA.out).1.2
                  have A2 := (cells2 HA.out).2.1
                  have A3 := (cells2 HA.out).2.2
                  have Al := blkLt HA.out
                  have B0 := (cells2 HB.out).1.1
                  have B1 := (cells2 HB.out).1.2
                  have B2 := (cells2 HB.out).2.1
                  have B3 := (cells2 HB.out).2.2
                  have Bl := blkLt HB.out
                  have S0 := (cells2 HS.out).1.1
                  have S1 := (cells2 HS.out).1.2
                  have S2 := (cells2 HS.out).2.1
                  have S3 := (cells2 HS.out).2.2
                  have Sl := blkLt HS.out
                  have T0 := (cells2 HT.out).1.1
                  have T1 := (cells2 HT.out).1.2
                  have T2 := (cells2 HT.out).2.1
                  have T3 := (cells2 HT.out).2.2
                  have Tl := blkLt HT.out
                  go_wp2_with (go_at_call 21; refine (Min_sy a b _).mono ?_; rintro e wn ⟨rfl, hbn⟩; replace HW := Lib.hid (bCall (by (repeat with_reducible first | exact HW.out | apply bDrew | apply bAlloc)) hbn); replace HA := Lib.hid (moveX (by (repeat with_reducible first | exact Below.refl _ _ | apply bDrew | apply bAlloc)) hbn HA.out); replace HB := Lib.hid (moveX (by (repeat with_reducible first | exact Below.refl _ _ | apply bDrew | apply bAlloc)) hbn HB.out); replace HS := Lib.hid (moveX (by (repeat with_reducible first | exact Below.refl _ _ | apply bDrew | apply bAlloc)) hbn HS.out); replace HT := Lib.hid (moveX (by (repeat with_reducible first | exact Below.refl _ _ | apply bDrew | apply bAlloc)) hbn HT.out); replace A0 := (cells2 HA.out).1.1; replace A1 := (cells2 HA.out).1.2; replace A2 := (cells2 HA.out).2.1; replace A3 := (cells2 HA.out).2.2; replace Al := blkLt HA.out; replace B0 := (cells2 HB.out).1.1; replace B1 := (cells2 HB.out).1.2; replace B2 := (cells2 HB.out).2.1; replace B3 := (cells2 HB.out).2.2; replace Bl := blkLt HB.out; replace S0 := (cells2 HS.out).1.1; replace S1 := (cells2 HS.out).1.2; replace S2 := (cells2 HS.out).2.1; replace S3 := (cells2 HS.out).2.2; replace Sl := blkLt HS.out; replace T0 := (cells2 HT.out).1.1; replace T1 := (cells2 HT.out).1.2; replace T2 := (cells2 HT.out).2.1; replace T3 := (cells2 HT.out).2.2; replace Tl := blkLt HT.out; clear hbn)
                  go_meet
                  exact ⟨rfl, Lib.hid (setK HA.out (by omega)), Lib.hid (setK HB.out (by omega)), Lib.hid (setK HS.out (by omega)), Lib.hid (res2 HT.out).1, Lib.hid (below2 HW.out (by omega))⟩
                case rest => as_aux_lemma =>
                  clear HW HA HB HS HT
                  obtain ⟨rfl, HA, HB, HS, HT, HW⟩ := hcut
                  go_upto_region 10 with fail
                  go_cut [9] (fun s1 wx => s1 = .bool true ∧ Hid (wx.heap[w.heap.size]? = some (.cells #[.int .i64 (a.lo), .int .i64 (a.hi)] 23 (0, 0))) ∧ Hid (wx.heap[w.heap.size + 1]? = some (.cells #[.int .i64 (b.lo), .int .i64 (b.hi)] 23 (0, 0))) ∧ Hid (wx.heap[bS]? = some (.cells #[.int .i64 ((minM a b).1.lo), .int .i64 ((minM a b).1.hi)] 23 (0, 0))) ∧ Hid (wx.heap[bT]? = some (.cells #[.int .i64 ((minM a b).1.lo), .int .i64 ((minM a b).1.hi)] 23 (0, 0))) ∧ Hid (Below w.heap.size w wx))
                  case first => as_aux_lemma =>
                    have S0 := (cells2 HS.out).1.1
                    have S1 := (cells2 HS.out).1.2
                    have S2 := (cells2 HS.out).2.1
                    have S3 := (cells2 HS.out).2.2
                    have Sl := blkLt HS.out
                    have T0 := (cells2 HT.out).1.1
                    have T1 := (cells2 HT.out).1.2
                    have T2 := (cells2 HT.out).2.1
                    have T3 := (cells2 HT.out).2.2
                    have Tl := blkLt HT.out
                    have z := fun w => run_sp_eq (minM a b).1 (minM a b).1 w
                    rw [spEq_rfl] at z
                    go_wp2_with fail
                    go_meet
                    exact ⟨rfl, HA, HB, HS, HT, HW⟩
                  case rest => as_aux_lemma =>
                    clear HW HA HB HS HT
                    obtain ⟨rfl, HA, HB, HS, HT, HW⟩ := hcut
                    go_upto_region 11 with fail
                    go_cut [11] (fun s2 wx => s2 = .int .i64 (maxM a b).2 ∧ Hid (wx.heap[w.heap.size]? = some (.cells #[.int .i64 (a.lo), .int .i64 (a.hi)] 23 (0, 0))) ∧ Hid (wx.heap[w.heap.size + 1]? = some (.cells #[.int .i64 (b.lo), .int .i64 (b.hi)] 23 (0, 0))) ∧ Hid (wx.heap[bS]? = some (.cells #[.int .i64 ((maxM a b).1.lo), .int .i64 ((maxM a b).1.hi)] 23 (0, 0))) ∧ Hid (wx.heap[bT]? = some (.cells #[.int .i64 ((minM a b).1.lo), .int .i64 ((minM a b).1.hi)] 23 (0, 0))) ∧ Hid (Below w.heap.size w wx))
                    case first => as_aux_lemma =>
                      have A0 := (cells2 HA.out).1.1
                      have A1 := (cells2 HA.out).1.2
                      have A2 := (cells2 HA.out).2.1
                      have A3 := (cells2 HA.out).2.2
                      have Al := blkLt HA.out
                      have B0 := (cells2 HB.out).1.1
                      have B1 := (cells2 HB.out).1.2
                      have B2 := (cells2 HB.out).2.1
                      have B3 := (cells2 HB.out).2.2
                      have Bl := blkLt HB.out
                      have S0 := (cells2 HS.out).1.1
                      have S1 := (cells2 HS.out).1.2
                      have S2 := (cells2 HS.out).2.1
                      have S3 := (cells2 HS.out).2.2
                      have Sl := blkLt HS.out
                      have T0 := (cells2 HT.out).1.1
                      have T1 := (cells2 HT.out).1.2
                      have T2 := (cells2 HT.out).2.1
                      have T3 := (cells2 HT.out).2.2
                      have Tl := blkLt HT.out
                      go_wp2_with (go_at_call 23; refine (Max_any a b _).mono ?_; rintro e wn ⟨rfl, hbn⟩; replace HW := Lib.hid (bCall (by (repeat with_reducible first | exact HW.out | apply bDrew | apply bAlloc)) hbn); replace HA := Lib.hid (moveX (by (repeat with_reducible first | exact Below.refl _ _ | apply bDrew | apply bAlloc)) hbn HA.out); replace HB := Lib.hid (moveX (by (repeat with_reducible first | exact Below.refl _ _ | apply bDrew | apply bAlloc)) hbn HB.out); replace HS := Lib.hid (moveX (by (repeat with_reducible first | exact Below.refl _ _ | apply bDrew | apply bAlloc)) hbn HS.out); replace HT := Lib.hid (moveX (by (repeat with_reducible first | exact Below.refl _ _ | apply bDrew | apply bAlloc)) hbn HT.out); replace A0 := (cells2 HA.out).1.1; replace A1 := (cells2 HA.out).1.2; replace A2 := (cells2 HA.out).2.1; replace A3 := (cells2 HA.out).2.2; replace Al := blkLt HA.out; replace B0 := (cells2 HB.out).1.1; replace B1 := (cells2 HB.out).1.2; replace B2 := (cells2 HB.out).2.1; replace B3 := (cells2 HB.out).2.2; replace Bl := blkLt HB.out; replace S0 := (cells2 HS.out).1.1; replace S1 := (cells2 HS.out).1.2; replace S2 := (cells2 HS.out).2.1; replace S3 := (cells2 HS.out).2.2; replace Sl := blkLt HS.out; replace T0 := (cells2 HT.out).1.1; replace T1 := (cells2 HT.out).1.2; replace T2 := (cells2 HT.out).2.1; replace T3 := (cells2 HT.out).2.2; replace Tl := blkLt HT.out; clear hbn)
                      go_meet
                      exact ⟨rfl, Lib.hid (setK HA.out (by omega)), Lib.hid (setK HB.out (by omega)), Lib.hid (res2 HS.out).1, Lib.hid (setK HT.out (by omega)), Lib.hid (below2 HW.out (by omega))⟩
                    case rest => as_aux_lemma =>
                      clear HW HA HB HS HT
                      obtain ⟨rfl, HA, HB, HS, HT, HW⟩ := hcut
                      go_upto_region 12 with fail
                      go_cut [13] (fun s2 wx => s2 = .int .i64 (maxM a b).2 ∧ Hid (wx.heap[w.heap.size]? = some (.cells #[.int .i64 (a.lo), .int .i64 (a.hi)] 23 (0, 0))) ∧ Hid (wx.heap[w.heap.size + 1]? = some (.cells #[.int .i64 (b.lo), .int .i64 (b.hi)] 23 (0, 0))) ∧ Hid (wx.heap[bS]? = some (.cells #[.int .i64 ((maxM a b).1.lo), .int .i64 ((maxM a b).1.hi)] 23 (0, 0))) ∧ Hid (wx.heap[bT]? = some (.cells #[.int .i64 ((maxM a b).1.lo), .int .i64 ((maxM a b).1.hi)] 23 (0, 0))) ∧ Hid (Below w.heap.size w wx))
                      case first => as_aux_lemma =>
                        have A0 := (cells2 HA.out).1.1
                        have A1 := (cells2 HA.out).1.2
                        have A2 := (cells2 HA.out).2.1
                        have A3 := (cells2 HA.out).2.2
                        have Al := blkLt HA.out
                        have B0 := (cells2 HB.out).1.1
                        have B1 := (cells2 HB.out).1.2
                        have B2 := (cells2 HB.out).2.1
                        have B3 := (cells2 HB.out).2.2
                        have Bl := blkLt HB.out
                        have S0 := (cells2 HS.out).1.1
                        have S1 := (cells2 HS.out).1.2
                        have S2 := (cells2 HS.out).2.1
                        have S3 := (cells2 HS.out).2.2
                        have Sl := blkLt HS.out
                        have T0 := (cells2 HT.out).1.1
                        have T1 := (cells2 HT.out).1.2
                        have T2 := (cells2 HT.out).2.1
                        have T3 := (cells2 HT.out).2.2
                        have Tl := blkLt HT.out
                        go_wp2_with (go_at_call 23; refine (Max_sy a b _).mono ?_; rintro e wn ⟨rfl, hbn⟩; replace HW := Lib.hid (bCall (by (repeat with_reducible first | exact HW.out | apply bDrew | apply bAlloc)) hbn); replace HA := Lib.hid (moveX (by (repeat with_reducible first | exact Below.refl _ _ | apply bDrew | apply bAlloc)) hbn HA.out); replace HB := Lib.hid (moveX (by (repeat with_reducible first | exact Below.refl _ _ | apply bDrew | apply bAlloc)) hbn HB.out); replace HS := Lib.hid (moveX (by (repeat with_reducible first | exact Below.refl _ _ | apply bDrew | apply bAlloc)) hbn HS.out); replace HT := Lib.hid (moveX (by (repeat with_reducible first | exact Below.refl _ _ | apply bDrew | apply bAlloc)) hbn HT.out); replace A0 := (cells2 HA.out).1.1; replace A1 := (cells2 HA.out).1.2; replace A2 := (cells2 HA.out).2.1; replace A3 := (cells2 HA.out).2.2; replace Al := blkLt HA.out; replace B0 := (cells2 HB.out).1.1; replace B1 := (cells2 HB.out).1.2; replace B2 := (cells2 HB.out).2.1; replace B3 := (cells2 HB.out).2.2; replace Bl := blkLt HB.out; replace S0 := (cells2 HS.out).1.1; replace S1 := (cells2 HS.out).1.2; replace S2 := (cells2 HS.out).2.1; replace S3 := (cells2 HS.out).2.2; replace Sl := blkLt HS.out; replace T0 := (cells2 HT.out).1.1; replace T1 := (cells2 HT.out).1.2; replace T2 := (cells2 HT.out).2.1; replace T3 := (cells2 HT.out).2.2; replace Tl := blkLt HT.out; clear hbn)
                        go_meet
                        exact ⟨rfl, Lib.hid (setK HA.out (by omega)), Lib.hid (setK HB.out (by omega)), Lib.hid (setK HS.out (by omega)), Lib.hid (res2 HT.out).1, Lib.hid (below2 HW.out (by omega))⟩
                      case rest => as_aux_lemma =>
                        clear HW HA HB HS HT
                        obtain ⟨rfl, HA, HB, HS, HT, HW⟩ := hcut
                        go_upto_region 13 with fail
                        go_cut [9] (fun s1 wx => s1 = .bool true ∧ Hid (wx.heap[w.heap.size]? = some (.cells #[.int .i64 (a.lo), .int .i64 (a.hi)] 23 (0, 0))) ∧ Hid (wx.heap[w.heap.size + 1]? = some (.cells #[.int .i64 (b.lo), .int .i64 (b.hi)] 23 (0, 0))) ∧ Hid (wx.heap[bS]? = some (.cells #[.int .i64 ((maxM a b).1.lo), .int .i64 ((maxM a b).1.hi)] 23 (0, 0))) ∧ Hid (wx.heap[bT]? = some (.cells #[.int .i64 ((maxM a b).1.lo), .int .i64 ((maxM a b).1.hi)] 23 (0, 0))) ∧ Hid (Below w.heap.size w wx))
                        case first => as_aux_lemma =>
                          have S0 := (cells2 HS.out).1.1
                          have S1 := (cells2 HS.out).1.2
                          have S2 := (cells2 HS.out).2.1
                          have S3 := (cells2 HS.out).2.2
                          have Sl := blkLt HS.out
                          have T0 := (cells2 HT.out).1.1
                          have T1 := (cells2 HT.out).1.2
                          have T2 := (cells2 HT.out).2.1
                          have T3 := (cells2 HT.out).2.2
                          have Tl := blkLt HT.out
                          have z := fun w => run_sp_eq (maxM a b).1 (maxM a b).1 w
                          rw [spEq_rfl] at z
                          go_wp2_with fail
                          go_meet
                          exact ⟨rfl, HA, HB, HS, HT, HW⟩
                        case rest => as_aux_lemma =>
                          clear HW HA HB HS HT
                          obtain ⟨rfl, HA, HB, HS, HT, HW⟩ := hcut
                          go_upto_region 14 with fail
                          go_cut [11] (fun s2 wx => s2 = .int .i64 (joinM a b).2 ∧ Hid (wx.heap[w.heap.size]? = some (.cells #[.int .i64 (a.lo), .int .i64 (a.hi)] 23 (0, 0))) ∧ Hid (wx.heap[w.heap.size + 1]? = some (.cells #[.int .i64 (b.lo), .int .i64 (b.hi)] 23 (0, 0))) ∧ Hid (wx.heap[bS]? = some (.cells #[.int .i64 ((joinM a b).1.lo), .int .i64 ((joinM a b).1.hi)] 23 (0, 0))) ∧ Hid (wx.heap[bT]? = some (.cells #[.int .i64 ((maxM a b).1.lo), .int .i64 ((maxM a b).1.hi)] 23 (0, 0))) ∧ Hid (Below w.heap.size w wx))
                          case first => as_aux_lemma =>
                            have A0 := (cells2 HA.out).1.1
                            have A1 := (cells2 HA.out).1.2
                            have A2 := (cells2 HA.out).2.1
                            have A3 := (cells2 HA.out).2.2
                            have Al := blkLt HA.out
                            have B0 := (cells2 HB.out).1.1
                            have B1 := (cells2 HB.out).1.2
                            have B2 := (cells2 HB.out).2.1
                            have B3 := (cells2 HB.out).2.2
                            have Bl := blkLt HB.out
                            have S0 := (cells2 HS.out).1.1
                            have S1 := (cells2 HS.out).1.2
                            have S2 := (cells2 HS.out).2.1
                            have S3 := (cells2 HS.out).2.2
                            have Sl := blkLt HS.out
                            have T0 := (cells2 HT.out).1.1
                            have T1 := (cells2 HT.out).1.2
                            have T2 := (cells2 HT.out).2.1
                            have T3 := (cells2 HT.out).2.2
                            have Tl := blkLt HT.out
                            go_wp2_with (go_at_call 25; refine (Join_any a b _).mono ?_; rintro e wn ⟨rfl, hbn⟩; replace HW := Lib.hid (bCall (by (repeat with_reducible first | exact HW.out | apply bDrew | apply bAlloc)) hbn); replace HA := Lib.hid (moveX (by (repeat with_reducible first | exact Below.refl _ _ | apply bDrew | apply bAlloc)) hbn HA.out); replace HB := Lib.hid (moveX (by (repeat with_reducible first | exact Below.refl _ _ | apply bDrew | apply bAlloc)) hbn HB.out); replace HS := Lib.hid (moveX (by (repeat with_reducible first | exact Below.refl _ _ | apply bDrew | apply bAlloc)) hbn HS.out); replace HT := Lib.hid (moveX (by (repeat with_reducible first | exact Below.refl _ _ | apply bDrew | apply bAlloc)) hbn HT.out); replace A0 := (cells2 HA.out).1.1; replace A1 := (cells2 HA.out).1.2; replace A2 := (cells2 HA.out).2.1; replace A3 := (cells2 HA.out).2.2; replace Al := blkLt HA.out; replace B0 := (cells2 HB.out).1.1; replace B1 := (cells2 HB.out).1.2; replace B2 := (cells2 HB.out).2.1; replace B3 := (cells2 HB.out).2.2; replace Bl := blkLt HB.out; replace S0 := (cells2 HS.out).1.1; replace S1 := (cells2 HS.out).1.2; replace S2 := (cells2 HS.out).2.1; replace S3 := (cells2 HS.out).2.2; replace Sl := blkLt HS.out; replace T0 := (cells2 HT.out).1.1; replace T1 := (cells2 HT.out).1.2; replace T2 := (cells2 HT.out).2.1; replace T3 := (cells2 HT.out).2.2; replace Tl := blkLt HT.out; clear hbn)
                            go_meet
                            exact ⟨rfl, Lib.hid (setK HA.out (by omega)), Lib.hid (setK HB.out (by omega)), Lib.hid (res2 HS.out).1, Lib.hid (setK HT.out (by omega)), Lib.hid (below2 HW.out (by omega))⟩
                          case rest => as_aux_lemma =>
                            clear HW HA HB HS HT
                            obtain ⟨rfl, HA, HB, HS, HT, HW⟩ := hcut
                            go_upto_region 15 with fail
                            go_cut [13] (fun s2 wx => s2 = .int .i64 (joinM a b).2 ∧ Hid (wx.heap[w.heap.size]? = some (.cells #[.int .i64 (a.lo), .int .i64 (a.hi)] 23 (0, 0))) ∧ Hid (wx.heap[w.heap.size + 1]? = some (.cells #[.int .i64 (b.lo), .int .i64 (b.hi)] 23 (0, 0))) ∧ Hid (wx.heap[bS]? = some (.cells #[.int .i64 ((joinM a b).1.lo), .int .i64 ((joinM a b).1.hi)] 23 (0, 0))) ∧ Hid (wx.heap[bT]? = some (.cells #[.int .i64 ((joinM a b).1.lo), .int .i64 ((joinM a b).1.hi)] 23 (0, 0))) ∧ Hid (Below w.heap.size w wx))
                            case first => as_aux_lemma =>
                              have A0 := (cells2 HA.out).1.1
                              have A1 := (cells2 HA.out).1.2
                              have A2 := (cells2 HA.out).2.1
                              have A3 := (cells2 HA.out).2.2
                              have Al := blkLt HA.out
                              have B0 := (cells2 HB.out).1.1
                              have B1 := (cells2 HB.out).1.2
                              have B2 := (cells2 HB.out).2.1
                              have B3 := (cells2 HB.out).2.2
                              have Bl := blkLt HB.out
                              have S0 := (cells2 HS.out).1.1
                              have S1 := (cells2 HS.out).1.2
                              have S2 := (cells2 HS.out).2.1
                              have S3 := (cells2 HS.out).2.2
                              have Sl := blkLt HS.out
                              have T0 := (cells2 HT.out).1.1
                              have T1 := (cells2 HT.out).1.2
                              have T2 := (cells2 HT.out).2.1
                              have T3 := (cells2 HT.out).2.2
                              have Tl := blkLt HT.out
                              go_wp2_with (go_at_call 25; refine (Join_sy a b _).mono ?_; rintro e wn ⟨rfl, hbn⟩; replace HW := Lib.hid (bCall (by (repeat with_reducible first | exact HW.out | apply bDrew | apply bAlloc)) hbn); replace HA := Lib.hid (moveX (by (repeat with_reducible first | exact Below.refl _ _ | apply bDrew | apply bAlloc)) hbn HA.out); replace HB := Lib.hid (moveX (by (repeat with_reducible first | exact Below.refl _ _ | apply bDrew | apply bAlloc)) hbn HB.out); replace HS := Lib.hid (moveX (by (repeat with_reducible first | exact Below.refl _ _ | apply bDrew | apply bAlloc)) hbn HS.out); replace HT := Lib.hid (moveX (by (repeat with_reducible first | exact Below.refl _ _ | apply bDrew | apply bAlloc)) hbn HT.out); replace A0 := (cells2 HA.out).1.1; replace A1 := (cells2 HA.out).1.2; replace A2 := (cells2 HA.out).2.1; replace A3 := (cells2 HA.out).2.2; replace Al := blkLt HA.out; replace B0 := (cells2 HB.out).1.1; replace B1 := (cells2 HB.out).1.2; replace B2 := (cells2 HB.out).2.1; replace B3 := (cells2 HB.out).2.2; replace Bl := blkLt HB.out; replace S0 := (cells2 HS.out).1.1; replace S1 := (cells2 HS.out).1.2; replace S2 := (cells2 HS.out).2.1; replace S3 := (cells2 HS.out).2.2; replace Sl := blkLt HS.out; replace T0 := (cells2 HT.out).1.1; replace T1 := (cells2 HT.out).1.2; replace T2 := (cells2 HT.out).2.1; replace T3 := (cells2 HT.out).2.2; replace Tl := blkLt HT.out; clear hbn)
                              go_meet
                              exact ⟨rfl, Lib.hid (setK HA.out (by omega)), Lib.hid (setK HB.out (by omega)), Lib.hid (setK HS.out (by omega)), Lib.hid (res2 HT.out).1, Lib.hid (below2 HW.out (by omega))⟩
                            case rest => as_aux_lemma =>
                              clear HW HA HB HS HT
                              obtain ⟨rfl, HA, HB, HS, HT, HW⟩ := hcut
                              go_upto_region 16 with fail
                              go_cut [9] (fun s1 wx => s1 = .bool true ∧ Hid (wx.heap[w.heap.size]? = some (.cells #[.int .i64 (a.lo), .int .i64 (a.hi)] 23 (0, 0))) ∧ Hid (wx.heap[w.heap.size + 1]? = some (.cells #[.int .i64 (b.lo), .int .i64 (b.hi)] 23 (0, 0))) ∧ Hid (wx.heap[bS]? = some (.cells #[.int .i64 ((joinM a b).1.lo), .int .i64 ((joinM a b).1.hi)] 23 (0, 0))) ∧ Hid (wx.heap[bT]? = some (.cells #[.int .i64 ((joinM a b).1.lo), .int .i64 ((joinM a b).1.hi)] 23 (0, 0))) ∧ Hid (Below w.heap.size w wx))
                              case first => as_aux_lemma =>
                                have S0 := (cells2 HS.out).1.1
                                have S1 := (cells2 HS.out).1.2
                                have S2 := (cells2 HS.out).2.1
                                have S3 := (cells2 HS.out).2.2
                                have Sl := blkLt HS.out
                                have T0 := (cells2 HT.out).1.1
                                have T1 := (cells2 HT.out).1.2
                                have T2 := (cells2 HT.out).2.1
                                have T3 := (cells2 HT.out).2.2
                                have Tl := blkLt HT.out
                                have z := fun w => run_sp_eq (joinM a b).1 (joinM a b).1 w
                                rw [spEq_rfl] at z
                                go_wp2_with fail
                                go_meet
                                exact ⟨rfl, HA, HB, HS, HT, HW⟩
                              case rest => as_aux_lemma =>
                                clear HW HA HB HS HT
                                obtain ⟨rfl, HA, HB, HS, HT, HW⟩ := hcut
                                go_upto_region 17 with fail
                                have A0 := (cells2 HA.out).1.1
                                have A1 := (cells2 HA.out).1.2
                                have A2 := (cells2 HA.out).2.1
                                have A3 := (cells2 HA.out).2.2
                                have Al := blkLt HA.out
                                have B0 := (cells2 HB.out).1.1
                                have B1 := (cells2 HB.out).1.2
                                have B2 := (cells2 HB.out).2.1
                                have B3 := (cells2 HB.out).2.2
                                have Bl := blkLt HB.out
                                have S0 := (cells2 HS.out).1.1
                                have S1 := (cells2 HS.out).1.2
                                have S2 := (cells2 HS.out).2.1
                                have S3 := (cells2 HS.out).2.2
                                have Sl := blkLt HS.out
                                have T0 := (cells2 HT.out).1.1
                                have T1 := (cells2 HT.out).1.2
                                have T2 := (cells2 HT.out).2.1
                                have T3 := (cells2 HT.out).2.2
                                have Tl := blkLt HT.out
                                go_upto_region 19 with (go_at_call 28; refine (hVa.out _).mono ?_; rintro e wn ⟨rfl, hbn⟩; replace HW := Lib.hid (bCall (by (repeat with_reducible first | exact HW.out | apply bDrew | apply bAlloc)) hbn); replace HA := Lib.hid (moveX (by (repeat with_reducible first | exact Below.refl _ _ | apply bDrew | apply bAlloc)) hbn HA.out); replace HB := Lib.hid (moveX (by (repeat with_reducible first | exact Below.refl _ _ | apply bDrew | apply bAlloc)) hbn HB.out); replace HS := Lib.hid (moveX (by (repeat with_reducible first | exact Below.refl _ _ | apply bDrew | apply bAlloc)) hbn HS.out); replace HT := Lib.hid (moveX (by (repeat with_reducible first | exact Below.refl _ _ | apply bDrew | apply bAlloc)) hbn HT.out); replace A0 := (cells2 HA.out).1.1; replace A1 := (cells2 HA.out).1.2; replace A2 := (cells2 HA.out).2.1; replace A3 := (cells2 HA.out).2.2; replace Al := blkLt HA.out; replace B0 := (cells2 HB.out).1.1; replace B1 := (cells2 HB.out).1.2; replace B2 := (cells2 HB.out).2.1; replace B3 := (cells2 HB.out).2.2; replace Bl := blkLt HB.out; replace S0 := (cells2 HS.out).1.1; replace S1 := (cells2 HS.out).1.2; replace S2 := (cells2 HS.out).2.1; replace S3 := (cells2 HS.out).2.2; replace Sl := blkLt HS.out; replace T0 := (cells2 HT.out).1.1; replace T1 := (cells2 HT.out).1.2; replace T2 := (cells2 HT.out).2.1; replace T3 := (cells2 HT.out).2.2; replace Tl := blkLt HT.out; clear hbn)
                                clear A0 A1 A2 A3 Al B0 B1 B2 B3 Bl S0 S1 S2 S3 Sl T0 T1 T2 T3 Tl
                                go_cut [14] (fun s1 wx => ∃ bC : Nat, s1 = .pointer (some ⟨bC, 0, none⟩) ∧ bT < bC ∧ Hid (wx.heap[w.heap.size]? = some (.cells #[.int .i64 (a.lo), .int .i64 (a.hi)] 23 (0, 0))) ∧ Hid (wx.heap[w.heap.size + 1]? = some (.cells #[.int .i64 (b.lo), .int .i64 (b.hi)] 23 (0, 0))) ∧ Hid (wx.heap[bS]? = some (.cells #[.int .i64 ((joinM a b).1.lo), .int .i64 ((joinM a b).1.hi)] 23 (0, 0))) ∧ Hid (wx.heap[bT]? = some (.cells #[.int .i64 ((joinM a b).1.lo), .int .i64 ((joinM a b).1.hi)] 23 (0, 0))) ∧ Hid (wx.heap[bC]? = some (.cells #[.int .i64 (c.lo), .int .i64 (c.hi)] 23 (0, 0))) ∧ Hid (Below w.heap.size w wx))
                                case first => as_aux_lemma =>
                                  have A0 := (cells2 HA.out).1.1
                                  have A1 := (cells2 HA.out).1.2
                                  have A2 := (cells2 HA.out).2.1
                                  have A3 := (cells2 HA.out).2.2
                                  have Al := blkLt HA.out
                                  have B0 := (cells2 HB.out).1.1
                                  have B1 := (cells2 HB.out).1.2
                                  have B2 := (cells2 HB.out).2.1
                                  have B3 := (cells2 HB.out).2.2
                                  have Bl := blkLt HB.out
                                  have S0 := (cells2 HS.out).1.1
                                  have S1 := (cells2 HS.out).1.2
                                  have S2 := (cells2 HS.out).2.1
                                  have S3 := (cells2 HS.out).2.2
                                  have Sl := blkLt HS.out
                                  have T0 := (cells2 HT.out).1.1
                                  have T1 := (cells2 HT.out).1.2
                                  have T2 := (cells2 HT.out).2.1
                                  have T3 := (cells2 HT.out).2.2
                                  have Tl := blkLt HT.out
                                  go_region_held3 (fun w' => w'.cell? ⟨w.heap.size, 0, none⟩ = some (.int .i64 a.lo) ∧ w'.cell? ⟨w.heap.size, 1, none⟩ = some (.int .i64 a.hi))
                                    (first | (with_reducible exact ⟨A0, A1⟩) | (with_reducible exact ⟨(far2 (by omega)).trans A0, (far2 (by omega)).trans A1⟩) | go_keep)
                                    (first
                                    | (go_at_call_of 29 (Value.int IntKind.u64 m); refine (hPm.out _).mono ?_; rintro e wn ⟨rfl, hbn⟩; (try clear u0 u1 u2 u3 ul); (first | (with_reducible have hU := Lib.hid (newU (o := (.cells #[.int .i64 0, .int .i64 0] 23 (0, 0))) hbn)) | (with_reducible have hU := Lib.hid (newUd (o := (.cells #[.int .i64 0, .int .i64 0] 23 (0, 0))) hbn)) | (have hU := Lib.hid (moveX (by (repeat with_reducible first | exact Below.refl _ _ | apply bDrew | apply bAlloc)) hbn hU.out)) | skip); (first | (have u0 := (cells2 hU.out).1.1; have u1 := (cells2 hU.out).1.2; have u2 := (cells2 hU.out).2.1; have u3 := (cells2 hU.out).2.2; have ul := blkLt hU.out) | skip); have Az := Al; have Bz := Bl; have Sz := Sl; have Tz := Tl; replace HW := Lib.hid (bCall (by (repeat with_reducible first | exact HW.out | apply bDrew | apply bAlloc)) hbn); replace HA := Lib.hid (moveX (by (repeat with_reducible first | exact Below.refl _ _ | apply bDrew | apply bAlloc)) hbn HA.out); replace HB := Lib.hid (moveX (by (repeat with_reducible first | exact Below.refl _ _ | apply bDrew | apply bAlloc)) hbn HB.out); replace HS := Lib.hid (moveX (by (repeat with_reducible first | exact Below.refl _ _ | apply bDrew | apply bAlloc)) hbn HS.out); replace HT := Lib.hid (moveX (by (repeat with_reducible first | exact Below.refl _ _ | apply bDrew | apply bAlloc)) hbn HT.out); replace A0 := (cells2 HA.out).1.1; replace A1 := (cells2 HA.out).1.2; replace A2 := (cells2 HA.out).2.1; replace A3 := (cells2 HA.out).2.2; replace Al := blkLt HA.out; replace B0 := (cells2 HB.out).1.1; replace B1 := (cells2 HB.out).1.2; replace B2 := (cells2 HB.out).2.1; replace B3 := (cells2 HB.out).2.2; replace Bl := blkLt HB.out; replace S0 := (cells2 HS.out).1.1; replace S1 := (cells2 HS.out).1.2; replace S2 := (cells2 HS.out).2.1; replace S3 := (cells2 HS.out).2.2; replace Sl := blkLt HS.out; replace T0 := (cells2 HT.out).1.1; replace T1 := (cells2 HT.out).1.2; replace T2 := (cells2 HT.out).2.1; replace T3 := (cells2 HT.out).2.2; replace Tl := blkLt HT.out; clear hbn)
                                    | (go_at_call_of 29 (Value.int IntKind.u64 n); refine (hPn.out _).mono ?_; rintro e wn ⟨rfl, hbn⟩; (try clear u0 u1 u2 u3 ul); (first | (with_reducible have hU := Lib.hid (newU (o := (.cells #[.int .i64 0, .int .i64 0] 23 (0, 0))) hbn)) | (with_reducible have hU := Lib.hid (newUd (o := (.cells #[.int .i64 0, .int .i64 0] 23 (0, 0))) hbn)) | (have hU := Lib.hid (moveX (by (repeat with_reducible first | exact Below.refl _ _ | apply bDrew | apply bAlloc)) hbn hU.out)) | skip); (first | (have u0 := (cells2 hU.out).1.1; have u1 := (cells2 hU.out).1.2; have u2 := (cells2 hU.out).2.1; have u3 := (cells2 hU.out).2.2; have ul := blkLt hU.out) | skip); have Az := Al; have Bz := Bl; have Sz := Sl; have Tz := Tl; replace HW := Lib.hid (bCall (by (repeat with_reducible first | exact HW.out | apply bDrew | apply bAlloc)) hbn); replace HA := Lib.hid (moveX (by (repeat with_reducible first | exact Below.refl _ _ | apply bDrew | apply bAlloc)) hbn HA.out); replace HB := Lib.hid (moveX (by (repeat with_reducible first | exact Below.refl _ _ | apply bDrew | apply bAlloc)) hbn HB.out); replace HS := Lib.hid (moveX (by (repeat with_reducible first | exact Below.refl _ _ | apply bDrew | apply bAlloc)) hbn HS.out); replace HT := Lib.hid (moveX (by (repeat with_reducible first | exact Below.refl _ _ | apply bDrew | apply bAlloc)) hbn HT.out); replace A0 := (cells2 HA.out).1.1; replace A1 := (cells2 HA.out).1.2; replace A2 := (cells2 HA.out).2.1; replace A3 := (cells2 HA.out).2.2; replace Al := blkLt HA.out; replace B0 := (cells2 HB.out).1.1; replace B1 := (cells2 HB.out).1.2; replace B2 := (cells2 HB.out).2.1; replace B3 := (cells2 HB.out).2.2; replace Bl := blkLt HB.out; replace S0 := (cells2 HS.out).1.1; replace S1 := (cells2 HS.out).1.2; replace S2 := (cells2 HS.out).2.1; replace S3 := (cells2 HS.out).2.2; replace Sl := blkLt HS.out; replace T0 := (cells2 HT.out).1.1; replace T1 := (cells2 HT.out).1.2; replace T2 := (cells2 HT.out).2.1; replace T3 := (cells2 HT.out).2.2; replace Tl := blkLt HT.out; clear hbn)
                                    | (go_at_call_of 32 (Value.int IntKind.i64 c.lo); refine (span_any c.lo c.hi _).mono ?_; rintro e wn ⟨rfl, hbn⟩; (try clear u0 u1 u2 u3 ul); (first | (with_reducible have hU := Lib.hid (newU (o := (.cells #[.int .i64 0, .int .i64 0] 23 (0, 0))) hbn)) | (with_reducible have hU := Lib.hid (newUd (o := (.cells #[.int .i64 0, .int .i64 0] 23 (0, 0))) hbn)) | (have hU := Lib.hid (moveX (by (repeat with_reducible first | exact Below.refl _ _ | apply bDrew | apply bAlloc)) hbn hU.out)) | skip); (first | (have u0 := (cells2 hU.out).1.1; have u1 := (cells2 hU.out).1.2; have u2 := (cells2 hU.out).2.1; have u3 := (cells2 hU.out).2.2; have ul := blkLt hU.out) | skip); have Az := Al; have Bz := Bl; have Sz := Sl; have Tz := Tl; replace HW := Lib.hid (bCall (by (repeat with_reducible first | exact HW.out | apply bDrew | apply bAlloc)) hbn); replace HA := Lib.hid (moveX (by (repeat with_reducible first | exact Below.refl _ _ | apply bDrew | apply bAlloc)) hbn HA.out); replace HB := Lib.hid (moveX (by (repeat with_reducible first | exact Below.refl _ _ | apply bDrew | apply bAlloc)) hbn HB.out); replace HS := Lib.hid (moveX (by (repeat with_reducible first | exact Below.refl _ _ | apply bDrew | apply bAlloc)) hbn HS.out); replace HT := Lib.hid (moveX (by (repeat with_reducible first | exact Below.refl _ _ | apply bDrew | apply bAlloc)) hbn HT.out); replace A0 := (cells2 HA.out).1.1; replace A1 := (cells2 HA.out).1.2; replace A2 := (cells2 HA.out).2.1; replace A3 := (cells2 HA.out).2.2; replace Al := blkLt HA.out; replace B0 := (cells2 HB.out).1.1; replace B1 := (cells2 HB.out).1.2; replace B2 := (cells2 HB.out).2.1; replace B3 := (cells2 HB.out).2.2; replace Bl := blkLt HB.out; replace S0 := (cells2 HS.out).1.1; replace S1 := (cells2 HS.out).1.2; replace S2 := (cells2 HS.out).2.1; replace S3 := (cells2 HS.out).2.2; replace Sl := blkLt HS.out; replace T0 := (cells2 HT.out).1.1; replace T1 := (cells2 HT.out).1.2; replace T2 := (cells2 HT.out).2.1; replace T3 := (cells2 HT.out).2.2; replace Tl := blkLt HT.out; clear hbn))
                                  all_goals go_wp2_with fail
                                  all_goals go_meet
                                  all_goals first
                                    | (have hq := hU; exact ⟨_, rfl, by omega, Lib.hid (setK HA.out (by omega)), Lib.hid (setK HB.out (by omega)), Lib.hid (setK HS.out (by omega)), Lib.hid (setK HT.out (by omega)), Lib.hid (res2 hU.out).1, Lib.hid (below2 HW.out (by omega))⟩)
                                    | exact ⟨_, rfl, by omega, Lib.hid (mvAlloc HA.out), Lib.hid (mvAlloc HB.out), Lib.hid (mvAlloc HS.out), Lib.hid (mvAlloc HT.out), Lib.hid (newBlk _ _ _ rfl), Lib.hid (bAlloc HW.out)⟩
                                case rest => as_aux_lemma =>
                                  clear HW HA HB HS HT
                                  obtain ⟨bC, rfl, hCn, HA, HB, HS, HT, HC, HW⟩ := hcut
                                  clear hPm hPn e1 e2
                                  go_upto_region 20 with fail
                                  go_cut [11] (fun s2 wx => s2 = .int .i64 0 ∧ Hid (wx.heap[w.heap.size]? = some (.cells #[.int .i64 (a.lo), .int .i64 (a.hi)] 23 (0, 0))) ∧ Hid (wx.heap[w.heap.size + 1]? = some (.cells #[.int .i64 (b.lo), .int .i64 (b.hi)] 23 (0, 0))) ∧ Hid (wx.heap[bS]? = some (.cells #[.int .i64 (a.lo), .int .i64 (a.hi)] 23 (0, 0))) ∧ Hid (wx.heap[bT]? = some (.cells #[.int .i64 ((joinM a b).1.lo), .int .i64 ((joinM a b).1.hi)] 23 (0, 0))) ∧ Hid (wx.heap[bC]? = some (.cells #[.int .i64 (c.lo), .int .i64 (c.hi)] 23 (0, 0))) ∧ Hid (Below w.heap.size w wx))
                                  case first => as_aux_lemma =>
                                    have A0 := (cells2 HA.out).1.1
                                    have A1 := (cells2 HA.out).1.2
                                    have A2 := (cells2 HA.out).2.1
                                    have A3 := (cells2 HA.out).2.2
                                    have Al := blkLt HA.out
                                    have B0 := (cells2 HB.out).1.1
                                    have B1 := (cells2 HB.out).1.2
                                    have B2 := (cells2 HB.out).2.1
                                    have B3 := (cells2 HB.out).2.2
                                    have Bl := blkLt HB.out
                                    have S0 := (cells2 HS.out).1.1
                                    have S1 := (cells2 HS.out).1.2
                                    have S2 := (cells2 HS.out).2.1
                                    have S3 := (cells2 HS.out).2.2
                                    have Sl := blkLt HS.out
                                    have T0 := (cells2 HT.out).1.1
                                    have T1 := (cells2 HT.out).1.2
                                    have T2 := (cells2 HT.out).2.1
                                    have T3 := (cells2 HT.out).2.2
                                    have Tl := blkLt HT.out
                                    have C0 := (cells2 HC.out).1.1
                                    have C1 := (cells2 HC.out).1.2
                                    have C2 := (cells2 HC.out).2.1
                                    have C3 := (cells2 HC.out).2.2
                                    have Cl := blkLt HC.out
                                    go_wp2_with (go_at_call 25; refine (hJ.out _).mono ?_; rintro e wn ⟨rfl, hbn⟩; replace HW := Lib.hid (bCall (by (repeat with_reducible first | exact HW.out | apply bDrew | apply bAlloc)) hbn); replace HA := Lib.hid (moveX (by (repeat with_reducible first | exact Below.refl _ _ | apply bDrew | apply bAlloc)) hbn HA.out); replace HB := Lib.hid (moveX (by (repeat with_reducible first | exact Below.refl _ _ | apply bDrew | apply bAlloc)) hbn HB.out); replace HS := Lib.hid (moveX (by (repeat with_reducible first | exact Below.refl _ _ | apply bDrew | apply bAlloc)) hbn HS.out); replace HT := Lib.hid (moveX (by (repeat with_reducible first | exact Below.refl _ _ | apply bDrew | apply bAlloc)) hbn HT.out); replace HC := Lib.hid (moveX (by (repeat with_reducible first | exact Below.refl _ _ | apply bDrew | apply bAlloc)) hbn HC.out); replace A0 := (cells2 HA.out).1.1; replace A1 := (cells2 HA.out).1.2; replace A2 := (cells2 HA.out).2.1; replace A3 := (cells2 HA.out).2.2; replace Al := blkLt HA.out; replace B0 := (cells2 HB.out).1.1; replace B1 := (cells2 HB.out).1.2; replace B2 := (cells2 HB.out).2.1; replace B3 := (cells2 HB.out).2.2; replace Bl := blkLt HB.out; replace S0 := (cells2 HS.out).1.1; replace S1 := (cells2 HS.out).1.2; replace S2 := (cells2 HS.out).2.1; replace S3 := (cells2 HS.out).2.2; replace Sl := blkLt HS.out; replace T0 := (cells2 HT.out).1.1; replace T1 := (cells2 HT.out).1.2; replace T2 := (cells2 HT.out).2.1; replace T3 := (cells2 HT.out).2.2; replace Tl := blkLt HT.out; replace C0 := (cells2 HC.out).1.1; replace C1 := (cells2 HC.out).1.2; replace C2 := (cells2 HC.out).2.1; replace C3 := (cells2 HC.out).2.2; replace Cl := blkLt HC.out; clear hbn)
                                    go_meet
                                    exact ⟨rfl, Lib.hid (setK HA.out (by omega)), Lib.hid (setK HB.out (by omega)), Lib.hid (res2 HS.out).1, Lib.hid (setK HT.out (by omega)), Lib.hid (setK HC.out (by omega)), Lib.hid (below2 HW.out (by omega))⟩
                                  case rest => as_aux_lemma =>
                                    clear HW HA HB HS HT HC
                                    obtain ⟨rfl, HA, HB, HS, HT, HC, HW⟩ := hcut
                                    go_upto_region 21 with fail
                                    have A0 := (cells2 HA.out).1.1
                                    have A1 := (cells2 HA.out).1.2
                                    have A2 := (cells2 HA.out).2.1
                                    have A3 := (cells2 HA.out).2.2
                                    have Al := blkLt HA.out
                                    have S0 := (cells2 HS.out).1.1
                                    have S1 := (cells2 HS.out).1.2
                                    have S2 := (cells2 HS.out).2.1
                                    have S3 := (cells2 HS.out).2.2
                                    have Sl := blkLt HS.out
                                    have z := fun w => run_sp_eq a a w
                                    rw [spEq_rfl] at z
                                    go_wp2_with fail
                                    go_ret
                                    exact ⟨rfl, HW.out⟩
theorem exchanged_any (a b : Sp) (m n : Int) (hm : 0 ≤ m ∧ m < 18446744073709551616) (hn : 0 ≤ n ∧ n < 18446744073709551616) (w : World) : Calls Try.prog 8 #[sv a, sv b, .int .u64 m, .int .u64 n] w (BB true w) := by
  rcases h : vB a with _ | _
  · exact exchanged_bad a b m n h w
  · exact exchanged_ok a b m n hm hn h w
end Go.Proofs.Ytiijplgaikdioaa
