/- Law package 06: IntervalSigns. -/
import Derived.Test.YtiijplgaikdioaaIxL
import Derived.Test.YtiijplgaikdioaaIxN
import Derived.Test.YtiijplgaikdioaaIxQ
namespace Go.Proofs.Ytiijplgaikdioaa
open Go.RowKit
set_option linter.unusedVariables false
set_option linter.unusedSimpArgs false
set_option maxHeartbeats 8000000 in
set_option maxRecDepth 100000 in
theorem signs_bad (a b : Sp)  (h : (vB a && vB b) = false) (w : World) : Calls Try.prog 7 #[sv a, sv b] w (BB true w) := by
  have hVa := Lib.hid (RValid_any a)
  have hVb := Lib.hid (RValid_any b)
  rcases ha : vB a with _ | _
  · rw [ha] at hVa
    clear ha h hVb
    go_enter Try.func7, Try.ntmps7
    have HW := Lib.hid (Below.refl w.heap.size w)
    go_upto_region 2 with (go_at_call 10; refine (head_any _).mono ?_; rintro e wn ⟨rfl, hbn⟩; obtain ⟨HA, HB⟩ := two2 hbn; have HA := Lib.hid HA; have HB := Lib.hid HB; replace HW := Lib.hid (bCall (by (repeat with_reducible first | exact HW.out | apply bDrew | apply bAlloc)) hbn); clear hbn)
    have A0 := (cells2 HA.out).1.1
    have A1 := (cells2 HA.out).1.2
    have A2 := (cells2 HA.out).2.1
    have A3 := (cells2 HA.out).2.2
    have Al := blkLt HA.out
    have B0 := (cells2 HB.out).1.1
    have B1 := (cells2 HB.out).1.2
    have B2 := (cells2 HB.out).2.1
    have B3 := (cells2 HB.out).2.2
    have Bl := blkLt HB.out
    go_wp2_with (go_at_call_of 28 (Value.agg #[.int .i64 a.lo, .int .i64 a.hi]); refine (hVa.out _).mono ?_; rintro e wn ⟨rfl, hbn⟩; replace HW := Lib.hid (bCall (by (repeat with_reducible first | exact HW.out | apply bDrew | apply bAlloc)) hbn); replace HA := Lib.hid (moveX (by (repeat with_reducible first | exact Below.refl _ _ | apply bDrew | apply bAlloc)) hbn HA.out); replace HB := Lib.hid (moveX (by (repeat with_reducible first | exact Below.refl _ _ | apply bDrew | apply bAlloc)) hbn HB.out); replace A0 := (cells2 HA.out).1.1; replace A1 := (cells2 HA.out).1.2; replace A2 := (cells2 HA.out).2.1; replace A3 := (cells2 HA.out).2.2; replace Al := blkLt HA.out; replace B0 := (cells2 HB.out).1.1; replace B1 := (cells2 HB.out).1.2; replace B2 := (cells2 HB.out).2.1; replace B3 := (cells2 HB.out).2.2; replace Bl := blkLt HB.out; clear hbn)
    go_ret
    exact ⟨rfl, HW.out⟩
  · rw [ha] at hVa h
    have hb : vB b = false := by simpa using h
    rw [hb] at hVb
    clear ha h hb
    go_enter Try.func7, Try.ntmps7
    have HW := Lib.hid (Below.refl w.heap.size w)
    go_upto_region 2 with (go_at_call 10; refine (head_any _).mono ?_; rintro e wn ⟨rfl, hbn⟩; obtain ⟨HA, HB⟩ := two2 hbn; have HA := Lib.hid HA; have HB := Lib.hid HB; replace HW := Lib.hid (bCall (by (repeat with_reducible first | exact HW.out | apply bDrew | apply bAlloc)) hbn); clear hbn)
    have A0 := (cells2 HA.out).1.1
    have A1 := (cells2 HA.out).1.2
    have A2 := (cells2 HA.out).2.1
    have A3 := (cells2 HA.out).2.2
    have Al := blkLt HA.out
    have B0 := (cells2 HB.out).1.1
    have B1 := (cells2 HB.out).1.2
    have B2 := (cells2 HB.out).2.1
    have B3 := (cells2 HB.out).2.2
    have Bl := blkLt HB.out
    go_wp2_with (first
      | (go_at_call_of 28 (Value.agg #[.int .i64 a.lo, .int .i64 a.hi]); refine (hVa.out _).mono ?_; rintro e wn ⟨rfl, hbn⟩; replace HW := Lib.hid (bCall (by (repeat with_reducible first | exact HW.out | apply bDrew | apply bAlloc)) hbn); replace HA := Lib.hid (moveX (by (repeat with_reducible first | exact Below.refl _ _ | apply bDrew | apply bAlloc)) hbn HA.out); replace HB := Lib.hid (moveX (by (repeat with_reducible first | exact Below.refl _ _ | apply bDrew | apply bAlloc)) hbn HB.out); replace A0 := (cells2 HA.out).1.1; replace A1 := (cells2 HA.out).1.2; replace A2 := (cells2 HA.out).2.1; replace A3 := (cells2 HA.out).2.2; replace Al := blkLt HA.out; replace B0 := (cells2 HB.out).1.1; replace B1 := (cells2 HB.out).1.2; replace B2 := (cells2 HB.out).2.1; replace B3 := (cells2 HB.out).2.2; replace Bl := blkLt HB.out; clear hbn)
      | (go_at_call_of 28 (Value.agg #[.int .i64 b.lo, .int .i64 b.hi]); refine (hVb.out _).mono ?_; rintro e wn ⟨rfl, hbn⟩; replace HW := Lib.hid (bCall (by (repeat with_reducible first | exact HW.out | apply bDrew | apply bAlloc)) hbn); replace HA := Lib.hid (moveX (by (repeat with_reducible first | exact Below.refl _ _ | apply bDrew | apply bAlloc)) hbn HA.out); replace HB := Lib.hid (moveX (by (repeat with_reducible first | exact Below.refl _ _ | apply bDrew | apply bAlloc)) hbn HB.out); replace A0 := (cells2 HA.out).1.1; replace A1 := (cells2 HA.out).1.2; replace A2 := (cells2 HA.out).2.1; replace A3 := (cells2 HA.out).2.2; replace Al := blkLt HA.out; replace B0 := (cells2 HB.out).1.1; replace B1 := (cells2 HB.out).1.2; replace B2 := (cells2 HB.out).2.1; replace B3 := (cells2 HB.out).2.2; replace Bl := blkLt HB.out; clear hbn))
    go_ret
    exact ⟨rfl, HW.out⟩
set_option maxHeartbeats 16000000 in
set_option maxRecDepth 100000 in
theorem signs_go (a b ta tb s t tt v tv x : Sp) (e i : Int) (he : e = 0 ∨ e = 14) (hst : Hid (e = 0 → s = tt)) (hVa : Hid (∀ w, Calls Try.prog 28 #[sv a] w (BB true w))) (hVb : Hid (∀ w, Calls Try.prog 28 #[sv b] w (BB true w)))
        (hUp : Hid (∀ w, Calls Try.prog 19 #[sv a, sv b] w (VV (.tuple #[sv s, .int .i64 e]) w)))
    (hDv : Hid (∀ w, Calls Try.prog 17 #[sv ta, sv b] w (VV (.tuple #[sv t, .int .i64 e]) w)))
    (hMx : Hid (∀ w, Calls Try.prog 23 #[sv a, sv b] w (VV (.tuple #[sv tv, .int .i64 0]) w)))
    (hMn : Hid (∀ w, Calls Try.prog 21 #[sv ta, sv tb] w (VV (.tuple #[sv v, .int .i64 0]) w)))
    (hSb : Hid (∀ w, Calls Try.prog 13 #[sv a, sv b] w (VV (.tuple #[sv x, .int .i64 i]) w)))
    (hAd : Hid (∀ w, Calls Try.prog 11 #[sv a, sv tb] w (VV (.tuple #[sv x, .int .i64 i]) w)))
    (hTa : Hid (∀ w, Calls Try.prog 34 #[sv a] w (VV (sv ta) w)))
    (hTb : Hid (∀ w, Calls Try.prog 34 #[sv b] w (VV (sv tb) w)))
    (hTt : Hid (∀ w, Calls Try.prog 34 #[sv t] w (VV (sv tt) w)))
    (hTv : Hid (∀ w, Calls Try.prog 34 #[sv v] w (VV (sv tv) w))) (w : World) : Calls Try.prog 7 #[sv a, sv b] w (BB true w) := by
  go_enter Try.func7, Try.ntmps7
  have HW := Lib.hid (Below.refl w.heap.size w)
  go_upto_region 2 with (go_at_call 10; refine (head_any _).mono ?_; rintro e wn ⟨rfl, hbn⟩; obtain ⟨HA, HB⟩ := two2 hbn; have HA := Lib.hid HA; have HB := Lib.hid HB; replace HW := Lib.hid (bCall (by (repeat with_reducible first | exact HW.out | apply bDrew | apply bAlloc)) hbn); clear hbn)
  have A0 := (cells2 HA.out).1.1
  have A1 := (cells2 HA.out).1.2
  have A2 := (cells2 HA.out).2.1
  have A3 := (cells2 HA.out).2.2
  have Al := blkLt HA.out
  have B0 := (cells2 HB.out).1.1
  have B1 := (cells2 HB.out).1.2
  have B2 := (cells2 HB.out).2.1
  have B3 := (cells2 HB.out).2.2
  have Bl := blkLt HB.out
  go_upto_region 4 with (first
      | (go_at_call_of 28 (Value.agg #[.int .i64 a.lo, .int .i64 a.hi]); refine (hVa.out _).mono ?_; rintro e wn ⟨rfl, hbn⟩; replace HW := Lib.hid (bCall (by (repeat with_reducible first | exact HW.out | apply bDrew | apply bAlloc)) hbn); replace HA := Lib.hid (moveX (by (repeat with_reducible first | exact Below.refl _ _ | apply bDrew | apply bAlloc)) hbn HA.out); replace HB := Lib.hid (moveX (by (repeat with_reducible first | exact Below.refl _ _ | apply bDrew | apply bAlloc)) hbn HB.out); replace A0 := (cells2 HA.out).1.1; replace A1 := (cells2 HA.out).1.2; replace A2 := (cells2 HA.out).2.1; replace A3 := (cells2 HA.out).2.2; replace Al := blkLt HA.out; replace B0 := (cells2 HB.out).1.1; replace B1 := (cells2 HB.out).1.2; replace B2 := (cells2 HB.out).2.1; replace B3 := (cells2 HB.out).2.2; replace Bl := blkLt HB.out; clear hbn)
      | (go_at_call_of 28 (Value.agg #[.int .i64 b.lo, .int .i64 b.hi]); refine (hVb.out _).mono ?_; rintro e wn ⟨rfl, hbn⟩; replace HW := Lib.hid (bCall (by (repeat with_reducible first | exact HW.out | apply bDrew | apply bAlloc)) hbn); replace HA := Lib.hid (moveX (by (repeat with_reducible first | exact Below.refl _ _ | apply bDrew | apply bAlloc)) hbn HA.out); replace HB := Lib.hid (moveX (by (repeat with_reducible first | exact Below.refl _ _ | apply bDrew | apply bAlloc)) hbn HB.out); replace A0 := (cells2 HA.out).1.1; replace A1 := (cells2 HA.out).1.2; replace A2 := (cells2 HA.out).2.1; replace A3 := (cells2 HA.out).2.2; replace Al := blkLt HA.out; replace B0 := (cells2 HB.out).1.1; replace B1 := (cells2 HB.out).1.2; replace B2 := (cells2 HB.out).2.1; replace B3 := (cells2 HB.out).2.2; replace Bl := blkLt HB.out; clear hbn))
  clear hVa hVb A0 A1 A2 A3 Al B0 B1 B2 B3 Bl
  go_cut [6, 7] (fun s1 s2 wx => ∃ bS : Nat, s1 = .pointer (some ⟨bS, 0, none⟩) ∧ s2 = .int .i64 e ∧ Hid (wx.heap[w.heap.size]? = some (.cells #[.int .i64 (a.lo), .int .i64 (a.hi)] 23 (0, 0))) ∧ Hid (wx.heap[w.heap.size + 1]? = some (.cells #[.int .i64 (b.lo), .int .i64 (b.hi)] 23 (0, 0))) ∧ Hid (wx.heap[bS]? = some (.cells #[.int .i64 (s.lo), .int .i64 (s.hi)] 23 (0, 0))) ∧ Hid (Below w.heap.size w wx))
  case first => as_aux_lemma =>
    have A0 := (cells2 HA.out).1.1
    have A1 := (cells2 HA.out).1.2
    have A2 := (cells2 HA.out).2.1
    have A3 := (cells2 HA.out).2.2
    have Al := blkLt HA.out
    have B0 := (cells2 HB.out).1.1
    have B1 := (cells2 HB.out).1.2
    have B2 := (cells2 HB.out).2.1
    have B3 := (cells2 HB.out).2.2
    have Bl := blkLt HB.out
    go_wp2_with (go_at_call 19; refine (hUp.out _).mono ?_; rintro e wn ⟨rfl, hbn⟩; replace HW := Lib.hid (bCall (by (repeat with_reducible first | exact HW.out | apply bDrew | apply bAlloc)) hbn); replace HA := Lib.hid (moveX (by (repeat with_reducible first | exact Below.refl _ _ | apply bDrew | apply bAlloc)) hbn HA.out); replace HB := Lib.hid (moveX (by (repeat with_reducible first | exact Below.refl _ _ | apply bDrew | apply bAlloc)) hbn HB.out); replace A0 := (cells2 HA.out).1.1; replace A1 := (cells2 HA.out).1.2; replace A2 := (cells2 HA.out).2.1; replace A3 := (cells2 HA.out).2.2; replace Al := blkLt HA.out; replace B0 := (cells2 HB.out).1.1; replace B1 := (cells2 HB.out).1.2; replace B2 := (cells2 HB.out).2.1; replace B3 := (cells2 HB.out).2.2; replace Bl := blkLt HB.out; clear hbn)
    go_meet
    exact ⟨_, rfl, rfl, Lib.hid (mvAlloc HA.out), Lib.hid (mvAlloc HB.out), Lib.hid (newBlk _ _ _ rfl), Lib.hid (bAlloc HW.out)⟩
  case rest => as_aux_lemma =>
    clear HW HA HB
    obtain ⟨bS, rfl, rfl, HA, HB, HS, HW⟩ := hcut
    clear hUp
    go_upto_region 5 with fail
    go_cut [8, 9] (fun s1 s2 wx => ∃ bT : Nat, s1 = .pointer (some ⟨bT, 0, none⟩) ∧ s2 = .int .i64 e ∧ Hid (wx.heap[w.heap.size]? = some (.cells #[.int .i64 (a.lo), .int .i64 (a.hi)] 23 (0, 0))) ∧ Hid (wx.heap[w.heap.size + 1]? = some (.cells #[.int .i64 (b.lo), .int .i64 (b.hi)] 23 (0, 0))) ∧ Hid (wx.heap[bS]? = some (.cells #[.int .i64 (s.lo), .int .i64 (s.hi)] 23 (0, 0))) ∧ Hid (wx.heap[bT]? = some (.cells #[.int .i64 (t.lo), .int .i64 (t.hi)] 23 (0, 0))) ∧ Hid (Below w.heap.size w wx))
    case first => as_aux_lemma =>
      have A0 := (cells2 HA.out).1.1
      have A1 := (cells2 HA.out).1.2
      have A2 := (cells2 HA.out).2.1
      have A3 := (cells2 HA.out).2.2
      have Al := blkLt HA.out
      have B0 := (cells2 HB.out).1.1
      have B1 := (cells2 HB.out).1.2
      have B2 := (cells2 HB.out).2.1
      have B3 := (cells2 HB.out).2.2
      have Bl := blkLt HB.out
      have S0 := (cells2 HS.out).1.1
      have S1 := (cells2 HS.out).1.2
      have S2 := (cells2 HS.out).2.1
      have S3 := (cells2 HS.out).2.2
      have Sl := blkLt HS.out
      go_region_held3 (fun w' => w'.cell? ⟨w.heap.size, 0, none⟩ = some (.int .i64 a.lo) ∧ w'.cell? ⟨w.heap.size, 1, none⟩ = some (.int .i64 a.hi) ∧ w'.cell? ⟨w.heap.size + 1, 0, none⟩ = some (.int .i64 b.lo) ∧ w'.cell? ⟨w.heap.size + 1, 1, none⟩ = some (.int .i64 b.hi))
        (first | (with_reducible exact ⟨A0, A1, B0, B1⟩) | (with_reducible exact ⟨(far2 (by omega)).trans A0, (far2 (by omega)).trans A1, (far2 (by omega)).trans B0, (far2 (by omega)).trans B1⟩) | go_keep)
        (first
        | (go_at_call_of 34 (Value.agg #[.int .i64 a.lo, .int .i64 a.hi]); refine (hTa.out _).mono ?_; rintro e wn ⟨rfl, hbn⟩; (try clear u0 u1 u2 u3 ul); (first | (with_reducible have hU := Lib.hid (newU (o := (.cells #[.int .i64 0, .int .i64 0] 23 (0, 0))) hbn)) | (with_reducible have hU := Lib.hid (newUd (o := (.cells #[.int .i64 0, .int .i64 0] 23 (0, 0))) hbn)) | (have hU := Lib.hid (moveX (by (repeat with_reducible first | exact Below.refl _ _ | apply bDrew | apply bAlloc)) hbn hU.out)) | skip); (first | (have u0 := (cells2 hU.out).1.1; have u1 := (cells2 hU.out).1.2; have u2 := (cells2 hU.out).2.1; have u3 := (cells2 hU.out).2.2; have ul := blkLt hU.out) | skip); have Az := Al; have Bz := Bl; have Sz := Sl; replace HW := Lib.hid (bCall (by (repeat with_reducible first | exact HW.out | apply bDrew | apply bAlloc)) hbn); replace HA := Lib.hid (moveX (by (repeat with_reducible first | exact Below.refl _ _ | apply bDrew | apply bAlloc)) hbn HA.out); replace HB := Lib.hid (moveX (by (repeat with_reducible first | exact Below.refl _ _ | apply bDrew | apply bAlloc)) hbn HB.out); replace HS := Lib.hid (moveX (by (repeat with_reducible first | exact Below.refl _ _ | apply bDrew | apply bAlloc)) hbn HS.out); replace A0 := (cells2 HA.out).1.1; replace A1 := (cells2 HA.out).1.2; replace A2 := (cells2 HA.out).2.1; replace A3 := (cells2 HA.out).2.2; replace Al := blkLt HA.out; replace B0 := (cells2 HB.out).1.1; replace B1 := (cells2 HB.out).1.2; replace B2 := (cells2 HB.out).2.1; replace B3 := (cells2 HB.out).2.2; replace Bl := blkLt HB.out; replace S0 := (cells2 HS.out).1.1; replace S1 := (cells2 HS.out).1.2; replace S2 := (cells2 HS.out).2.1; replace S3 := (cells2 HS.out).2.2; replace Sl := blkLt HS.out; clear hbn)
        | (go_at_call_of 17 (sv ta); refine (hDv.out _).mono ?_; rintro e wn ⟨rfl, hbn⟩; (try clear u0 u1 u2 u3 ul); (first | (with_reducible have hU := Lib.hid (newU (o := (.cells #[.int .i64 0, .int .i64 0] 23 (0, 0))) hbn)) | (with_reducible have hU := Lib.hid (newUd (o := (.cells #[.int .i64 0, .int .i64 0] 23 (0, 0))) hbn)) | (have hU := Lib.hid (moveX (by (repeat with_reducible first | exact Below.refl _ _ | apply bDrew | apply bAlloc)) hbn hU.out)) | skip); (first | (have u0 := (cells2 hU.out).1.1; have u1 := (cells2 hU.out).1.2; have u2 := (cells2 hU.out).2.1; have u3 := (cells2 hU.out).2.2; have ul := blkLt hU.out) | skip); have Az := Al; have Bz := Bl; have Sz := Sl; replace HW := Lib.hid (bCall (by (repeat with_reducible first | exact HW.out | apply bDrew | apply bAlloc)) hbn); replace HA := Lib.hid (moveX (by (repeat with_reducible first | exact Below.refl _ _ | apply bDrew | apply bAlloc)) hbn HA.out); replace HB := Lib.hid (moveX (by (repeat with_reducible first | exact Below.refl _ _ | apply bDrew | apply bAlloc)) hbn HB.out); replace HS := Lib.hid (moveX (by (repeat with_reducible first | exact Below.refl _ _ | apply bDrew | apply bAlloc)) hbn HS.out); replace A0 := (cells2 HA.out).1.1; replace A1 := (cells2 HA.out).1.2; replace A2 := (cells2 HA.out).2.1; replace A3 := (cells2 HA.out).2.2; replace Al := blkLt HA.out; replace B0 := (cells2 HB.out).1.1; replace B1 := (cells2 HB.out).1.2; replace B2 := (cells2 HB.out).2.1; replace B3 := (cells2 HB.out).2.2; replace Bl := blkLt HB.out; replace S0 := (cells2 HS.out).1.1; replace S1 := (cells2 HS.out).1.2; replace S2 := (cells2 HS.out).2.1; replace S3 := (cells2 HS.out).2.2; replace Sl := blkLt HS.out; clear hbn))
      all_goals go_wp2_with fail
      all_goals go_meet
      all_goals first
        | (have hq := hU; exact ⟨_, rfl, rfl, Lib.hid (setK HA.out (by omega)), Lib.hid (setK HB.out (by omega)), Lib.hid (setK HS.out (by omega)), Lib.hid (res2 hU.out).1, Lib.hid (below2 HW.out (by omega))⟩)
        | exact ⟨_, rfl, rfl, Lib.hid (mvAlloc HA.out), Lib.hid (mvAlloc HB.out), Lib.hid (mvAlloc HS.out), Lib.hid (newBlk _ _ _ rfl), Lib.hid (bAlloc HW.out)⟩
    case rest => as_aux_lemma =>
      clear HW HA HB HS
      obtain ⟨bT, rfl, rfl, HA, HB, HS, HT, HW⟩ := hcut
      clear hDv
      go_upto_region 6 with fail
      go_cut [10, 11] (fun s1 s2 wx => ∃ bU : Nat, s1 = .pointer (some ⟨bU, 0, none⟩) ∧ s2 = .int .i64 0 ∧ Hid (wx.heap[w.heap.size]? = some (.cells #[.int .i64 (a.lo), .int .i64 (a.hi)] 23 (0, 0))) ∧ Hid (wx.heap[w.heap.size + 1]? = some (.cells #[.int .i64 (b.lo), .int .i64 (b.hi)] 23 (0, 0))) ∧ Hid (wx.heap[bS]? = some (.cells #[.int .i64 (s.lo), .int .i64 (s.hi)] 23 (0, 0))) ∧ Hid (wx.heap[bT]? = some (.cells #[.int .i64 (t.lo), .int .i64 (t.hi)] 23 (0, 0))) ∧ Hid (wx.heap[bU]? = some (.cells #[.int .i64 (tv.lo), .int .i64 (tv.hi)] 23 (0, 0))) ∧ Hid (Below w.heap.size w wx))
      case first => as_aux_lemma =>
        have A0 := (cells2 HA.out).1.1
        have A1 := (cells2 HA.out).1.2
        have A2 := (cells2 HA.out).2.1
        have A3 := (cells2 HA.out).2.2
        have Al := blkLt HA.out
        have B0 := (cells2 HB.out).1.1
        have B1 := (cells2 HB.out).1.2
        have B2 := (cells2 HB.out).2.1
        have B3 := (cells2 HB.out).2.2
        have Bl := blkLt HB.out
        have S0 := (cells2 HS.out).1.1
        have S1 := (cells2 HS.out).1.2
        have S2 := (cells2 HS.out).2.1
        have S3 := (cells2 HS.out).2.2
        have Sl := blkLt HS.out
        have T0 := (cells2 HT.out).1.1
        have T1 := (cells2 HT.out).1.2
        have T2 := (cells2 HT.out).2.1
        have T3 := (cells2 HT.out).2.2
        have Tl := blkLt HT.out
        go_wp2_with (go_at_call 23; refine (hMx.out _).mono ?_; rintro e wn ⟨rfl, hbn⟩; replace HW := Lib.hid (bCall (by (repeat with_reducible first | exact HW.out | apply bDrew | apply bAlloc)) hbn); replace HA := Lib.hid (moveX (by (repeat with_reducible first | exact Below.refl _ _ | apply bDrew | apply bAlloc)) hbn HA.out); replace HB := Lib.hid (moveX (by (repeat with_reducible first | exact Below.refl _ _ | apply bDrew | apply bAlloc)) hbn HB.out); replace HS := Lib.hid (moveX (by (repeat with_reducible first | exact Below.refl _ _ | apply bDrew | apply bAlloc)) hbn HS.out); replace HT := Lib.hid (moveX (by (repeat with_reducible first | exact Below.refl _ _ | apply bDrew | apply bAlloc)) hbn HT.out); replace A0 := (cells2 HA.out).1.1; replace A1 := (cells2 HA.out).1.2; replace A2 := (cells2 HA.out).2.1; replace A3 := (cells2 HA.out).2.2; replace Al := blkLt HA.out; replace B0 := (cells2 HB.out).1.1; replace B1 := (cells2 HB.out).1.2; replace B2 := (cells2 HB.out).2.1; replace B3 := (cells2 HB.out).2.2; replace Bl := blkLt HB.out; replace S0 := (cells2 HS.out).1.1; replace S1 := (cells2 HS.out).1.2; replace S2 := (cells2 HS.out).2.1; replace S3 := (cells2 HS.out).2.2; replace Sl := blkLt HS.out; replace T0 := (cells2 HT.out).1.1; replace T1 := (cells2 HT.out).1.2; replace T2 := (cells2 HT.out).2.1; replace T3 := (cells2 HT.out).2.2; replace Tl := blkLt HT.out; clear hbn)
        go_meet
        exact ⟨_, rfl, rfl, Lib.hid (mvAlloc HA.out), Lib.hid (mvAlloc HB.out), Lib.hid (mvAlloc HS.out), Lib.hid (mvAlloc HT.out), Lib.hid (newBlk _ _ _ rfl), Lib.hid (bAlloc HW.out)⟩
      case rest => as_aux_lemma =>
        clear HW HA HB HS HT
        obtain ⟨bU, rfl, rfl, HA, HB, HS, HT, HU, HW⟩ := hcut
        clear hMx
        go_upto_region 7 with fail
        go_cut [12, 13] (fun s1 s2 wx => ∃ bV : Nat, s1 = .pointer (some ⟨bV, 0, none⟩) ∧ s2 = .int .i64 0 ∧ Hid (wx.heap[w.heap.size]? = some (.cells #[.int .i64 (a.lo), .int .i64 (a.hi)] 23 (0, 0))) ∧ Hid (wx.heap[w.heap.size + 1]? = some (.cells #[.int .i64 (b.lo), .int .i64 (b.hi)] 23 (0, 0))) ∧ Hid (wx.heap[bS]? = some (.cells #[.int .i64 (s.lo), .int .i64 (s.hi)] 23 (0, 0))) ∧ Hid (wx.heap[bT]? = some (.cells #[.int .i64 (t.lo), .int .i64 (t.hi)] 23 (0, 0))) ∧ Hid (wx.heap[bU]? = some (.cells #[.int .i64 (tv.lo), .int .i64 (tv.hi)] 23 (0, 0))) ∧ Hid (wx.heap[bV]? = some (.cells #[.int .i64 (v.lo), .int .i64 (v.hi)] 23 (0, 0))) ∧ Hid (Below w.heap.size w wx))
        case first => as_aux_lemma =>
          have A0 := (cells2 HA.out).1.1
          have A1 := (cells2 HA.out).1.2
          have A2 := (cells2 HA.out).2.1
          have A3 := (cells2 HA.out).2.2
          have Al := blkLt HA.out
          have B0 := (cells2 HB.out).1.1
          have B1 := (cells2 HB.out).1.2
          have B2 := (cells2 HB.out).2.1
          have B3 := (cells2 HB.out).2.2
          have Bl := blkLt HB.out
          have S0 := (cells2 HS.out).1.1
          have S1 := (cells2 HS.out).1.2
          have S2 := (cells2 HS.out).2.1
          have S3 := (cells2 HS.out).2.2
          have Sl := blkLt HS.out
          have T0 := (cells2 HT.out).1.1
          have T1 := (cells2 HT.out).1.2
          have T2 := (cells2 HT.out).2.1
          have T3 := (cells2 HT.out).2.2
          have Tl := blkLt HT.out
          have U0 := (cells2 HU.out).1.1
          have U1 := (cells2 HU.out).1.2
          have U2 := (cells2 HU.out).2.1
          have U3 := (cells2 HU.out).2.2
          have Ul := blkLt HU.out
          go_region_held3 (fun w' => w'.cell? ⟨w.heap.size, 0, none⟩ = some (.int .i64 a.lo) ∧ w'.cell? ⟨w.heap.size, 1, none⟩ = some (.int .i64 a.hi) ∧ w'.cell? ⟨w.heap.size + 1, 0, none⟩ = some (.int .i64 b.lo) ∧ w'.cell? ⟨w.heap.size + 1, 1, none⟩ = some (.int .i64 b.hi))
            (first | (with_reducible exact ⟨A0, A1, B0, B1⟩) | (with_reducible exact ⟨(far2 (by omega)).trans A0, (far2 (by omega)).trans A1, (far2 (by omega)).trans B0, (far2 (by omega)).trans B1⟩) | go_keep)
            (first
            | (go_at_call_of 34 (Value.agg #[.int .i64 a.lo, .int .i64 a.hi]); refine (hTa.out _).mono ?_; rintro e wn ⟨rfl, hbn⟩; (try clear u0 u1 u2 u3 ul); (first | (with_reducible have hU := Lib.hid (newU (o := (.cells #[.int .i64 0, .int .i64 0] 23 (0, 0))) hbn)) | (with_reducible have hU := Lib.hid (newUd (o := (.cells #[.int .i64 0, .int .i64 0] 23 (0, 0))) hbn)) | (have hU := Lib.hid (moveX (by (repeat with_reducible first | exact Below.refl _ _ | apply bDrew | apply bAlloc)) hbn hU.out)) | skip); (first | (have u0 := (cells2 hU.out).1.1; have u1 := (cells2 hU.out).1.2; have u2 := (cells2 hU.out).2.1; have u3 := (cells2 hU.out).2.2; have ul := blkLt hU.out) | skip); have Az := Al; have Bz := Bl; have Sz := Sl; have Tz := Tl; have Uz := Ul; replace HW := Lib.hid (bCall (by (repeat with_reducible first | exact HW.out | apply bDrew | apply bAlloc)) hbn); replace HA := Lib.hid (moveX (by (repeat with_reducible first | exact Below.refl _ _ | apply bDrew | apply bAlloc)) hbn HA.out); replace HB := Lib.hid (moveX (by (repeat with_reducible first | exact Below.refl _ _ | apply bDrew | apply bAlloc)) hbn HB.out); replace HS := Lib.hid (moveX (by (repeat with_reducible first | exact Below.refl _ _ | apply bDrew | apply bAlloc)) hbn HS.out); replace HT := Lib.hid (moveX (by (repeat with_reducible first | exact Below.refl _ _ | apply bDrew | apply bAlloc)) hbn HT.out); replace HU := Lib.hid (moveX (by (repeat with_reducible first | exact Below.refl _ _ | apply bDrew | apply bAlloc)) hbn HU.out); replace A0 := (cells2 HA.out).1.1; replace A1 := (cells2 HA.out).1.2; replace A2 := (cells2 HA.out).2.1; replace A3 := (cells2 HA.out).2.2; replace Al := blkLt HA.out; replace B0 := (cells2 HB.out).1.1; replace B1 := (cells2 HB.out).1.2; replace B2 := (cells2 HB.out).2.1; replace B3 := (cells2 HB.out).2.2; replace Bl := blkLt HB.out; replace S0 := (cells2 HS.out).1.1; replace S1 := (cells2 HS.out).1.2; replace S2 := (cells2 HS.out).2.1; replace S3 := (cells2 HS.out).2.2; replace Sl := blkLt HS.out; replace T0 := (cells2 HT.out).1.1; replace T1 := (cells2 HT.out).1.2; replace T2 := (cells2 HT.out).2.1; replace T3 := (cells2 HT.out).2.2; replace Tl := blkLt HT.out; replace U0 := (cells2 HU.out).1.1; replace U1 := (cells2 HU.out).1.2; replace U2 := (cells2 HU.out).2.1; replace U3 := (cells2 HU.out).2.2; replace Ul := blkLt HU.out; clear hbn)
            | (go_at_call_of 34 (Value.agg #[.int .i64 b.lo, .int .i64 b.hi]); refine (hTb.out _).mono ?_; rintro e wn ⟨rfl, hbn⟩; (try clear u0 u1 u2 u3 ul); (first | (with_reducible have hU := Lib.hid (newU (o := (.cells #[.int .i64 0, .int .i64 0] 23 (0, 0))) hbn)) | (with_reducible have hU := Lib.hid (newUd (o := (.cells #[.int .i64 0, .int .i64 0] 23 (0, 0))) hbn)) | (have hU := Lib.hid (moveX (by (repeat with_reducible first | exact Below.refl _ _ | apply bDrew | apply bAlloc)) hbn hU.out)) | skip); (first | (have u0 := (cells2 hU.out).1.1; have u1 := (cells2 hU.out).1.2; have u2 := (cells2 hU.out).2.1; have u3 := (cells2 hU.out).2.2; have ul := blkLt hU.out) | skip); have Az := Al; have Bz := Bl; have Sz := Sl; have Tz := Tl; have Uz := Ul; replace HW := Lib.hid (bCall (by (repeat with_reducible first | exact HW.out | apply bDrew | apply bAlloc)) hbn); replace HA := Lib.hid (moveX (by (repeat with_reducible first | exact Below.refl _ _ | apply bDrew | apply bAlloc)) hbn HA.out); replace HB := Lib.hid (moveX (by (repeat with_reducible first | exact Below.refl _ _ | apply bDrew | apply bAlloc)) hbn HB.out); replace HS := Lib.hid (moveX (by (repeat with_reducible first | exact Below.refl _ _ | apply bDrew | apply bAlloc)) hbn HS.out); replace HT := Lib.hid (moveX (by (repeat with_reducible first | exact Below.refl _ _ | apply bDrew | apply bAlloc)) hbn HT.out); replace HU := Lib.hid (moveX (by (repeat with_reducible first | exact Below.refl _ _ | apply bDrew | apply bAlloc)) hbn HU.out); replace A0 := (cells2 HA.out).1.1; replace A1 := (cells2 HA.out).1.2; replace A2 := (cells2 HA.out).2.1; replace A3 := (cells2 HA.out).2.2; replace Al := blkLt HA.out; replace B0 := (cells2 HB.out).1.1; replace B1 := (cells2 HB.out).1.2; replace B2 := (cells2 HB.out).2.1; replace B3 := (cells2 HB.out).2.2; replace Bl := blkLt HB.out; replace S0 := (cells2 HS.out).1.1; replace S1 := (cells2 HS.out).1.2; replace S2 := (cells2 HS.out).2.1; replace S3 := (cells2 HS.out).2.2; replace Sl := blkLt HS.out; replace T0 := (cells2 HT.out).1.1; replace T1 := (cells2 HT.out).1.2; replace T2 := (cells2 HT.out).2.1; replace T3 := (cells2 HT.out).2.2; replace Tl := blkLt HT.out; replace U0 := (cells2 HU.out).1.1; replace U1 := (cells2 HU.out).1.2; replace U2 := (cells2 HU.out).2.1; replace U3 := (cells2 HU.out).2.2; replace Ul := blkLt HU.out; clear hbn)
            | (go_at_call_of 21 (sv ta); refine (hMn.out _).mono ?_; rintro e wn ⟨rfl, hbn⟩; (try clear u0 u1 u2 u3 ul); (first | (with_reducible have hU := Lib.hid (newU (o := (.cells #[.int .i64 0, .int .i64 0] 23 (0, 0))) hbn)) | (with_reducible have hU := Lib.hid (newUd (o := (.cells #[.int .i64 0, .int .i64 0] 23 (0, 0))) hbn)) | (have hU := Lib.hid (moveX (by (repeat with_reducible first | exact Below.refl _ _ | apply bDrew | apply bAlloc)) hbn hU.out)) | skip); (first | (have u0 := (cells2 hU.out).1.1; have u1 := (cells2 hU.out).1.2; have u2 := (cells2 hU.out).2.1; have u3 := (cells2 hU.out).2.2; have ul := blkLt hU.out) | skip); have Az := Al; have Bz := Bl; have Sz := Sl; have Tz := Tl; have Uz := Ul; replace HW := Lib.hid (bCall (by (repeat with_reducible first | exact HW.out | apply bDrew | apply bAlloc)) hbn); replace HA := Lib.hid (moveX (by (repeat with_reducible first | exact Below.refl _ _ | apply bDrew | apply bAlloc)) hbn HA.out); replace HB := Lib.hid (moveX (by (repeat with_reducible first | exact Below.refl _ _ | apply bDrew | apply bAlloc)) hbn HB.out); replace HS := Lib.hid (moveX (by (repeat with_reducible first | exact Below.refl _ _ | apply bDrew | apply bAlloc)) hbn HS.out); replace HT := Lib.hid (moveX (by (repeat with_reducible first | exact Below.refl _ _ | apply bDrew | apply bAlloc)) hbn HT.out); replace HU := Lib.hid (moveX (by (repeat with_reducible first | exact Below.refl _ _ | apply bDrew | apply bAlloc)) hbn HU.out); replace A0 := (cells2 HA.out).1.1; replace A1 := (cells2 HA.out).1.2; replace A2 := (cells2 HA.out).2.1; replace A3 := (cells2 HA.out).2.2; replace Al := blkLt HA.out; replace B0 := (cells2 HB.out).1.1; replace B1 := (cells2 HB.out).1.2; replace B2 := (cells2 HB.out).2.1; replace B3 := (cells2 HB.out).2.2; replace Bl := blkLt HB.out; replace S0 := (cells2 HS.out).1.1; replace S1 := (cells2 HS.out).1.2; replace S2 := (cells2 HS.out).2.1; replace S3 := (cells2 HS.out).2.2; replace Sl := blkLt HS.out; replace T0 := (cells2 HT.out).1.1; replace T1 := (cells2 HT.out).1.2; replace T2 := (cells2 HT.out).2.1; replace T3 := (cells2 HT.out).2.2; replace Tl := blkLt HT.out; replace U0 := (cells2 HU.out).1.1; replace U1 := (cells2 HU.out).1.2; replace U2 := (cells2 HU.out).2.1; replace U3 := (cells2 HU.out).2.2; replace Ul := blkLt HU.out; clear hbn))
          all_goals go_wp2_with fail
          all_goals go_meet
          all_goals first
            | (have hq := hU; exact ⟨_, rfl, rfl, Lib.hid (setK HA.out (by omega)), Lib.hid (setK HB.out (by omega)), Lib.hid (setK HS.out (by omega)), Lib.hid (setK HT.out (by omega)), Lib.hid (setK HU.out (by omega)), Lib.hid (res2 hU.out).1, Lib.hid (below2 HW.out (by omega))⟩)
            | exact ⟨_, rfl, rfl, Lib.hid (mvAlloc HA.out), Lib.hid (mvAlloc HB.out), Lib.hid (mvAlloc HS.out), Lib.hid (mvAlloc HT.out), Lib.hid (mvAlloc HU.out), Lib.hid (newBlk _ _ _ rfl), Lib.hid (bAlloc HW.out)⟩
        case rest => as_aux_lemma =>
          clear HW HA HB HS HT HU
          obtain ⟨bV, rfl, rfl, HA, HB, HS, HT, HU, HV, HW⟩ := hcut
          clear hMn hTa
          go_upto_region 8 with fail
          go_cut [14, 15] (fun s1 s2 wx => ∃ bX : Nat, s1 = .pointer (some ⟨bX, 0, none⟩) ∧ s2 = .int .i64 i ∧ Hid (wx.heap[w.heap.size]? = some (.cells #[.int .i64 (a.lo), .int .i64 (a.hi)] 23 (0, 0))) ∧ Hid (wx.heap[w.heap.size + 1]? = some (.cells #[.int .i64 (b.lo), .int .i64 (b.hi)] 23 (0, 0))) ∧ Hid (wx.heap[bS]? = some (.cells #[.int .i64 (s.lo), .int .i64 (s.hi)] 23 (0, 0))) ∧ Hid (wx.heap[bT]? = some (.cells #[.int .i64 (t.lo), .int .i64 (t.hi)] 23 (0, 0))) ∧ Hid (wx.heap[bU]? = some (.cells #[.int .i64 (tv.lo), .int .i64 (tv.hi)] 23 (0, 0))) ∧ Hid (wx.heap[bV]? = some (.cells #[.int .i64 (v.lo), .int .i64 (v.hi)] 23 (0, 0))) ∧ Hid (wx.heap[bX]? = some (.cells #[.int .i64 (x.lo), .int .i64 (x.hi)] 23 (0, 0))) ∧ Hid (Below w.heap.size w wx))
          case first => as_aux_lemma =>
            have A0 := (cells2 HA.out).1.1
            have A1 := (cells2 HA.out).1.2
            have A2 := (cells2 HA.out).2.1
            have A3 := (cells2 HA.out).2.2
            have Al := blkLt HA.out
            have B0 := (cells2 HB.out).1.1
            have B1 := (cells2 HB.out).1.2
            have B2 := (cells2 HB.out).2.1
            have B3 := (cells2 HB.out).2.2
            have Bl := blkLt HB.out
            have S0 := (cells2 HS.out).1.1
            have S1 := (cells2 HS.out).1.2
            have S2 := (cells2 HS.out).2.1
            have S3 := (cells2 HS.out).2.2
            have Sl := blkLt HS.out
            have T0 := (cells2 HT.out).1.1
            have T1 := (cells2 HT.out).1.2
            have T2 := (cells2 HT.out).2.1
            have T3 := (cells2 HT.out).2.2
            have Tl := blkLt HT.out
            have U0 := (cells2 HU.out).1.1
            have U1 := (cells2 HU.out).1.2
            have U2 := (cells2 HU.out).2.1
            have U3 := (cells2 HU.out).2.2
            have Ul := blkLt HU.out
            have V0 := (cells2 HV.out).1.1
            have V1 := (cells2 HV.out).1.2
            have V2 := (cells2 HV.out).2.1
            have V3 := (cells2 HV.out).2.2
            have Vl := blkLt HV.out
            go_wp2_with (go_at_call 13; refine (hSb.out _).mono ?_; rintro e wn ⟨rfl, hbn⟩; replace HW := Lib.hid (bCall (by (repeat with_reducible first | exact HW.out | apply bDrew | apply bAlloc)) hbn); replace HA := Lib.hid (moveX (by (repeat with_reducible first | exact Below.refl _ _ | apply bDrew | apply bAlloc)) hbn HA.out); replace HB := Lib.hid (moveX (by (repeat with_reducible first | exact Below.refl _ _ | apply bDrew | apply bAlloc)) hbn HB.out); replace HS := Lib.hid (moveX (by (repeat with_reducible first | exact Below.refl _ _ | apply bDrew | apply bAlloc)) hbn HS.out); replace HT := Lib.hid (moveX (by (repeat with_reducible first | exact Below.refl _ _ | apply bDrew | apply bAlloc)) hbn HT.out); replace HU := Lib.hid (moveX (by (repeat with_reducible first | exact Below.refl _ _ | apply bDrew | apply bAlloc)) hbn HU.out); replace HV := Lib.hid (moveX (by (repeat with_reducible first | exact Below.refl _ _ | apply bDrew | apply bAlloc)) hbn HV.out); replace A0 := (cells2 HA.out).1.1; replace A1 := (cells2 HA.out).1.2; replace A2 := (cells2 HA.out).2.1; replace A3 := (cells2 HA.out).2.2; replace Al := blkLt HA.out; replace B0 := (cells2 HB.out).1.1; replace B1 := (cells2 HB.out).1.2; replace B2 := (cells2 HB.out).2.1; replace B3 := (cells2 HB.out).2.2; replace Bl := blkLt HB.out; replace S0 := (cells2 HS.out).1.1; replace S1 := (cells2 HS.out).1.2; replace S2 := (cells2 HS.out).2.1; replace S3 := (cells2 HS.out).2.2; replace Sl := blkLt HS.out; replace T0 := (cells2 HT.out).1.1; replace T1 := (cells2 HT.out).1.2; replace T2 := (cells2 HT.out).2.1; replace T3 := (cells2 HT.out).2.2; replace Tl := blkLt HT.out; replace U0 := (cells2 HU.out).1.1; replace U1 := (cells2 HU.out).1.2; replace U2 := (cells2 HU.out).2.1; replace U3 := (cells2 HU.out).2.2; replace Ul := blkLt HU.out; replace V0 := (cells2 HV.out).1.1; replace V1 := (cells2 HV.out).1.2; replace V2 := (cells2 HV.out).2.1; replace V3 := (cells2 HV.out).2.2; replace Vl := blkLt HV.out; clear hbn)
            go_meet
            exact ⟨_, rfl, rfl, Lib.hid (mvAlloc HA.out), Lib.hid (mvAlloc HB.out), Lib.hid (mvAlloc HS.out), Lib.hid (mvAlloc HT.out), Lib.hid (mvAlloc HU.out), Lib.hid (mvAlloc HV.out), Lib.hid (newBlk _ _ _ rfl), Lib.hid (bAlloc HW.out)⟩
          case rest => as_aux_lemma =>
            clear HW HA HB HS HT HU HV
            obtain ⟨bX, rfl, rfl, HA, HB, HS, HT, HU, HV, HX, HW⟩ := hcut
            clear hSb
            go_upto_region 9 with fail
            go_cut [16, 17] (fun s1 s2 wx => ∃ bY : Nat, s1 = .pointer (some ⟨bY, 0, none⟩) ∧ s2 = .int .i64 i ∧ Hid (wx.heap[w.heap.size]? = some (.cells #[.int .i64 (a.lo), .int .i64 (a.hi)] 23 (0, 0))) ∧ Hid (wx.heap[w.heap.size + 1]? = some (.cells #[.int .i64 (b.lo), .int .i64 (b.hi)] 23 (0, 0))) ∧ Hid (wx.heap[bS]? = some (.cells #[.int .i64 (s.lo), .int .i64 (s.hi)] 23 (0, 0))) ∧ Hid (wx.heap[bT]? = some (.cells #[.int .i64 (t.lo), .int .i64 (t.hi)] 23 (0, 0))) ∧ Hid (wx.heap[bU]? = some (.cells #[.int .i64 (tv.lo), .int .i64 (tv.hi)] 23 (0, 0))) ∧ Hid (wx.heap[bV]? = some (.cells #[.int .i64 (v.lo), .int .i64 (v.hi)] 23 (0, 0))) ∧ Hid (wx.heap[bX]? = some (.cells #[.int .i64 (x.lo), .int .i64 (x.hi)] 23 (0, 0))) ∧ Hid (wx.heap[bY]? = some (.cells #[.int .i64 (x.lo), .int .i64 (x.hi)] 23 (0, 0))) ∧ Hid (Below w.heap.size w wx))
            case first => as_aux_lemma =>
              have A0 := (cells2 HA.out).1.1
              have A1 := (cells2 HA.out).1.2
              have A2 := (cells2 HA.out).2.1
              have A3 := (cells2 HA.out).2.2
              have Al := blkLt HA.out
              have B0 := (cells2 HB.out).1.1
              have B1 := (cells2 HB.out).1.2
              have B2 := (cells2 HB.out).2.1
              have B3 := (cells2 HB.out).2.2
              have Bl := blkLt HB.out
              have S0 := (cells2 HS.out).1.1
              have S1 := (cells2 HS.out).1.2
              have S2 := (cells2 HS.out).2.1
              have S3 := (cells2 HS.out).2.2
              have Sl := blkLt HS.out
              have T0 := (cells2 HT.out).1.1
              have T1 := (cells2 HT.out).1.2
              have T2 := (cells2 HT.out).2.1
              have T3 := (cells2 HT.out).2.2
              have Tl := blkLt HT.out
              have U0 := (cells2 HU.out).1.1
              have U1 := (cells2 HU.out).1.2
              have U2 := (cells2 HU.out).2.1
              have U3 := (cells2 HU.out).2.2
              have Ul := blkLt HU.out
              have V0 := (cells2 HV.out).1.1
              have V1 := (cells2 HV.out).1.2
              have V2 := (cells2 HV.out).2.1
              have V3 := (cells2 HV.out).2.2
              have Vl := blkLt HV.out
              have X0 := (cells2 HX.out).1.1
              have X1 := (cells2 HX.out).1.2
              have X2 := (cells2 HX.out).2.1
              have X3 := (cells2 HX.out).2.2
              have Xl := blkLt HX.out
              go_region_held3 (fun w' => w'.cell? ⟨w.heap.size, 0, none⟩ = some (.int .i64 a.lo) ∧ w'.cell? ⟨w.heap.size, 1, none⟩ = some (.int .i64 a.hi) ∧ w'.cell? ⟨w.heap.size + 1, 0, none⟩ = some (.int .i64 b.lo) ∧ w'.cell? ⟨w.heap.size + 1, 1, none⟩ = some (.int .i64 b.hi))
                (first | (with_reducible exact ⟨A0, A1, B0, B1⟩) | (with_reducible exact ⟨(far2 (by omega)).trans A0, (far2 (by omega)).trans A1, (far2 (by omega)).trans B0, (far2 (by omega)).trans B1⟩) | go_keep)
                (first
                | (go_at_call_of 34 (Value.agg #[.int .i64 b.lo, .int .i64 b.hi]); refine (hTb.out _).mono ?_; rintro e wn ⟨rfl, hbn⟩; (try clear u0 u1 u2 u3 ul); (first | (with_reducible have hU := Lib.hid (newU (o := (.cells #[.int .i64 0, .int .i64 0] 23 (0, 0))) hbn)) | (with_reducible have hU := Lib.hid (newUd (o := (.cells #[.int .i64 0, .int .i64 0] 23 (0, 0))) hbn)) | (have hU := Lib.hid (moveX (by (repeat with_reducible first | exact Below.refl _ _ | apply bDrew | apply bAlloc)) hbn hU.out)) | skip); (first | (have u0 := (cells2 hU.out).1.1; have u1 := (cells2 hU.out).1.2; have u2 := (cells2 hU.out).2.1; have u3 := (cells2 hU.out).2.2; have ul := blkLt hU.out) | skip); have Az := Al; have Bz := Bl; have Sz := Sl; have Tz := Tl; have Uz := Ul; have Vz := Vl; have Xz := Xl; replace HW := Lib.hid (bCall (by (repeat with_reducible first | exact HW.out | apply bDrew | apply bAlloc)) hbn); replace HA := Lib.hid (moveX (by (repeat with_reducible first | exact Below.refl _ _ | apply bDrew | apply bAlloc)) hbn HA.out); replace HB := Lib.hid (moveX (by (repeat with_reducible first | exact Below.refl _ _ | apply bDrew | apply bAlloc)) hbn HB.out); replace HS := Lib.hid (moveX (by (repeat with_reducible first | exact Below.refl _ _ | apply bDrew | apply bAlloc)) hbn HS.out); replace HT := Lib.hid (moveX (by (repeat with_reducible first | exact Below.refl _ _ | apply bDrew | apply bAlloc)) hbn HT.out); replace HU := Lib.hid (moveX (by (repeat with_reducible first | exact Below.refl _ _ | apply bDrew | apply bAlloc)) hbn HU.out); replace HV := Lib.hid (moveX (by (repeat with_reducible first | exact Below.refl _ _ | apply bDrew | apply bAlloc)) hbn HV.out); replace HX := Lib.hid (moveX (by (repeat with_reducible first | exact Below.refl _ _ | apply bDrew | apply bAlloc)) hbn HX.out); replace A0 := (cells2 HA.out).1.1; replace A1 := (cells2 HA.out).1.2; replace A2 := (cells2 HA.out).2.1; replace A3 := (cells2 HA.out).2.2; replace Al := blkLt HA.out; replace B0 := (cells2 HB.out).1.1; replace B1 := (cells2 HB.out).1.2; replace B2 := (cells2 HB.out).2.1; replace B3 := (cells2 HB.out).2.2; replace Bl := blkLt HB.out; replace S0 := (cells2 HS.out).1.1; replace S1 := (cells2 HS.out).1.2; replace S2 := (cells2 HS.out).2.1; replace S3 := (cells2 HS.out).2.2; replace Sl := blkLt HS.out; replace T0 := (cells2 HT.out).1.1; replace T1 := (cells2 HT.out).1.2; replace T2 := (cells2 HT.out).2.1; replace T3 := (cells2 HT.out).2.2; replace Tl := blkLt HT.out; replace U0 := (cells2 HU.out).1.1; replace U1 := (cells2 HU.out).1.2; replace U2 := (cells2 HU.out).2.1; replace U3 := (cells2 HU.out).2.2; replace Ul := blkLt HU.out; replace V0 := (cells2 HV.out).1.1; replace V1 := (cells2 HV.out).1.2; replace V2 := (cells2 HV.out).2.1; replace V3 := (cells2 HV.out).2.2; replace Vl := blkLt HV.out; replace X0 := (cells2 HX.out).1.1; replace X1 := (cells2 HX.out).1.2; replace X2 := (cells2 HX.out).2.1; replace X3 := (cells2 HX.out).2.2; replace Xl := blkLt HX.out; clear hbn)
                | (go_at_call_of 11 (sv tb); refine (hAd.out _).mono ?_; rintro e wn ⟨rfl, hbn⟩; (try clear u0 u1 u2 u3 ul); (first | (with_reducible have hU := Lib.hid (newU (o := (.cells #[.int .i64 0, .int .i64 0] 23 (0, 0))) hbn)) | (with_reducible have hU := Lib.hid (newUd (o := (.cells #[.int .i64 0, .int .i64 0] 23 (0, 0))) hbn)) | (have hU := Lib.hid (moveX (by (repeat with_reducible first | exact Below.refl _ _ | apply bDrew | apply bAlloc)) hbn hU.out)) | skip); (first | (have u0 := (cells2 hU.out).1.1; have u1 := (cells2 hU.out).1.2; have u2 := (cells2 hU.out).2.1; have u3 := (cells2 hU.out).2.2; have ul := blkLt hU.out) | skip); have Az := Al; have Bz := Bl; have Sz := Sl; have Tz := Tl; have Uz := Ul; have Vz := Vl; have Xz := Xl; replace HW := Lib.hid (bCall (by (repeat with_reducible first | exact HW.out | apply bDrew | apply bAlloc)) hbn); replace HA := Lib.hid (moveX (by (repeat with_reducible first | exact Below.refl _ _ | apply bDrew | apply bAlloc)) hbn HA.out); replace HB := Lib.hid (moveX (by (repeat with_reducible first | exact Below.refl _ _ | apply bDrew | apply bAlloc)) hbn HB.out); replace HS := Lib.hid (moveX (by (repeat with_reducible first | exact Below.refl _ _ | apply bDrew | apply bAlloc)) hbn HS.out); replace HT := Lib.hid (moveX (by (repeat with_reducible first | exact Below.refl _ _ | apply bDrew | apply bAlloc)) hbn HT.out); replace HU := Lib.hid (moveX (by (repeat with_reducible first | exact Below.refl _ _ | apply bDrew | apply bAlloc)) hbn HU.out); replace HV := Lib.hid (moveX (by (repeat with_reducible first | exact Below.refl _ _ | apply bDrew | apply bAlloc)) hbn HV.out); replace HX := Lib.hid (moveX (by (repeat with_reducible first | exact Below.refl _ _ | apply bDrew | apply bAlloc)) hbn HX.out); replace A0 := (cells2 HA.out).1.1; replace A1 := (cells2 HA.out).1.2; replace A2 := (cells2 HA.out).2.1; replace A3 := (cells2 HA.out).2.2; replace Al := blkLt HA.out; replace B0 := (cells2 HB.out).1.1; replace B1 := (cells2 HB.out).1.2; replace B2 := (cells2 HB.out).2.1; replace B3 := (cells2 HB.out).2.2; replace Bl := blkLt HB.out; replace S0 := (cells2 HS.out).1.1; replace S1 := (cells2 HS.out).1.2; replace S2 := (cells2 HS.out).2.1; replace S3 := (cells2 HS.out).2.2; replace Sl := blkLt HS.out; replace T0 := (cells2 HT.out).1.1; replace T1 := (cells2 HT.out).1.2; replace T2 := (cells2 HT.out).2.1; replace T3 := (cells2 HT.out).2.2; replace Tl := blkLt HT.out; replace U0 := (cells2 HU.out).1.1; replace U1 := (cells2 HU.out).1.2; replace U2 := (cells2 HU.out).2.1; replace U3 := (cells2 HU.out).2.2; replace Ul := blkLt HU.out; replace V0 := (cells2 HV.out).1.1; replace V1 := (cells2 HV.out).1.2; replace V2 := (cells2 HV.out).2.1; replace V3 := (cells2 HV.out).2.2; replace Vl := blkLt HV.out; replace X0 := (cells2 HX.out).1.1; replace X1 := (cells2 HX.out).1.2; replace X2 := (cells2 HX.out).2.1; replace X3 := (cells2 HX.out).2.2; replace Xl := blkLt HX.out; clear hbn))
              all_goals go_wp2_with fail
              all_goals go_meet
              all_goals first
                | (have hq := hU; exact ⟨_, rfl, rfl, Lib.hid (setK HA.out (by omega)), Lib.hid (setK HB.out (by omega)), Lib.hid (setK HS.out (by omega)), Lib.hid (setK HT.out (by omega)), Lib.hid (setK HU.out (by omega)), Lib.hid (setK HV.out (by omega)), Lib.hid (setK HX.out (by omega)), Lib.hid (res2 hU.out).1, Lib.hid (below2 HW.out (by omega))⟩)
                | exact ⟨_, rfl, rfl, Lib.hid (mvAlloc HA.out), Lib.hid (mvAlloc HB.out), Lib.hid (mvAlloc HS.out), Lib.hid (mvAlloc HT.out), Lib.hid (mvAlloc HU.out), Lib.hid (mvAlloc HV.out), Lib.hid (mvAlloc HX.out), Lib.hid (newBlk _ _ _ rfl), Lib.hid (bAlloc HW.out)⟩
            case rest => as_aux_lemma =>
              clear HW HA HB HS HT HU HV HX
              obtain ⟨bY, rfl, rfl, HA, HB, HS, HT, HU, HV, HX, HY, HW⟩ := hcut
              clear hAd hTb
              go_upto_region 10 with fail
              have z1 := fun w => run_sp_eq tv tv w
              rw [spEq_rfl] at z1
              have z2 := fun w => run_sp_eq x x w
              rw [spEq_rfl] at z2
              rcases he with rfl | rfl
              · have hst := hst.out rfl
                subst hst
                have z3 := fun w => run_sp_eq s s w
                rw [spEq_rfl] at z3
                have S0 := (cells2 HS.out).1.1
                have S1 := (cells2 HS.out).1.2
                have S2 := (cells2 HS.out).2.1
                have S3 := (cells2 HS.out).2.2
                have Sl := blkLt HS.out
                have T0 := (cells2 HT.out).1.1
                have T1 := (cells2 HT.out).1.2
                have T2 := (cells2 HT.out).2.1
                have T3 := (cells2 HT.out).2.2
                have Tl := blkLt HT.out
                have U0 := (cells2 HU.out).1.1
                have U1 := (cells2 HU.out).1.2
                have U2 := (cells2 HU.out).2.1
                have U3 := (cells2 HU.out).2.2
                have Ul := blkLt HU.out
                have V0 := (cells2 HV.out).1.1
                have V1 := (cells2 HV.out).1.2
                have V2 := (cells2 HV.out).2.1
                have V3 := (cells2 HV.out).2.2
                have Vl := blkLt HV.out
                have X0 := (cells2 HX.out).1.1
                have X1 := (cells2 HX.out).1.2
                have X2 := (cells2 HX.out).2.1
                have X3 := (cells2 HX.out).2.2
                have Xl := blkLt HX.out
                have Y0 := (cells2 HY.out).1.1
                have Y1 := (cells2 HY.out).1.2
                have Y2 := (cells2 HY.out).2.1
                have Y3 := (cells2 HY.out).2.2
                have Yl := blkLt HY.out
                go_region_held3 (fun w' => w'.cell? ⟨bS, 0, none⟩ = some (.int .i64 s.lo) ∧ w'.cell? ⟨bS, 1, none⟩ = some (.int .i64 s.hi) ∧ w'.cell? ⟨bT, 0, none⟩ = some (.int .i64 t.lo) ∧ w'.cell? ⟨bT, 1, none⟩ = some (.int .i64 t.hi) ∧ w'.cell? ⟨bU, 0, none⟩ = some (.int .i64 tv.lo) ∧ w'.cell? ⟨bU, 1, none⟩ = some (.int .i64 tv.hi) ∧ w'.cell? ⟨bV, 0, none⟩ = some (.int .i64 v.lo) ∧ w'.cell? ⟨bV, 1, none⟩ = some (.int .i64 v.hi) ∧ w'.cell? ⟨bX, 0, none⟩ = some (.int .i64 x.lo) ∧ w'.cell? ⟨bX, 1, none⟩ = some (.int .i64 x.hi) ∧ w'.cell? ⟨bY, 0, none⟩ = some (.int .i64 x.lo) ∧ w'.cell? ⟨bY, 1, none⟩ = some (.int .i64 x.hi))
                  (first | (with_reducible exact ⟨S0, S1, T0, T1, U0, U1, V0, V1, X0, X1, Y0, Y1⟩) | go_keep)
                  (first
                  | (go_at_call_of 34 (Value.agg #[.int .i64 t.lo, .int .i64 t.hi]); refine (hTt.out _).mono ?_; rintro e2 wn ⟨rfl, hbn⟩; replace HW := Lib.hid (bCall (by (repeat with_reducible first | exact HW.out | apply bDrew | apply bAlloc)) hbn); replace HS := Lib.hid (moveX (by (repeat with_reducible first | exact Below.refl _ _ | apply bDrew | apply bAlloc)) hbn HS.out); replace HT := Lib.hid (moveX (by (repeat with_reducible first | exact Below.refl _ _ | apply bDrew | apply bAlloc)) hbn HT.out); replace HU := Lib.hid (moveX (by (repeat with_reducible first | exact Below.refl _ _ | apply bDrew | apply bAlloc)) hbn HU.out); replace HV := Lib.hid (moveX (by (repeat with_reducible first | exact Below.refl _ _ | apply bDrew | apply bAlloc)) hbn HV.out); replace HX := Lib.hid (moveX (by (repeat with_reducible first | exact Below.refl _ _ | apply bDrew | apply bAlloc)) hbn HX.out); replace HY := Lib.hid (moveX (by (repeat with_reducible first | exact Below.refl _ _ | apply bDrew | apply bAlloc)) hbn HY.out); replace S0 := (cells2 HS.out).1.1; replace S1 := (cells2 HS.out).1.2; replace S2 := (cells2 HS.out).2.1; replace S3 := (cells2 HS.out).2.2; replace Sl := blkLt HS.out; replace T0 := (cells2 HT.out).1.1; replace T1 := (cells2 HT.out).1.2; replace T2 := (cells2 HT.out).2.1; replace T3 := (cells2 HT.out).2.2; replace Tl := blkLt HT.out; replace U0 := (cells2 HU.out).1.1; replace U1 := (cells2 HU.out).1.2; replace U2 := (cells2 HU.out).2.1; replace U3 := (cells2 HU.out).2.2; replace Ul := blkLt HU.out; replace V0 := (cells2 HV.out).1.1; replace V1 := (cells2 HV.out).1.2; replace V2 := (cells2 HV.out).2.1; replace V3 := (cells2 HV.out).2.2; replace Vl := blkLt HV.out; replace X0 := (cells2 HX.out).1.1; replace X1 := (cells2 HX.out).1.2; replace X2 := (cells2 HX.out).2.1; replace X3 := (cells2 HX.out).2.2; replace Xl := blkLt HX.out; replace Y0 := (cells2 HY.out).1.1; replace Y1 := (cells2 HY.out).1.2; replace Y2 := (cells2 HY.out).2.1; replace Y3 := (cells2 HY.out).2.2; replace Yl := blkLt HY.out; clear hbn)
                  | (go_at_call_of 34 (Value.agg #[.int .i64 v.lo, .int .i64 v.hi]); refine (hTv.out _).mono ?_; rintro e2 wn ⟨rfl, hbn⟩; replace HW := Lib.hid (bCall (by (repeat with_reducible first | exact HW.out | apply bDrew | apply bAlloc)) hbn); replace HS := Lib.hid (moveX (by (repeat with_reducible first | exact Below.refl _ _ | apply bDrew | apply bAlloc)) hbn HS.out); replace HT := Lib.hid (moveX (by (repeat with_reducible first | exact Below.refl _ _ | apply bDrew | apply bAlloc)) hbn HT.out); replace HU := Lib.hid (moveX (by (repeat with_reducible first | exact Below.refl _ _ | apply bDrew | apply bAlloc)) hbn HU.out); replace HV := Lib.hid (moveX (by (repeat with_reducible first | exact Below.refl _ _ | apply bDrew | apply bAlloc)) hbn HV.out); replace HX := Lib.hid (moveX (by (repeat with_reducible first | exact Below.refl _ _ | apply bDrew | apply bAlloc)) hbn HX.out); replace HY := Lib.hid (moveX (by (repeat with_reducible first | exact Below.refl _ _ | apply bDrew | apply bAlloc)) hbn HY.out); replace S0 := (cells2 HS.out).1.1; replace S1 := (cells2 HS.out).1.2; replace S2 := (cells2 HS.out).2.1; replace S3 := (cells2 HS.out).2.2; replace Sl := blkLt HS.out; replace T0 := (cells2 HT.out).1.1; replace T1 := (cells2 HT.out).1.2; replace T2 := (cells2 HT.out).2.1; replace T3 := (cells2 HT.out).2.2; replace Tl := blkLt HT.out; replace U0 := (cells2 HU.out).1.1; replace U1 := (cells2 HU.out).1.2; replace U2 := (cells2 HU.out).2.1; replace U3 := (cells2 HU.out).2.2; replace Ul := blkLt HU.out; replace V0 := (cells2 HV.out).1.1; replace V1 := (cells2 HV.out).1.2; replace V2 := (cells2 HV.out).2.1; replace V3 := (cells2 HV.out).2.2; replace Vl := blkLt HV.out; replace X0 := (cells2 HX.out).1.1; replace X1 := (cells2 HX.out).1.2; replace X2 := (cells2 HX.out).2.1; replace X3 := (cells2 HX.out).2.2; replace Xl := blkLt HX.out; replace Y0 := (cells2 HY.out).1.1; replace Y1 := (cells2 HY.out).1.2; replace Y2 := (cells2 HY.out).2.1; replace Y3 := (cells2 HY.out).2.2; replace Yl := blkLt HY.out; clear hbn))
                all_goals go_wp2
                all_goals go_ret
                all_goals exact ⟨rfl, HW.out⟩
              · clear hst
                clear hTt
                have S0 := (cells2 HS.out).1.1
                have S1 := (cells2 HS.out).1.2
                have S2 := (cells2 HS.out).2.1
                have S3 := (cells2 HS.out).2.2
                have Sl := blkLt HS.out
                have T0 := (cells2 HT.out).1.1
                have T1 := (cells2 HT.out).1.2
                have T2 := (cells2 HT.out).2.1
                have T3 := (cells2 HT.out).2.2
                have Tl := blkLt HT.out
                have U0 := (cells2 HU.out).1.1
                have U1 := (cells2 HU.out).1.2
                have U2 := (cells2 HU.out).2.1
                have U3 := (cells2 HU.out).2.2
                have Ul := blkLt HU.out
                have V0 := (cells2 HV.out).1.1
                have V1 := (cells2 HV.out).1.2
                have V2 := (cells2 HV.out).2.1
                have V3 := (cells2 HV.out).2.2
                have Vl := blkLt HV.out
                have X0 := (cells2 HX.out).1.1
                have X1 := (cells2 HX.out).1.2
                have X2 := (cells2 HX.out).2.1
                have X3 := (cells2 HX.out).2.2
                have Xl := blkLt HX.out
                have Y0 := (cells2 HY.out).1.1
                have Y1 := (cells2 HY.out).1.2
                have Y2 := (cells2 HY.out).2.1
                have Y3 := (cells2 HY.out).2.2
                have Yl := blkLt HY.out
                refine wp_region_held_drew (S := fun w' => w'.cell? ⟨bS, 0, none⟩ = some (.int .i64 s.lo) ∧ w'.cell? ⟨bS, 1, none⟩ = some (.int .i64 s.hi) ∧ w'.cell? ⟨bT, 0, none⟩ = some (.int .i64 t.lo) ∧ w'.cell? ⟨bT, 1, none⟩ = some (.int .i64 t.hi) ∧ w'.cell? ⟨bU, 0, none⟩ = some (.int .i64 tv.lo) ∧ w'.cell? ⟨bU, 1, none⟩ = some (.int .i64 tv.hi) ∧ w'.cell? ⟨bV, 0, none⟩ = some (.int .i64 v.lo) ∧ w'.cell? ⟨bV, 1, none⟩ = some (.int .i64 v.hi) ∧ w'.cell? ⟨bX, 0, none⟩ = some (.int .i64 x.lo) ∧ w'.cell? ⟨bX, 1, none⟩ = some (.int .i64 x.hi) ∧ w'.cell? ⟨bY, 0, none⟩ = some (.int .i64 x.lo) ∧ w'.cell? ⟨bY, 1, none⟩ = some (.int .i64 x.hi)) (by kernel_rfl) ?_ (fun hHeld => ?_)
                focus ((try dsimp only); first | (with_reducible exact ⟨S0, S1, T0, T1, U0, U1, V0, V1, X0, X1, Y0, Y1⟩) | go_keep)
                first
                  | (refine wpAnyH_take (i := 0) (v := ?_) rfl (by kernel_rfl) (by kernel_rfl) (by kernel_rfl) (fun _ _ _ h => h) (Or.inl ⟨by rfl, ?_⟩) (by assumption) ?_; rotate_left; focus (intro w' hSw; (try dsimp only at hSw); go_simp; (try with_reducible rfl)))
                  | (refine wpAnyH_take (i := 0) (v := undef) rfl (by kernel_rfl) (by kernel_rfl) (by kernel_rfl) (fun _ _ _ h => h) (Or.inr ⟨by rfl, rfl⟩) (by assumption) ?_)
                (try simp only [List.getElem_toArray, List.getElem_cons_succ, List.getElem_cons_zero, Act.put, List.setIfInBounds_toArray, List.set_cons_zero, List.set_cons_succ])
                first
                  | (refine wpAnyH_take (i := 1) (v := ?_) rfl (by kernel_rfl) (by kernel_rfl) (by kernel_rfl) (fun _ _ _ h => h) (Or.inl ⟨by rfl, ?_⟩) (by assumption) ?_; rotate_left; focus (intro w' hSw; (try dsimp only at hSw); go_simp; (try with_reducible rfl)))
                  | (refine wpAnyH_take (i := 1) (v := undef) rfl (by kernel_rfl) (by kernel_rfl) (by kernel_rfl) (fun _ _ _ h => h) (Or.inr ⟨by rfl, rfl⟩) (by assumption) ?_)
                (try simp only [List.getElem_toArray, List.getElem_cons_succ, List.getElem_cons_zero, Act.put, List.setIfInBounds_toArray, List.set_cons_zero, List.set_cons_succ])
                first
                  | (refine wpAnyH_take (i := 2) (v := ?_) rfl (by kernel_rfl) (by kernel_rfl) (by kernel_rfl) (fun _ _ _ h => h) (Or.inl ⟨by rfl, ?_⟩) (by assumption) ?_; rotate_left; focus (intro w' hSw; (try dsimp only at hSw); go_simp; (try with_reducible rfl)))
                  | (refine wpAnyH_take (i := 2) (v := undef) rfl (by kernel_rfl) (by kernel_rfl) (by kernel_rfl) (fun _ _ _ h => h) (Or.inr ⟨by rfl, rfl⟩) (by assumption) ?_)
                (try simp only [List.getElem_toArray, List.getElem_cons_succ, List.getElem_cons_zero, Act.put, List.setIfInBounds_toArray, List.set_cons_zero, List.set_cons_succ])
                first
                  | (refine wpAnyH_take (i := 3) (v := ?_) rfl (by kernel_rfl) (by kernel_rfl) (by kernel_rfl) (fun _ _ _ h => h) (Or.inl ⟨by rfl, ?_⟩) (by assumption) ?_; rotate_left; focus (intro w' hSw; (try dsimp only at hSw); go_simp; (try with_reducible rfl)))
                  | (refine wpAnyH_take (i := 3) (v := undef) rfl (by kernel_rfl) (by kernel_rfl) (by kernel_rfl) (fun _ _ _ h => h) (Or.inr ⟨by rfl, rfl⟩) (by assumption) ?_)
                (try simp only [List.getElem_toArray, List.getElem_cons_succ, List.getElem_cons_zero, Act.put, List.setIfInBounds_toArray, List.set_cons_zero, List.set_cons_succ])
                first
                  | (refine wpAnyH_take (i := 4) (v := ?_) rfl (by kernel_rfl) (by kernel_rfl) (by kernel_rfl) (fun _ _ _ h => h) (Or.inl ⟨by rfl, ?_⟩) (by assumption) ?_; rotate_left; focus (intro w' hSw; (try dsimp only at hSw); go_simp; (try with_reducible rfl)))
                  | (refine wpAnyH_take (i := 4) (v := undef) rfl (by kernel_rfl) (by kernel_rfl) (by kernel_rfl) (fun _ _ _ h => h) (Or.inr ⟨by rfl, rfl⟩) (by assumption) ?_)
                (try simp only [List.getElem_toArray, List.getElem_cons_succ, List.getElem_cons_zero, Act.put, List.setIfInBounds_toArray, List.set_cons_zero, List.set_cons_succ])
                first
                  | (refine wpAnyH_take (i := 5) (v := ?_) rfl (by kernel_rfl) (by kernel_rfl) (by kernel_rfl) (fun _ _ _ h => h) (Or.inl ⟨by rfl, ?_⟩) (by assumption) ?_; rotate_left; focus (intro w' hSw; (try dsimp only at hSw); go_simp; (try with_reducible rfl)))
                  | (refine wpAnyH_take (i := 5) (v := undef) rfl (by kernel_rfl) (by kernel_rfl) (by kernel_rfl) (fun _ _ _ h => h) (Or.inr ⟨by rfl, rfl⟩) (by assumption) ?_)
                (try simp only [List.getElem_toArray, List.getElem_cons_succ, List.getElem_cons_zero, Act.put, List.setIfInBounds_toArray, List.set_cons_zero, List.set_cons_succ])
                first
                  | (refine wpAnyH_take (i := 6) (v := ?_) rfl (by kernel_rfl) (by kernel_rfl) (by kernel_rfl) (fun _ _ _ h => h) (Or.inl ⟨by rfl, ?_⟩) (by assumption) ?_; rotate_left; focus (intro w' hSw; (try dsimp only at hSw); go_simp; (try with_reducible rfl)))
                  | (refine wpAnyH_take (i := 6) (v := undef) rfl (by kernel_rfl) (by kernel_rfl) (by kernel_rfl) (fun _ _ _ h => h) (Or.inr ⟨by rfl, rfl⟩) (by assumption) ?_)
                (try simp only [List.getElem_toArray, List.getElem_cons_succ, List.getElem_cons_zero, Act.put, List.setIfInBounds_toArray, List.set_cons_zero, List.set_cons_succ])
                first
                  | (refine wpAnyH_take (i := 7) (v := ?_) rfl (by kernel_rfl) (by kernel_rfl) (by kernel_rfl) (fun _ _ _ h => h) (Or.inl ⟨by rfl, ?_⟩) (by assumption) ?_; rotate_left; focus (intro w' hSw; (try dsimp only at hSw); go_simp; (try with_reducible rfl)))
                  | (refine wpAnyH_take (i := 7) (v := undef) rfl (by kernel_rfl) (by kernel_rfl) (by kernel_rfl) (fun _ _ _ h => h) (Or.inr ⟨by rfl, rfl⟩) (by assumption) ?_)
                (try simp only [List.getElem_toArray, List.getElem_cons_succ, List.getElem_cons_zero, Act.put, List.setIfInBounds_toArray, List.set_cons_zero, List.set_cons_succ])
                first
                  | (refine wpAnyH_take (i := 8) (v := ?_) rfl (by kernel_rfl) (by kernel_rfl) (by kernel_rfl) (fun _ _ _ h => h) (Or.inl ⟨by rfl, ?_⟩) (by assumption) ?_; rotate_left; focus (intro w' hSw; (try dsimp only at hSw); go_simp; (try with_reducible rfl)))
                  | (refine wpAnyH_take (i := 8) (v := undef) rfl (by kernel_rfl) (by kernel_rfl) (by kernel_rfl) (fun _ _ _ h => h) (Or.inr ⟨by rfl, rfl⟩) (by assumption) ?_)
                (try simp only [List.getElem_toArray, List.getElem_cons_succ, List.getElem_cons_zero, Act.put, List.setIfInBounds_toArray, List.set_cons_zero, List.set_cons_succ])
                first
                  | (refine wpAnyH_take (i := 9) (v := ?_) rfl (by kernel_rfl) (by kernel_rfl) (by kernel_rfl) (fun _ _ _ h => h) (Or.inl ⟨by rfl, ?_⟩) (by assumption) ?_; rotate_left; focus (intro w' hSw; (try dsimp only at hSw); go_simp; (try with_reducible rfl)))
                  | (refine wpAnyH_take (i := 9) (v := undef) rfl (by kernel_rfl) (by kernel_rfl) (by kernel_rfl) (fun _ _ _ h => h) (Or.inr ⟨by rfl, rfl⟩) (by assumption) ?_)
                (try simp only [List.getElem_toArray, List.getElem_cons_succ, List.getElem_cons_zero, Act.put, List.setIfInBounds_toArray, List.set_cons_zero, List.set_cons_succ])
                first
                  | (refine wpAnyH_take (i := 10) (v := ?_) rfl (by kernel_rfl) (by kernel_rfl) (by kernel_rfl) (fun _ _ _ h => h) (Or.inl ⟨by rfl, ?_⟩) (by assumption) ?_; rotate_left; focus (intro w' hSw; (try dsimp only at hSw); go_simp; (try with_reducible rfl)))
                  | (refine wpAnyH_take (i := 10) (v := undef) rfl (by kernel_rfl) (by kernel_rfl) (by kernel_rfl) (fun _ _ _ h => h) (Or.inr ⟨by rfl, rfl⟩) (by assumption) ?_)
                (try simp only [List.getElem_toArray, List.getElem_cons_succ, List.getElem_cons_zero, Act.put, List.setIfInBounds_toArray, List.set_cons_zero, List.set_cons_succ])
                first
                  | (refine wpAnyH_take (i := 11) (v := ?_) rfl (by kernel_rfl) (by kernel_rfl) (by kernel_rfl) (fun _ _ _ h => h) (Or.inl ⟨by rfl, ?_⟩) (by assumption) ?_; rotate_left; focus (intro w' hSw; (try dsimp only at hSw); go_simp; (try with_reducible rfl)))
                  | (refine wpAnyH_take (i := 11) (v := undef) rfl (by kernel_rfl) (by kernel_rfl) (by kernel_rfl) (fun _ _ _ h => h) (Or.inr ⟨by rfl, rfl⟩) (by assumption) ?_)
                (try simp only [List.getElem_toArray, List.getElem_cons_succ, List.getElem_cons_zero, Act.put, List.setIfInBounds_toArray, List.set_cons_zero, List.set_cons_succ])
                first
                  | (refine wpAnyH_take (i := 12) (v := undef) rfl (by kernel_rfl) (by kernel_rfl) (by kernel_rfl) (fun _ _ _ h => h) (Or.inr ⟨by rfl, rfl⟩) (by assumption) ?_)
                  | (refine wpAnyH_ready (rs := [12]) (by kernel_rfl) (by simp) ?_; refine AllReadyH.cons rfl (fun K hK => ?_) AllReadyH.nil; go_simp; fail; (try (go_wp2_with fail)); refine hK.out _ _ ?_ (fun hHeld => ?_); (focus ((try dsimp only); first | (with_reducible exact ⟨S0, S1, T0, T1, U0, U1, V0, V1, X0, X1, Y0, Y1⟩) | go_keep)); clear hK K)
                (try simp only [List.getElem_toArray, List.getElem_cons_succ, List.getElem_cons_zero, Act.put, List.setIfInBounds_toArray, List.set_cons_zero, List.set_cons_succ])
                first
                  | (refine wpAnyH_take (i := 13) (v := ?_) rfl (by kernel_rfl) (by kernel_rfl) (by kernel_rfl) (fun _ _ _ h => h) (Or.inl ⟨by rfl, ?_⟩) (by assumption) ?_; rotate_left; focus (intro w' hSw; (try dsimp only at hSw); go_simp; (try with_reducible rfl)))
                  | (refine wpAnyH_take (i := 13) (v := undef) rfl (by kernel_rfl) (by kernel_rfl) (by kernel_rfl) (fun _ _ _ h => h) (Or.inr ⟨by rfl, rfl⟩) (by assumption) ?_)
                (try simp only [List.getElem_toArray, List.getElem_cons_succ, List.getElem_cons_zero, Act.put, List.setIfInBounds_toArray, List.set_cons_zero, List.set_cons_succ])
                first
                  | (refine wpAnyH_take (i := 14) (v := ?_) rfl (by kernel_rfl) (by kernel_rfl) (by kernel_rfl) (fun _ _ _ h => h) (Or.inl ⟨by rfl, ?_⟩) (by assumption) ?_; rotate_left; focus (intro w' hSw; (try dsimp only at hSw); go_simp; (try with_reducible rfl)))
                  | (refine wpAnyH_take (i := 14) (v := undef) rfl (by kernel_rfl) (by kernel_rfl) (by kernel_rfl) (fun _ _ _ h => h) (Or.inr ⟨by rfl, rfl⟩) (by assumption) ?_)
                (try simp only [List.getElem_toArray, List.getElem_cons_succ, List.getElem_cons_zero, Act.put, List.setIfInBounds_toArray, List.set_cons_zero, List.set_cons_succ])
                first
                  | (refine wpAnyH_take (i := 15) (v := ?_) rfl (by kernel_rfl) (by kernel_rfl) (by kernel_rfl) (fun _ _ _ h => h) (Or.inl ⟨by rfl, ?_⟩) (by assumption) ?_; rotate_left; focus (intro w' hSw; (try dsimp only at hSw); go_simp; (try with_reducible rfl)))
                  | (refine wpAnyH_take (i := 15) (v := undef) rfl (by kernel_rfl) (by kernel_rfl) (by kernel_rfl) (fun _ _ _ h => h) (Or.inr ⟨by rfl, rfl⟩) (by assumption) ?_)
                (try simp only [List.getElem_toArray, List.getElem_cons_succ, List.getElem_cons_zero, Act.put, List.setIfInBounds_toArray, List.set_cons_zero, List.set_cons_succ])
                first
                  | (refine wpAnyH_take (i := 16) (v := ?_) rfl (by kernel_rfl) (by kernel_rfl) (by kernel_rfl) (fun _ _ _ h => h) (Or.inl ⟨by rfl, ?_⟩) (by assumption) ?_; rotate_left; focus (intro w' hSw; (try dsimp only at hSw); go_simp; (try with_reducible rfl)))
                  | (refine wpAnyH_take (i := 16) (v := undef) rfl (by kernel_rfl) (by kernel_rfl) (by kernel_rfl) (fun _ _ _ h => h) (Or.inr ⟨by rfl, rfl⟩) (by assumption) ?_)
                (try simp only [List.getElem_toArray, List.getElem_cons_succ, List.getElem_cons_zero, Act.put, List.setIfInBounds_toArray, List.set_cons_zero, List.set_cons_succ])
                first
                  | (refine wpAnyH_take (i := 17) (v := ?_) rfl (by kernel_rfl) (by kernel_rfl) (by kernel_rfl) (fun _ _ _ h => h) (Or.inl ⟨by rfl, ?_⟩) (by assumption) ?_; rotate_left; focus (intro w' hSw; (try dsimp only at hSw); go_simp; (try with_reducible rfl)))
                  | (refine wpAnyH_take (i := 17) (v := undef) rfl (by kernel_rfl) (by kernel_rfl) (by kernel_rfl) (fun _ _ _ h => h) (Or.inr ⟨by rfl, rfl⟩) (by assumption) ?_)
                (try simp only [List.getElem_toArray, List.getElem_cons_succ, List.getElem_cons_zero, Act.put, List.setIfInBounds_toArray, List.set_cons_zero, List.set_cons_succ])
                first
                  | (refine wpAnyH_take (i := 18) (v := ?_) rfl (by kernel_rfl) (by kernel_rfl) (by kernel_rfl) (fun _ _ _ h => h) (Or.inl ⟨by rfl, ?_⟩) (by assumption) ?_; rotate_left; focus (intro w' hSw; (try dsimp only at hSw); go_simp; (try with_reducible rfl)))
                  | (refine wpAnyH_take (i := 18) (v := undef) rfl (by kernel_rfl) (by kernel_rfl) (by kernel_rfl) (fun _ _ _ h => h) (Or.inr ⟨by rfl, rfl⟩) (by assumption) ?_)
                (try simp only [List.getElem_toArray, List.getElem_cons_succ, List.getElem_cons_zero, Act.put, List.setIfInBounds_toArray, List.set_cons_zero, List.set_cons_succ])
                first
                  | (refine wpAnyH_take (i := 19) (v := ?_) rfl (by kernel_rfl) (by kernel_rfl) (by kernel_rfl) (fun _ _ _ h => h) (Or.inl ⟨by rfl, ?_⟩) (by assumption) ?_; rotate_left; focus (intro w' hSw; (try dsimp only at hSw); go_simp; (try with_reducible rfl)))
                  | (refine wpAnyH_take (i := 19) (v := undef) rfl (by kernel_rfl) (by kernel_rfl) (by kernel_rfl) (fun _ _ _ h => h) (Or.inr ⟨by rfl, rfl⟩) (by assumption) ?_)
                (try simp only [List.getElem_toArray, List.getElem_cons_succ, List.getElem_cons_zero, Act.put, List.setIfInBounds_toArray, List.set_cons_zero, List.set_cons_succ])
                first
                  | (refine wpAnyH_take (i := 20) (v := ?_) rfl (by kernel_rfl) (by kernel_rfl) (by kernel_rfl) (fun _ _ _ h => h) (Or.inl ⟨by rfl, ?_⟩) (by assumption) ?_; rotate_left; focus (intro w' hSw; (try dsimp only at hSw); go_simp; (try with_reducible rfl)))
                  | (refine wpAnyH_take (i := 20) (v := undef) rfl (by kernel_rfl) (by kernel_rfl) (by kernel_rfl) (fun _ _ _ h => h) (Or.inr ⟨by rfl, rfl⟩) (by assumption) ?_)
                (try simp only [List.getElem_toArray, List.getElem_cons_succ, List.getElem_cons_zero, Act.put, List.setIfInBounds_toArray, List.set_cons_zero, List.set_cons_succ])
                first
                  | (refine wpAnyH_take (i := 21) (v := ?_) rfl (by kernel_rfl) (by kernel_rfl) (by kernel_rfl) (fun _ _ _ h => h) (Or.inl ⟨by rfl, ?_⟩) (by assumption) ?_; rotate_left; focus (intro w' hSw; (try dsimp only at hSw); go_simp; (try with_reducible rfl)))
                  | (refine wpAnyH_take (i := 21) (v := undef) rfl (by kernel_rfl) (by kernel_rfl) (by kernel_rfl) (fun _ _ _ h => h) (Or.inr ⟨by rfl, rfl⟩) (by assumption) ?_)
                (try simp only [List.getElem_toArray, List.getElem_cons_succ, List.getElem_cons_zero, Act.put, List.setIfInBounds_toArray, List.set_cons_zero, List.set_cons_succ])
                first
                  | (refine wpAnyH_take (i := 22) (v := ?_) rfl (by kernel_rfl) (by kernel_rfl) (by kernel_rfl) (fun _ _ _ h => h) (Or.inl ⟨by rfl, ?_⟩) (by assumption) ?_; rotate_left; focus (intro w' hSw; (try dsimp only at hSw); go_simp; (try with_reducible rfl)))
                  | (refine wpAnyH_take (i := 22) (v := undef) rfl (by kernel_rfl) (by kernel_rfl) (by kernel_rfl) (fun _ _ _ h => h) (Or.inr ⟨by rfl, rfl⟩) (by assumption) ?_)
                (try simp only [List.getElem_toArray, List.getElem_cons_succ, List.getElem_cons_zero, Act.put, List.setIfInBounds_toArray, List.set_cons_zero, List.set_cons_succ])
                first
                  | (refine wpAnyH_take (i := 23) (v := ?_) rfl (by kernel_rfl) (by kernel_rfl) (by kernel_rfl) (fun _ _ _ h => h) (Or.inl ⟨by rfl, ?_⟩) (by assumption) ?_; rotate_left; focus (intro w' hSw; (try dsimp only at hSw); go_simp; (try with_reducible rfl)))
                  | (refine wpAnyH_take (i := 23) (v := undef) rfl (by kernel_rfl) (by kernel_rfl) (by kernel_rfl) (fun _ _ _ h => h) (Or.inr ⟨by rfl, rfl⟩) (by assumption) ?_)
                (try simp only [List.getElem_toArray, List.getElem_cons_succ, List.getElem_cons_zero, Act.put, List.setIfInBounds_toArray, List.set_cons_zero, List.set_cons_succ])
                first
                  | (refine wpAnyH_take (i := 24) (v := ?_) rfl (by kernel_rfl) (by kernel_rfl) (by kernel_rfl) (fun _ _ _ h => h) (Or.inl ⟨by rfl, ?_⟩) (by assumption) ?_; rotate_left; focus (intro w' hSw; (try dsimp only at hSw); go_simp; (try with_reducible rfl)))
                  | (refine wpAnyH_take (i := 24) (v := undef) rfl (by kernel_rfl) (by kernel_rfl) (by kernel_rfl) (fun _ _ _ h => h) (Or.inr ⟨by rfl, rfl⟩) (by assumption) ?_)
                (try simp only [List.getElem_toArray, List.getElem_cons_succ, List.getElem_cons_zero, Act.put, List.setIfInBounds_toArray, List.set_cons_zero, List.set_cons_succ])
                first
                  | (refine wpAnyH_take (i := 25) (v := ?_) rfl (by kernel_rfl) (by kernel_rfl) (by kernel_rfl) (fun _ _ _ h => h) (Or.inl ⟨by rfl, ?_⟩) (by assumption) ?_; rotate_left; focus (intro w' hSw; (try dsimp only at hSw); go_simp; (try with_reducible rfl)))
                  | (refine wpAnyH_take (i := 25) (v := undef) rfl (by kernel_rfl) (by kernel_rfl) (by kernel_rfl) (fun _ _ _ h => h) (Or.inr ⟨by rfl, rfl⟩) (by assumption) ?_)
                (try simp only [List.getElem_toArray, List.getElem_cons_succ, List.getElem_cons_zero, Act.put, List.setIfInBounds_toArray, List.set_cons_zero, List.set_cons_succ])
                first
                  | (refine wpAnyH_take (i := 26) (v := ?_) rfl (by kernel_rfl) (by kernel_rfl) (by kernel_rfl) (fun _ _ _ h => h) (Or.inl ⟨by rfl, ?_⟩) (by assumption) ?_; rotate_left; focus (intro w' hSw; (try dsimp only at hSw); go_simp; (try with_reducible rfl)))
                  | (refine wpAnyH_take (i := 26) (v := undef) rfl (by kernel_rfl) (by kernel_rfl) (by kernel_rfl) (fun _ _ _ h => h) (Or.inr ⟨by rfl, rfl⟩) (by assumption) ?_)
                (try simp only [List.getElem_toArray, List.getElem_cons_succ, List.getElem_cons_zero, Act.put, List.setIfInBounds_toArray, List.set_cons_zero, List.set_cons_succ])
                first
                  | (refine wpAnyH_take (i := 27) (v := undef) rfl (by kernel_rfl) (by kernel_rfl) (by kernel_rfl) (fun _ _ _ h => h) (Or.inr ⟨by rfl, rfl⟩) (by assumption) ?_)
                  | (refine wpAnyH_ready (rs := [27]) (by kernel_rfl) (by simp) ?_; refine AllReadyH.cons rfl (fun K hK => ?_) AllReadyH.nil; go_simp; (go_at_call_of 34 (Value.agg #[.int .i64 v.lo, .int .i64 v.hi]); refine (hTv.out _).mono ?_; rintro e2 wn ⟨rfl, hbn⟩; replace HW := Lib.hid (bCall (by (repeat with_reducible first | exact HW.out | apply bDrew | apply bAlloc)) hbn); replace HS := Lib.hid (moveX (by (repeat with_reducible first | exact Below.refl _ _ | apply bDrew | apply bAlloc)) hbn HS.out); replace HT := Lib.hid (moveX (by (repeat with_reducible first | exact Below.refl _ _ | apply bDrew | apply bAlloc)) hbn HT.out); replace HU := Lib.hid (moveX (by (repeat with_reducible first | exact Below.refl _ _ | apply bDrew | apply bAlloc)) hbn HU.out); replace HV := Lib.hid (moveX (by (repeat with_reducible first | exact Below.refl _ _ | apply bDrew | apply bAlloc)) hbn HV.out); replace HX := Lib.hid (moveX (by (repeat with_reducible first | exact Below.refl _ _ | apply bDrew | apply bAlloc)) hbn HX.out); replace HY := Lib.hid (moveX (by (repeat with_reducible first | exact Below.refl _ _ | apply bDrew | apply bAlloc)) hbn HY.out); replace S0 := (cells2 HS.out).1.1; replace S1 := (cells2 HS.out).1.2; replace S2 := (cells2 HS.out).2.1; replace S3 := (cells2 HS.out).2.2; replace Sl := blkLt HS.out; replace T0 := (cells2 HT.out).1.1; replace T1 := (cells2 HT.out).1.2; replace T2 := (cells2 HT.out).2.1; replace T3 := (cells2 HT.out).2.2; replace Tl := blkLt HT.out; replace U0 := (cells2 HU.out).1.1; replace U1 := (cells2 HU.out).1.2; replace U2 := (cells2 HU.out).2.1; replace U3 := (cells2 HU.out).2.2; replace Ul := blkLt HU.out; replace V0 := (cells2 HV.out).1.1; replace V1 := (cells2 HV.out).1.2; replace V2 := (cells2 HV.out).2.1; replace V3 := (cells2 HV.out).2.2; replace Vl := blkLt HV.out; replace X0 := (cells2 HX.out).1.1; replace X1 := (cells2 HX.out).1.2; replace X2 := (cells2 HX.out).2.1; replace X3 := (cells2 HX.out).2.2; replace Xl := blkLt HX.out; replace Y0 := (cells2 HY.out).1.1; replace Y1 := (cells2 HY.out).1.2; replace Y2 := (cells2 HY.out).2.1; replace Y3 := (cells2 HY.out).2.2; replace Yl := blkLt HY.out; clear hbn); (try (go_wp2_with fail)); refine hK.out _ _ ?_ (fun hHeld => ?_); (focus ((try dsimp only); first | (with_reducible exact ⟨S0, S1, T0, T1, U0, U1, V0, V1, X0, X1, Y0, Y1⟩) | go_keep)); clear hK K)
                (try simp only [List.getElem_toArray, List.getElem_cons_succ, List.getElem_cons_zero, Act.put, List.setIfInBounds_toArray, List.set_cons_zero, List.set_cons_succ])
                first
                  | (refine wpAnyH_take (i := 28) (v := ?_) rfl (by kernel_rfl) (by kernel_rfl) (by kernel_rfl) (fun _ _ _ h => h) (Or.inl ⟨by rfl, ?_⟩) (by assumption) ?_; rotate_left; focus (intro w' hSw; (try dsimp only at hSw); go_simp; (try with_reducible rfl)))
                  | (refine wpAnyH_take (i := 28) (v := undef) rfl (by kernel_rfl) (by kernel_rfl) (by kernel_rfl) (fun _ _ _ h => h) (Or.inr ⟨by rfl, rfl⟩) (by assumption) ?_)
                (try simp only [List.getElem_toArray, List.getElem_cons_succ, List.getElem_cons_zero, Act.put, List.setIfInBounds_toArray, List.set_cons_zero, List.set_cons_succ])
                first
                  | (refine wpAnyH_take (i := 29) (v := ?_) rfl (by kernel_rfl) (by kernel_rfl) (by kernel_rfl) (fun _ _ _ h => h) (Or.inl ⟨by rfl, ?_⟩) (by assumption) ?_; rotate_left; focus (intro w' hSw; (try dsimp only at hSw); go_simp; (try with_reducible rfl)))
                  | (refine wpAnyH_take (i := 29) (v := undef) rfl (by kernel_rfl) (by kernel_rfl) (by kernel_rfl) (fun _ _ _ h => h) (Or.inr ⟨by rfl, rfl⟩) (by assumption) ?_)
                (try simp only [List.getElem_toArray, List.getElem_cons_succ, List.getElem_cons_zero, Act.put, List.setIfInBounds_toArray, List.set_cons_zero, List.set_cons_succ])
                first
                  | (refine wpAnyH_take (i := 30) (v := ?_) rfl (by kernel_rfl) (by kernel_rfl) (by kernel_rfl) (fun _ _ _ h => h) (Or.inl ⟨by rfl, ?_⟩) (by assumption) ?_; rotate_left; focus (intro w' hSw; (try dsimp only at hSw); go_simp; (try with_reducible rfl)))
                  | (refine wpAnyH_take (i := 30) (v := undef) rfl (by kernel_rfl) (by kernel_rfl) (by kernel_rfl) (fun _ _ _ h => h) (Or.inr ⟨by rfl, rfl⟩) (by assumption) ?_)
                (try simp only [List.getElem_toArray, List.getElem_cons_succ, List.getElem_cons_zero, Act.put, List.setIfInBounds_toArray, List.set_cons_zero, List.set_cons_succ])
                first
                  | (refine wpAnyH_take (i := 31) (v := ?_) rfl (by kernel_rfl) (by kernel_rfl) (by kernel_rfl) (fun _ _ _ h => h) (Or.inl ⟨by rfl, ?_⟩) (by assumption) ?_; rotate_left; focus (intro w' hSw; (try dsimp only at hSw); go_simp; (try with_reducible rfl)))
                  | (refine wpAnyH_take (i := 31) (v := undef) rfl (by kernel_rfl) (by kernel_rfl) (by kernel_rfl) (fun _ _ _ h => h) (Or.inr ⟨by rfl, rfl⟩) (by assumption) ?_)
                (try simp only [List.getElem_toArray, List.getElem_cons_succ, List.getElem_cons_zero, Act.put, List.setIfInBounds_toArray, List.set_cons_zero, List.set_cons_succ])
                first
                  | (refine wpAnyH_take (i := 32) (v := ?_) rfl (by kernel_rfl) (by kernel_rfl) (by kernel_rfl) (fun _ _ _ h => h) (Or.inl ⟨by rfl, ?_⟩) (by assumption) ?_; rotate_left; focus (intro w' hSw; (try dsimp only at hSw); go_simp; (try with_reducible rfl)))
                  | (refine wpAnyH_take (i := 32) (v := undef) rfl (by kernel_rfl) (by kernel_rfl) (by kernel_rfl) (fun _ _ _ h => h) (Or.inr ⟨by rfl, rfl⟩) (by assumption) ?_)
                (try simp only [List.getElem_toArray, List.getElem_cons_succ, List.getElem_cons_zero, Act.put, List.setIfInBounds_toArray, List.set_cons_zero, List.set_cons_succ])
                first
                  | (refine wpAnyH_take (i := 33) (v := ?_) rfl (by kernel_rfl) (by kernel_rfl) (by kernel_rfl) (fun _ _ _ h => h) (Or.inl ⟨by rfl, ?_⟩) (by assumption) ?_; rotate_left; focus (intro w' hSw; (try dsimp only at hSw); go_simp; (try with_reducible rfl)))
                  | (refine wpAnyH_take (i := 33) (v := undef) rfl (by kernel_rfl) (by kernel_rfl) (by kernel_rfl) (fun _ _ _ h => h) (Or.inr ⟨by rfl, rfl⟩) (by assumption) ?_)
                (try simp only [List.getElem_toArray, List.getElem_cons_succ, List.getElem_cons_zero, Act.put, List.setIfInBounds_toArray, List.set_cons_zero, List.set_cons_succ])
                first
                  | (refine wpAnyH_take (i := 34) (v := ?_) rfl (by kernel_rfl) (by kernel_rfl) (by kernel_rfl) (fun _ _ _ h => h) (Or.inl ⟨by rfl, ?_⟩) (by assumption) ?_; rotate_left; focus (intro w' hSw; (try dsimp only at hSw); go_simp; (try with_reducible rfl)))
                  | (refine wpAnyH_take (i := 34) (v := undef) rfl (by kernel_rfl) (by kernel_rfl) (by kernel_rfl) (fun _ _ _ h => h) (Or.inr ⟨by rfl, rfl⟩) (by assumption) ?_)
                (try simp only [List.getElem_toArray, List.getElem_cons_succ, List.getElem_cons_zero, Act.put, List.setIfInBounds_toArray, List.set_cons_zero, List.set_cons_succ])
                first
                  | (refine wpAnyH_take (i := 35) (v := ?_) rfl (by kernel_rfl) (by kernel_rfl) (by kernel_rfl) (fun _ _ _ h => h) (Or.inl ⟨by rfl, ?_⟩) (by assumption) ?_; rotate_left; focus (intro w' hSw; (try dsimp only at hSw); go_simp; (try with_reducible rfl)))
                  | (refine wpAnyH_take (i := 35) (v := undef) rfl (by kernel_rfl) (by kernel_rfl) (by kernel_rfl) (fun _ _ _ h => h) (Or.inr ⟨by rfl, rfl⟩) (by assumption) ?_)
                (try simp only [List.getElem_toArray, List.getElem_cons_succ, List.getElem_cons_zero, Act.put, List.setIfInBounds_toArray, List.set_cons_zero, List.set_cons_succ])
                first
                  | (refine wpAnyH_take (i := 36) (v := ?_) rfl (by kernel_rfl) (by kernel_rfl) (by kernel_rfl) (fun _ _ _ h => h) (Or.inl ⟨by rfl, ?_⟩) (by assumption) ?_; rotate_left; focus (intro w' hSw; (try dsimp only at hSw); go_simp; (try with_reducible rfl)))
                  | (refine wpAnyH_take (i := 36) (v := undef) rfl (by kernel_rfl) (by kernel_rfl) (by kernel_rfl) (fun _ _ _ h => h) (Or.inr ⟨by rfl, rfl⟩) (by assumption) ?_)
                (try simp only [List.getElem_toArray, List.getElem_cons_succ, List.getElem_cons_zero, Act.put, List.setIfInBounds_toArray, List.set_cons_zero, List.set_cons_succ])
                first
                  | (refine wpAnyH_take (i := 37) (v := ?_) rfl (by kernel_rfl) (by kernel_rfl) (by kernel_rfl) (fun _ _ _ h => h) (Or.inl ⟨by rfl, ?_⟩) (by assumption) ?_; rotate_left; focus (intro w' hSw; (try dsimp only at hSw); go_simp; (try with_reducible rfl)))
                  | (refine wpAnyH_take (i := 37) (v := undef) rfl (by kernel_rfl) (by kernel_rfl) (by kernel_rfl) (fun _ _ _ h => h) (Or.inr ⟨by rfl, rfl⟩) (by assumption) ?_)
                (try simp only [List.getElem_toArray, List.getElem_cons_succ, List.getElem_cons_zero, Act.put, List.setIfInBounds_toArray, List.set_cons_zero, List.set_cons_succ])
                first
                  | (refine wpAnyH_take (i := 38) (v := ?_) rfl (by kernel_rfl) (by kernel_rfl) (by kernel_rfl) (fun _ _ _ h => h) (Or.inl ⟨by rfl, ?_⟩) (by assumption) ?_; rotate_left; focus (intro w' hSw; (try dsimp only at hSw); go_simp; (try with_reducible rfl)))
                  | (refine wpAnyH_take (i := 38) (v := undef) rfl (by kernel_rfl) (by kernel_rfl) (by kernel_rfl) (fun _ _ _ h => h) (Or.inr ⟨by rfl, rfl⟩) (by assumption) ?_)
                (try simp only [List.getElem_toArray, List.getElem_cons_succ, List.getElem_cons_zero, Act.put, List.setIfInBounds_toArray, List.set_cons_zero, List.set_cons_succ])
                first
                  | (refine wpAnyH_take (i := 39) (v := ?_) rfl (by kernel_rfl) (by kernel_rfl) (by kernel_rfl) (fun _ _ _ h => h) (Or.inl ⟨by rfl, ?_⟩) (by assumption) ?_; rotate_left; focus (intro w' hSw; (try dsimp only at hSw); go_simp; (try with_reducible rfl)))
                  | (refine wpAnyH_take (i := 39) (v := undef) rfl (by kernel_rfl) (by kernel_rfl) (by kernel_rfl) (fun _ _ _ h => h) (Or.inr ⟨by rfl, rfl⟩) (by assumption) ?_)
                (try simp only [List.getElem_toArray, List.getElem_cons_succ, List.getElem_cons_zero, Act.put, List.setIfInBounds_toArray, List.set_cons_zero, List.set_cons_succ])
                first
                  | (refine wpAnyH_take (i := 40) (v := ?_) rfl (by kernel_rfl) (by kernel_rfl) (by kernel_rfl) (fun _ _ _ h => h) (Or.inl ⟨by rfl, ?_⟩) (by assumption) ?_; rotate_left; focus (intro w' hSw; (try dsimp only at hSw); go_simp; (try with_reducible rfl)))
                  | (refine wpAnyH_take (i := 40) (v := undef) rfl (by kernel_rfl) (by kernel_rfl) (by kernel_rfl) (fun _ _ _ h => h) (Or.inr ⟨by rfl, rfl⟩) (by assumption) ?_)
                (try simp only [List.getElem_toArray, List.getElem_cons_succ, List.getElem_cons_zero, Act.put, List.setIfInBounds_toArray, List.set_cons_zero, List.set_cons_succ])
                refine wpAnyH_done (by kernel_rfl) ?_ _
                all_goals go_wp2
                all_goals go_ret
                all_goals exact ⟨rfl, HW.out⟩
theorem signs_any (a b : Sp) (w : World) : Calls Try.prog 7 #[sv a, sv b] w (BB true w) := by
  rcases h : (vB a && vB b) with _ | _
  · exact signs_bad a b h w
  · simp only [Bool.and_eq_true] at h
    obtain ⟨ha, hb⟩ := h
    have h1 := up_turn ha hb
    have h0 : (upM a b).2 = 0 ∨ (upM a b).2 = 14 := by
      rcases hz : zB b with _ | _
      · rw [up_ch ha hb hz]; exact .inl rfl
      · rw [show upM a b = (⟨0, 0⟩, 14) from div_z ha hb hz]; exact .inr rfl
    have h2 := max_turn ha hb
    have h3 := sub_turn ha hb
    refine signs_go a b (turnM a) (turnM b) (upM a b).1 (dvM (turnM a) b).1 (turnM (dvM (turnM a) b).1) (minM (turnM a) (turnM b)).1 (turnM (minM (turnM a) (turnM b)).1) (subM a b).1 (upM a b).2 (subM a b).2 h0 h1.2.2 ?_ ?_ ?_ ?_ ?_ ?_ ?_ ?_ ?_ ?_ ?_ ?_ w
    · intro w; have := RValid_any a w; rw [ha] at this; exact this
    · intro w; have := RValid_any b w; rw [hb] at this; exact this
    · exact Up_any a b
    · intro w; have := Div_any (turnM a) b w; rw [h1.1]; exact this
    · intro w; have := Max_any a b w; rw [show rv (maxM a b) = .tuple #[sv (maxM a b).1, .int .i64 (maxM a b).2] from rfl, h2.1, h2.2.2.2] at this; exact this
    · intro w; have := Min_any (turnM a) (turnM b) w; rw [show rv (minM (turnM a) (turnM b)) = .tuple #[sv (minM (turnM a) (turnM b)).1, .int .i64 (minM (turnM a) (turnM b)).2] from rfl, h2.2.1] at this; exact this
    · exact Sub_any a b
    · intro w; have := Add_any a (turnM b) w; rw [h3]; exact this
    · exact turned_any a ha
    · exact turned_any b hb
    · exact turned_any _ h1.2.1
    · exact turned_any _ h2.2.2.1
end Go.Proofs.Ytiijplgaikdioaa
