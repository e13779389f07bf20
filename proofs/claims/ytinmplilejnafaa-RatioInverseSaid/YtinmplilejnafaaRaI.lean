/- Law package 12: RatioInverse. -/
import Derived.Test.YtinmplilejnafaaRaG
namespace Go.Proofs.Ytinmplilejnafaa
open Go.RowKit
set_option linter.unusedVariables false
set_option linter.unusedSimpArgs false
set_option maxHeartbeats 8000000 in
set_option maxRecDepth 100000 in
theorem inverse_go (a b s p x y : Q) (e g f h : Int)
    (hAd : Hid (∀ w, Calls Try.prog 13 #[qv a, qv b] w (VV (.tuple #[qv s, .int .i64 e]) w)))
    (hS1 : Hid (e = 0 → ∀ w, Calls Try.prog 15 #[qv s, qv b] w (VV (.tuple #[qv a, .int .i64 0]) w)))
    (hS2 : Hid (e = 0 → ∀ w, Calls Try.prog 15 #[qv s, qv a] w (VV (.tuple #[qv b, .int .i64 0]) w)))
    (hMu : Hid (∀ w, Calls Try.prog 17 #[qv a, qv b] w (VV (.tuple #[qv p, .int .i64 g]) w)))
    (hD1 : Hid (g = 0 → ∀ w, Calls Try.prog 19 #[qv p, qv b] w (VV (.tuple #[qv x, .int .i64 f]) w)))
    (hD2 : Hid (g = 0 → ∀ w, Calls Try.prog 19 #[qv p, qv a] w (VV (.tuple #[qv y, .int .i64 h]) w)))
    (hx : Hid (g = 0 → ((b.n == 0) = true ∧ f = 14) ∨ ((b.n == 0) = false ∧ f = 0 ∧ x = a)))
    (hy : Hid (g = 0 → ((a.n == 0) = true ∧ h = 14) ∨ ((a.n == 0) = false ∧ h = 0 ∧ y = b))) (w : World) : Calls Try.prog 6 #[qv a, qv b] w (BB true w) := by
  go_enter Try.func6, Try.ntmps6
  have HW := Lib.hid (Below.refl w.heap.size w)
  go_upto_region 2 with (go_at_call 10; refine (head_any _).mono ?_; rintro e wn ⟨rfl, hbn⟩; obtain ⟨HA, HB⟩ := two2 hbn; have HA := Lib.hid HA; have HB := Lib.hid HB; replace HW := Lib.hid (bCall (by (repeat with_reducible first | exact HW.out | apply bDrew | apply bAlloc)) hbn); clear hbn)
  go_cut [6, 7] (fun s1 s2 wx => ∃ bS : Nat, s1 = .pointer (some ⟨bS, 0, none⟩) ∧ s2 = .int .i64 e ∧ Hid (wx.heap[w.heap.size]? = some (.cells #[.int .i64 (a.n), .int .i64 (a.d)] 23 (0, 0))) ∧ Hid (wx.heap[w.heap.size + 1]? = some (.cells #[.int .i64 (b.n), .int .i64 (b.d)] 23 (0, 0))) ∧ Hid (wx.heap[bS]? = some (.cells #[.int .i64 (s.n), .int .i64 (s.d)] 23 (0, 0))) ∧ Hid (Below w.heap.size w wx))
  case first => as_aux_lemma =>
    have A0 := (cells2 HA.out).1.1
    have A1 := (cells2 HA.out).1.2
    have A2 := (cells2 HA.out).2.1
    have A3 := (cells2 HA.out).2.2
    have Al := blkLt HA.out
    have B0 := (cells2 HB.out).1.1
    have B1 := (cells2 HB.out).1.2
    have B2 := (cells2 HB.out).2.1
    have B3 := (cells2 HB.out).2.2
    have Bl := blkLt HB.out
    go_wp2_with (go_at_call 13; refine (hAd.out _).mono ?_; rintro e wn ⟨rfl, hbn⟩; replace HW := Lib.hid (bCall (by (repeat with_reducible first | exact HW.out | apply bDrew | apply bAlloc)) hbn); replace HA := Lib.hid (moveX (by (repeat with_reducible first | exact Below.refl _ _ | apply bDrew | apply bAlloc)) hbn HA.out); replace HB := Lib.hid (moveX (by (repeat with_reducible first | exact Below.refl _ _ | apply bDrew | apply bAlloc)) hbn HB.out); replace A0 := (cells2 HA.out).1.1; replace A1 := (cells2 HA.out).1.2; replace A2 := (cells2 HA.out).2.1; replace A3 := (cells2 HA.out).2.2; replace Al := blkLt HA.out; replace B0 := (cells2 HB.out).1.1; replace B1 := (cells2 HB.out).1.2; replace B2 := (cells2 HB.out).2.1; replace B3 := (cells2 HB.out).2.2; replace Bl := blkLt HB.out; clear hbn)
    go_meet
    exact ⟨_, rfl, rfl, Lib.hid (mvAlloc HA.out), Lib.hid (mvAlloc HB.out), Lib.hid (newBlk _ _ _ rfl), Lib.hid (bAlloc HW.out)⟩
  case rest => as_aux_lemma =>
    clear HW HA HB
    obtain ⟨bS, rfl, rfl, HA, HB, HS, HW⟩ := hcut
    clear hAd
    go_upto_if 25 with fail
    go_cut [5] (fun s1 wx => s1 = .bool true ∧ Hid (wx.heap[w.heap.size]? = some (.cells #[.int .i64 (a.n), .int .i64 (a.d)] 23 (0, 0))) ∧ Hid (wx.heap[w.heap.size + 1]? = some (.cells #[.int .i64 (b.n), .int .i64 (b.d)] 23 (0, 0))) ∧ Hid (Below w.heap.size w wx))
    case first => as_aux_lemma =>
      by_cases he : e = 0
      · replace hS1 := Lib.hid (hS1.out he)
        replace hS2 := Lib.hid (hS2.out he)
        subst he
        clear hMu hD1 hD2 hx hy
        go_upto_region 4 with fail
        go_cut [8, 9] (fun s1 s2 wx => ∃ bX : Nat, s1 = .pointer (some ⟨bX, 0, none⟩) ∧ s2 = .int .i64 0 ∧ Hid (wx.heap[w.heap.size]? = some (.cells #[.int .i64 (a.n), .int .i64 (a.d)] 23 (0, 0))) ∧ Hid (wx.heap[w.heap.size + 1]? = some (.cells #[.int .i64 (b.n), .int .i64 (b.d)] 23 (0, 0))) ∧ Hid (wx.heap[bS]? = some (.cells #[.int .i64 (s.n), .int .i64 (s.d)] 23 (0, 0))) ∧ Hid (wx.heap[bX]? = some (.cells #[.int .i64 (a.n), .int .i64 (a.d)] 23 (0, 0))) ∧ Hid (Below w.heap.size w wx))
        case first => as_aux_lemma =>
          have A0 := (cells2 HA.out).1.1
          have A1 := (cells2 HA.out).1.2
          have A2 := (cells2 HA.out).2.1
          have A3 := (cells2 HA.out).2.2
          have Al := blkLt HA.out
          have B0 := (cells2 HB.out).1.1
          have B1 := (cells2 HB.out).1.2
          have B2 := (cells2 HB.out).2.1
          have B3 := (cells2 HB.out).2.2
          have Bl := blkLt HB.out
          have S0 := (cells2 HS.out).1.1
          have S1 := (cells2 HS.out).1.2
          have S2 := (cells2 HS.out).2.1
          have S3 := (cells2 HS.out).2.2
          have Sl := blkLt HS.out
          go_wp2_with (go_at_call 15; refine (hS1.out _).mono ?_; rintro e wn ⟨rfl, hbn⟩; replace HW := Lib.hid (bCall (by (repeat with_reducible first | exact HW.out | apply bDrew | apply bAlloc)) hbn); replace HA := Lib.hid (moveX (by (repeat with_reducible first | exact Below.refl _ _ | apply bDrew | apply bAlloc)) hbn HA.out); replace HB := Lib.hid (moveX (by (repeat with_reducible first | exact Below.refl _ _ | apply bDrew | apply bAlloc)) hbn HB.out); replace HS := Lib.hid (moveX (by (repeat with_reducible first | exact Below.refl _ _ | apply bDrew | apply bAlloc)) hbn HS.out); replace A0 := (cells2 HA.out).1.1; replace A1 := (cells2 HA.out).1.2; replace A2 := (cells2 HA.out).2.1; replace A3 := (cells2 HA.out).2.2; replace Al := blkLt HA.out; replace B0 := (cells2 HB.out).1.1; replace B1 := (cells2 HB.out).1.2; replace B2 := (cells2 HB.out).2.1; replace B3 := (cells2 HB.out).2.2; replace Bl := blkLt HB.out; replace S0 := (cells2 HS.out).1.1; replace S1 := (cells2 HS.out).1.2; replace S2 := (cells2 HS.out).2.1; replace S3 := (cells2 HS.out).2.2; replace Sl := blkLt HS.out; clear hbn)
          go_meet
          exact ⟨_, rfl, rfl, Lib.hid (mvAlloc HA.out), Lib.hid (mvAlloc HB.out), Lib.hid (mvAlloc HS.out), Lib.hid (newBlk _ _ _ rfl), Lib.hid (bAlloc HW.out)⟩
        case rest => as_aux_lemma =>
          clear HW HA HB HS
          obtain ⟨bX, rfl, rfl, HA, HB, HS, HX, HW⟩ := hcut
          clear hS1
          go_upto_region 5 with fail
          go_cut [10, 11] (fun s1 s2 wx => ∃ bY : Nat, s1 = .pointer (some ⟨bY, 0, none⟩) ∧ s2 = .int .i64 0 ∧ Hid (wx.heap[w.heap.size]? = some (.cells #[.int .i64 (a.n), .int .i64 (a.d)] 23 (0, 0))) ∧ Hid (wx.heap[w.heap.size + 1]? = some (.cells #[.int .i64 (b.n), .int .i64 (b.d)] 23 (0, 0))) ∧ Hid (wx.heap[bS]? = some (.cells #[.int .i64 (s.n), .int .i64 (s.d)] 23 (0, 0))) ∧ Hid (wx.heap[bX]? = some (.cells #[.int .i64 (a.n), .int .i64 (a.d)] 23 (0, 0))) ∧ Hid (wx.heap[bY]? = some (.cells #[.int .i64 (b.n), .int .i64 (b.d)] 23 (0, 0))) ∧ Hid (Below w.heap.size w wx))
          case first => as_aux_lemma =>
            have A0 := (cells2 HA.out).1.1
            have A1 := (cells2 HA.out).1.2
            have A2 := (cells2 HA.out).2.1
            have A3 := (cells2 HA.out).2.2
            have Al := blkLt HA.out
            have B0 := (cells2 HB.out).1.1
            have B1 := (cells2 HB.out).1.2
            have B2 := (cells2 HB.out).2.1
            have B3 := (cells2 HB.out).2.2
            have Bl := blkLt HB.out
            have S0 := (cells2 HS.out).1.1
            have S1 := (cells2 HS.out).1.2
            have S2 := (cells2 HS.out).2.1
            have S3 := (cells2 HS.out).2.2
            have Sl := blkLt HS.out
            have X0 := (cells2 HX.out).1.1
            have X1 := (cells2 HX.out).1.2
            have X2 := (cells2 HX.out).2.1
            have X3 := (cells2 HX.out).2.2
            have Xl := blkLt HX.out
            go_wp2_with (go_at_call 15; refine (hS2.out _).mono ?_; rintro e wn ⟨rfl, hbn⟩; replace HW := Lib.hid (bCall (by (repeat with_reducible first | exact HW.out | apply bDrew | apply bAlloc)) hbn); replace HA := Lib.hid (moveX (by (repeat with_reducible first | exact Below.refl _ _ | apply bDrew | apply bAlloc)) hbn HA.out); replace HB := Lib.hid (moveX (by (repeat with_reducible first | exact Below.refl _ _ | apply bDrew | apply bAlloc)) hbn HB.out); replace HS := Lib.hid (moveX (by (repeat with_reducible first | exact Below.refl _ _ | apply bDrew | apply bAlloc)) hbn HS.out); replace HX := Lib.hid (moveX (by (repeat with_reducible first | exact Below.refl _ _ | apply bDrew | apply bAlloc)) hbn HX.out); replace A0 := (cells2 HA.out).1.1; replace A1 := (cells2 HA.out).1.2; replace A2 := (cells2 HA.out).2.1; replace A3 := (cells2 HA.out).2.2; replace Al := blkLt HA.out; replace B0 := (cells2 HB.out).1.1; replace B1 := (cells2 HB.out).1.2; replace B2 := (cells2 HB.out).2.1; replace B3 := (cells2 HB.out).2.2; replace Bl := blkLt HB.out; replace S0 := (cells2 HS.out).1.1; replace S1 := (cells2 HS.out).1.2; replace S2 := (cells2 HS.out).2.1; replace S3 := (cells2 HS.out).2.2; replace Sl := blkLt HS.out; replace X0 := (cells2 HX.out).1.1; replace X1 := (cells2 HX.out).1.2; replace X2 := (cells2 HX.out).2.1; replace X3 := (cells2 HX.out).2.2; replace Xl := blkLt HX.out; clear hbn)
            go_meet
            exact ⟨_, rfl, rfl, Lib.hid (mvAlloc HA.out), Lib.hid (mvAlloc HB.out), Lib.hid (mvAlloc HS.out), Lib.hid (mvAlloc HX.out), Lib.hid (newBlk _ _ _ rfl), Lib.hid (bAlloc HW.out)⟩
          case rest => as_aux_lemma =>
            clear HW HA HB HS HX
            obtain ⟨bY, rfl, rfl, HA, HB, HS, HX, HY, HW⟩ := hcut
            go_upto_region 6 with fail
            have A0 := (cells2 HA.out).1.1
            have A1 := (cells2 HA.out).1.2
            have A2 := (cells2 HA.out).2.1
            have A3 := (cells2 HA.out).2.2
            have Al := blkLt HA.out
            have B0 := (cells2 HB.out).1.1
            have B1 := (cells2 HB.out).1.2
            have B2 := (cells2 HB.out).2.1
            have B3 := (cells2 HB.out).2.2
            have Bl := blkLt HB.out
            have X0 := (cells2 HX.out).1.1
            have X1 := (cells2 HX.out).1.2
            have X2 := (cells2 HX.out).2.1
            have X3 := (cells2 HX.out).2.2
            have Xl := blkLt HX.out
            have Y0 := (cells2 HY.out).1.1
            have Y1 := (cells2 HY.out).1.2
            have Y2 := (cells2 HY.out).2.1
            have Y3 := (cells2 HY.out).2.2
            have Yl := blkLt HY.out
            have z1 := fun w => run_q_eq a a w
            have z2 := fun w => run_q_eq b b w
            rw [qEq_rfl] at z1 z2
            go_wp2_with fail
            go_meet
            exact ⟨rfl, HA, HB, HW⟩
      · clear hS1 hS2 hMu hD1 hD2 hx hy
        go_wp2_with fail
        go_meet
        exact ⟨rfl, HA, HB, HW⟩
    case rest => as_aux_lemma =>
      clear HW HA HB HS
      obtain ⟨rfl, HA, HB, HW⟩ := hcut
      clear hS1 hS2
      go_upto_region 7 with fail
      go_cut [12, 7] (fun s1 s2 wx => ∃ bK : Nat, s1 = .pointer (some ⟨bK, 0, none⟩) ∧ s2 = .int .i64 g ∧ Hid (wx.heap[w.heap.size]? = some (.cells #[.int .i64 (a.n), .int .i64 (a.d)] 23 (0, 0))) ∧ Hid (wx.heap[w.heap.size + 1]? = some (.cells #[.int .i64 (b.n), .int .i64 (b.d)] 23 (0, 0))) ∧ Hid (wx.heap[bK]? = some (.cells #[.int .i64 (p.n), .int .i64 (p.d)] 23 (0, 0))) ∧ Hid (Below w.heap.size w wx))
      case first => as_aux_lemma =>
        have A0 := (cells2 HA.out).1.1
        have A1 := (cells2 HA.out).1.2
        have A2 := (cells2 HA.out).2.1
        have A3 := (cells2 HA.out).2.2
        have Al := blkLt HA.out
        have B0 := (cells2 HB.out).1.1
        have B1 := (cells2 HB.out).1.2
        have B2 := (cells2 HB.out).2.1
        have B3 := (cells2 HB.out).2.2
        have Bl := blkLt HB.out
        go_wp2_with (go_at_call 17; refine (hMu.out _).mono ?_; rintro e wn ⟨rfl, hbn⟩; replace HW := Lib.hid (bCall (by (repeat with_reducible first | exact HW.out | apply bDrew | apply bAlloc)) hbn); replace HA := Lib.hid (moveX (by (repeat with_reducible first | exact Below.refl _ _ | apply bDrew | apply bAlloc)) hbn HA.out); replace HB := Lib.hid (moveX (by (repeat with_reducible first | exact Below.refl _ _ | apply bDrew | apply bAlloc)) hbn HB.out); replace A0 := (cells2 HA.out).1.1; replace A1 := (cells2 HA.out).1.2; replace A2 := (cells2 HA.out).2.1; replace A3 := (cells2 HA.out).2.2; replace Al := blkLt HA.out; replace B0 := (cells2 HB.out).1.1; replace B1 := (cells2 HB.out).1.2; replace B2 := (cells2 HB.out).2.1; replace B3 := (cells2 HB.out).2.2; replace Bl := blkLt HB.out; clear hbn)
        go_meet
        exact ⟨_, rfl, rfl, Lib.hid (mvAlloc HA.out), Lib.hid (mvAlloc HB.out), Lib.hid (newBlk _ _ _ rfl), Lib.hid (bAlloc HW.out)⟩
      case rest => as_aux_lemma =>
        clear HW HA HB
        obtain ⟨bK, rfl, rfl, HA, HB, HK, HW⟩ := hcut
        clear hMu
        by_cases hg : g = 0
        rotate_left
        · clear hD1 hD2 hx hy
          go_wp2_with fail
          go_ret
          exact ⟨rfl, HW.out⟩
        replace hD1 := Lib.hid (hD1.out hg)
        replace hD2 := Lib.hid (hD2.out hg)
        replace hx := Lib.hid (hx.out hg)
        replace hy := Lib.hid (hy.out hg)
        subst hg
        go_upto_region 10 with fail
        go_cut [13, 14] (fun s1 s2 wx => ∃ bX : Nat, s1 = .pointer (some ⟨bX, 0, none⟩) ∧ s2 = .int .i64 f ∧ Hid (wx.heap[w.heap.size]? = some (.cells #[.int .i64 (a.n), .int .i64 (a.d)] 23 (0, 0))) ∧ Hid (wx.heap[w.heap.size + 1]? = some (.cells #[.int .i64 (b.n), .int .i64 (b.d)] 23 (0, 0))) ∧ Hid (wx.heap[bK]? = some (.cells #[.int .i64 (p.n), .int .i64 (p.d)] 23 (0, 0))) ∧ Hid (wx.heap[bX]? = some (.cells #[.int .i64 (x.n), .int .i64 (x.d)] 23 (0, 0))) ∧ Hid (Below w.heap.size w wx))
        case first => as_aux_lemma =>
          have A0 := (cells2 HA.out).1.1
          have A1 := (cells2 HA.out).1.2
          have A2 := (cells2 HA.out).2.1
          have A3 := (cells2 HA.out).2.2
          have Al := blkLt HA.out
          have B0 := (cells2 HB.out).1.1
          have B1 := (cells2 HB.out).1.2
          have B2 := (cells2 HB.out).2.1
          have B3 := (cells2 HB.out).2.2
          have Bl := blkLt HB.out
          have K0 := (cells2 HK.out).1.1
          have K1 := (cells2 HK.out).1.2
          have K2 := (cells2 HK.out).2.1
          have K3 := (cells2 HK.out).2.2
          have Kl := blkLt HK.out
          go_wp2_with (go_at_call 19; refine (hD1.out _).mono ?_; rintro e wn ⟨rfl, hbn⟩; replace HW := Lib.hid (bCall (by (repeat with_reducible first | exact HW.out | apply bDrew | apply bAlloc)) hbn); replace HA := Lib.hid (moveX (by (repeat with_reducible first | exact Below.refl _ _ | apply bDrew | apply bAlloc)) hbn HA.out); replace HB := Lib.hid (moveX (by (repeat with_reducible first | exact Below.refl _ _ | apply bDrew | apply bAlloc)) hbn HB.out); replace HK := Lib.hid (moveX (by (repeat with_reducible first | exact Below.refl _ _ | apply bDrew | apply bAlloc)) hbn HK.out); replace A0 := (cells2 HA.out).1.1; replace A1 := (cells2 HA.out).1.2; replace A2 := (cells2 HA.out).2.1; replace A3 := (cells2 HA.out).2.2; replace Al := blkLt HA.out; replace B0 := (cells2 HB.out).1.1; replace B1 := (cells2 HB.out).1.2; replace B2 := (cells2 HB.out).2.1; replace B3 := (cells2 HB.out).2.2; replace Bl := blkLt HB.out; replace K0 := (cells2 HK.out).1.1; replace K1 := (cells2 HK.out).1.2; replace K2 := (cells2 HK.out).2.1; replace K3 := (cells2 HK.out).2.2; replace Kl := blkLt HK.out; clear hbn)
          go_meet
          exact ⟨_, rfl, rfl, Lib.hid (mvAlloc HA.out), Lib.hid (mvAlloc HB.out), Lib.hid (mvAlloc HK.out), Lib.hid (newBlk _ _ _ rfl), Lib.hid (bAlloc HW.out)⟩
        case rest => as_aux_lemma =>
          clear HW HA HB HK
          obtain ⟨bX, rfl, rfl, HA, HB, HK, HX, HW⟩ := hcut
          clear hD1
          go_upto_region 11 with fail
          go_cut [15, 16] (fun s1 s2 wx => ∃ bY : Nat, s1 = .pointer (some ⟨bY, 0, none⟩) ∧ s2 = .int .i64 h ∧ Hid (wx.heap[w.heap.size]? = some (.cells #[.int .i64 (a.n), .int .i64 (a.d)] 23 (0, 0))) ∧ Hid (wx.heap[w.heap.size + 1]? = some (.cells #[.int .i64 (b.n), .int .i64 (b.d)] 23 (0, 0))) ∧ Hid (wx.heap[bK]? = some (.cells #[.int .i64 (p.n), .int .i64 (p.d)] 23 (0, 0))) ∧ Hid (wx.heap[bX]? = some (.cells #[.int .i64 (x.n), .int .i64 (x.d)] 23 (0, 0))) ∧ Hid (wx.heap[bY]? = some (.cells #[.int .i64 (y.n), .int .i64 (y.d)] 23 (0, 0))) ∧ Hid (Below w.heap.size w wx))
          case first => as_aux_lemma =>
            have A0 := (cells2 HA.out).1.1
            have A1 := (cells2 HA.out).1.2
            have A2 := (cells2 HA.out).2.1
            have A3 := (cells2 HA.out).2.2
            have Al := blkLt HA.out
            have B0 := (cells2 HB.out).1.1
            have B1 := (cells2 HB.out).1.2
            have B2 := (cells2 HB.out).2.1
            have B3 := (cells2 HB.out).2.2
            have Bl := blkLt HB.out
            have K0 := (cells2 HK.out).1.1
            have K1 := (cells2 HK.out).1.2
            have K2 := (cells2 HK.out).2.1
            have K3 := (cells2 HK.out).2.2
            have Kl := blkLt HK.out
            have X0 := (cells2 HX.out).1.1
            have X1 := (cells2 HX.out).1.2
            have X2 := (cells2 HX.out).2.1
            have X3 := (cells2 HX.out).2.2
            have Xl := blkLt HX.out
            go_wp2_with (go_at_call 19; refine (hD2.out _).mono ?_; rintro e wn ⟨rfl, hbn⟩; replace HW := Lib.hid (bCall (by (repeat with_reducible first | exact HW.out | apply bDrew | apply bAlloc)) hbn); replace HA := Lib.hid (moveX (by (repeat with_reducible first | exact Below.refl _ _ | apply bDrew | apply bAlloc)) hbn HA.out); replace HB := Lib.hid (moveX (by (repeat with_reducible first | exact Below.refl _ _ | apply bDrew | apply bAlloc)) hbn HB.out); replace HK := Lib.hid (moveX (by (repeat with_reducible first | exact Below.refl _ _ | apply bDrew | apply bAlloc)) hbn HK.out); replace HX := Lib.hid (moveX (by (repeat with_reducible first | exact Below.refl _ _ | apply bDrew | apply bAlloc)) hbn HX.out); replace A0 := (cells2 HA.out).1.1; replace A1 := (cells2 HA.out).1.2; replace A2 := (cells2 HA.out).2.1; replace A3 := (cells2 HA.out).2.2; replace Al := blkLt HA.out; replace B0 := (cells2 HB.out).1.1; replace B1 := (cells2 HB.out).1.2; replace B2 := (cells2 HB.out).2.1; replace B3 := (cells2 HB.out).2.2; replace Bl := blkLt HB.out; replace K0 := (cells2 HK.out).1.1; replace K1 := (cells2 HK.out).1.2; replace K2 := (cells2 HK.out).2.1; replace K3 := (cells2 HK.out).2.2; replace Kl := blkLt HK.out; replace X0 := (cells2 HX.out).1.1; replace X1 := (cells2 HX.out).1.2; replace X2 := (cells2 HX.out).2.1; replace X3 := (cells2 HX.out).2.2; replace Xl := blkLt HX.out; clear hbn)
            go_meet
            exact ⟨_, rfl, rfl, Lib.hid (mvAlloc HA.out), Lib.hid (mvAlloc HB.out), Lib.hid (mvAlloc HK.out), Lib.hid (mvAlloc HX.out), Lib.hid (newBlk _ _ _ rfl), Lib.hid (bAlloc HW.out)⟩
          case rest => as_aux_lemma =>
            clear HW HA HB HK HX
            obtain ⟨bY, rfl, rfl, HA, HB, HK, HX, HY, HW⟩ := hcut
            clear hD2
            go_upto_region 12 with fail
            go_cut [5] (fun s1 wx => s1 = .bool true ∧ Hid (wx.heap[w.heap.size]? = some (.cells #[.int .i64 (a.n), .int .i64 (a.d)] 23 (0, 0))) ∧ Hid (wx.heap[w.heap.size + 1]? = some (.cells #[.int .i64 (b.n), .int .i64 (b.d)] 23 (0, 0))) ∧ Hid (wx.heap[bK]? = some (.cells #[.int .i64 (p.n), .int .i64 (p.d)] 23 (0, 0))) ∧ Hid (wx.heap[bX]? = some (.cells #[.int .i64 (x.n), .int .i64 (x.d)] 23 (0, 0))) ∧ Hid (wx.heap[bY]? = some (.cells #[.int .i64 (y.n), .int .i64 (y.d)] 23 (0, 0))) ∧ Hid (Below w.heap.size w wx))
            case first => as_aux_lemma =>
              rcases hx.out with ⟨tb, rfl⟩ | ⟨tb, rfl, rfl⟩
              all_goals clear hx hy
              all_goals
                have A0 := (cells2 HA.out).1.1
                have A1 := (cells2 HA.out).1.2
                have A2 := (cells2 HA.out).2.1
                have A3 := (cells2 HA.out).2.2
                have Al := blkLt HA.out
                have B0 := (cells2 HB.out).1.1
                have B1 := (cells2 HB.out).1.2
                have B2 := (cells2 HB.out).2.1
                have B3 := (cells2 HB.out).2.2
                have Bl := blkLt HB.out
                have X0 := (cells2 HX.out).1.1
                have X1 := (cells2 HX.out).1.2
                have X2 := (cells2 HX.out).2.1
                have X3 := (cells2 HX.out).2.2
                have Xl := blkLt HX.out
                have Y0 := (cells2 HY.out).1.1
                have Y1 := (cells2 HY.out).1.2
                have Y2 := (cells2 HY.out).2.1
                have Y3 := (cells2 HY.out).2.2
                have Yl := blkLt HY.out
                skip
              · go_wp2_with fail
                go_meet
                exact ⟨rfl, HA, HB, HK, HX, HY, HW⟩
              · have z1 := fun w => run_q_eq x x w
                rw [qEq_rfl] at z1
                go_wp2_with fail
                go_meet
                exact ⟨rfl, HA, HB, HK, HX, HY, HW⟩
            case rest => as_aux_lemma =>
              clear HW HA HB HK HX HY
              obtain ⟨rfl, HA, HB, HK, HX, HY, HW⟩ := hcut
              go_upto_region 13 with fail
              rcases hy.out with ⟨tb, rfl⟩ | ⟨tb, rfl, rfl⟩
              all_goals clear hx hy
              all_goals
                have A0 := (cells2 HA.out).1.1
                have A1 := (cells2 HA.out).1.2
                have A2 := (cells2 HA.out).2.1
                have A3 := (cells2 HA.out).2.2
                have Al := blkLt HA.out
                have B0 := (cells2 HB.out).1.1
                have B1 := (cells2 HB.out).1.2
                have B2 := (cells2 HB.out).2.1
                have B3 := (cells2 HB.out).2.2
                have Bl := blkLt HB.out
                have X0 := (cells2 HX.out).1.1
                have X1 := (cells2 HX.out).1.2
                have X2 := (cells2 HX.out).2.1
                have X3 := (cells2 HX.out).2.2
                have Xl := blkLt HX.out
                have Y0 := (cells2 HY.out).1.1
                have Y1 := (cells2 HY.out).1.2
                have Y2 := (cells2 HY.out).2.1
                have Y3 := (cells2 HY.out).2.2
                have Yl := blkLt HY.out
              · go_wp2_with fail
                go_ret
                exact ⟨rfl, HW.out⟩
              · have z1 := fun w => run_q_eq y y w
                rw [qEq_rfl] at z1
                go_wp2_with fail
                go_ret
                exact ⟨rfl, HW.out⟩
theorem qr_eq {r : Q × Int} {s : Q} {e : Int} (h : r = (s, e)) : qr r = .tuple #[qv s, .int .i64 e] := by rw [h]
theorem inverse_any (a b : Q) (w : World) : Calls Try.prog 6 #[qv a, qv b] w (BB true w) := by
  have bz : ∀ n : Int, (n = 0 → (n == 0) = true) ∧ (n ≠ 0 → (n == 0) = false) := fun n => ⟨fun h => by simp [h], fun h => by simp [h]⟩
  have hs : (addM a b).2 = 0 → addM a b = ((addM a b).1, 0) := fun h => pair_eta h
  have hm : (mulM a b).2 = 0 → mulM a b = ((mulM a b).1, 0) := fun h => pair_eta h
  refine inverse_go a b (addM a b).1 (mulM a b).1 (divM (mulM a b).1 b).1 (divM (mulM a b).1 a).1 (addM a b).2 (mulM a b).2 (divM (mulM a b).1 b).2 (divM (mulM a b).1 a).2 (Lib.hid (Add_any a b)) (Lib.hid fun h w => ?_) (Lib.hid fun h w => ?_) (Lib.hid (Mul_any a b)) (Lib.hid fun _ => Div_any _ b) (Lib.hid fun _ => Div_any _ a) (Lib.hid fun h => ?_) (Lib.hid fun h => ?_) w
  · rw [← qr_eq (sub_inv (hs h)).1]; exact Sub_any _ _ w
  · rw [← qr_eq (sub_inv (hs h)).2]; exact Sub_any _ _ w
  · have v := mul_ok.1 (hm h)
    by_cases h0 : b.n = 0
    · exact .inl ⟨(bz _).1 h0, by rw [div_0 v.2.2.1 v.2.1 h0]⟩
    · have e := (div_inv (hm h)).1 h0
      exact .inr ⟨(bz _).2 h0, by rw [e], by rw [e]⟩
  · have v := mul_ok.1 (hm h)
    by_cases h0 : a.n = 0
    · exact .inl ⟨(bz _).1 h0, by rw [div_0 v.2.2.1 v.1 h0]⟩
    · have e := (div_inv (hm h)).2 h0
      exact .inr ⟨(bz _).2 h0, by rw [e], by rw [e]⟩
end Go.Proofs.Ytinmplilejnafaa
