/- Law package 12: equality of ratios, and the examples. -/
import Derived.Test.YtinmplilejnafaaRaF
import Derived.Test.YtinmplilejnafaaDgA
namespace Go.Proofs.Ytinmplilejnafaa
open Go.RowKit
set_option linter.unusedVariables false
set_option linter.unusedSimpArgs false
def qEq (s t : Q) : Bool := decide (s.n = t.n) && decide (s.d = t.d)
theorem qEq_rfl (s : Q) : qEq s s = true := by simp [qEq]
theorem qEq_iff {s t : Q} : qEq s t = true ↔ s = t := by cases s; cases t; simp [qEq]
theorem run_q_eq (s t : Q) (w : World) : (Op.equalIn 10000 23 (.agg #[.int .i64 s.n, .int .i64 s.d]) (.agg #[.int .i64 t.n, .int .i64 t.d])).run Try.prog w = .ok (qEq s t) w := by
  have hk : Try.prog.plainKey 3 = true := by kernel_rfl
  have he : ∀ x y : Int, (Op.equalIn 9999 3 (.int .i64 x) (.int .i64 y)).run Try.prog w = .ok (x == y) w := fun x y => run_equalIn_int w 9998 3 .i64 .i64 x y Try.underlying3
  have hp : ∀ x y : Value, (part 3 #[x, y] 0).run Try.prog w = .ok x w ∧ (part 3 #[x, y] 1).run Try.prog w = .ok y w :=
    fun x y => ⟨run_part_plain w hk rfl, run_part_plain w hk rfl⟩
  rw [show (10000 : Nat) = 9999 + 1 from rfl, run_equalIn_struct w 9999 _ _ _ (by kernel_rfl) (by kernel_rfl)]
  simp only [Program.fieldsOf, Try.underlying23]
  obtain ⟨a, b⟩ := s
  obtain ⟨a', b'⟩ := t
  have h0 := (hp (.int .i64 a) (.int .i64 b))
  have h1 := (hp (.int .i64 a') (.int .i64 b'))
  by_cases ea : a = a'
  · subst ea
    by_cases eb : b = b'
    · subst eb
      simp [Op.eqFields, Sem.run_bind, h0, h1, he, qEq]
    · simp [Op.eqFields, Sem.run_bind, h0, h1, he, eb, qEq]
  · simp [Op.eqFields, Sem.run_bind, h0, h1, he, ea, qEq]
theorem ex0 (w : World) : Calls Try.prog 13 #[qv ⟨1, 6⟩, qv ⟨1, 10⟩] w (VV (qr (⟨4, 15⟩, 0)) w) := by
  have h := Add_any ⟨1, 6⟩ ⟨1, 10⟩ w
  rw [show addM ⟨1, 6⟩ ⟨1, 10⟩ = (⟨4, 15⟩, 0) by decide +kernel] at h
  exact h
theorem ex1 (w : World) : Calls Try.prog 15 #[qv ⟨2, 3⟩, qv ⟨2, 3⟩] w (VV (qr (⟨0, 1⟩, 0)) w) := by
  have h := Sub_any ⟨2, 3⟩ ⟨2, 3⟩ w
  rw [show subM ⟨2, 3⟩ ⟨2, 3⟩ = (⟨0, 1⟩, 0) by decide +kernel] at h
  exact h
theorem ex2 (w : World) : Calls Try.prog 17 #[qv ⟨-2, 3⟩, qv ⟨9, 4⟩] w (VV (qr (⟨-3, 2⟩, 0)) w) := by
  have h := Mul_any ⟨-2, 3⟩ ⟨9, 4⟩ w
  rw [show mulM ⟨-2, 3⟩ ⟨9, 4⟩ = (⟨-3, 2⟩, 0) by decide +kernel] at h
  exact h
theorem ex3 (w : World) : Calls Try.prog 19 #[qv ⟨1, 2⟩, qv ⟨0, 1⟩] w (VV (qr (⟨0, 0⟩, 14)) w) := by
  have h := Div_any ⟨1, 2⟩ ⟨0, 1⟩ w
  rw [show divM ⟨1, 2⟩ ⟨0, 1⟩ = (⟨0, 0⟩, 14) by decide +kernel] at h
  exact h
theorem ex4 (w : World) : Calls Try.prog 13 #[qv ⟨1, 99999⟩, qv ⟨1, 100000⟩] w (VV (qr (⟨0, 0⟩, 3)) w) := by
  have h := Add_any ⟨1, 99999⟩ ⟨1, 100000⟩ w
  rw [show addM ⟨1, 99999⟩ ⟨1, 100000⟩ = (⟨0, 0⟩, 3) by decide +kernel] at h
  exact h
theorem ex5 (w : World) : Calls Try.prog 13 #[qv ⟨2, 4⟩, qv ⟨0, 1⟩] w (VV (qr (⟨0, 0⟩, 1)) w) := by
  have h := Add_any ⟨2, 4⟩ ⟨0, 1⟩ w
  rw [show addM ⟨2, 4⟩ ⟨0, 1⟩ = (⟨0, 0⟩, 1) by decide +kernel] at h
  exact h
theorem exN0 (w : World) : Calls Try.prog 11 #[.int .i64 6, .int .i64 (-4)] w (VV (qr (⟨-3, 2⟩, 0)) w) := by
  have h := New_any 6 (-4) w
  rw [show newM 6 (-4) = (⟨-3, 2⟩, 0) by decide +kernel] at h
  exact h
theorem exN1 (w : World) : Calls Try.prog 11 #[.int .i64 6, .int .i64 (0)] w (VV (qr (⟨0, 0⟩, 14)) w) := by
  have h := New_any 6 (0) w
  rw [show newM 6 (0) = (⟨0, 0⟩, 14) by decide +kernel] at h
  exact h
theorem exC (w : World) : Calls Try.prog 21 #[qv ⟨1, 3⟩, qv ⟨1, 4⟩] w (VV (ir (1, 0)) w) := by
  have h := Cmp_any ⟨1, 3⟩ ⟨1, 4⟩ w
  rw [show cmpM ⟨1, 3⟩ ⟨1, 4⟩ = (1, 0) by decide +kernel] at h
  exact h
theorem exV0 (w : World) : Calls Try.prog 23 #[qv ⟨0, 1⟩] w (BB true w) := by
  have h := Valid_any ⟨0, 1⟩ w
  rw [show qB ⟨0, 1⟩ = true by decide +kernel] at h
  exact h
theorem exV1 (w : World) : Calls Try.prog 23 #[qv ⟨0, 2⟩] w (BB false w) := by
  have h := Valid_any ⟨0, 2⟩ w
  rw [show qB ⟨0, 2⟩ = false by decide +kernel] at h
  exact h
theorem exV2 (w : World) : Calls Try.prog 23 #[qv ⟨1, 0⟩] w (BB false w) := by
  have h := Valid_any ⟨1, 0⟩ w
  rw [show qB ⟨1, 0⟩ = false by decide +kernel] at h
  exact h
set_option maxHeartbeats 8000000 in
set_option maxRecDepth 100000 in
theorem head_any (w : World) : Calls Try.prog 10 #[] w (BB true w) := by
  have HW := Lib.hid (Below.refl w.heap.size w)
  go_enter Try.func10, Try.ntmps10
  go_upto_region 1 with fail
  go_cut [1, 2] (fun s1 s2 wx => ∃ bG : Nat, s1 = .pointer (some ⟨bG, 0, none⟩) ∧ s2 = .int .i64 0 ∧ Hid (wx.heap[bG]? = some (.cells #[.int .i64 (4), .int .i64 (15)] 23 (0, 0))) ∧ Hid (Below w.heap.size w wx))
  case first => as_aux_lemma =>
    go_wp2_with (first
      | (go_at_call 27; refine (of_any _ _ _).mono ?_; rintro e wn ⟨rfl, hbn⟩; replace HW := Lib.hid (bCall (by (repeat with_reducible first | exact HW.out | apply bDrew | apply bAlloc)) hbn); clear hbn)
      | (go_at_call 13; refine (ex0 _).mono ?_; rintro e wn ⟨rfl, hbn⟩; replace HW := Lib.hid (bCall (by (repeat with_reducible first | exact HW.out | apply bDrew | apply bAlloc)) hbn); clear hbn))
    go_meet
    exact ⟨_, rfl, rfl, Lib.hid (newBlk _ _ _ rfl), Lib.hid (bAlloc HW.out)⟩
  case rest =>
    clear HW
    obtain ⟨bG, rfl, rfl, HG, HW⟩ := hcut
    go_upto_region 2 with fail
    go_cut [3, 4] (fun s1 s2 wx => ∃ bK : Nat, s1 = .pointer (some ⟨bK, 0, none⟩) ∧ s2 = .int .i64 0 ∧ Hid (wx.heap[bG]? = some (.cells #[.int .i64 (4), .int .i64 (15)] 23 (0, 0))) ∧ Hid (wx.heap[bK]? = some (.cells #[.int .i64 (0), .int .i64 (1)] 23 (0, 0))) ∧ Hid (Below w.heap.size w wx))
    case first => as_aux_lemma =>
      have G0 := (cells2 HG.out).1.1
      have G1 := (cells2 HG.out).1.2
      have G2 := (cells2 HG.out).2.1
      have G3 := (cells2 HG.out).2.2
      have Gl := blkLt HG.out
      go_wp2_with (first
        | (go_at_call 27; refine (of_any _ _ _).mono ?_; rintro e wn ⟨rfl, hbn⟩; replace HW := Lib.hid (bCall (by (repeat with_reducible first | exact HW.out | apply bDrew | apply bAlloc)) hbn); replace HG := Lib.hid (moveX (by (repeat with_reducible first | exact Below.refl _ _ | apply bDrew | apply bAlloc)) hbn HG.out); replace G0 := (cells2 HG.out).1.1; replace G1 := (cells2 HG.out).1.2; replace G2 := (cells2 HG.out).2.1; replace G3 := (cells2 HG.out).2.2; replace Gl := blkLt HG.out; clear hbn)
        | (go_at_call 15; refine (ex1 _).mono ?_; rintro e wn ⟨rfl, hbn⟩; replace HW := Lib.hid (bCall (by (repeat with_reducible first | exact HW.out | apply bDrew | apply bAlloc)) hbn); replace HG := Lib.hid (moveX (by (repeat with_reducible first | exact Below.refl _ _ | apply bDrew | apply bAlloc)) hbn HG.out); replace G0 := (cells2 HG.out).1.1; replace G1 := (cells2 HG.out).1.2; replace G2 := (cells2 HG.out).2.1; replace G3 := (cells2 HG.out).2.2; replace Gl := blkLt HG.out; clear hbn))
      go_meet
      exact ⟨_, rfl, rfl, Lib.hid (mvAlloc HG.out), Lib.hid (newBlk _ _ _ rfl), Lib.hid (bAlloc HW.out)⟩
    case rest =>
      clear HW HG
      obtain ⟨bK, rfl, rfl, HG, HK, HW⟩ := hcut
      go_upto_region 3 with fail
      go_cut [5, 6] (fun s1 s2 wx => ∃ bM : Nat, s1 = .pointer (some ⟨bM, 0, none⟩) ∧ s2 = .int .i64 0 ∧ Hid (wx.heap[bG]? = some (.cells #[.int .i64 (4), .int .i64 (15)] 23 (0, 0))) ∧ Hid (wx.heap[bK]? = some (.cells #[.int .i64 (0), .int .i64 (1)] 23 (0, 0))) ∧ Hid (wx.heap[bM]? = some (.cells #[.int .i64 ((-3)), .int .i64 (2)] 23 (0, 0))) ∧ Hid (Below w.heap.size w wx))
      case first => as_aux_lemma =>
        have G0 := (cells2 HG.out).1.1
        have G1 := (cells2 HG.out).1.2
        have G2 := (cells2 HG.out).2.1
        have G3 := (cells2 HG.out).2.2
        have Gl := blkLt HG.out
        have K0 := (cells2 HK.out).1.1
        have K1 := (cells2 HK.out).1.2
        have K2 := (cells2 HK.out).2.1
        have K3 := (cells2 HK.out).2.2
        have Kl := blkLt HK.out
        go_wp2_with (first
          | (go_at_call 27; refine (of_any _ _ _).mono ?_; rintro e wn ⟨rfl, hbn⟩; replace HW := Lib.hid (bCall (by (repeat with_reducible first | exact HW.out | apply bDrew | apply bAlloc)) hbn); replace HG := Lib.hid (moveX (by (repeat with_reducible first | exact Below.refl _ _ | apply bDrew | apply bAlloc)) hbn HG.out); replace HK := Lib.hid (moveX (by (repeat with_reducible first | exact Below.refl _ _ | apply bDrew | apply bAlloc)) hbn HK.out); replace G0 := (cells2 HG.out).1.1; replace G1 := (cells2 HG.out).1.2; replace G2 := (cells2 HG.out).2.1; replace G3 := (cells2 HG.out).2.2; replace Gl := blkLt HG.out; replace K0 := (cells2 HK.out).1.1; replace K1 := (cells2 HK.out).1.2; replace K2 := (cells2 HK.out).2.1; replace K3 := (cells2 HK.out).2.2; replace Kl := blkLt HK.out; clear hbn)
          | (go_at_call 17; refine (ex2 _).mono ?_; rintro e wn ⟨rfl, hbn⟩; replace HW := Lib.hid (bCall (by (repeat with_reducible first | exact HW.out | apply bDrew | apply bAlloc)) hbn); replace HG := Lib.hid (moveX (by (repeat with_reducible first | exact Below.refl _ _ | apply bDrew | apply bAlloc)) hbn HG.out); replace HK := Lib.hid (moveX (by (repeat with_reducible first | exact Below.refl _ _ | apply bDrew | apply bAlloc)) hbn HK.out); replace G0 := (cells2 HG.out).1.1; replace G1 := (cells2 HG.out).1.2; replace G2 := (cells2 HG.out).2.1; replace G3 := (cells2 HG.out).2.2; replace Gl := blkLt HG.out; replace K0 := (cells2 HK.out).1.1; replace K1 := (cells2 HK.out).1.2; replace K2 := (cells2 HK.out).2.1; replace K3 := (cells2 HK.out).2.2; replace Kl := blkLt HK.out; clear hbn))
        go_meet
        exact ⟨_, rfl, rfl, Lib.hid (mvAlloc HG.out), Lib.hid (mvAlloc HK.out), Lib.hid (newBlk _ _ _ rfl), Lib.hid (bAlloc HW.out)⟩
      case rest =>
        clear HW HG HK
        obtain ⟨bM, rfl, rfl, HG, HK, HM, HW⟩ := hcut
        go_upto_region 4 with fail
        go_cut [8] (fun s2 wx => s2 = .int .i64 14 ∧ Hid (wx.heap[bG]? = some (.cells #[.int .i64 (4), .int .i64 (15)] 23 (0, 0))) ∧ Hid (wx.heap[bK]? = some (.cells #[.int .i64 (0), .int .i64 (1)] 23 (0, 0))) ∧ Hid (wx.heap[bM]? = some (.cells #[.int .i64 ((-3)), .int .i64 (2)] 23 (0, 0))) ∧ Hid (Below w.heap.size w wx))
        case first => as_aux_lemma =>
          have G0 := (cells2 HG.out).1.1
          have G1 := (cells2 HG.out).1.2
          have G2 := (cells2 HG.out).2.1
          have G3 := (cells2 HG.out).2.2
          have Gl := blkLt HG.out
          have K0 := (cells2 HK.out).1.1
          have K1 := (cells2 HK.out).1.2
          have K2 := (cells2 HK.out).2.1
          have K3 := (cells2 HK.out).2.2
          have Kl := blkLt HK.out
          have M0 := (cells2 HM.out).1.1
          have M1 := (cells2 HM.out).1.2
          have M2 := (cells2 HM.out).2.1
          have M3 := (cells2 HM.out).2.2
          have Ml := blkLt HM.out
          go_wp2_with (first
            | (go_at_call 27; refine (of_any _ _ _).mono ?_; rintro e wn ⟨rfl, hbn⟩; replace HW := Lib.hid (bCall (by (repeat with_reducible first | exact HW.out | apply bDrew | apply bAlloc)) hbn); replace HG := Lib.hid (moveX (by (repeat with_reducible first | exact Below.refl _ _ | apply bDrew | apply bAlloc)) hbn HG.out); replace HK := Lib.hid (moveX (by (repeat with_reducible first | exact Below.refl _ _ | apply bDrew | apply bAlloc)) hbn HK.out); replace HM := Lib.hid (moveX (by (repeat with_reducible first | exact Below.refl _ _ | apply bDrew | apply bAlloc)) hbn HM.out); replace G0 := (cells2 HG.out).1.1; replace G1 := (cells2 HG.out).1.2; replace G2 := (cells2 HG.out).2.1; replace G3 := (cells2 HG.out).2.2; replace Gl := blkLt HG.out; replace K0 := (cells2 HK.out).1.1; replace K1 := (cells2 HK.out).1.2; replace K2 := (cells2 HK.out).2.1; replace K3 := (cells2 HK.out).2.2; replace Kl := blkLt HK.out; replace M0 := (cells2 HM.out).1.1; replace M1 := (cells2 HM.out).1.2; replace M2 := (cells2 HM.out).2.1; replace M3 := (cells2 HM.out).2.2; replace Ml := blkLt HM.out; clear hbn)
            | (go_at_call 19; refine (ex3 _).mono ?_; rintro e wn ⟨rfl, hbn⟩; replace HW := Lib.hid (bCall (by (repeat with_reducible first | exact HW.out | apply bDrew | apply bAlloc)) hbn); replace HG := Lib.hid (moveX (by (repeat with_reducible first | exact Below.refl _ _ | apply bDrew | apply bAlloc)) hbn HG.out); replace HK := Lib.hid (moveX (by (repeat with_reducible first | exact Below.refl _ _ | apply bDrew | apply bAlloc)) hbn HK.out); replace HM := Lib.hid (moveX (by (repeat with_reducible first | exact Below.refl _ _ | apply bDrew | apply bAlloc)) hbn HM.out); replace G0 := (cells2 HG.out).1.1; replace G1 := (cells2 HG.out).1.2; replace G2 := (cells2 HG.out).2.1; replace G3 := (cells2 HG.out).2.2; replace Gl := blkLt HG.out; replace K0 := (cells2 HK.out).1.1; replace K1 := (cells2 HK.out).1.2; replace K2 := (cells2 HK.out).2.1; replace K3 := (cells2 HK.out).2.2; replace Kl := blkLt HK.out; replace M0 := (cells2 HM.out).1.1; replace M1 := (cells2 HM.out).1.2; replace M2 := (cells2 HM.out).2.1; replace M3 := (cells2 HM.out).2.2; replace Ml := blkLt HM.out; clear hbn))
          go_meet
          exact ⟨rfl, Lib.hid (mvAlloc HG.out), Lib.hid (mvAlloc HK.out), Lib.hid (mvAlloc HM.out), Lib.hid (bAlloc HW.out)⟩
        case rest =>
          clear HW HG HK HM
          obtain ⟨rfl, HG, HK, HM, HW⟩ := hcut
          go_upto_region 5 with fail
          go_cut [10] (fun s2 wx => s2 = .int .i64 3 ∧ Hid (wx.heap[bG]? = some (.cells #[.int .i64 (4), .int .i64 (15)] 23 (0, 0))) ∧ Hid (wx.heap[bK]? = some (.cells #[.int .i64 (0), .int .i64 (1)] 23 (0, 0))) ∧ Hid (wx.heap[bM]? = some (.cells #[.int .i64 ((-3)), .int .i64 (2)] 23 (0, 0))) ∧ Hid (Below w.heap.size w wx))
          case first => as_aux_lemma =>
            have G0 := (cells2 HG.out).1.1
            have G1 := (cells2 HG.out).1.2
            have G2 := (cells2 HG.out).2.1
            have G3 := (cells2 HG.out).2.2
            have Gl := blkLt HG.out
            have K0 := (cells2 HK.out).1.1
            have K1 := (cells2 HK.out).1.2
            have K2 := (cells2 HK.out).2.1
            have K3 := (cells2 HK.out).2.2
            have Kl := blkLt HK.out
            have M0 := (cells2 HM.out).1.1
            have M1 := (cells2 HM.out).1.2
            have M2 := (cells2 HM.out).2.1
            have M3 := (cells2 HM.out).2.2
            have Ml := blkLt HM.out
            go_wp2_with (first
              | (go_at_call 27; refine (of_any _ _ _).mono ?_; rintro e wn ⟨rfl, hbn⟩; replace HW := Lib.hid (bCall (by (repeat with_reducible first | exact HW.out | apply bDrew | apply bAlloc)) hbn); replace HG := Lib.hid (moveX (by (repeat with_reducible first | exact Below.refl _ _ | apply bDrew | apply bAlloc)) hbn HG.out); replace HK := Lib.hid (moveX (by (repeat with_reducible first | exact Below.refl _ _ | apply bDrew | apply bAlloc)) hbn HK.out); replace HM := Lib.hid (moveX (by (repeat with_reducible first | exact Below.refl _ _ | apply bDrew | apply bAlloc)) hbn HM.out); replace G0 := (cells2 HG.out).1.1; replace G1 := (cells2 HG.out).1.2; replace G2 := (cells2 HG.out).2.1; replace G3 := (cells2 HG.out).2.2; replace Gl := blkLt HG.out; replace K0 := (cells2 HK.out).1.1; replace K1 := (cells2 HK.out).1.2; replace K2 := (cells2 HK.out).2.1; replace K3 := (cells2 HK.out).2.2; replace Kl := blkLt HK.out; replace M0 := (cells2 HM.out).1.1; replace M1 := (cells2 HM.out).1.2; replace M2 := (cells2 HM.out).2.1; replace M3 := (cells2 HM.out).2.2; replace Ml := blkLt HM.out; clear hbn)
              | (go_at_call 13; refine (ex4 _).mono ?_; rintro e wn ⟨rfl, hbn⟩; replace HW := Lib.hid (bCall (by (repeat with_reducible first | exact HW.out | apply bDrew | apply bAlloc)) hbn); replace HG := Lib.hid (moveX (by (repeat with_reducible first | exact Below.refl _ _ | apply bDrew | apply bAlloc)) hbn HG.out); replace HK := Lib.hid (moveX (by (repeat with_reducible first | exact Below.refl _ _ | apply bDrew | apply bAlloc)) hbn HK.out); replace HM := Lib.hid (moveX (by (repeat with_reducible first | exact Below.refl _ _ | apply bDrew | apply bAlloc)) hbn HM.out); replace G0 := (cells2 HG.out).1.1; replace G1 := (cells2 HG.out).1.2; replace G2 := (cells2 HG.out).2.1; replace G3 := (cells2 HG.out).2.2; replace Gl := blkLt HG.out; replace K0 := (cells2 HK.out).1.1; replace K1 := (cells2 HK.out).1.2; replace K2 := (cells2 HK.out).2.1; replace K3 := (cells2 HK.out).2.2; replace Kl := blkLt HK.out; replace M0 := (cells2 HM.out).1.1; replace M1 := (cells2 HM.out).1.2; replace M2 := (cells2 HM.out).2.1; replace M3 := (cells2 HM.out).2.2; replace Ml := blkLt HM.out; clear hbn))
            go_meet
            exact ⟨rfl, Lib.hid (mvAlloc HG.out), Lib.hid (mvAlloc HK.out), Lib.hid (mvAlloc HM.out), Lib.hid (bAlloc HW.out)⟩
          case rest =>
            clear HW HG HK HM
            obtain ⟨rfl, HG, HK, HM, HW⟩ := hcut
            go_upto_region 6 with fail
            go_cut [11, 12] (fun s1 s2 wx => ∃ bD : Nat, s1 = .pointer (some ⟨bD, 0, none⟩) ∧ s2 = .int .i64 0 ∧ Hid (wx.heap[bG]? = some (.cells #[.int .i64 (4), .int .i64 (15)] 23 (0, 0))) ∧ Hid (wx.heap[bK]? = some (.cells #[.int .i64 (0), .int .i64 (1)] 23 (0, 0))) ∧ Hid (wx.heap[bM]? = some (.cells #[.int .i64 ((-3)), .int .i64 (2)] 23 (0, 0))) ∧ Hid (wx.heap[bD]? = some (.cells #[.int .i64 ((-3)), .int .i64 (2)] 23 (0, 0))) ∧ Hid (Below w.heap.size w wx))
            case first => as_aux_lemma =>
              have G0 := (cells2 HG.out).1.1
              have G1 := (cells2 HG.out).1.2
              have G2 := (cells2 HG.out).2.1
              have G3 := (cells2 HG.out).2.2
              have Gl := blkLt HG.out
              have K0 := (cells2 HK.out).1.1
              have K1 := (cells2 HK.out).1.2
              have K2 := (cells2 HK.out).2.1
              have K3 := (cells2 HK.out).2.2
              have Kl := blkLt HK.out
              have M0 := (cells2 HM.out).1.1
              have M1 := (cells2 HM.out).1.2
              have M2 := (cells2 HM.out).2.1
              have M3 := (cells2 HM.out).2.2
              have Ml := blkLt HM.out
              go_wp2_with (go_at_call 11; refine (exN0 _).mono ?_; rintro e wn ⟨rfl, hbn⟩; replace HW := Lib.hid (bCall (by (repeat with_reducible first | exact HW.out | apply bDrew | apply bAlloc)) hbn); replace HG := Lib.hid (moveX (by (repeat with_reducible first | exact Below.refl _ _ | apply bDrew | apply bAlloc)) hbn HG.out); replace HK := Lib.hid (moveX (by (repeat with_reducible first | exact Below.refl _ _ | apply bDrew | apply bAlloc)) hbn HK.out); replace HM := Lib.hid (moveX (by (repeat with_reducible first | exact Below.refl _ _ | apply bDrew | apply bAlloc)) hbn HM.out); replace G0 := (cells2 HG.out).1.1; replace G1 := (cells2 HG.out).1.2; replace G2 := (cells2 HG.out).2.1; replace G3 := (cells2 HG.out).2.2; replace Gl := blkLt HG.out; replace K0 := (cells2 HK.out).1.1; replace K1 := (cells2 HK.out).1.2; replace K2 := (cells2 HK.out).2.1; replace K3 := (cells2 HK.out).2.2; replace Kl := blkLt HK.out; replace M0 := (cells2 HM.out).1.1; replace M1 := (cells2 HM.out).1.2; replace M2 := (cells2 HM.out).2.1; replace M3 := (cells2 HM.out).2.2; replace Ml := blkLt HM.out; clear hbn)
              go_meet
              exact ⟨_, rfl, rfl, Lib.hid (mvAlloc HG.out), Lib.hid (mvAlloc HK.out), Lib.hid (mvAlloc HM.out), Lib.hid (newBlk _ _ _ rfl), Lib.hid (bAlloc HW.out)⟩
            case rest =>
              clear HW HG HK HM
              obtain ⟨bD, rfl, rfl, HG, HK, HM, HD, HW⟩ := hcut
              go_upto_region 7 with fail
              go_cut [14] (fun s2 wx => s2 = .int .i64 14 ∧ Hid (wx.heap[bG]? = some (.cells #[.int .i64 (4), .int .i64 (15)] 23 (0, 0))) ∧ Hid (wx.heap[bK]? = some (.cells #[.int .i64 (0), .int .i64 (1)] 23 (0, 0))) ∧ Hid (wx.heap[bM]? = some (.cells #[.int .i64 ((-3)), .int .i64 (2)] 23 (0, 0))) ∧ Hid (wx.heap[bD]? = some (.cells #[.int .i64 ((-3)), .int .i64 (2)] 23 (0, 0))) ∧ Hid (Below w.heap.size w wx))
              case first => as_aux_lemma =>
                have G0 := (cells2 HG.out).1.1
                have G1 := (cells2 HG.out).1.2
                have G2 := (cells2 HG.out).2.1
                have G3 := (cells2 HG.out).2.2
                have Gl := blkLt HG.out
                have K0 := (cells2 HK.out).1.1
                have K1 := (cells2 HK.out).1.2
                have K2 := (cells2 HK.out).2.1
                have K3 := (cells2 HK.out).2.2
                have Kl := blkLt HK.out
                have M0 := (cells2 HM.out).1.1
                have M1 := (cells2 HM.out).1.2
                have M2 := (cells2 HM.out).2.1
                have M3 := (cells2 HM.out).2.2
                have Ml := blkLt HM.out
                have D0 := (cells2 HD.out).1.1
                have D1 := (cells2 HD.out).1.2
                have D2 := (cells2 HD.out).2.1
                have D3 := (cells2 HD.out).2.2
                have Dl := blkLt HD.out
                go_wp2_with (go_at_call 11; refine (exN1 _).mono ?_; rintro e wn ⟨rfl, hbn⟩; replace HW := Lib.hid (bCall (by (repeat with_reducible first | exact HW.out | apply bDrew | apply bAlloc)) hbn); replace HG := Lib.hid (moveX (by (repeat with_reducible first | exact Below.refl _ _ | apply bDrew | apply bAlloc)) hbn HG.out); replace HK := Lib.hid (moveX (by (repeat with_reducible first | exact Below.refl _ _ | apply bDrew | apply bAlloc)) hbn HK.out); replace HM := Lib.hid (moveX (by (repeat with_reducible first | exact Below.refl _ _ | apply bDrew | apply bAlloc)) hbn HM.out); replace HD := Lib.hid (moveX (by (repeat with_reducible first | exact Below.refl _ _ | apply bDrew | apply bAlloc)) hbn HD.out); replace G0 := (cells2 HG.out).1.1; replace G1 := (cells2 HG.out).1.2; replace G2 := (cells2 HG.out).2.1; replace G3 := (cells2 HG.out).2.2; replace Gl := blkLt HG.out; replace K0 := (cells2 HK.out).1.1; replace K1 := (cells2 HK.out).1.2; replace K2 := (cells2 HK.out).2.1; replace K3 := (cells2 HK.out).2.2; replace Kl := blkLt HK.out; replace M0 := (cells2 HM.out).1.1; replace M1 := (cells2 HM.out).1.2; replace M2 := (cells2 HM.out).2.1; replace M3 := (cells2 HM.out).2.2; replace Ml := blkLt HM.out; replace D0 := (cells2 HD.out).1.1; replace D1 := (cells2 HD.out).1.2; replace D2 := (cells2 HD.out).2.1; replace D3 := (cells2 HD.out).2.2; replace Dl := blkLt HD.out; clear hbn)
                go_meet
                exact ⟨rfl, Lib.hid (mvAlloc HG.out), Lib.hid (mvAlloc HK.out), Lib.hid (mvAlloc HM.out), Lib.hid (mvAlloc HD.out), Lib.hid (bAlloc HW.out)⟩
              case rest =>
                clear HW HG HK HM HD
                obtain ⟨rfl, HG, HK, HM, HD, HW⟩ := hcut
                go_upto_region 8 with fail
                go_cut [15, 16] (fun s1 s2 wx => s1 = .int .i64 1 ∧ s2 = .int .i64 0 ∧ Hid (wx.heap[bG]? = some (.cells #[.int .i64 (4), .int .i64 (15)] 23 (0, 0))) ∧ Hid (wx.heap[bK]? = some (.cells #[.int .i64 (0), .int .i64 (1)] 23 (0, 0))) ∧ Hid (wx.heap[bM]? = some (.cells #[.int .i64 ((-3)), .int .i64 (2)] 23 (0, 0))) ∧ Hid (wx.heap[bD]? = some (.cells #[.int .i64 ((-3)), .int .i64 (2)] 23 (0, 0))) ∧ Hid (Below w.heap.size w wx))
                case first => as_aux_lemma =>
                  have G0 := (cells2 HG.out).1.1
                  have G1 := (cells2 HG.out).1.2
                  have G2 := (cells2 HG.out).2.1
                  have G3 := (cells2 HG.out).2.2
                  have Gl := blkLt HG.out
                  have K0 := (cells2 HK.out).1.1
                  have K1 := (cells2 HK.out).1.2
                  have K2 := (cells2 HK.out).2.1
                  have K3 := (cells2 HK.out).2.2
                  have Kl := blkLt HK.out
                  have M0 := (cells2 HM.out).1.1
                  have M1 := (cells2 HM.out).1.2
                  have M2 := (cells2 HM.out).2.1
                  have M3 := (cells2 HM.out).2.2
                  have Ml := blkLt HM.out
                  have D0 := (cells2 HD.out).1.1
                  have D1 := (cells2 HD.out).1.2
                  have D2 := (cells2 HD.out).2.1
                  have D3 := (cells2 HD.out).2.2
                  have Dl := blkLt HD.out
                  go_wp2_with (first
                    | (go_at_call 27; refine (of_any _ _ _).mono ?_; rintro e wn ⟨rfl, hbn⟩; replace HW := Lib.hid (bCall (by (repeat with_reducible first | exact HW.out | apply bDrew | apply bAlloc)) hbn); replace HG := Lib.hid (moveX (by (repeat with_reducible first | exact Below.refl _ _ | apply bDrew | apply bAlloc)) hbn HG.out); replace HK := Lib.hid (moveX (by (repeat with_reducible first | exact Below.refl _ _ | apply bDrew | apply bAlloc)) hbn HK.out); replace HM := Lib.hid (moveX (by (repeat with_reducible first | exact Below.refl _ _ | apply bDrew | apply bAlloc)) hbn HM.out); replace HD := Lib.hid (moveX (by (repeat with_reducible first | exact Below.refl _ _ | apply bDrew | apply bAlloc)) hbn HD.out); replace G0 := (cells2 HG.out).1.1; replace G1 := (cells2 HG.out).1.2; replace G2 := (cells2 HG.out).2.1; replace G3 := (cells2 HG.out).2.2; replace Gl := blkLt HG.out; replace K0 := (cells2 HK.out).1.1; replace K1 := (cells2 HK.out).1.2; replace K2 := (cells2 HK.out).2.1; replace K3 := (cells2 HK.out).2.2; replace Kl := blkLt HK.out; replace M0 := (cells2 HM.out).1.1; replace M1 := (cells2 HM.out).1.2; replace M2 := (cells2 HM.out).2.1; replace M3 := (cells2 HM.out).2.2; replace Ml := blkLt HM.out; replace D0 := (cells2 HD.out).1.1; replace D1 := (cells2 HD.out).1.2; replace D2 := (cells2 HD.out).2.1; replace D3 := (cells2 HD.out).2.2; replace Dl := blkLt HD.out; clear hbn)
                    | (go_at_call 21; refine (exC _).mono ?_; rintro e wn ⟨rfl, hbn⟩; replace HW := Lib.hid (bCall (by (repeat with_reducible first | exact HW.out | apply bDrew | apply bAlloc)) hbn); replace HG := Lib.hid (moveX (by (repeat with_reducible first | exact Below.refl _ _ | apply bDrew | apply bAlloc)) hbn HG.out); replace HK := Lib.hid (moveX (by (repeat with_reducible first | exact Below.refl _ _ | apply bDrew | apply bAlloc)) hbn HK.out); replace HM := Lib.hid (moveX (by (repeat with_reducible first | exact Below.refl _ _ | apply bDrew | apply bAlloc)) hbn HM.out); replace HD := Lib.hid (moveX (by (repeat with_reducible first | exact Below.refl _ _ | apply bDrew | apply bAlloc)) hbn HD.out); replace G0 := (cells2 HG.out).1.1; replace G1 := (cells2 HG.out).1.2; replace G2 := (cells2 HG.out).2.1; replace G3 := (cells2 HG.out).2.2; replace Gl := blkLt HG.out; replace K0 := (cells2 HK.out).1.1; replace K1 := (cells2 HK.out).1.2; replace K2 := (cells2 HK.out).2.1; replace K3 := (cells2 HK.out).2.2; replace Kl := blkLt HK.out; replace M0 := (cells2 HM.out).1.1; replace M1 := (cells2 HM.out).1.2; replace M2 := (cells2 HM.out).2.1; replace M3 := (cells2 HM.out).2.2; replace Ml := blkLt HM.out; replace D0 := (cells2 HD.out).1.1; replace D1 := (cells2 HD.out).1.2; replace D2 := (cells2 HD.out).2.1; replace D3 := (cells2 HD.out).2.2; replace Dl := blkLt HD.out; clear hbn))
                  go_meet
                  exact ⟨rfl, rfl, HG, HK, HM, HD, HW⟩
                case rest =>
                  clear HW HG HK HM HD
                  obtain ⟨rfl, rfl, HG, HK, HM, HD, HW⟩ := hcut
                  go_upto_region 9 with fail
                  go_cut [18] (fun s2 wx => s2 = .int .i64 1 ∧ Hid (wx.heap[bG]? = some (.cells #[.int .i64 (4), .int .i64 (15)] 23 (0, 0))) ∧ Hid (wx.heap[bK]? = some (.cells #[.int .i64 (0), .int .i64 (1)] 23 (0, 0))) ∧ Hid (wx.heap[bM]? = some (.cells #[.int .i64 ((-3)), .int .i64 (2)] 23 (0, 0))) ∧ Hid (wx.heap[bD]? = some (.cells #[.int .i64 ((-3)), .int .i64 (2)] 23 (0, 0))) ∧ Hid (Below w.heap.size w wx))
                  case first => as_aux_lemma =>
                    have G0 := (cells2 HG.out).1.1
                    have G1 := (cells2 HG.out).1.2
                    have G2 := (cells2 HG.out).2.1
                    have G3 := (cells2 HG.out).2.2
                    have Gl := blkLt HG.out
                    have K0 := (cells2 HK.out).1.1
                    have K1 := (cells2 HK.out).1.2
                    have K2 := (cells2 HK.out).2.1
                    have K3 := (cells2 HK.out).2.2
                    have Kl := blkLt HK.out
                    have M0 := (cells2 HM.out).1.1
                    have M1 := (cells2 HM.out).1.2
                    have M2 := (cells2 HM.out).2.1
                    have M3 := (cells2 HM.out).2.2
                    have Ml := blkLt HM.out
                    have D0 := (cells2 HD.out).1.1
                    have D1 := (cells2 HD.out).1.2
                    have D2 := (cells2 HD.out).2.1
                    have D3 := (cells2 HD.out).2.2
                    have Dl := blkLt HD.out
                    go_wp2_with (first
                      | (go_at_call 27; refine (of_any _ _ _).mono ?_; rintro e wn ⟨rfl, hbn⟩; replace HW := Lib.hid (bCall (by (repeat with_reducible first | exact HW.out | apply bDrew | apply bAlloc)) hbn); replace HG := Lib.hid (moveX (by (repeat with_reducible first | exact Below.refl _ _ | apply bDrew | apply bAlloc)) hbn HG.out); replace HK := Lib.hid (moveX (by (repeat with_reducible first | exact Below.refl _ _ | apply bDrew | apply bAlloc)) hbn HK.out); replace HM := Lib.hid (moveX (by (repeat with_reducible first | exact Below.refl _ _ | apply bDrew | apply bAlloc)) hbn HM.out); replace HD := Lib.hid (moveX (by (repeat with_reducible first | exact Below.refl _ _ | apply bDrew | apply bAlloc)) hbn HD.out); replace G0 := (cells2 HG.out).1.1; replace G1 := (cells2 HG.out).1.2; replace G2 := (cells2 HG.out).2.1; replace G3 := (cells2 HG.out).2.2; replace Gl := blkLt HG.out; replace K0 := (cells2 HK.out).1.1; replace K1 := (cells2 HK.out).1.2; replace K2 := (cells2 HK.out).2.1; replace K3 := (cells2 HK.out).2.2; replace Kl := blkLt HK.out; replace M0 := (cells2 HM.out).1.1; replace M1 := (cells2 HM.out).1.2; replace M2 := (cells2 HM.out).2.1; replace M3 := (cells2 HM.out).2.2; replace Ml := blkLt HM.out; replace D0 := (cells2 HD.out).1.1; replace D1 := (cells2 HD.out).1.2; replace D2 := (cells2 HD.out).2.1; replace D3 := (cells2 HD.out).2.2; replace Dl := blkLt HD.out; clear hbn)
                      | (go_at_call 13; refine (ex5 _).mono ?_; rintro e wn ⟨rfl, hbn⟩; replace HW := Lib.hid (bCall (by (repeat with_reducible first | exact HW.out | apply bDrew | apply bAlloc)) hbn); replace HG := Lib.hid (moveX (by (repeat with_reducible first | exact Below.refl _ _ | apply bDrew | apply bAlloc)) hbn HG.out); replace HK := Lib.hid (moveX (by (repeat with_reducible first | exact Below.refl _ _ | apply bDrew | apply bAlloc)) hbn HK.out); replace HM := Lib.hid (moveX (by (repeat with_reducible first | exact Below.refl _ _ | apply bDrew | apply bAlloc)) hbn HM.out); replace HD := Lib.hid (moveX (by (repeat with_reducible first | exact Below.refl _ _ | apply bDrew | apply bAlloc)) hbn HD.out); replace G0 := (cells2 HG.out).1.1; replace G1 := (cells2 HG.out).1.2; replace G2 := (cells2 HG.out).2.1; replace G3 := (cells2 HG.out).2.2; replace Gl := blkLt HG.out; replace K0 := (cells2 HK.out).1.1; replace K1 := (cells2 HK.out).1.2; replace K2 := (cells2 HK.out).2.1; replace K3 := (cells2 HK.out).2.2; replace Kl := blkLt HK.out; replace M0 := (cells2 HM.out).1.1; replace M1 := (cells2 HM.out).1.2; replace M2 := (cells2 HM.out).2.1; replace M3 := (cells2 HM.out).2.2; replace Ml := blkLt HM.out; replace D0 := (cells2 HD.out).1.1; replace D1 := (cells2 HD.out).1.2; replace D2 := (cells2 HD.out).2.1; replace D3 := (cells2 HD.out).2.2; replace Dl := blkLt HD.out; clear hbn))
                    go_meet
                    exact ⟨rfl, Lib.hid (mvAlloc HG.out), Lib.hid (mvAlloc HK.out), Lib.hid (mvAlloc HM.out), Lib.hid (mvAlloc HD.out), Lib.hid (bAlloc HW.out)⟩
                  case rest =>
                    clear HW HG HK HM HD
                    obtain ⟨rfl, HG, HK, HM, HD, HW⟩ := hcut
                    go_upto_region 10 with fail
                    have G0 := (cells2 HG.out).1.1
                    have G1 := (cells2 HG.out).1.2
                    have G2 := (cells2 HG.out).2.1
                    have G3 := (cells2 HG.out).2.2
                    have Gl := blkLt HG.out
                    have K0 := (cells2 HK.out).1.1
                    have K1 := (cells2 HK.out).1.2
                    have K2 := (cells2 HK.out).2.1
                    have K3 := (cells2 HK.out).2.2
                    have Kl := blkLt HK.out
                    have M0 := (cells2 HM.out).1.1
                    have M1 := (cells2 HM.out).1.2
                    have M2 := (cells2 HM.out).2.1
                    have M3 := (cells2 HM.out).2.2
                    have Ml := blkLt HM.out
                    have D0 := (cells2 HD.out).1.1
                    have D1 := (cells2 HD.out).1.2
                    have D2 := (cells2 HD.out).2.1
                    have D3 := (cells2 HD.out).2.2
                    have Dl := blkLt HD.out
                    have z0 := fun w => run_q_eq ⟨4, 15⟩ ⟨4, 15⟩ w
                    rw [qEq_rfl] at z0
                    have z1 := fun w => run_q_eq ⟨0, 1⟩ ⟨0, 1⟩ w
                    rw [qEq_rfl] at z1
                    have z2 := fun w => run_q_eq ⟨-3, 2⟩ ⟨-3, 2⟩ w
                    rw [qEq_rfl] at z2
                    simp only [List.append, List.append_eq, List.cons_append, List.nil_append]
                    refine wp_region_G (S := fun wq => Gr wc wq) (by kernel_rfl) (grDrew _) (fun hHeld => ?_)
                    have hSG : Hid (∀ wp wq : World, Gr wc wp → Gr wp wq → Gr wc wq) := Lib.hid (fun _ _ h k => h.tr k)
                    have hmv := Lib.hid (fun (wq : World) (hq : Gr wc wq) => And.intro (grCell hq G0) (And.intro (grCell hq G1) (And.intro (grCell hq K0) (And.intro (grCell hq K1) (And.intro (grCell hq M0) (And.intro (grCell hq M1) (And.intro (grCell hq D0) (grCell hq D1))))))))
                    first
                     | (refine tk hSG 0 (v := ?_) rfl (by kernel_rfl) (fun _ _ _ h => h) (by rfl) ?_ hHeld ?_; rotate_left; focus (intro w' hSw; obtain ⟨G0, G1, K0, K1, M0, M1, D0, D1⟩ := hmv.out _ hSw; go_simp; (try with_reducible rfl)))
                     | refine tn hSG 0 rfl (by kernel_rfl) (fun _ _ _ h => h) (by rfl) hHeld ?_
                    (try simp only [zq1, zq2, zq3, Act.put, zq4, zq5, zq6])
                    first
                     | (refine tk hSG 1 (v := ?_) rfl (by kernel_rfl) (fun _ _ _ h => h) (by rfl) ?_ hHeld ?_; rotate_left; focus (intro w' hSw; obtain ⟨G0, G1, K0, K1, M0, M1, D0, D1⟩ := hmv.out _ hSw; go_simp; (try with_reducible rfl)))
                     | refine tn hSG 1 rfl (by kernel_rfl) (fun _ _ _ h => h) (by rfl) hHeld ?_
                    (try simp only [zq1, zq2, zq3, Act.put, zq4, zq5, zq6])
                    first
                     | (refine tk hSG 2 (v := ?_) rfl (by kernel_rfl) (fun _ _ _ h => h) (by rfl) ?_ hHeld ?_; rotate_left; focus (intro w' hSw; obtain ⟨G0, G1, K0, K1, M0, M1, D0, D1⟩ := hmv.out _ hSw; go_simp; (try with_reducible rfl)))
                     | refine tn hSG 2 rfl (by kernel_rfl) (fun _ _ _ h => h) (by rfl) hHeld ?_
                    (try simp only [zq1, zq2, zq3, Act.put, zq4, zq5, zq6])
                    first
                     | (refine tk hSG 3 (v := ?_) rfl (by kernel_rfl) (fun _ _ _ h => h) (by rfl) ?_ hHeld ?_; rotate_left; focus (intro w' hSw; obtain ⟨G0, G1, K0, K1, M0, M1, D0, D1⟩ := hmv.out _ hSw; go_simp; (try with_reducible rfl)))
                     | refine tn hSG 3 rfl (by kernel_rfl) (fun _ _ _ h => h) (by rfl) hHeld ?_
                    (try simp only [zq1, zq2, zq3, Act.put, zq4, zq5, zq6])
                    first
                     | (refine tk hSG 4 (v := ?_) rfl (by kernel_rfl) (fun _ _ _ h => h) (by rfl) ?_ hHeld ?_; rotate_left; focus (intro w' hSw; obtain ⟨G0, G1, K0, K1, M0, M1, D0, D1⟩ := hmv.out _ hSw; go_simp; (try with_reducible rfl)))
                     | refine tn hSG 4 rfl (by kernel_rfl) (fun _ _ _ h => h) (by rfl) hHeld ?_
                    (try simp only [zq1, zq2, zq3, Act.put, zq4, zq5, zq6])
                    first
                     | (refine tk hSG 5 (v := ?_) rfl (by kernel_rfl) (fun _ _ _ h => h) (by rfl) ?_ hHeld ?_; rotate_left; focus (intro w' hSw; obtain ⟨G0, G1, K0, K1, M0, M1, D0, D1⟩ := hmv.out _ hSw; go_simp; (try with_reducible rfl)))
                     | refine tn hSG 5 rfl (by kernel_rfl) (fun _ _ _ h => h) (by rfl) hHeld ?_
                    (try simp only [zq1, zq2, zq3, Act.put, zq4, zq5, zq6])
                    first
                     | (refine tk hSG 6 (v := ?_) rfl (by kernel_rfl) (fun _ _ _ h => h) (by rfl) ?_ hHeld ?_; rotate_left; focus (intro w' hSw; obtain ⟨G0, G1, K0, K1, M0, M1, D0, D1⟩ := hmv.out _ hSw; go_simp; (try with_reducible rfl)))
                     | refine tn hSG 6 rfl (by kernel_rfl) (fun _ _ _ h => h) (by rfl) hHeld ?_
                    (try simp only [zq1, zq2, zq3, Act.put, zq4, zq5, zq6])
                    first
                     | (refine tk hSG 7 (v := ?_) rfl (by kernel_rfl) (fun _ _ _ h => h) (by rfl) ?_ hHeld ?_; rotate_left; focus (intro w' hSw; obtain ⟨G0, G1, K0, K1, M0, M1, D0, D1⟩ := hmv.out _ hSw; go_simp; (try with_reducible rfl)))
                     | refine tn hSG 7 rfl (by kernel_rfl) (fun _ _ _ h => h) (by rfl) hHeld ?_
                    (try simp only [zq1, zq2, zq3, Act.put, zq4, zq5, zq6])
                    first
                     | (refine tk hSG 8 (v := ?_) rfl (by kernel_rfl) (fun _ _ _ h => h) (by rfl) ?_ hHeld ?_; rotate_left; focus (intro w' hSw; obtain ⟨G0, G1, K0, K1, M0, M1, D0, D1⟩ := hmv.out _ hSw; go_simp; (try with_reducible rfl)))
                     | refine tn hSG 8 rfl (by kernel_rfl) (fun _ _ _ h => h) (by rfl) hHeld ?_
                    (try simp only [zq1, zq2, zq3, Act.put, zq4, zq5, zq6])
                    first
                     | (refine tk hSG 9 (v := ?_) rfl (by kernel_rfl) (fun _ _ _ h => h) (by rfl) ?_ hHeld ?_; rotate_left; focus (intro w' hSw; obtain ⟨G0, G1, K0, K1, M0, M1, D0, D1⟩ := hmv.out _ hSw; go_simp; (try with_reducible rfl)))
                     | refine tn hSG 9 rfl (by kernel_rfl) (fun _ _ _ h => h) (by rfl) hHeld ?_
                    (try simp only [zq1, zq2, zq3, Act.put, zq4, zq5, zq6])
                    first
                     | (refine tk hSG 10 (v := ?_) rfl (by kernel_rfl) (fun _ _ _ h => h) (by rfl) ?_ hHeld ?_; rotate_left; focus (intro w' hSw; obtain ⟨G0, G1, K0, K1, M0, M1, D0, D1⟩ := hmv.out _ hSw; go_simp; (try with_reducible rfl)))
                     | refine tn hSG 10 rfl (by kernel_rfl) (fun _ _ _ h => h) (by rfl) hHeld ?_
                    (try simp only [zq1, zq2, zq3, Act.put, zq4, zq5, zq6])
                    first
                     | (refine tk hSG 11 (v := ?_) rfl (by kernel_rfl) (fun _ _ _ h => h) (by rfl) ?_ hHeld ?_; rotate_left; focus (intro w' hSw; obtain ⟨G0, G1, K0, K1, M0, M1, D0, D1⟩ := hmv.out _ hSw; go_simp; (try with_reducible rfl)))
                     | refine tn hSG 11 rfl (by kernel_rfl) (fun _ _ _ h => h) (by rfl) hHeld ?_
                    (try simp only [zq1, zq2, zq3, Act.put, zq4, zq5, zq6])
                    first
                     | (refine tk hSG 12 (v := ?_) rfl (by kernel_rfl) (fun _ _ _ h => h) (by rfl) ?_ hHeld ?_; rotate_left; focus (intro w' hSw; obtain ⟨G0, G1, K0, K1, M0, M1, D0, D1⟩ := hmv.out _ hSw; go_simp; (try with_reducible rfl)))
                     | refine tn hSG 12 rfl (by kernel_rfl) (fun _ _ _ h => h) (by rfl) hHeld ?_
                    (try simp only [zq1, zq2, zq3, Act.put, zq4, zq5, zq6])
                    first
                     | (refine tk hSG 13 (v := ?_) rfl (by kernel_rfl) (fun _ _ _ h => h) (by rfl) ?_ hHeld ?_; rotate_left; focus (intro w' hSw; obtain ⟨G0, G1, K0, K1, M0, M1, D0, D1⟩ := hmv.out _ hSw; go_simp; (try with_reducible rfl)))
                     | refine tn hSG 13 rfl (by kernel_rfl) (fun _ _ _ h => h) (by rfl) hHeld ?_
                    (try simp only [zq1, zq2, zq3, Act.put, zq4, zq5, zq6])
                    first
                     | (refine tk hSG 14 (v := ?_) rfl (by kernel_rfl) (fun _ _ _ h => h) (by rfl) ?_ hHeld ?_; rotate_left; focus (intro w' hSw; obtain ⟨G0, G1, K0, K1, M0, M1, D0, D1⟩ := hmv.out _ hSw; go_simp; (try with_reducible rfl)))
                     | refine tn hSG 14 rfl (by kernel_rfl) (fun _ _ _ h => h) (by rfl) hHeld ?_
                    (try simp only [zq1, zq2, zq3, Act.put, zq4, zq5, zq6])
                    first
                     | (refine tk hSG 15 (v := ?_) rfl (by kernel_rfl) (fun _ _ _ h => h) (by rfl) ?_ hHeld ?_; rotate_left; focus (intro w' hSw; obtain ⟨G0, G1, K0, K1, M0, M1, D0, D1⟩ := hmv.out _ hSw; go_simp; (try with_reducible rfl)))
                     | refine tn hSG 15 rfl (by kernel_rfl) (fun _ _ _ h => h) (by rfl) hHeld ?_
                    (try simp only [zq1, zq2, zq3, Act.put, zq4, zq5, zq6])
                    first
                     | (refine tk hSG 16 (v := ?_) rfl (by kernel_rfl) (fun _ _ _ h => h) (by rfl) ?_ hHeld ?_; rotate_left; focus (intro w' hSw; obtain ⟨G0, G1, K0, K1, M0, M1, D0, D1⟩ := hmv.out _ hSw; go_simp; (try with_reducible rfl)))
                     | refine tn hSG 16 rfl (by kernel_rfl) (fun _ _ _ h => h) (by rfl) hHeld ?_
                    (try simp only [zq1, zq2, zq3, Act.put, zq4, zq5, zq6])
                    first
                     | (refine tk hSG 17 (v := ?_) rfl (by kernel_rfl) (fun _ _ _ h => h) (by rfl) ?_ hHeld ?_; rotate_left; focus (intro w' hSw; obtain ⟨G0, G1, K0, K1, M0, M1, D0, D1⟩ := hmv.out _ hSw; go_simp; (try with_reducible rfl)))
                     | refine tn hSG 17 rfl (by kernel_rfl) (fun _ _ _ h => h) (by rfl) hHeld ?_
                    (try simp only [zq1, zq2, zq3, Act.put, zq4, zq5, zq6])
                    first
                     | (refine tk hSG 18 (v := ?_) rfl (by kernel_rfl) (fun _ _ _ h => h) (by rfl) ?_ hHeld ?_; rotate_left; focus (intro w' hSw; obtain ⟨G0, G1, K0, K1, M0, M1, D0, D1⟩ := hmv.out _ hSw; go_simp; (try with_reducible rfl)))
                     | refine tn hSG 18 rfl (by kernel_rfl) (fun _ _ _ h => h) (by rfl) hHeld ?_
                    (try simp only [zq1, zq2, zq3, Act.put, zq4, zq5, zq6])
                    first
                     | (refine tk hSG 19 (v := ?_) rfl (by kernel_rfl) (fun _ _ _ h => h) (by rfl) ?_ hHeld ?_; rotate_left; focus (intro w' hSw; obtain ⟨G0, G1, K0, K1, M0, M1, D0, D1⟩ := hmv.out _ hSw; go_simp; (try with_reducible rfl)))
                     | refine tn hSG 19 rfl (by kernel_rfl) (fun _ _ _ h => h) (by rfl) hHeld ?_
                    (try simp only [zq1, zq2, zq3, Act.put, zq4, zq5, zq6])
                    first
                     | (refine tk hSG 20 (v := ?_) rfl (by kernel_rfl) (fun _ _ _ h => h) (by rfl) ?_ hHeld ?_; rotate_left; focus (intro w' hSw; obtain ⟨G0, G1, K0, K1, M0, M1, D0, D1⟩ := hmv.out _ hSw; go_simp; (try with_reducible rfl)))
                     | refine tn hSG 20 rfl (by kernel_rfl) (fun _ _ _ h => h) (by rfl) hHeld ?_
                    (try simp only [zq1, zq2, zq3, Act.put, zq4, zq5, zq6])
                    first
                     | (refine tk hSG 21 (v := ?_) rfl (by kernel_rfl) (fun _ _ _ h => h) (by rfl) ?_ hHeld ?_; rotate_left; focus (intro w' hSw; obtain ⟨G0, G1, K0, K1, M0, M1, D0, D1⟩ := hmv.out _ hSw; go_simp; (try with_reducible rfl)))
                     | refine tn hSG 21 rfl (by kernel_rfl) (fun _ _ _ h => h) (by rfl) hHeld ?_
                    (try simp only [zq1, zq2, zq3, Act.put, zq4, zq5, zq6])
                    first
                     | (refine tk hSG 22 (v := ?_) rfl (by kernel_rfl) (fun _ _ _ h => h) (by rfl) ?_ hHeld ?_; rotate_left; focus (intro w' hSw; obtain ⟨G0, G1, K0, K1, M0, M1, D0, D1⟩ := hmv.out _ hSw; go_simp; (try with_reducible rfl)))
                     | refine tn hSG 22 rfl (by kernel_rfl) (fun _ _ _ h => h) (by rfl) hHeld ?_
                    (try simp only [zq1, zq2, zq3, Act.put, zq4, zq5, zq6])
                    first
                     | (refine tk hSG 23 (v := ?_) rfl (by kernel_rfl) (fun _ _ _ h => h) (by rfl) ?_ hHeld ?_; rotate_left; focus (intro w' hSw; obtain ⟨G0, G1, K0, K1, M0, M1, D0, D1⟩ := hmv.out _ hSw; go_simp; (try with_reducible rfl)))
                     | refine tn hSG 23 rfl (by kernel_rfl) (fun _ _ _ h => h) (by rfl) hHeld ?_
                    (try simp only [zq1, zq2, zq3, Act.put, zq4, zq5, zq6])
                    first
                     | (refine tk hSG 24 (v := ?_) rfl (by kernel_rfl) (fun _ _ _ h => h) (by rfl) ?_ hHeld ?_; rotate_left; focus (intro w' hSw; obtain ⟨G0, G1, K0, K1, M0, M1, D0, D1⟩ := hmv.out _ hSw; go_simp; (try with_reducible rfl)))
                     | refine tn hSG 24 rfl (by kernel_rfl) (fun _ _ _ h => h) (by rfl) hHeld ?_
                    (try simp only [zq1, zq2, zq3, Act.put, zq4, zq5, zq6])
                    first
                     | (refine tk hSG 25 (v := ?_) rfl (by kernel_rfl) (fun _ _ _ h => h) (by rfl) ?_ hHeld ?_; rotate_left; focus (intro w' hSw; obtain ⟨G0, G1, K0, K1, M0, M1, D0, D1⟩ := hmv.out _ hSw; go_simp; (try with_reducible rfl)))
                     | refine tn hSG 25 rfl (by kernel_rfl) (fun _ _ _ h => h) (by rfl) hHeld ?_
                    (try simp only [zq1, zq2, zq3, Act.put, zq4, zq5, zq6])
                    first
                     | (refine tk hSG 26 (v := ?_) rfl (by kernel_rfl) (fun _ _ _ h => h) (by rfl) ?_ hHeld ?_; rotate_left; focus (intro w' hSw; obtain ⟨G0, G1, K0, K1, M0, M1, D0, D1⟩ := hmv.out _ hSw; go_simp; (try with_reducible rfl)))
                     | refine tn hSG 26 rfl (by kernel_rfl) (fun _ _ _ h => h) (by rfl) hHeld ?_
                    (try simp only [zq1, zq2, zq3, Act.put, zq4, zq5, zq6])
                    first
                     | (refine tk hSG 27 (v := ?_) rfl (by kernel_rfl) (fun _ _ _ h => h) (by rfl) ?_ hHeld ?_; rotate_left; focus (intro w' hSw; obtain ⟨G0, G1, K0, K1, M0, M1, D0, D1⟩ := hmv.out _ hSw; go_simp; (try with_reducible rfl)))
                     | refine tn hSG 27 rfl (by kernel_rfl) (fun _ _ _ h => h) (by rfl) hHeld ?_
                    (try simp only [zq1, zq2, zq3, Act.put, zq4, zq5, zq6])
                    first
                     | (refine tk hSG 28 (v := ?_) rfl (by kernel_rfl) (fun _ _ _ h => h) (by rfl) ?_ hHeld ?_; rotate_left; focus (intro w' hSw; obtain ⟨G0, G1, K0, K1, M0, M1, D0, D1⟩ := hmv.out _ hSw; go_simp; (try with_reducible rfl)))
                     | refine tn hSG 28 rfl (by kernel_rfl) (fun _ _ _ h => h) (by rfl) hHeld ?_
                    (try simp only [zq1, zq2, zq3, Act.put, zq4, zq5, zq6])
                    first
                     | (refine tk hSG 29 (v := ?_) rfl (by kernel_rfl) (fun _ _ _ h => h) (by rfl) ?_ hHeld ?_; rotate_left; focus (intro w' hSw; obtain ⟨G0, G1, K0, K1, M0, M1, D0, D1⟩ := hmv.out _ hSw; go_simp; (try with_reducible rfl)))
                     | refine tn hSG 29 rfl (by kernel_rfl) (fun _ _ _ h => h) (by rfl) hHeld ?_
                    (try simp only [zq1, zq2, zq3, Act.put, zq4, zq5, zq6])
                    first
                     | (refine tk hSG 30 (v := ?_) rfl (by kernel_rfl) (fun _ _ _ h => h) (by rfl) ?_ hHeld ?_; rotate_left; focus (intro w' hSw; obtain ⟨G0, G1, K0, K1, M0, M1, D0, D1⟩ := hmv.out _ hSw; go_simp; (try with_reducible rfl)))
                     | refine tn hSG 30 rfl (by kernel_rfl) (fun _ _ _ h => h) (by rfl) hHeld ?_
                    (try simp only [zq1, zq2, zq3, Act.put, zq4, zq5, zq6])
                    first
                     | (refine tk hSG 31 (v := ?_) rfl (by kernel_rfl) (fun _ _ _ h => h) (by rfl) ?_ hHeld ?_; rotate_left; focus (intro w' hSw; obtain ⟨G0, G1, K0, K1, M0, M1, D0, D1⟩ := hmv.out _ hSw; go_simp; (try with_reducible rfl)))
                     | refine tn hSG 31 rfl (by kernel_rfl) (fun _ _ _ h => h) (by rfl) hHeld ?_
                    (try simp only [zq1, zq2, zq3, Act.put, zq4, zq5, zq6])
                    first
                     | (refine tk hSG 32 (v := ?_) rfl (by kernel_rfl) (fun _ _ _ h => h) (by rfl) ?_ hHeld ?_; rotate_left; focus (intro w' hSw; obtain ⟨G0, G1, K0, K1, M0, M1, D0, D1⟩ := hmv.out _ hSw; go_simp; (try with_reducible rfl)))
                     | refine tn hSG 32 rfl (by kernel_rfl) (fun _ _ _ h => h) (by rfl) hHeld ?_
                    (try simp only [zq1, zq2, zq3, Act.put, zq4, zq5, zq6])
                    first
                     | (refine tk hSG 33 (v := ?_) rfl (by kernel_rfl) (fun _ _ _ h => h) (by rfl) ?_ hHeld ?_; rotate_left; focus (intro w' hSw; obtain ⟨G0, G1, K0, K1, M0, M1, D0, D1⟩ := hmv.out _ hSw; go_simp; (try with_reducible rfl)))
                     | refine tn hSG 33 rfl (by kernel_rfl) (fun _ _ _ h => h) (by rfl) hHeld ?_
                    (try simp only [zq1, zq2, zq3, Act.put, zq4, zq5, zq6])
                    first
                     | (refine tk hSG 34 (v := ?_) rfl (by kernel_rfl) (fun _ _ _ h => h) (by rfl) ?_ hHeld ?_; rotate_left; focus (intro w' hSw; obtain ⟨G0, G1, K0, K1, M0, M1, D0, D1⟩ := hmv.out _ hSw; go_simp; (try with_reducible rfl)))
                     | refine tn hSG 34 rfl (by kernel_rfl) (fun _ _ _ h => h) (by rfl) hHeld ?_
                    (try simp only [zq1, zq2, zq3, Act.put, zq4, zq5, zq6])
                    first
                     | (refine tk hSG 35 (v := ?_) rfl (by kernel_rfl) (fun _ _ _ h => h) (by rfl) ?_ hHeld ?_; rotate_left; focus (intro w' hSw; obtain ⟨G0, G1, K0, K1, M0, M1, D0, D1⟩ := hmv.out _ hSw; go_simp; (try with_reducible rfl)))
                     | refine tn hSG 35 rfl (by kernel_rfl) (fun _ _ _ h => h) (by rfl) hHeld ?_
                    (try simp only [zq1, zq2, zq3, Act.put, zq4, zq5, zq6])
                    refine tc hSG 36 (v := qv ⟨4, 15⟩) rfl (by kernel_rfl) (fun _ _ _ h => h) (by rfl) ?_ hHeld ?_
                    focus (intro wz hSw K hK; obtain ⟨G0, G1, K0, K1, M0, M1, D0, D1⟩ := hmv.out _ hSw; go_simp; go_at_call 27; refine (of_any _ _ _).mono ?_; rintro e w2 ⟨rfl, hb2⟩; first | exact hK.out _ hb2 | (have h9 := hK.out _ hb2; (try simp only [zq1, zq2, zq3, Act.put, zq4, zq5, zq6] at h9 ⊢); exact h9) | (have h9 := hK.out _ hb2; go_simp; exact h9))
                    (try simp only [zq1, zq2, zq3, Act.put, zq4, zq5, zq6])
                    first
                     | (refine tk hSG 37 (v := ?_) rfl (by kernel_rfl) (fun _ _ _ h => h) (by rfl) ?_ hHeld ?_; rotate_left; focus (intro w' hSw; obtain ⟨G0, G1, K0, K1, M0, M1, D0, D1⟩ := hmv.out _ hSw; go_simp; (try with_reducible rfl)))
                     | refine tn hSG 37 rfl (by kernel_rfl) (fun _ _ _ h => h) (by rfl) hHeld ?_
                    (try simp only [zq1, zq2, zq3, Act.put, zq4, zq5, zq6])
                    first
                     | (refine tk hSG 38 (v := ?_) rfl (by kernel_rfl) (fun _ _ _ h => h) (by rfl) ?_ hHeld ?_; rotate_left; focus (intro w' hSw; obtain ⟨G0, G1, K0, K1, M0, M1, D0, D1⟩ := hmv.out _ hSw; go_simp; (try with_reducible rfl)))
                     | refine tn hSG 38 rfl (by kernel_rfl) (fun _ _ _ h => h) (by rfl) hHeld ?_
                    (try simp only [zq1, zq2, zq3, Act.put, zq4, zq5, zq6])
                    first
                     | (refine tk hSG 39 (v := ?_) rfl (by kernel_rfl) (fun _ _ _ h => h) (by rfl) ?_ hHeld ?_; rotate_left; focus (intro w' hSw; obtain ⟨G0, G1, K0, K1, M0, M1, D0, D1⟩ := hmv.out _ hSw; go_simp; (try with_reducible rfl)))
                     | refine tn hSG 39 rfl (by kernel_rfl) (fun _ _ _ h => h) (by rfl) hHeld ?_
                    (try simp only [zq1, zq2, zq3, Act.put, zq4, zq5, zq6])
                    first
                     | (refine tk hSG 40 (v := ?_) rfl (by kernel_rfl) (fun _ _ _ h => h) (by rfl) ?_ hHeld ?_; rotate_left; focus (intro w' hSw; obtain ⟨G0, G1, K0, K1, M0, M1, D0, D1⟩ := hmv.out _ hSw; go_simp; (try with_reducible rfl)))
                     | refine tn hSG 40 rfl (by kernel_rfl) (fun _ _ _ h => h) (by rfl) hHeld ?_
                    (try simp only [zq1, zq2, zq3, Act.put, zq4, zq5, zq6])
                    refine tc hSG 41 (v := qv ⟨0, 1⟩) rfl (by kernel_rfl) (fun _ _ _ h => h) (by rfl) ?_ hHeld ?_
                    focus (intro wz hSw K hK; obtain ⟨G0, G1, K0, K1, M0, M1, D0, D1⟩ := hmv.out _ hSw; go_simp; go_at_call 27; refine (of_any _ _ _).mono ?_; rintro e w2 ⟨rfl, hb2⟩; first | exact hK.out _ hb2 | (have h9 := hK.out _ hb2; (try simp only [zq1, zq2, zq3, Act.put, zq4, zq5, zq6] at h9 ⊢); exact h9) | (have h9 := hK.out _ hb2; go_simp; exact h9))
                    (try simp only [zq1, zq2, zq3, Act.put, zq4, zq5, zq6])
                    first
                     | (refine tk hSG 42 (v := ?_) rfl (by kernel_rfl) (fun _ _ _ h => h) (by rfl) ?_ hHeld ?_; rotate_left; focus (intro w' hSw; obtain ⟨G0, G1, K0, K1, M0, M1, D0, D1⟩ := hmv.out _ hSw; go_simp; (try with_reducible rfl)))
                     | refine tn hSG 42 rfl (by kernel_rfl) (fun _ _ _ h => h) (by rfl) hHeld ?_
                    (try simp only [zq1, zq2, zq3, Act.put, zq4, zq5, zq6])
                    first
                     | (refine tk hSG 43 (v := ?_) rfl (by kernel_rfl) (fun _ _ _ h => h) (by rfl) ?_ hHeld ?_; rotate_left; focus (intro w' hSw; obtain ⟨G0, G1, K0, K1, M0, M1, D0, D1⟩ := hmv.out _ hSw; go_simp; (try with_reducible rfl)))
                     | refine tn hSG 43 rfl (by kernel_rfl) (fun _ _ _ h => h) (by rfl) hHeld ?_
                    (try simp only [zq1, zq2, zq3, Act.put, zq4, zq5, zq6])
                    first
                     | (refine tk hSG 44 (v := ?_) rfl (by kernel_rfl) (fun _ _ _ h => h) (by rfl) ?_ hHeld ?_; rotate_left; focus (intro w' hSw; obtain ⟨G0, G1, K0, K1, M0, M1, D0, D1⟩ := hmv.out _ hSw; go_simp; (try with_reducible rfl)))
                     | refine tn hSG 44 rfl (by kernel_rfl) (fun _ _ _ h => h) (by rfl) hHeld ?_
                    (try simp only [zq1, zq2, zq3, Act.put, zq4, zq5, zq6])
                    first
                     | (refine tk hSG 45 (v := ?_) rfl (by kernel_rfl) (fun _ _ _ h => h) (by rfl) ?_ hHeld ?_; rotate_left; focus (intro w' hSw; obtain ⟨G0, G1, K0, K1, M0, M1, D0, D1⟩ := hmv.out _ hSw; go_simp; (try with_reducible rfl)))
                     | refine tn hSG 45 rfl (by kernel_rfl) (fun _ _ _ h => h) (by rfl) hHeld ?_
                    (try simp only [zq1, zq2, zq3, Act.put, zq4, zq5, zq6])
                    refine tc hSG 46 (v := qv ⟨-3, 2⟩) rfl (by kernel_rfl) (fun _ _ _ h => h) (by rfl) ?_ hHeld ?_
                    focus (intro wz hSw K hK; obtain ⟨G0, G1, K0, K1, M0, M1, D0, D1⟩ := hmv.out _ hSw; go_simp; go_at_call 27; refine (of_any _ _ _).mono ?_; rintro e w2 ⟨rfl, hb2⟩; first | exact hK.out _ hb2 | (have h9 := hK.out _ hb2; (try simp only [zq1, zq2, zq3, Act.put, zq4, zq5, zq6] at h9 ⊢); exact h9) | (have h9 := hK.out _ hb2; go_simp; exact h9))
                    (try simp only [zq1, zq2, zq3, Act.put, zq4, zq5, zq6])
                    first
                     | (refine tk hSG 47 (v := ?_) rfl (by kernel_rfl) (fun _ _ _ h => h) (by rfl) ?_ hHeld ?_; rotate_left; focus (intro w' hSw; obtain ⟨G0, G1, K0, K1, M0, M1, D0, D1⟩ := hmv.out _ hSw; go_simp; (try with_reducible rfl)))
                     | refine tn hSG 47 rfl (by kernel_rfl) (fun _ _ _ h => h) (by rfl) hHeld ?_
                    (try simp only [zq1, zq2, zq3, Act.put, zq4, zq5, zq6])
                    first
                     | (refine tk hSG 48 (v := ?_) rfl (by kernel_rfl) (fun _ _ _ h => h) (by rfl) ?_ hHeld ?_; rotate_left; focus (intro w' hSw; obtain ⟨G0, G1, K0, K1, M0, M1, D0, D1⟩ := hmv.out _ hSw; go_simp; (try with_reducible rfl)))
                     | refine tn hSG 48 rfl (by kernel_rfl) (fun _ _ _ h => h) (by rfl) hHeld ?_
                    (try simp only [zq1, zq2, zq3, Act.put, zq4, zq5, zq6])
                    first
                     | (refine tk hSG 49 (v := ?_) rfl (by kernel_rfl) (fun _ _ _ h => h) (by rfl) ?_ hHeld ?_; rotate_left; focus (intro w' hSw; obtain ⟨G0, G1, K0, K1, M0, M1, D0, D1⟩ := hmv.out _ hSw; go_simp; (try with_reducible rfl)))
                     | refine tn hSG 49 rfl (by kernel_rfl) (fun _ _ _ h => h) (by rfl) hHeld ?_
                    (try simp only [zq1, zq2, zq3, Act.put, zq4, zq5, zq6])
                    first
                     | (refine tk hSG 50 (v := ?_) rfl (by kernel_rfl) (fun _ _ _ h => h) (by rfl) ?_ hHeld ?_; rotate_left; focus (intro w' hSw; obtain ⟨G0, G1, K0, K1, M0, M1, D0, D1⟩ := hmv.out _ hSw; go_simp; (try with_reducible rfl)))
                     | refine tn hSG 50 rfl (by kernel_rfl) (fun _ _ _ h => h) (by rfl) hHeld ?_
                    (try simp only [zq1, zq2, zq3, Act.put, zq4, zq5, zq6])
                    refine tc hSG 51 (v := qv ⟨-3, 2⟩) rfl (by kernel_rfl) (fun _ _ _ h => h) (by rfl) ?_ hHeld ?_
                    focus (intro wz hSw K hK; obtain ⟨G0, G1, K0, K1, M0, M1, D0, D1⟩ := hmv.out _ hSw; go_simp; go_at_call 27; refine (of_any _ _ _).mono ?_; rintro e w2 ⟨rfl, hb2⟩; first | exact hK.out _ hb2 | (have h9 := hK.out _ hb2; (try simp only [zq1, zq2, zq3, Act.put, zq4, zq5, zq6] at h9 ⊢); exact h9) | (have h9 := hK.out _ hb2; go_simp; exact h9))
                    (try simp only [zq1, zq2, zq3, Act.put, zq4, zq5, zq6])
                    first
                     | (refine tk hSG 52 (v := ?_) rfl (by kernel_rfl) (fun _ _ _ h => h) (by rfl) ?_ hHeld ?_; rotate_left; focus (intro w' hSw; obtain ⟨G0, G1, K0, K1, M0, M1, D0, D1⟩ := hmv.out _ hSw; go_simp; (try with_reducible rfl)))
                     | refine tn hSG 52 rfl (by kernel_rfl) (fun _ _ _ h => h) (by rfl) hHeld ?_
                    (try simp only [zq1, zq2, zq3, Act.put, zq4, zq5, zq6])
                    first
                     | (refine tk hSG 53 (v := ?_) rfl (by kernel_rfl) (fun _ _ _ h => h) (by rfl) ?_ hHeld ?_; rotate_left; focus (intro w' hSw; obtain ⟨G0, G1, K0, K1, M0, M1, D0, D1⟩ := hmv.out _ hSw; go_simp; (try with_reducible rfl)))
                     | refine tn hSG 53 rfl (by kernel_rfl) (fun _ _ _ h => h) (by rfl) hHeld ?_
                    (try simp only [zq1, zq2, zq3, Act.put, zq4, zq5, zq6])
                    first
                     | (refine tk hSG 54 (v := ?_) rfl (by kernel_rfl) (fun _ _ _ h => h) (by rfl) ?_ hHeld ?_; rotate_left; focus (intro w' hSw; obtain ⟨G0, G1, K0, K1, M0, M1, D0, D1⟩ := hmv.out _ hSw; go_simp; (try with_reducible rfl)))
                     | refine tn hSG 54 rfl (by kernel_rfl) (fun _ _ _ h => h) (by rfl) hHeld ?_
                    (try simp only [zq1, zq2, zq3, Act.put, zq4, zq5, zq6])
                    first
                     | (refine tk hSG 55 (v := ?_) rfl (by kernel_rfl) (fun _ _ _ h => h) (by rfl) ?_ hHeld ?_; rotate_left; focus (intro w' hSw; obtain ⟨G0, G1, K0, K1, M0, M1, D0, D1⟩ := hmv.out _ hSw; go_simp; (try with_reducible rfl)))
                     | refine tn hSG 55 rfl (by kernel_rfl) (fun _ _ _ h => h) (by rfl) hHeld ?_
                    (try simp only [zq1, zq2, zq3, Act.put, zq4, zq5, zq6])
                    first
                     | (refine tk hSG 56 (v := ?_) rfl (by kernel_rfl) (fun _ _ _ h => h) (by rfl) ?_ hHeld ?_; rotate_left; focus (intro w' hSw; obtain ⟨G0, G1, K0, K1, M0, M1, D0, D1⟩ := hmv.out _ hSw; go_simp; (try with_reducible rfl)))
                     | refine tn hSG 56 rfl (by kernel_rfl) (fun _ _ _ h => h) (by rfl) hHeld ?_
                    (try simp only [zq1, zq2, zq3, Act.put, zq4, zq5, zq6])
                    first
                     | (refine tk hSG 57 (v := ?_) rfl (by kernel_rfl) (fun _ _ _ h => h) (by rfl) ?_ hHeld ?_; rotate_left; focus (intro w' hSw; obtain ⟨G0, G1, K0, K1, M0, M1, D0, D1⟩ := hmv.out _ hSw; go_simp; (try with_reducible rfl)))
                     | refine tn hSG 57 rfl (by kernel_rfl) (fun _ _ _ h => h) (by rfl) hHeld ?_
                    (try simp only [zq1, zq2, zq3, Act.put, zq4, zq5, zq6])
                    first
                     | (refine tk hSG 58 (v := ?_) rfl (by kernel_rfl) (fun _ _ _ h => h) (by rfl) ?_ hHeld ?_; rotate_left; focus (intro w' hSw; obtain ⟨G0, G1, K0, K1, M0, M1, D0, D1⟩ := hmv.out _ hSw; go_simp; (try with_reducible rfl)))
                     | refine tn hSG 58 rfl (by kernel_rfl) (fun _ _ _ h => h) (by rfl) hHeld ?_
                    (try simp only [zq1, zq2, zq3, Act.put, zq4, zq5, zq6])
                    refine tc hSG 59 (v := qv ⟨0, 1⟩) rfl (by kernel_rfl) (fun _ _ _ h => h) (by rfl) ?_ hHeld ?_
                    focus (intro wz hSw K hK; obtain ⟨G0, G1, K0, K1, M0, M1, D0, D1⟩ := hmv.out _ hSw; go_simp; go_at_call 27; refine (of_any _ _ _).mono ?_; rintro e w2 ⟨rfl, hb2⟩; first | exact hK.out _ hb2 | (have h9 := hK.out _ hb2; (try simp only [zq1, zq2, zq3, Act.put, zq4, zq5, zq6] at h9 ⊢); exact h9) | (have h9 := hK.out _ hb2; go_simp; exact h9))
                    (try simp only [zq1, zq2, zq3, Act.put, zq4, zq5, zq6])
                    refine tc hSG 60 (v := .bool true) rfl (by kernel_rfl) (fun _ _ _ h => h) (by rfl) ?_ hHeld ?_
                    focus (intro wz hSw K hK; obtain ⟨G0, G1, K0, K1, M0, M1, D0, D1⟩ := hmv.out _ hSw; go_simp; go_at_call 23; refine (exV0 _).mono ?_; rintro e w2 ⟨rfl, hb2⟩; first | exact hK.out _ hb2 | (have h9 := hK.out _ hb2; (try simp only [zq1, zq2, zq3, Act.put, zq4, zq5, zq6] at h9 ⊢); exact h9) | (have h9 := hK.out _ hb2; go_simp; exact h9))
                    (try simp only [zq1, zq2, zq3, Act.put, zq4, zq5, zq6])
                    first
                     | (refine tk hSG 61 (v := ?_) rfl (by kernel_rfl) (fun _ _ _ h => h) (by rfl) ?_ hHeld ?_; rotate_left; focus (intro w' hSw; obtain ⟨G0, G1, K0, K1, M0, M1, D0, D1⟩ := hmv.out _ hSw; go_simp; (try with_reducible rfl)))
                     | refine tn hSG 61 rfl (by kernel_rfl) (fun _ _ _ h => h) (by rfl) hHeld ?_
                    (try simp only [zq1, zq2, zq3, Act.put, zq4, zq5, zq6])
                    first
                     | (refine tk hSG 62 (v := ?_) rfl (by kernel_rfl) (fun _ _ _ h => h) (by rfl) ?_ hHeld ?_; rotate_left; focus (intro w' hSw; obtain ⟨G0, G1, K0, K1, M0, M1, D0, D1⟩ := hmv.out _ hSw; go_simp; (try with_reducible rfl)))
                     | refine tn hSG 62 rfl (by kernel_rfl) (fun _ _ _ h => h) (by rfl) hHeld ?_
                    (try simp only [zq1, zq2, zq3, Act.put, zq4, zq5, zq6])
                    refine tc hSG 63 (v := qv ⟨0, 2⟩) rfl (by kernel_rfl) (fun _ _ _ h => h) (by rfl) ?_ hHeld ?_
                    focus (intro wz hSw K hK; obtain ⟨G0, G1, K0, K1, M0, M1, D0, D1⟩ := hmv.out _ hSw; go_simp; go_at_call 27; refine (of_any _ _ _).mono ?_; rintro e w2 ⟨rfl, hb2⟩; first | exact hK.out _ hb2 | (have h9 := hK.out _ hb2; (try simp only [zq1, zq2, zq3, Act.put, zq4, zq5, zq6] at h9 ⊢); exact h9) | (have h9 := hK.out _ hb2; go_simp; exact h9))
                    (try simp only [zq1, zq2, zq3, Act.put, zq4, zq5, zq6])
                    refine tc hSG 64 (v := .bool false) rfl (by kernel_rfl) (fun _ _ _ h => h) (by rfl) ?_ hHeld ?_
                    focus (intro wz hSw K hK; obtain ⟨G0, G1, K0, K1, M0, M1, D0, D1⟩ := hmv.out _ hSw; go_simp; go_at_call 23; refine (exV1 _).mono ?_; rintro e w2 ⟨rfl, hb2⟩; first | exact hK.out _ hb2 | (have h9 := hK.out _ hb2; (try simp only [zq1, zq2, zq3, Act.put, zq4, zq5, zq6] at h9 ⊢); exact h9) | (have h9 := hK.out _ hb2; go_simp; exact h9))
                    (try simp only [zq1, zq2, zq3, Act.put, zq4, zq5, zq6])
                    first
                     | (refine tk hSG 65 (v := ?_) rfl (by kernel_rfl) (fun _ _ _ h => h) (by rfl) ?_ hHeld ?_; rotate_left; focus (intro w' hSw; obtain ⟨G0, G1, K0, K1, M0, M1, D0, D1⟩ := hmv.out _ hSw; go_simp; (try with_reducible rfl)))
                     | refine tn hSG 65 rfl (by kernel_rfl) (fun _ _ _ h => h) (by rfl) hHeld ?_
                    (try simp only [zq1, zq2, zq3, Act.put, zq4, zq5, zq6])
                    first
                     | (refine tk hSG 66 (v := ?_) rfl (by kernel_rfl) (fun _ _ _ h => h) (by rfl) ?_ hHeld ?_; rotate_left; focus (intro w' hSw; obtain ⟨G0, G1, K0, K1, M0, M1, D0, D1⟩ := hmv.out _ hSw; go_simp; (try with_reducible rfl)))
                     | refine tn hSG 66 rfl (by kernel_rfl) (fun _ _ _ h => h) (by rfl) hHeld ?_
                    (try simp only [zq1, zq2, zq3, Act.put, zq4, zq5, zq6])
                    first
                     | (refine tk hSG 67 (v := ?_) rfl (by kernel_rfl) (fun _ _ _ h => h) (by rfl) ?_ hHeld ?_; rotate_left; focus (intro w' hSw; obtain ⟨G0, G1, K0, K1, M0, M1, D0, D1⟩ := hmv.out _ hSw; go_simp; (try with_reducible rfl)))
                     | refine tn hSG 67 rfl (by kernel_rfl) (fun _ _ _ h => h) (by rfl) hHeld ?_
                    (try simp only [zq1, zq2, zq3, Act.put, zq4, zq5, zq6])
                    refine tc hSG 68 (v := qv ⟨1, 0⟩) rfl (by kernel_rfl) (fun _ _ _ h => h) (by rfl) ?_ hHeld ?_
                    focus (intro wz hSw K hK; obtain ⟨G0, G1, K0, K1, M0, M1, D0, D1⟩ := hmv.out _ hSw; go_simp; go_at_call 27; refine (of_any _ _ _).mono ?_; rintro e w2 ⟨rfl, hb2⟩; first | exact hK.out _ hb2 | (have h9 := hK.out _ hb2; (try simp only [zq1, zq2, zq3, Act.put, zq4, zq5, zq6] at h9 ⊢); exact h9) | (have h9 := hK.out _ hb2; go_simp; exact h9))
                    (try simp only [zq1, zq2, zq3, Act.put, zq4, zq5, zq6])
                    refine tc hSG 69 (v := .bool false) rfl (by kernel_rfl) (fun _ _ _ h => h) (by rfl) ?_ hHeld ?_
                    focus (intro wz hSw K hK; obtain ⟨G0, G1, K0, K1, M0, M1, D0, D1⟩ := hmv.out _ hSw; go_simp; go_at_call 23; refine (exV2 _).mono ?_; rintro e w2 ⟨rfl, hb2⟩; first | exact hK.out _ hb2 | (have h9 := hK.out _ hb2; (try simp only [zq1, zq2, zq3, Act.put, zq4, zq5, zq6] at h9 ⊢); exact h9) | (have h9 := hK.out _ hb2; go_simp; exact h9))
                    (try simp only [zq1, zq2, zq3, Act.put, zq4, zq5, zq6])
                    first
                     | (refine tk hSG 70 (v := ?_) rfl (by kernel_rfl) (fun _ _ _ h => h) (by rfl) ?_ hHeld ?_; rotate_left; focus (intro w' hSw; obtain ⟨G0, G1, K0, K1, M0, M1, D0, D1⟩ := hmv.out _ hSw; go_simp; (try with_reducible rfl)))
                     | refine tn hSG 70 rfl (by kernel_rfl) (fun _ _ _ h => h) (by rfl) hHeld ?_
                    (try simp only [zq1, zq2, zq3, Act.put, zq4, zq5, zq6])
                    first
                     | (refine tk hSG 71 (v := ?_) rfl (by kernel_rfl) (fun _ _ _ h => h) (by rfl) ?_ hHeld ?_; rotate_left; focus (intro w' hSw; obtain ⟨G0, G1, K0, K1, M0, M1, D0, D1⟩ := hmv.out _ hSw; go_simp; (try with_reducible rfl)))
                     | refine tn hSG 71 rfl (by kernel_rfl) (fun _ _ _ h => h) (by rfl) hHeld ?_
                    (try simp only [zq1, zq2, zq3, Act.put, zq4, zq5, zq6])
                    first
                     | (refine tk hSG 72 (v := ?_) rfl (by kernel_rfl) (fun _ _ _ h => h) (by rfl) ?_ hHeld ?_; rotate_left; focus (intro w' hSw; obtain ⟨G0, G1, K0, K1, M0, M1, D0, D1⟩ := hmv.out _ hSw; go_simp; (try with_reducible rfl)))
                     | refine tn hSG 72 rfl (by kernel_rfl) (fun _ _ _ h => h) (by rfl) hHeld ?_
                    (try simp only [zq1, zq2, zq3, Act.put, zq4, zq5, zq6])
                    refine wpAnyG_done (by kernel_rfl) (fun w5 hgD => ?_) _
                    have hg5 : Gr wc w5 := (grDrew wc).tr hgD
                    clear hgD hSG hHeld
                    go_wp2
                    go_ret
                    exact ⟨rfl, bCall HW.out hg5⟩
end Go.Proofs.Ytinmplilejnafaa
