/- Law package 06: IntervalContains. -/
import Derived.Test.YtiijplgaikdioaaIxL
import Derived.Test.YtiijplgaikdioaaIxN
namespace Go.Proofs.Ytiijplgaikdioaa
open Go.RowKit
set_option linter.unusedVariables false
set_option linter.unusedSimpArgs false
theorem Min_0 {a b : Sp} (ha : vB a = true) (hb : vB b = true) (w : World) : Calls Try.prog 21 #[sv a, sv b] w (VV (.tuple #[sv (minM a b).1, .int .i64 0]) w) := by
  have h := Min_any a b w
  rw [show rv (minM a b) = .tuple #[sv (minM a b).1, .int .i64 0] by rw [min_ch ha hb]] at h
  exact h
theorem Max_0 {a b : Sp} (ha : vB a = true) (hb : vB b = true) (w : World) : Calls Try.prog 23 #[sv a, sv b] w (VV (.tuple #[sv (maxM a b).1, .int .i64 0]) w) := by
  have h := Max_any a b w
  rw [show rv (maxM a b) = .tuple #[sv (maxM a b).1, .int .i64 0] by rw [max_ch ha hb]] at h
  exact h
theorem Join_0 {a b : Sp} (ha : vB a = true) (hb : vB b = true) (w : World) : Calls Try.prog 25 #[sv a, sv b] w (VV (.tuple #[sv (joinM a b).1, .int .i64 0]) w) := by
  have h := Join_any a b w
  rw [show rv (joinM a b) = .tuple #[sv (joinM a b).1, .int .i64 0] by rw [join_ch ha hb]] at h
  exact h
theorem Div_0 {a b : Sp} (ha : vB a = true) (hb : vB b = true) (hz : zB b = false) (w : World) : Calls Try.prog 17 #[sv a, sv b] w (VV (.tuple #[sv (dvM a b).1, .int .i64 0]) w) := by
  have h := Div_any a b w
  rw [show rv (dvM a b) = .tuple #[sv (dvM a b).1, .int .i64 0] by rw [dv_ch ha hb hz]] at h
  exact h
theorem Up_0 {a b : Sp} (ha : vB a = true) (hb : vB b = true) (hz : zB b = false) (w : World) : Calls Try.prog 19 #[sv a, sv b] w (VV (.tuple #[sv (upM a b).1, .int .i64 0]) w) := by
  have h := Up_any a b w
  rw [show rv (upM a b) = .tuple #[sv (upM a b).1, .int .i64 0] by rw [up_ch ha hb hz]] at h
  exact h
theorem in_true {s : Sp} {n : Int} (h : InS n s) (w : World) : Calls Try.prog 30 #[sv s, .int .i64 0, .int .i64 n] w (BB true w) := by
  have := in_any s 0 n w
  rw [show inB s 0 n = true from inB_iff.2 ⟨rfl, h⟩] at this
  exact this
set_option maxHeartbeats 8000000 in
set_option maxRecDepth 100000 in
theorem contains_bad (a b : Sp) (m n : Int) (h : (vB a && vB b) = false) (w : World) : Calls Try.prog 4 #[sv a, sv b, .int .u64 m, .int .u64 n] w (BB true w) := by
  have hVa := Lib.hid (RValid_any a)
  have hVb := Lib.hid (RValid_any b)
  rcases ha : vB a with _ | _
  · rw [ha] at hVa
    clear ha h hVb
    go_enter Try.func4, Try.ntmps4
    have HW := Lib.hid (Below.refl w.heap.size w)
    go_upto_region 2 with (go_at_call 10; refine (head_any _).mono ?_; rintro e wn ⟨rfl, hbn⟩; obtain ⟨HA, HB⟩ := two2 hbn; have HA := Lib.hid HA; have HB := Lib.hid HB; replace HW := Lib.hid (bCall (by (repeat with_reducible first | exact HW.out | apply bDrew | apply bAlloc)) hbn); clear hbn)
    have A0 := (cells2 HA.out).1.1
    have A1 := (cells2 HA.out).1.2
    have A2 := (cells2 HA.out).2.1
    have A3 := (cells2 HA.out).2.2
    have Al := blkLt HA.out
    have B0 := (cells2 HB.out).1.1
    have B1 := (cells2 HB.out).1.2
    have B2 := (cells2 HB.out).2.1
    have B3 := (cells2 HB.out).2.2
    have Bl := blkLt HB.out
    go_wp2_with (go_at_call_of 28 (Value.agg #[.int .i64 a.lo, .int .i64 a.hi]); refine (hVa.out _).mono ?_; rintro e wn ⟨rfl, hbn⟩; replace HW := Lib.hid (bCall (by (repeat with_reducible first | exact HW.out | apply bDrew | apply bAlloc)) hbn); replace HA := Lib.hid (moveX (by (repeat with_reducible first | exact Below.refl _ _ | apply bDrew | apply bAlloc)) hbn HA.out); replace HB := Lib.hid (moveX (by (repeat with_reducible first | exact Below.refl _ _ | apply bDrew | apply bAlloc)) hbn HB.out); replace A0 := (cells2 HA.out).1.1; replace A1 := (cells2 HA.out).1.2; replace A2 := (cells2 HA.out).2.1; replace A3 := (cells2 HA.out).2.2; replace Al := blkLt HA.out; replace B0 := (cells2 HB.out).1.1; replace B1 := (cells2 HB.out).1.2; replace B2 := (cells2 HB.out).2.1; replace B3 := (cells2 HB.out).2.2; replace Bl := blkLt HB.out; clear hbn)
    go_ret
    exact ⟨rfl, HW.out⟩
  · rw [ha] at hVa h
    have hb : vB b = false := by simpa using h
    rw [hb] at hVb
    clear ha h hb
    go_enter Try.func4, Try.ntmps4
    have HW := Lib.hid (Below.refl w.heap.size w)
    go_upto_region 2 with (go_at_call 10; refine (head_any _).mono ?_; rintro e wn ⟨rfl, hbn⟩; obtain ⟨HA, HB⟩ := two2 hbn; have HA := Lib.hid HA; have HB := Lib.hid HB; replace HW := Lib.hid (bCall (by (repeat with_reducible first | exact HW.out | apply bDrew | apply bAlloc)) hbn); clear hbn)
    have A0 := (cells2 HA.out).1.1
    have A1 := (cells2 HA.out).1.2
    have A2 := (cells2 HA.out).2.1
    have A3 := (cells2 HA.out).2.2
    have Al := blkLt HA.out
    have B0 := (cells2 HB.out).1.1
    have B1 := (cells2 HB.out).1.2
    have B2 := (cells2 HB.out).2.1
    have B3 := (cells2 HB.out).2.2
    have Bl := blkLt HB.out
    go_wp2_with (first
      | (go_at_call_of 28 (Value.agg #[.int .i64 a.lo, .int .i64 a.hi]); refine (hVa.out _).mono ?_; rintro e wn ⟨rfl, hbn⟩; replace HW := Lib.hid (bCall (by (repeat with_reducible first | exact HW.out | apply bDrew | apply bAlloc)) hbn); replace HA := Lib.hid (moveX (by (repeat with_reducible first | exact Below.refl _ _ | apply bDrew | apply bAlloc)) hbn HA.out); replace HB := Lib.hid (moveX (by (repeat with_reducible first | exact Below.refl _ _ | apply bDrew | apply bAlloc)) hbn HB.out); replace A0 := (cells2 HA.out).1.1; replace A1 := (cells2 HA.out).1.2; replace A2 := (cells2 HA.out).2.1; replace A3 := (cells2 HA.out).2.2; replace Al := blkLt HA.out; replace B0 := (cells2 HB.out).1.1; replace B1 := (cells2 HB.out).1.2; replace B2 := (cells2 HB.out).2.1; replace B3 := (cells2 HB.out).2.2; replace Bl := blkLt HB.out; clear hbn)
      | (go_at_call_of 28 (Value.agg #[.int .i64 b.lo, .int .i64 b.hi]); refine (hVb.out _).mono ?_; rintro e wn ⟨rfl, hbn⟩; replace HW := Lib.hid (bCall (by (repeat with_reducible first | exact HW.out | apply bDrew | apply bAlloc)) hbn); replace HA := Lib.hid (moveX (by (repeat with_reducible first | exact Below.refl _ _ | apply bDrew | apply bAlloc)) hbn HA.out); replace HB := Lib.hid (moveX (by (repeat with_reducible first | exact Below.refl _ _ | apply bDrew | apply bAlloc)) hbn HB.out); replace A0 := (cells2 HA.out).1.1; replace A1 := (cells2 HA.out).1.2; replace A2 := (cells2 HA.out).2.1; replace A3 := (cells2 HA.out).2.2; replace Al := blkLt HA.out; replace B0 := (cells2 HB.out).1.1; replace B1 := (cells2 HB.out).1.2; replace B2 := (cells2 HB.out).2.1; replace B3 := (cells2 HB.out).2.2; replace Bl := blkLt HB.out; clear hbn))
    go_ret
    exact ⟨rfl, HW.out⟩
set_option maxHeartbeats 8000000 in
set_option maxRecDepth 100000 in
theorem contains_ok (a b : Sp) (m n : Int) (hm : 0 ≤ m ∧ m < 18446744073709551616) (hn : 0 ≤ n ∧ n < 18446744073709551616) (ha : vB a = true) (hb : vB b = true) (w : World) : Calls Try.prog 4 #[sv a, sv b, .int .u64 m, .int .u64 n] w (BB true w) := by
  have hVa := Lib.hid (RValid_any a)
  have hVb := Lib.hid (RValid_any b)
  have hPa := Lib.hid (pick_any a m ha hm)
  have hPb := Lib.hid (pick_any b n hb hn)
  have hx := pick_in ha hm.1
  have hy := pick_in hb hn.1
  generalize pickM a m = x at *
  generalize pickM b n = y at *
  rw [ha] at hVa
  rw [hb] at hVb
  have HH := Lib.hid (And.intro (And.intro ha hb) (And.intro hx hy))
  have bx : Hid (-1000000000000 ≤ x ∧ x ≤ 1000000000000) := Lib.hid (by unfold InS at hx; rw [vB_iff] at ha; omega)
  have by' : Hid (-1000000000000 ≤ y ∧ y ≤ 1000000000000) := Lib.hid (by unfold InS at hy; rw [vB_iff] at hb; omega)
  clear hm hn ha hb hx hy
  go_enter Try.func4, Try.ntmps4
  have HW := Lib.hid (Below.refl w.heap.size w)
  go_upto_region 2 with (go_at_call 10; refine (head_any _).mono ?_; rintro e wn ⟨rfl, hbn⟩; obtain ⟨HA, HB⟩ := two2 hbn; have HA := Lib.hid HA; have HB := Lib.hid HB; replace HW := Lib.hid (bCall (by (repeat with_reducible first | exact HW.out | apply bDrew | apply bAlloc)) hbn); clear hbn)
  have A0 := (cells2 HA.out).1.1
  have A1 := (cells2 HA.out).1.2
  have A2 := (cells2 HA.out).2.1
  have A3 := (cells2 HA.out).2.2
  have Al := blkLt HA.out
  have B0 := (cells2 HB.out).1.1
  have B1 := (cells2 HB.out).1.2
  have B2 := (cells2 HB.out).2.1
  have B3 := (cells2 HB.out).2.2
  have Bl := blkLt HB.out
  go_upto_region 4 with (first
      | (go_at_call_of 28 (Value.agg #[.int .i64 a.lo, .int .i64 a.hi]); refine (hVa.out _).mono ?_; rintro e wn ⟨rfl, hbn⟩; replace HW := Lib.hid (bCall (by (repeat with_reducible first | exact HW.out | apply bDrew | apply bAlloc)) hbn); replace HA := Lib.hid (moveX (by (repeat with_reducible first | exact Below.refl _ _ | apply bDrew | apply bAlloc)) hbn HA.out); replace HB := Lib.hid (moveX (by (repeat with_reducible first | exact Below.refl _ _ | apply bDrew | apply bAlloc)) hbn HB.out); replace A0 := (cells2 HA.out).1.1; replace A1 := (cells2 HA.out).1.2; replace A2 := (cells2 HA.out).2.1; replace A3 := (cells2 HA.out).2.2; replace Al := blkLt HA.out; replace B0 := (cells2 HB.out).1.1; replace B1 := (cells2 HB.out).1.2; replace B2 := (cells2 HB.out).2.1; replace B3 := (cells2 HB.out).2.2; replace Bl := blkLt HB.out; clear hbn)
      | (go_at_call_of 28 (Value.agg #[.int .i64 b.lo, .int .i64 b.hi]); refine (hVb.out _).mono ?_; rintro e wn ⟨rfl, hbn⟩; replace HW := Lib.hid (bCall (by (repeat with_reducible first | exact HW.out | apply bDrew | apply bAlloc)) hbn); replace HA := Lib.hid (moveX (by (repeat with_reducible first | exact Below.refl _ _ | apply bDrew | apply bAlloc)) hbn HA.out); replace HB := Lib.hid (moveX (by (repeat with_reducible first | exact Below.refl _ _ | apply bDrew | apply bAlloc)) hbn HB.out); replace A0 := (cells2 HA.out).1.1; replace A1 := (cells2 HA.out).1.2; replace A2 := (cells2 HA.out).2.1; replace A3 := (cells2 HA.out).2.2; replace Al := blkLt HA.out; replace B0 := (cells2 HB.out).1.1; replace B1 := (cells2 HB.out).1.2; replace B2 := (cells2 HB.out).2.1; replace B3 := (cells2 HB.out).2.2; replace Bl := blkLt HB.out; clear hbn))
  clear hVa hVb A0 A1 A2 A3 Al B0 B1 B2 B3 Bl
  go_cut [10, 11] (fun s1 s2 wx => s1 = .int .i64 x ∧ s2 = .int .i64 y ∧ Hid (wx.heap[w.heap.size]? = some (.cells #[.int .i64 (a.lo), .int .i64 (a.hi)] 23 (0, 0))) ∧ Hid (wx.heap[w.heap.size + 1]? = some (.cells #[.int .i64 (b.lo), .int .i64 (b.hi)] 23 (0, 0))) ∧ Hid (Below w.heap.size w wx))
  case first => as_aux_lemma =>
    have A0 := (cells2 HA.out).1.1
    have A1 := (cells2 HA.out).1.2
    have A2 := (cells2 HA.out).2.1
    have A3 := (cells2 HA.out).2.2
    have Al := blkLt HA.out
    have B0 := (cells2 HB.out).1.1
    have B1 := (cells2 HB.out).1.2
    have B2 := (cells2 HB.out).2.1
    have B3 := (cells2 HB.out).2.2
    have Bl := blkLt HB.out
    go_region_held3 (fun w' => w'.cell? ⟨w.heap.size, 0, none⟩ = some (.int .i64 a.lo) ∧ w'.cell? ⟨w.heap.size, 1, none⟩ = some (.int .i64 a.hi) ∧ w'.cell? ⟨w.heap.size + 1, 0, none⟩ = some (.int .i64 b.lo) ∧ w'.cell? ⟨w.heap.size + 1, 1, none⟩ = some (.int .i64 b.hi))
      (first | (with_reducible exact ⟨A0, A1, B0, B1⟩) | go_keep)
      (first
      | (go_at_call_of 29 (Value.agg #[.int .i64 a.lo, .int .i64 a.hi]); refine (hPa.out _).mono ?_; rintro e wn ⟨rfl, hbn⟩; replace HW := Lib.hid (bCall (by (repeat with_reducible first | exact HW.out | apply bDrew | apply bAlloc)) hbn); replace HA := Lib.hid (moveX (by (repeat with_reducible first | exact Below.refl _ _ | apply bDrew | apply bAlloc)) hbn HA.out); replace HB := Lib.hid (moveX (by (repeat with_reducible first | exact Below.refl _ _ | apply bDrew | apply bAlloc)) hbn HB.out); replace A0 := (cells2 HA.out).1.1; replace A1 := (cells2 HA.out).1.2; replace A2 := (cells2 HA.out).2.1; replace A3 := (cells2 HA.out).2.2; replace Al := blkLt HA.out; replace B0 := (cells2 HB.out).1.1; replace B1 := (cells2 HB.out).1.2; replace B2 := (cells2 HB.out).2.1; replace B3 := (cells2 HB.out).2.2; replace Bl := blkLt HB.out; clear hbn)
      | (go_at_call_of 29 (Value.agg #[.int .i64 b.lo, .int .i64 b.hi]); refine (hPb.out _).mono ?_; rintro e wn ⟨rfl, hbn⟩; replace HW := Lib.hid (bCall (by (repeat with_reducible first | exact HW.out | apply bDrew | apply bAlloc)) hbn); replace HA := Lib.hid (moveX (by (repeat with_reducible first | exact Below.refl _ _ | apply bDrew | apply bAlloc)) hbn HA.out); replace HB := Lib.hid (moveX (by (repeat with_reducible first | exact Below.refl _ _ | apply bDrew | apply bAlloc)) hbn HB.out); replace A0 := (cells2 HA.out).1.1; replace A1 := (cells2 HA.out).1.2; replace A2 := (cells2 HA.out).2.1; replace A3 := (cells2 HA.out).2.2; replace Al := blkLt HA.out; replace B0 := (cells2 HB.out).1.1; replace B1 := (cells2 HB.out).1.2; replace B2 := (cells2 HB.out).2.1; replace B3 := (cells2 HB.out).2.2; replace Bl := blkLt HB.out; clear hbn))
    all_goals go_wp2
    all_goals go_meet
    all_goals exact ⟨rfl, rfl, HA, HB, HW⟩
  case rest => as_aux_lemma =>
    clear HW HA HB
    obtain ⟨rfl, rfl, HA, HB, HW⟩ := hcut
    clear hPa hPb
    go_upto_region 5 with fail
    go_cut [12, 13] (fun s1 s2 wx => ∃ bS : Nat, s1 = .pointer (some ⟨bS, 0, none⟩) ∧ s2 = .int .i64 (addM a b).2 ∧ w.heap.size + 2 ≤ bS ∧ Hid (wx.heap[w.heap.size]? = some (.cells #[.int .i64 (a.lo), .int .i64 (a.hi)] 23 (0, 0))) ∧ Hid (wx.heap[w.heap.size + 1]? = some (.cells #[.int .i64 (b.lo), .int .i64 (b.hi)] 23 (0, 0))) ∧ Hid (wx.heap[bS]? = some (.cells #[.int .i64 ((addM a b).1.lo), .int .i64 ((addM a b).1.hi)] 23 (0, 0))) ∧ Hid (Below w.heap.size w wx))
    case first => as_aux_lemma =>
      have A0 := (cells2 HA.out).1.1
      have A1 := (cells2 HA.out).1.2
      have A2 := (cells2 HA.out).2.1
      have A3 := (cells2 HA.out).2.2
      have Al := blkLt HA.out
      have B0 := (cells2 HB.out).1.1
      have B1 := (cells2 HB.out).1.2
      have B2 := (cells2 HB.out).2.1
      have B3 := (cells2 HB.out).2.2
      have Bl := blkLt HB.out
      go_wp2_with (go_at_call 11; refine (Add_any a b _).mono ?_; rintro e wn ⟨rfl, hbn⟩; replace HW := Lib.hid (bCall (by (repeat with_reducible first | exact HW.out | apply bDrew | apply bAlloc)) hbn); replace HA := Lib.hid (moveX (by (repeat with_reducible first | exact Below.refl _ _ | apply bDrew | apply bAlloc)) hbn HA.out); replace HB := Lib.hid (moveX (by (repeat with_reducible first | exact Below.refl _ _ | apply bDrew | apply bAlloc)) hbn HB.out); replace A0 := (cells2 HA.out).1.1; replace A1 := (cells2 HA.out).1.2; replace A2 := (cells2 HA.out).2.1; replace A3 := (cells2 HA.out).2.2; replace Al := blkLt HA.out; replace B0 := (cells2 HB.out).1.1; replace B1 := (cells2 HB.out).1.2; replace B2 := (cells2 HB.out).2.1; replace B3 := (cells2 HB.out).2.2; replace Bl := blkLt HB.out; clear hbn)
      go_meet
      exact ⟨_, rfl, rfl, by have := Bl; omega, Lib.hid (mvAlloc HA.out), Lib.hid (mvAlloc HB.out), Lib.hid (newBlk _ _ _ rfl), Lib.hid (bAlloc HW.out)⟩
    case rest => as_aux_lemma =>
      clear HW HA HB
      obtain ⟨bS, rfl, rfl, hSn, HA, HB, HS, HW⟩ := hcut
      go_upto_region 6 with fail
      go_cut [9, 13] (fun s1 s2 wx => s1 = .bool true ∧ Hid (wx.heap[w.heap.size]? = some (.cells #[.int .i64 (a.lo), .int .i64 (a.hi)] 23 (0, 0))) ∧ Hid (wx.heap[w.heap.size + 1]? = some (.cells #[.int .i64 (b.lo), .int .i64 (b.hi)] 23 (0, 0))) ∧ Hid (wx.heap[bS]? = some (.cells #[.int .i64 ((addM a b).1.lo), .int .i64 ((addM a b).1.hi)] 23 (0, 0))) ∧ Hid (Below w.heap.size w wx))
      case first => as_aux_lemma =>
        rcases Decidable.em ((addM a b).2 = 0) with he | he
        · have hin := Lib.hid (in_true (add_in HH.out.1.1 HH.out.1.2 HH.out.2.1 HH.out.2.2 he))
          have q : IntKind.i64.wrap (x + y) = x + y := IntWalk.i64_in _ (by have := bx.out; have := by'.out; omega)
          clear HH bx by'
          have S0 := (cells2 HS.out).1.1
          have S1 := (cells2 HS.out).1.2
          have S2 := (cells2 HS.out).2.1
          have S3 := (cells2 HS.out).2.2
          have Sl := blkLt HS.out
          go_wp2_with (go_at_call 30; refine (hin.out _).mono ?_; rintro e wn ⟨rfl, hbn⟩; replace HW := Lib.hid (bCall (by (repeat with_reducible first | exact HW.out | apply bDrew | apply bAlloc)) hbn); replace HA := Lib.hid (moveX (by (repeat with_reducible first | exact Below.refl _ _ | apply bDrew | apply bAlloc)) hbn HA.out); replace HB := Lib.hid (moveX (by (repeat with_reducible first | exact Below.refl _ _ | apply bDrew | apply bAlloc)) hbn HB.out); replace HS := Lib.hid (moveX (by (repeat with_reducible first | exact Below.refl _ _ | apply bDrew | apply bAlloc)) hbn HS.out); replace S0 := (cells2 HS.out).1.1; replace S1 := (cells2 HS.out).1.2; replace S2 := (cells2 HS.out).2.1; replace S3 := (cells2 HS.out).2.2; replace Sl := blkLt HS.out; clear hbn)
          go_meet
          exact ⟨rfl, HA, HB, HS, HW⟩
        · clear HH bx by'
          have S0 := (cells2 HS.out).1.1
          have S1 := (cells2 HS.out).1.2
          have S2 := (cells2 HS.out).2.1
          have S3 := (cells2 HS.out).2.2
          have Sl := blkLt HS.out
          go_wp2_with fail
          go_meet
          exact ⟨rfl, HA, HB, HS, HW⟩
      case rest => as_aux_lemma =>
        clear HW HA HB HS
        obtain ⟨rfl, HA, HB, HS, HW⟩ := hcut
        go_upto_region 7 with fail
        go_cut [13] (fun s2 wx => s2 = .int .i64 (subM a b).2 ∧ Hid (wx.heap[w.heap.size]? = some (.cells #[.int .i64 (a.lo), .int .i64 (a.hi)] 23 (0, 0))) ∧ Hid (wx.heap[w.heap.size + 1]? = some (.cells #[.int .i64 (b.lo), .int .i64 (b.hi)] 23 (0, 0))) ∧ Hid (wx.heap[bS]? = some (.cells #[.int .i64 ((subM a b).1.lo), .int .i64 ((subM a b).1.hi)] 23 (0, 0))) ∧ Hid (Below w.heap.size w wx))
        case first => as_aux_lemma =>
          have A0 := (cells2 HA.out).1.1
          have A1 := (cells2 HA.out).1.2
          have A2 := (cells2 HA.out).2.1
          have A3 := (cells2 HA.out).2.2
          have Al := blkLt HA.out
          have B0 := (cells2 HB.out).1.1
          have B1 := (cells2 HB.out).1.2
          have B2 := (cells2 HB.out).2.1
          have B3 := (cells2 HB.out).2.2
          have Bl := blkLt HB.out
          have S0 := (cells2 HS.out).1.1
          have S1 := (cells2 HS.out).1.2
          have S2 := (cells2 HS.out).2.1
          have S3 := (cells2 HS.out).2.2
          have Sl := blkLt HS.out
          go_wp2_with (go_at_call 13; refine (Sub_any a b _).mono ?_; rintro e wn ⟨rfl, hbn⟩; replace HW := Lib.hid (bCall (by (repeat with_reducible first | exact HW.out | apply bDrew | apply bAlloc)) hbn); replace HA := Lib.hid (moveX (by (repeat with_reducible first | exact Below.refl _ _ | apply bDrew | apply bAlloc)) hbn HA.out); replace HB := Lib.hid (moveX (by (repeat with_reducible first | exact Below.refl _ _ | apply bDrew | apply bAlloc)) hbn HB.out); replace HS := Lib.hid (moveX (by (repeat with_reducible first | exact Below.refl _ _ | apply bDrew | apply bAlloc)) hbn HS.out); replace A0 := (cells2 HA.out).1.1; replace A1 := (cells2 HA.out).1.2; replace A2 := (cells2 HA.out).2.1; replace A3 := (cells2 HA.out).2.2; replace Al := blkLt HA.out; replace B0 := (cells2 HB.out).1.1; replace B1 := (cells2 HB.out).1.2; replace B2 := (cells2 HB.out).2.1; replace B3 := (cells2 HB.out).2.2; replace Bl := blkLt HB.out; replace S0 := (cells2 HS.out).1.1; replace S1 := (cells2 HS.out).1.2; replace S2 := (cells2 HS.out).2.1; replace S3 := (cells2 HS.out).2.2; replace Sl := blkLt HS.out; clear hbn)
          go_meet
          exact ⟨rfl, Lib.hid (setK HA.out (by omega)), Lib.hid (setK HB.out (by omega)), Lib.hid (res2 HS.out).1, Lib.hid (below2 HW.out (by omega))⟩
        case rest => as_aux_lemma =>
          clear HW HA HB HS
          obtain ⟨rfl, HA, HB, HS, HW⟩ := hcut
          go_upto_region 8 with fail
          go_cut [9, 13] (fun s1 s2 wx => s1 = .bool true ∧ Hid (wx.heap[w.heap.size]? = some (.cells #[.int .i64 (a.lo), .int .i64 (a.hi)] 23 (0, 0))) ∧ Hid (wx.heap[w.heap.size + 1]? = some (.cells #[.int .i64 (b.lo), .int .i64 (b.hi)] 23 (0, 0))) ∧ Hid (wx.heap[bS]? = some (.cells #[.int .i64 ((subM a b).1.lo), .int .i64 ((subM a b).1.hi)] 23 (0, 0))) ∧ Hid (Below w.heap.size w wx))
          case first => as_aux_lemma =>
            rcases Decidable.em ((subM a b).2 = 0) with he | he
            · have hin := Lib.hid (in_true (sub_in HH.out.1.1 HH.out.1.2 HH.out.2.1 HH.out.2.2 he))
              have q : IntKind.i64.wrap (x - y) = x - y := IntWalk.i64_in _ (by have := bx.out; have := by'.out; omega)
              clear HH bx by'
              have S0 := (cells2 HS.out).1.1
              have S1 := (cells2 HS.out).1.2
              have S2 := (cells2 HS.out).2.1
              have S3 := (cells2 HS.out).2.2
              have Sl := blkLt HS.out
              go_wp2_with (go_at_call 30; refine (hin.out _).mono ?_; rintro e wn ⟨rfl, hbn⟩; replace HW := Lib.hid (bCall (by (repeat with_reducible first | exact HW.out | apply bDrew | apply bAlloc)) hbn); replace HA := Lib.hid (moveX (by (repeat with_reducible first | exact Below.refl _ _ | apply bDrew | apply bAlloc)) hbn HA.out); replace HB := Lib.hid (moveX (by (repeat with_reducible first | exact Below.refl _ _ | apply bDrew | apply bAlloc)) hbn HB.out); replace HS := Lib.hid (moveX (by (repeat with_reducible first | exact Below.refl _ _ | apply bDrew | apply bAlloc)) hbn HS.out); replace S0 := (cells2 HS.out).1.1; replace S1 := (cells2 HS.out).1.2; replace S2 := (cells2 HS.out).2.1; replace S3 := (cells2 HS.out).2.2; replace Sl := blkLt HS.out; clear hbn)
              go_meet
              exact ⟨rfl, HA, HB, HS, HW⟩
            · clear HH bx by'
              have S0 := (cells2 HS.out).1.1
              have S1 := (cells2 HS.out).1.2
              have S2 := (cells2 HS.out).2.1
              have S3 := (cells2 HS.out).2.2
              have Sl := blkLt HS.out
              go_wp2_with fail
              go_meet
              exact ⟨rfl, HA, HB, HS, HW⟩
          case rest => as_aux_lemma =>
            clear HW HA HB HS
            obtain ⟨rfl, HA, HB, HS, HW⟩ := hcut
            go_upto_region 9 with fail
            go_cut [13] (fun s2 wx => s2 = .int .i64 (mulM a b).2 ∧ Hid (wx.heap[w.heap.size]? = some (.cells #[.int .i64 (a.lo), .int .i64 (a.hi)] 23 (0, 0))) ∧ Hid (wx.heap[w.heap.size + 1]? = some (.cells #[.int .i64 (b.lo), .int .i64 (b.hi)] 23 (0, 0))) ∧ Hid (wx.heap[bS]? = some (.cells #[.int .i64 ((mulM a b).1.lo), .int .i64 ((mulM a b).1.hi)] 23 (0, 0))) ∧ Hid (Below w.heap.size w wx))
            case first => as_aux_lemma =>
              have A0 := (cells2 HA.out).1.1
              have A1 := (cells2 HA.out).1.2
              have A2 := (cells2 HA.out).2.1
              have A3 := (cells2 HA.out).2.2
              have Al := blkLt HA.out
              have B0 := (cells2 HB.out).1.1
              have B1 := (cells2 HB.out).1.2
              have B2 := (cells2 HB.out).2.1
              have B3 := (cells2 HB.out).2.2
              have Bl := blkLt HB.out
              have S0 := (cells2 HS.out).1.1
              have S1 := (cells2 HS.out).1.2
              have S2 := (cells2 HS.out).2.1
              have S3 := (cells2 HS.out).2.2
              have Sl := blkLt HS.out
              go_wp2_with (go_at_call 15; refine (Mul_any a b _).mono ?_; rintro e wn ⟨rfl, hbn⟩; replace HW := Lib.hid (bCall (by (repeat with_reducible first | exact HW.out | apply bDrew | apply bAlloc)) hbn); replace HA := Lib.hid (moveX (by (repeat with_reducible first | exact Below.refl _ _ | apply bDrew | apply bAlloc)) hbn HA.out); replace HB := Lib.hid (moveX (by (repeat with_reducible first | exact Below.refl _ _ | apply bDrew | apply bAlloc)) hbn HB.out); replace HS := Lib.hid (moveX (by (repeat with_reducible first | exact Below.refl _ _ | apply bDrew | apply bAlloc)) hbn HS.out); replace A0 := (cells2 HA.out).1.1; replace A1 := (cells2 HA.out).1.2; replace A2 := (cells2 HA.out).2.1; replace A3 := (cells2 HA.out).2.2; replace Al := blkLt HA.out; replace B0 := (cells2 HB.out).1.1; replace B1 := (cells2 HB.out).1.2; replace B2 := (cells2 HB.out).2.1; replace B3 := (cells2 HB.out).2.2; replace Bl := blkLt HB.out; replace S0 := (cells2 HS.out).1.1; replace S1 := (cells2 HS.out).1.2; replace S2 := (cells2 HS.out).2.1; replace S3 := (cells2 HS.out).2.2; replace Sl := blkLt HS.out; clear hbn)
              go_meet
              exact ⟨rfl, Lib.hid (setK HA.out (by omega)), Lib.hid (setK HB.out (by omega)), Lib.hid (res2 HS.out).1, Lib.hid (below2 HW.out (by omega))⟩
            case rest => as_aux_lemma =>
              clear HW HA HB HS
              obtain ⟨rfl, HA, HB, HS, HW⟩ := hcut
              go_upto_region 10 with fail
              go_cut [9, 13] (fun s1 s2 wx => s1 = .bool true ∧ Hid (wx.heap[w.heap.size]? = some (.cells #[.int .i64 (a.lo), .int .i64 (a.hi)] 23 (0, 0))) ∧ Hid (wx.heap[w.heap.size + 1]? = some (.cells #[.int .i64 (b.lo), .int .i64 (b.hi)] 23 (0, 0))) ∧ Hid (wx.heap[bS]? = some (.cells #[.int .i64 ((mulM a b).1.lo), .int .i64 ((mulM a b).1.hi)] 23 (0, 0))) ∧ Hid (Below w.heap.size w wx))
              case first => as_aux_lemma =>
                rcases Decidable.em ((mulM a b).2 = 0) with he | he
                · have hin := Lib.hid (in_true (mul_in HH.out.1.1 HH.out.1.2 HH.out.2.1 HH.out.2.2 he))
                  have q : IntKind.i64.wrap (x * y) = x * y := IntWalk.i64_in _ (by have := bx.out; have := by'.out; have := mul_bd HH.out.1.1 HH.out.1.2 HH.out.2.1 HH.out.2.2 he; omega)
                  clear HH bx by'
                  have S0 := (cells2 HS.out).1.1
                  have S1 := (cells2 HS.out).1.2
                  have S2 := (cells2 HS.out).2.1
                  have S3 := (cells2 HS.out).2.2
                  have Sl := blkLt HS.out
                  go_wp2_with (go_at_call 30; refine (hin.out _).mono ?_; rintro e wn ⟨rfl, hbn⟩; replace HW := Lib.hid (bCall (by (repeat with_reducible first | exact HW.out | apply bDrew | apply bAlloc)) hbn); replace HA := Lib.hid (moveX (by (repeat with_reducible first | exact Below.refl _ _ | apply bDrew | apply bAlloc)) hbn HA.out); replace HB := Lib.hid (moveX (by (repeat with_reducible first | exact Below.refl _ _ | apply bDrew | apply bAlloc)) hbn HB.out); replace HS := Lib.hid (moveX (by (repeat with_reducible first | exact Below.refl _ _ | apply bDrew | apply bAlloc)) hbn HS.out); replace S0 := (cells2 HS.out).1.1; replace S1 := (cells2 HS.out).1.2; replace S2 := (cells2 HS.out).2.1; replace S3 := (cells2 HS.out).2.2; replace Sl := blkLt HS.out; clear hbn)
                  go_meet
                  exact ⟨rfl, HA, HB, HS, HW⟩
                · clear HH bx by'
                  have S0 := (cells2 HS.out).1.1
                  have S1 := (cells2 HS.out).1.2
                  have S2 := (cells2 HS.out).2.1
                  have S3 := (cells2 HS.out).2.2
                  have Sl := blkLt HS.out
                  go_wp2_with fail
                  go_meet
                  exact ⟨rfl, HA, HB, HS, HW⟩
              case rest => as_aux_lemma =>
                clear HW HA HB HS
                obtain ⟨rfl, HA, HB, HS, HW⟩ := hcut
                have hop := Lib.hid (Min_0 HH.out.1.1 HH.out.1.2)
                go_upto_region 11 with fail
                go_cut [13] (fun s2 wx => s2 = .int .i64 0 ∧ Hid (wx.heap[w.heap.size]? = some (.cells #[.int .i64 (a.lo), .int .i64 (a.hi)] 23 (0, 0))) ∧ Hid (wx.heap[w.heap.size + 1]? = some (.cells #[.int .i64 (b.lo), .int .i64 (b.hi)] 23 (0, 0))) ∧ Hid (wx.heap[bS]? = some (.cells #[.int .i64 ((minM a b).1.lo), .int .i64 ((minM a b).1.hi)] 23 (0, 0))) ∧ Hid (Below w.heap.size w wx))
                case first => as_aux_lemma =>
                  have A0 := (cells2 HA.out).1.1
                  have A1 := (cells2 HA.out).1.2
                  have A2 := (cells2 HA.out).2.1
                  have A3 := (cells2 HA.out).2.2
                  have Al := blkLt HA.out
                  have B0 := (cells2 HB.out).1.1
                  have B1 := (cells2 HB.out).1.2
                  have B2 := (cells2 HB.out).2.1
                  have B3 := (cells2 HB.out).2.2
                  have Bl := blkLt HB.out
                  have S0 := (cells2 HS.out).1.1
                  have S1 := (cells2 HS.out).1.2
                  have S2 := (cells2 HS.out).2.1
                  have S3 := (cells2 HS.out).2.2
                  have Sl := blkLt HS.out
                  go_wp2_with (go_at_call 21; refine (hop.out _).mono ?_; rintro e wn ⟨rfl, hbn⟩; replace HW := Lib.hid (bCall (by (repeat with_reducible first | exact HW.out | apply bDrew | apply bAlloc)) hbn); replace HA := Lib.hid (moveX (by (repeat with_reducible first | exact Below.refl _ _ | apply bDrew | apply bAlloc)) hbn HA.out); replace HB := Lib.hid (moveX (by (repeat with_reducible first | exact Below.refl _ _ | apply bDrew | apply bAlloc)) hbn HB.out); replace HS := Lib.hid (moveX (by (repeat with_reducible first | exact Below.refl _ _ | apply bDrew | apply bAlloc)) hbn HS.out); replace A0 := (cells2 HA.out).1.1; replace A1 := (cells2 HA.out).1.2; replace A2 := (cells2 HA.out).2.1; replace A3 := (cells2 HA.out).2.2; replace Al := blkLt HA.out; replace B0 := (cells2 HB.out).1.1; replace B1 := (cells2 HB.out).1.2; replace B2 := (cells2 HB.out).2.1; replace B3 := (cells2 HB.out).2.2; replace Bl := blkLt HB.out; replace S0 := (cells2 HS.out).1.1; replace S1 := (cells2 HS.out).1.2; replace S2 := (cells2 HS.out).2.1; replace S3 := (cells2 HS.out).2.2; replace Sl := blkLt HS.out; clear hbn)
                  go_meet
                  exact ⟨rfl, Lib.hid (setK HA.out (by omega)), Lib.hid (setK HB.out (by omega)), Lib.hid (res2 HS.out).1, Lib.hid (below2 HW.out (by omega))⟩
                case rest => as_aux_lemma =>
                  clear HW HA HB HS
                  obtain ⟨rfl, HA, HB, HS, HW⟩ := hcut
                  clear hop
                  go_upto_region 12 with fail
                  go_cut [9, 13] (fun s1 s2 wx => s1 = .bool true ∧ Hid (wx.heap[w.heap.size]? = some (.cells #[.int .i64 (a.lo), .int .i64 (a.hi)] 23 (0, 0))) ∧ Hid (wx.heap[w.heap.size + 1]? = some (.cells #[.int .i64 (b.lo), .int .i64 (b.hi)] 23 (0, 0))) ∧ Hid (wx.heap[bS]? = some (.cells #[.int .i64 ((minM a b).1.lo), .int .i64 ((minM a b).1.hi)] 23 (0, 0))) ∧ Hid (Below w.heap.size w wx))
                  case first => as_aux_lemma =>
                    have hin := in_true (min_in HH.out.1.1 HH.out.1.2 HH.out.2.1 HH.out.2.2).2
                    clear HH bx by'
                    rcases Decidable.em (y < x) with hxy | hxy
                    · rw [show min x y = y by omega] at hin
                      replace hin := Lib.hid hin
                      have S0 := (cells2 HS.out).1.1
                      have S1 := (cells2 HS.out).1.2
                      have S2 := (cells2 HS.out).2.1
                      have S3 := (cells2 HS.out).2.2
                      have Sl := blkLt HS.out
                      go_wp2_with (go_at_call 30; refine (hin.out _).mono ?_; rintro e wn ⟨rfl, hbn⟩; replace HW := Lib.hid (bCall (by (repeat with_reducible first | exact HW.out | apply bDrew | apply bAlloc)) hbn); replace HA := Lib.hid (moveX (by (repeat with_reducible first | exact Below.refl _ _ | apply bDrew | apply bAlloc)) hbn HA.out); replace HB := Lib.hid (moveX (by (repeat with_reducible first | exact Below.refl _ _ | apply bDrew | apply bAlloc)) hbn HB.out); replace HS := Lib.hid (moveX (by (repeat with_reducible first | exact Below.refl _ _ | apply bDrew | apply bAlloc)) hbn HS.out); replace S0 := (cells2 HS.out).1.1; replace S1 := (cells2 HS.out).1.2; replace S2 := (cells2 HS.out).2.1; replace S3 := (cells2 HS.out).2.2; replace Sl := blkLt HS.out; clear hbn)
                      go_meet
                      exact ⟨rfl, HA, HB, HS, HW⟩
                    · rw [show min x y = x by omega] at hin
                      replace hin := Lib.hid hin
                      have S0 := (cells2 HS.out).1.1
                      have S1 := (cells2 HS.out).1.2
                      have S2 := (cells2 HS.out).2.1
                      have S3 := (cells2 HS.out).2.2
                      have Sl := blkLt HS.out
                      go_wp2_with (go_at_call 30; refine (hin.out _).mono ?_; rintro e wn ⟨rfl, hbn⟩; replace HW := Lib.hid (bCall (by (repeat with_reducible first | exact HW.out | apply bDrew | apply bAlloc)) hbn); replace HA := Lib.hid (moveX (by (repeat with_reducible first | exact Below.refl _ _ | apply bDrew | apply bAlloc)) hbn HA.out); replace HB := Lib.hid (moveX (by (repeat with_reducible first | exact Below.refl _ _ | apply bDrew | apply bAlloc)) hbn HB.out); replace HS := Lib.hid (moveX (by (repeat with_reducible first | exact Below.refl _ _ | apply bDrew | apply bAlloc)) hbn HS.out); replace S0 := (cells2 HS.out).1.1; replace S1 := (cells2 HS.out).1.2; replace S2 := (cells2 HS.out).2.1; replace S3 := (cells2 HS.out).2.2; replace Sl := blkLt HS.out; clear hbn)
                      go_meet
                      exact ⟨rfl, HA, HB, HS, HW⟩
                  case rest => as_aux_lemma =>
                    clear HW HA HB HS
                    obtain ⟨rfl, HA, HB, HS, HW⟩ := hcut
                    have hop := Lib.hid (Max_0 HH.out.1.1 HH.out.1.2)
                    go_upto_region 13 with fail
                    go_cut [13] (fun s2 wx => s2 = .int .i64 0 ∧ Hid (wx.heap[w.heap.size]? = some (.cells #[.int .i64 (a.lo), .int .i64 (a.hi)] 23 (0, 0))) ∧ Hid (wx.heap[w.heap.size + 1]? = some (.cells #[.int .i64 (b.lo), .int .i64 (b.hi)] 23 (0, 0))) ∧ Hid (wx.heap[bS]? = some (.cells #[.int .i64 ((maxM a b).1.lo), .int .i64 ((maxM a b).1.hi)] 23 (0, 0))) ∧ Hid (Below w.heap.size w wx))
                    case first => as_aux_lemma =>
                      have A0 := (cells2 HA.out).1.1
                      have A1 := (cells2 HA.out).1.2
                      have A2 := (cells2 HA.out).2.1
                      have A3 := (cells2 HA.out).2.2
                      have Al := blkLt HA.out
                      have B0 := (cells2 HB.out).1.1
                      have B1 := (cells2 HB.out).1.2
                      have B2 := (cells2 HB.out).2.1
                      have B3 := (cells2 HB.out).2.2
                      have Bl := blkLt HB.out
                      have S0 := (cells2 HS.out).1.1
                      have S1 := (cells2 HS.out).1.2
                      have S2 := (cells2 HS.out).2.1
                      have S3 := (cells2 HS.out).2.2
                      have Sl := blkLt HS.out
                      go_wp2_with (go_at_call 23; refine (hop.out _).mono ?_; rintro e wn ⟨rfl, hbn⟩; replace HW := Lib.hid (bCall (by (repeat with_reducible first | exact HW.out | apply bDrew | apply bAlloc)) hbn); replace HA := Lib.hid (moveX (by (repeat with_reducible first | exact Below.refl _ _ | apply bDrew | apply bAlloc)) hbn HA.out); replace HB := Lib.hid (moveX (by (repeat with_reducible first | exact Below.refl _ _ | apply bDrew | apply bAlloc)) hbn HB.out); replace HS := Lib.hid (moveX (by (repeat with_reducible first | exact Below.refl _ _ | apply bDrew | apply bAlloc)) hbn HS.out); replace A0 := (cells2 HA.out).1.1; replace A1 := (cells2 HA.out).1.2; replace A2 := (cells2 HA.out).2.1; replace A3 := (cells2 HA.out).2.2; replace Al := blkLt HA.out; replace B0 := (cells2 HB.out).1.1; replace B1 := (cells2 HB.out).1.2; replace B2 := (cells2 HB.out).2.1; replace B3 := (cells2 HB.out).2.2; replace Bl := blkLt HB.out; replace S0 := (cells2 HS.out).1.1; replace S1 := (cells2 HS.out).1.2; replace S2 := (cells2 HS.out).2.1; replace S3 := (cells2 HS.out).2.2; replace Sl := blkLt HS.out; clear hbn)
                      go_meet
                      exact ⟨rfl, Lib.hid (setK HA.out (by omega)), Lib.hid (setK HB.out (by omega)), Lib.hid (res2 HS.out).1, Lib.hid (below2 HW.out (by omega))⟩
                    case rest => as_aux_lemma =>
                      clear HW HA HB HS
                      obtain ⟨rfl, HA, HB, HS, HW⟩ := hcut
                      clear hop
                      go_upto_region 14 with fail
                      go_cut [9, 13] (fun s1 s2 wx => s1 = .bool true ∧ Hid (wx.heap[w.heap.size]? = some (.cells #[.int .i64 (a.lo), .int .i64 (a.hi)] 23 (0, 0))) ∧ Hid (wx.heap[w.heap.size + 1]? = some (.cells #[.int .i64 (b.lo), .int .i64 (b.hi)] 23 (0, 0))) ∧ Hid (wx.heap[bS]? = some (.cells #[.int .i64 ((maxM a b).1.lo), .int .i64 ((maxM a b).1.hi)] 23 (0, 0))) ∧ Hid (Below w.heap.size w wx))
                      case first => as_aux_lemma =>
                        have hin := in_true (max_in HH.out.1.1 HH.out.1.2 HH.out.2.1 HH.out.2.2).2
                        clear HH bx by'
                        rcases Decidable.em (x < y) with hxy | hxy
                        · rw [show max x y = y by omega] at hin
                          replace hin := Lib.hid hin
                          have S0 := (cells2 HS.out).1.1
                          have S1 := (cells2 HS.out).1.2
                          have S2 := (cells2 HS.out).2.1
                          have S3 := (cells2 HS.out).2.2
                          have Sl := blkLt HS.out
                          go_wp2_with (go_at_call 30; refine (hin.out _).mono ?_; rintro e wn ⟨rfl, hbn⟩; replace HW := Lib.hid (bCall (by (repeat with_reducible first | exact HW.out | apply bDrew | apply bAlloc)) hbn); replace HA := Lib.hid (moveX (by (repeat with_reducible first | exact Below.refl _ _ | apply bDrew | apply bAlloc)) hbn HA.out); replace HB := Lib.hid (moveX (by (repeat with_reducible first | exact Below.refl _ _ | apply bDrew | apply bAlloc)) hbn HB.out); replace HS := Lib.hid (moveX (by (repeat with_reducible first | exact Below.refl _ _ | apply bDrew | apply bAlloc)) hbn HS.out); replace S0 := (cells2 HS.out).1.1; replace S1 := (cells2 HS.out).1.2; replace S2 := (cells2 HS.out).2.1; replace S3 := (cells2 HS.out).2.2; replace Sl := blkLt HS.out; clear hbn)
                          go_meet
                          exact ⟨rfl, HA, HB, HS, HW⟩
                        · rw [show max x y = x by omega] at hin
                          replace hin := Lib.hid hin
                          have S0 := (cells2 HS.out).1.1
                          have S1 := (cells2 HS.out).1.2
                          have S2 := (cells2 HS.out).2.1
                          have S3 := (cells2 HS.out).2.2
                          have Sl := blkLt HS.out
                          go_wp2_with (go_at_call 30; refine (hin.out _).mono ?_; rintro e wn ⟨rfl, hbn⟩; replace HW := Lib.hid (bCall (by (repeat with_reducible first | exact HW.out | apply bDrew | apply bAlloc)) hbn); replace HA := Lib.hid (moveX (by (repeat with_reducible first | exact Below.refl _ _ | apply bDrew | apply bAlloc)) hbn HA.out); replace HB := Lib.hid (moveX (by (repeat with_reducible first | exact Below.refl _ _ | apply bDrew | apply bAlloc)) hbn HB.out); replace HS := Lib.hid (moveX (by (repeat with_reducible first | exact Below.refl _ _ | apply bDrew | apply bAlloc)) hbn HS.out); replace S0 := (cells2 HS.out).1.1; replace S1 := (cells2 HS.out).1.2; replace S2 := (cells2 HS.out).2.1; replace S3 := (cells2 HS.out).2.2; replace Sl := blkLt HS.out; clear hbn)
                          go_meet
                          exact ⟨rfl, HA, HB, HS, HW⟩
                      case rest => as_aux_lemma =>
                        clear HW HA HB HS
                        obtain ⟨rfl, HA, HB, HS, HW⟩ := hcut
                        have hop := Lib.hid (Join_0 HH.out.1.1 HH.out.1.2)
                        go_upto_region 15 with fail
                        go_cut [13] (fun s2 wx => s2 = .int .i64 0 ∧ Hid (wx.heap[w.heap.size]? = some (.cells #[.int .i64 (a.lo), .int .i64 (a.hi)] 23 (0, 0))) ∧ Hid (wx.heap[w.heap.size + 1]? = some (.cells #[.int .i64 (b.lo), .int .i64 (b.hi)] 23 (0, 0))) ∧ Hid (wx.heap[bS]? = some (.cells #[.int .i64 ((joinM a b).1.lo), .int .i64 ((joinM a b).1.hi)] 23 (0, 0))) ∧ Hid (Below w.heap.size w wx))
                        case first => as_aux_lemma =>
                          have A0 := (cells2 HA.out).1.1
                          have A1 := (cells2 HA.out).1.2
                          have A2 := (cells2 HA.out).2.1
                          have A3 := (cells2 HA.out).2.2
                          have Al := blkLt HA.out
                          have B0 := (cells2 HB.out).1.1
                          have B1 := (cells2 HB.out).1.2
                          have B2 := (cells2 HB.out).2.1
                          have B3 := (cells2 HB.out).2.2
                          have Bl := blkLt HB.out
                          have S0 := (cells2 HS.out).1.1
                          have S1 := (cells2 HS.out).1.2
                          have S2 := (cells2 HS.out).2.1
                          have S3 := (cells2 HS.out).2.2
                          have Sl := blkLt HS.out
                          go_wp2_with (go_at_call 25; refine (hop.out _).mono ?_; rintro e wn ⟨rfl, hbn⟩; replace HW := Lib.hid (bCall (by (repeat with_reducible first | exact HW.out | apply bDrew | apply bAlloc)) hbn); replace HA := Lib.hid (moveX (by (repeat with_reducible first | exact Below.refl _ _ | apply bDrew | apply bAlloc)) hbn HA.out); replace HB := Lib.hid (moveX (by (repeat with_reducible first | exact Below.refl _ _ | apply bDrew | apply bAlloc)) hbn HB.out); replace HS := Lib.hid (moveX (by (repeat with_reducible first | exact Below.refl _ _ | apply bDrew | apply bAlloc)) hbn HS.out); replace A0 := (cells2 HA.out).1.1; replace A1 := (cells2 HA.out).1.2; replace A2 := (cells2 HA.out).2.1; replace A3 := (cells2 HA.out).2.2; replace Al := blkLt HA.out; replace B0 := (cells2 HB.out).1.1; replace B1 := (cells2 HB.out).1.2; replace B2 := (cells2 HB.out).2.1; replace B3 := (cells2 HB.out).2.2; replace Bl := blkLt HB.out; replace S0 := (cells2 HS.out).1.1; replace S1 := (cells2 HS.out).1.2; replace S2 := (cells2 HS.out).2.1; replace S3 := (cells2 HS.out).2.2; replace Sl := blkLt HS.out; clear hbn)
                          go_meet
                          exact ⟨rfl, Lib.hid (setK HA.out (by omega)), Lib.hid (setK HB.out (by omega)), Lib.hid (res2 HS.out).1, Lib.hid (below2 HW.out (by omega))⟩
                        case rest => as_aux_lemma =>
                          clear HW HA HB HS
                          obtain ⟨rfl, HA, HB, HS, HW⟩ := hcut
                          clear hop
                          go_upto_region 16 with fail
                          go_cut [9, 13] (fun s1 s2 wx => s1 = .bool true ∧ Hid (wx.heap[w.heap.size]? = some (.cells #[.int .i64 (a.lo), .int .i64 (a.hi)] 23 (0, 0))) ∧ Hid (wx.heap[w.heap.size + 1]? = some (.cells #[.int .i64 (b.lo), .int .i64 (b.hi)] 23 (0, 0))) ∧ Hid (wx.heap[bS]? = some (.cells #[.int .i64 ((joinM a b).1.lo), .int .i64 ((joinM a b).1.hi)] 23 (0, 0))) ∧ Hid (Below w.heap.size w wx))
                          case first => as_aux_lemma =>
                            have hJx := Lib.hid (in_true (join_in HH.out.1.1 HH.out.1.2 HH.out.2.1 HH.out.2.2).2.1)
                            have hJy := Lib.hid (in_true (join_in HH.out.1.1 HH.out.1.2 HH.out.2.1 HH.out.2.2).2.2)
                            clear HH bx by'
                            have S0 := (cells2 HS.out).1.1
                            have S1 := (cells2 HS.out).1.2
                            have S2 := (cells2 HS.out).2.1
                            have S3 := (cells2 HS.out).2.2
                            have Sl := blkLt HS.out
                            go_wp2_with (first | (go_at_call_of 30 (Value.int .i64 x); refine (hJx.out _).mono ?_; rintro e wn ⟨rfl, hbn⟩; replace HW := Lib.hid (bCall (by (repeat with_reducible first | exact HW.out | apply bDrew | apply bAlloc)) hbn); replace HA := Lib.hid (moveX (by (repeat with_reducible first | exact Below.refl _ _ | apply bDrew | apply bAlloc)) hbn HA.out); replace HB := Lib.hid (moveX (by (repeat with_reducible first | exact Below.refl _ _ | apply bDrew | apply bAlloc)) hbn HB.out); replace HS := Lib.hid (moveX (by (repeat with_reducible first | exact Below.refl _ _ | apply bDrew | apply bAlloc)) hbn HS.out); replace S0 := (cells2 HS.out).1.1; replace S1 := (cells2 HS.out).1.2; replace S2 := (cells2 HS.out).2.1; replace S3 := (cells2 HS.out).2.2; replace Sl := blkLt HS.out; clear hbn) | (go_at_call 30; refine (hJy.out _).mono ?_; rintro e wn ⟨rfl, hbn⟩; replace HW := Lib.hid (bCall (by (repeat with_reducible first | exact HW.out | apply bDrew | apply bAlloc)) hbn); replace HA := Lib.hid (moveX (by (repeat with_reducible first | exact Below.refl _ _ | apply bDrew | apply bAlloc)) hbn HA.out); replace HB := Lib.hid (moveX (by (repeat with_reducible first | exact Below.refl _ _ | apply bDrew | apply bAlloc)) hbn HB.out); replace HS := Lib.hid (moveX (by (repeat with_reducible first | exact Below.refl _ _ | apply bDrew | apply bAlloc)) hbn HS.out); replace S0 := (cells2 HS.out).1.1; replace S1 := (cells2 HS.out).1.2; replace S2 := (cells2 HS.out).2.1; replace S3 := (cells2 HS.out).2.2; replace Sl := blkLt HS.out; clear hbn))
                            go_meet
                            exact ⟨rfl, HA, HB, HS, HW⟩
                          case rest => as_aux_lemma =>
                            clear HW HA HB HS
                            obtain ⟨rfl, HA, HB, HS, HW⟩ := hcut
                            go_upto_region 17 with fail
                            go_cut [143] (fun s1 wx => s1 = .bool (zB b) ∧ Hid (wx.heap[w.heap.size]? = some (.cells #[.int .i64 (a.lo), .int .i64 (a.hi)] 23 (0, 0))) ∧ Hid (wx.heap[w.heap.size + 1]? = some (.cells #[.int .i64 (b.lo), .int .i64 (b.hi)] 23 (0, 0))) ∧ Hid (wx.heap[bS]? = some (.cells #[.int .i64 ((joinM a b).1.lo), .int .i64 ((joinM a b).1.hi)] 23 (0, 0))) ∧ Hid (Below w.heap.size w wx))
                            case first => as_aux_lemma =>
                              clear HH bx by'
                              have B0 := (cells2 HB.out).1.1
                              have B1 := (cells2 HB.out).1.2
                              have B2 := (cells2 HB.out).2.1
                              have B3 := (cells2 HB.out).2.2
                              have Bl := blkLt HB.out
                              by_cases h1 : b.lo ≤ 0 <;> by_cases h2 : 0 ≤ b.hi
                              all_goals
                                go_wp2_with fail
                                go_meet
                                exact ⟨by simp [zB, h1, h2], HA, HB, HS, HW⟩
                            case rest => as_aux_lemma =>
                              clear HW HA HB HS
                              obtain ⟨rfl, HA, HB, HS, HW⟩ := hcut
                              rcases hz : zB b with _ | _
                              · have fx : Fit x := by have := bx.out; unfold Fit; omega
                                have fy : Fit y := by have := by'.out; unfold Fit; omega
                                have hy0 : y ≠ 0 := by rcases signs hz with h | h <;> have := h y HH.out.2.2 <;> omega
                                have hFl := Lib.hid (floorL x y fx fy hy0)
                                have hFu := Lib.hid (floorL (-x) y (by have := bx.out; unfold Fit; omega) fy hy0)
                                have bf : -1000000000000 ≤ divF (-x) y ∧ divF (-x) y ≤ 1000000000000 := divF_bd (by have := bx.out; omega) hy0
                                have opD := Lib.hid (Div_0 HH.out.1.1 HH.out.1.2 hz)
                                have opU := Lib.hid (Up_0 HH.out.1.1 HH.out.1.2 hz)
                                have hDiv := Lib.hid (in_true (dv_in HH.out.1.1 HH.out.1.2 hz HH.out.2.1 HH.out.2.2).2)
                                have hUp := in_true (up_in HH.out.1.1 HH.out.1.2 hz HH.out.2.1 HH.out.2.2).2
                                have eu : upF x y = -divF (-x) y := rfl
                                rw [eu] at hUp
                                generalize divF (-x) y = du at *
                                generalize divF x y = dd at *
                                replace hUp := Lib.hid hUp
                                have qn : IntKind.i64.wrap (-x) = -x := IntWalk.i64_in _ (by have := bx.out; omega)
                                have qd : IntKind.i64.wrap (-du) = -du := IntWalk.i64_in _ (by omega)
                                clear bf fx fy eu hy0 HH bx by' hz
                                go_upto_region 19 with fail
                                go_cut [13] (fun s2 wx => s2 = .int .i64 0 ∧ Hid (wx.heap[w.heap.size]? = some (.cells #[.int .i64 (a.lo), .int .i64 (a.hi)] 23 (0, 0))) ∧ Hid (wx.heap[w.heap.size + 1]? = some (.cells #[.int .i64 (b.lo), .int .i64 (b.hi)] 23 (0, 0))) ∧ Hid (wx.heap[bS]? = some (.cells #[.int .i64 ((dvM a b).1.lo), .int .i64 ((dvM a b).1.hi)] 23 (0, 0))) ∧ Hid (Below w.heap.size w wx))
                                case first => as_aux_lemma =>
                                  have A0 := (cells2 HA.out).1.1
                                  have A1 := (cells2 HA.out).1.2
                                  have A2 := (cells2 HA.out).2.1
                                  have A3 := (cells2 HA.out).2.2
                                  have Al := blkLt HA.out
                                  have B0 := (cells2 HB.out).1.1
                                  have B1 := (cells2 HB.out).1.2
                                  have B2 := (cells2 HB.out).2.1
                                  have B3 := (cells2 HB.out).2.2
                                  have Bl := blkLt HB.out
                                  have S0 := (cells2 HS.out).1.1
                                  have S1 := (cells2 HS.out).1.2
                                  have S2 := (cells2 HS.out).2.1
                                  have S3 := (cells2 HS.out).2.2
                                  have Sl := blkLt HS.out
                                  go_wp2_with (go_at_call 17; refine (opD.out _).mono ?_; rintro e wn ⟨rfl, hbn⟩; replace HW := Lib.hid (bCall (by (repeat with_reducible first | exact HW.out | apply bDrew | apply bAlloc)) hbn); replace HA := Lib.hid (moveX (by (repeat with_reducible first | exact Below.refl _ _ | apply bDrew | apply bAlloc)) hbn HA.out); replace HB := Lib.hid (moveX (by (repeat with_reducible first | exact Below.refl _ _ | apply bDrew | apply bAlloc)) hbn HB.out); replace HS := Lib.hid (moveX (by (repeat with_reducible first | exact Below.refl _ _ | apply bDrew | apply bAlloc)) hbn HS.out); replace A0 := (cells2 HA.out).1.1; replace A1 := (cells2 HA.out).1.2; replace A2 := (cells2 HA.out).2.1; replace A3 := (cells2 HA.out).2.2; replace Al := blkLt HA.out; replace B0 := (cells2 HB.out).1.1; replace B1 := (cells2 HB.out).1.2; replace B2 := (cells2 HB.out).2.1; replace B3 := (cells2 HB.out).2.2; replace Bl := blkLt HB.out; replace S0 := (cells2 HS.out).1.1; replace S1 := (cells2 HS.out).1.2; replace S2 := (cells2 HS.out).2.1; replace S3 := (cells2 HS.out).2.2; replace Sl := blkLt HS.out; clear hbn)
                                  go_meet
                                  exact ⟨rfl, Lib.hid (setK HA.out (by omega)), Lib.hid (setK HB.out (by omega)), Lib.hid (res2 HS.out).1, Lib.hid (below2 HW.out (by omega))⟩
                                case rest => as_aux_lemma =>
                                  clear HW HA HB HS
                                  obtain ⟨rfl, HA, HB, HS, HW⟩ := hcut
                                  go_upto_region 20 with fail
                                  go_cut [9] (fun s1 wx => s1 = .bool true ∧ Hid (wx.heap[w.heap.size]? = some (.cells #[.int .i64 (a.lo), .int .i64 (a.hi)] 23 (0, 0))) ∧ Hid (wx.heap[w.heap.size + 1]? = some (.cells #[.int .i64 (b.lo), .int .i64 (b.hi)] 23 (0, 0))) ∧ Hid (wx.heap[bS]? = some (.cells #[.int .i64 ((dvM a b).1.lo), .int .i64 ((dvM a b).1.hi)] 23 (0, 0))) ∧ Hid (Below w.heap.size w wx))
                                  case first => as_aux_lemma =>
                                    have S0 := (cells2 HS.out).1.1
                                    have S1 := (cells2 HS.out).1.2
                                    have S2 := (cells2 HS.out).2.1
                                    have S3 := (cells2 HS.out).2.2
                                    have Sl := blkLt HS.out
                                    go_region_held3 (fun w' => w'.cell? ⟨bS, 0, none⟩ = some (.int .i64 (dvM a b).1.lo) ∧ w'.cell? ⟨bS, 1, none⟩ = some (.int .i64 (dvM a b).1.hi))
                                      (first | (with_reducible exact ⟨S0, S1⟩) | go_keep)
                                      (first
                                      | (go_at_call 31; refine (hFl.out _).mono ?_; rintro e wn ⟨rfl, rfl⟩)
                                      | (go_at_call 30; refine (hDiv.out _).mono ?_; rintro e wn ⟨rfl, hbn⟩; replace HW := Lib.hid (bCall (by (repeat with_reducible first | exact HW.out | apply bDrew | apply bAlloc)) hbn); replace HA := Lib.hid (moveX (by (repeat with_reducible first | exact Below.refl _ _ | apply bDrew | apply bAlloc)) hbn HA.out); replace HB := Lib.hid (moveX (by (repeat with_reducible first | exact Below.refl _ _ | apply bDrew | apply bAlloc)) hbn HB.out); replace HS := Lib.hid (moveX (by (repeat with_reducible first | exact Below.refl _ _ | apply bDrew | apply bAlloc)) hbn HS.out); replace S0 := (cells2 HS.out).1.1; replace S1 := (cells2 HS.out).1.2; replace S2 := (cells2 HS.out).2.1; replace S3 := (cells2 HS.out).2.2; replace Sl := blkLt HS.out; clear hbn))
                                    all_goals go_wp2
                                    all_goals go_meet
                                    all_goals exact ⟨rfl, HA, HB, HS, HW⟩
                                  case rest => as_aux_lemma =>
                                    clear HW HA HB HS
                                    obtain ⟨rfl, HA, HB, HS, HW⟩ := hcut
                                    go_upto_region 21 with fail
                                    go_cut [13] (fun s2 wx => s2 = .int .i64 0 ∧ Hid (wx.heap[w.heap.size]? = some (.cells #[.int .i64 (a.lo), .int .i64 (a.hi)] 23 (0, 0))) ∧ Hid (wx.heap[w.heap.size + 1]? = some (.cells #[.int .i64 (b.lo), .int .i64 (b.hi)] 23 (0, 0))) ∧ Hid (wx.heap[bS]? = some (.cells #[.int .i64 ((upM a b).1.lo), .int .i64 ((upM a b).1.hi)] 23 (0, 0))) ∧ Hid (Below w.heap.size w wx))
                                    case first => as_aux_lemma =>
                                      have A0 := (cells2 HA.out).1.1
                                      have A1 := (cells2 HA.out).1.2
                                      have A2 := (cells2 HA.out).2.1
                                      have A3 := (cells2 HA.out).2.2
                                      have Al := blkLt HA.out
                                      have B0 := (cells2 HB.out).1.1
                                      have B1 := (cells2 HB.out).1.2
                                      have B2 := (cells2 HB.out).2.1
                                      have B3 := (cells2 HB.out).2.2
                                      have Bl := blkLt HB.out
                                      have S0 := (cells2 HS.out).1.1
                                      have S1 := (cells2 HS.out).1.2
                                      have S2 := (cells2 HS.out).2.1
                                      have S3 := (cells2 HS.out).2.2
                                      have Sl := blkLt HS.out
                                      go_wp2_with (go_at_call 19; refine (opU.out _).mono ?_; rintro e wn ⟨rfl, hbn⟩; replace HW := Lib.hid (bCall (by (repeat with_reducible first | exact HW.out | apply bDrew | apply bAlloc)) hbn); replace HA := Lib.hid (moveX (by (repeat with_reducible first | exact Below.refl _ _ | apply bDrew | apply bAlloc)) hbn HA.out); replace HB := Lib.hid (moveX (by (repeat with_reducible first | exact Below.refl _ _ | apply bDrew | apply bAlloc)) hbn HB.out); replace HS := Lib.hid (moveX (by (repeat with_reducible first | exact Below.refl _ _ | apply bDrew | apply bAlloc)) hbn HS.out); replace A0 := (cells2 HA.out).1.1; replace A1 := (cells2 HA.out).1.2; replace A2 := (cells2 HA.out).2.1; replace A3 := (cells2 HA.out).2.2; replace Al := blkLt HA.out; replace B0 := (cells2 HB.out).1.1; replace B1 := (cells2 HB.out).1.2; replace B2 := (cells2 HB.out).2.1; replace B3 := (cells2 HB.out).2.2; replace Bl := blkLt HB.out; replace S0 := (cells2 HS.out).1.1; replace S1 := (cells2 HS.out).1.2; replace S2 := (cells2 HS.out).2.1; replace S3 := (cells2 HS.out).2.2; replace Sl := blkLt HS.out; clear hbn)
                                      go_meet
                                      exact ⟨rfl, Lib.hid (setK HA.out (by omega)), Lib.hid (setK HB.out (by omega)), Lib.hid (res2 HS.out).1, Lib.hid (below2 HW.out (by omega))⟩
                                    case rest => as_aux_lemma =>
                                      clear HW HA HB HS
                                      obtain ⟨rfl, HA, HB, HS, HW⟩ := hcut
                                      go_upto_region 22 with fail
                                      have S0 := (cells2 HS.out).1.1
                                      have S1 := (cells2 HS.out).1.2
                                      have S2 := (cells2 HS.out).2.1
                                      have S3 := (cells2 HS.out).2.2
                                      have Sl := blkLt HS.out
                                      go_region_held3 (fun w' => w'.cell? ⟨bS, 0, none⟩ = some (.int .i64 (upM a b).1.lo) ∧ w'.cell? ⟨bS, 1, none⟩ = some (.int .i64 (upM a b).1.hi))
                                        (first | (with_reducible exact ⟨S0, S1⟩) | go_keep)
                                        (first
                                        | (go_at_call 31; refine (hFu.out _).mono ?_; rintro e wn ⟨rfl, rfl⟩)
                                        | (go_at_call 30; refine (hUp.out _).mono ?_; rintro e wn ⟨rfl, hbn⟩; replace HW := Lib.hid (bCall (by (repeat with_reducible first | exact HW.out | apply bDrew | apply bAlloc)) hbn); replace HA := Lib.hid (moveX (by (repeat with_reducible first | exact Below.refl _ _ | apply bDrew | apply bAlloc)) hbn HA.out); replace HB := Lib.hid (moveX (by (repeat with_reducible first | exact Below.refl _ _ | apply bDrew | apply bAlloc)) hbn HB.out); replace HS := Lib.hid (moveX (by (repeat with_reducible first | exact Below.refl _ _ | apply bDrew | apply bAlloc)) hbn HS.out); replace S0 := (cells2 HS.out).1.1; replace S1 := (cells2 HS.out).1.2; replace S2 := (cells2 HS.out).2.1; replace S3 := (cells2 HS.out).2.2; replace Sl := blkLt HS.out; clear hbn))
                                      all_goals go_wp2
                                      all_goals go_ret
                                      all_goals exact ⟨rfl, HW.out⟩
                              · clear hz HH bx by'
                                go_wp2
                                go_ret
                                exact ⟨rfl, HW.out⟩
theorem contains_any (a b : Sp) (m n : Int) (hm : 0 ≤ m ∧ m < 18446744073709551616) (hn : 0 ≤ n ∧ n < 18446744073709551616) (w : World) : Calls Try.prog 4 #[sv a, sv b, .int .u64 m, .int .u64 n] w (BB true w) := by
  rcases h : (vB a && vB b) with _ | _
  · exact contains_bad a b m n h w
  · simp only [Bool.and_eq_true] at h
    exact contains_ok a b m n hm hn h.1 h.2 w
end Go.Proofs.Ytiijplgaikdioaa
