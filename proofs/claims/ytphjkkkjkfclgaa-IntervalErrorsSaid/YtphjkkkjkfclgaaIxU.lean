/- Law package 06: IntervalErrors. -/
import Derived.Test.YtphjkkkjkfclgaaIxL
import Derived.Test.YtphjkkkjkfclgaaIxN
import Derived.Test.YtphjkkkjkfclgaaIxQ
import Derived.Test.YtphjkkkjkfclgaaDgB
namespace Go.Proofs.Ytphjkkkjkfclgaa
open Go.RowKit
set_option linter.unusedVariables false
set_option linter.unusedSimpArgs false
theorem z_zero (w : World) : (Op.equalIn 10000 23 (.agg #[.int .i64 0, .int .i64 0]) (.agg #[.int .i64 0, .int .i64 0])).run Try.prog w = .ok true w := by
  have := run_sp_eq ⟨0, 0⟩ ⟨0, 0⟩ w
  rw [spEq_rfl] at this
  exact this
theorem ld_sp {w : World} {b : Nat} {x y : Int} (h0 : w.cell? ⟨b, 0, none⟩ = some (.int .i64 x)) (h1 : w.cell? ⟨b, 1, none⟩ = some (.int .i64 y)) : (ldN 23 ⟨b, 0, none⟩).run Try.prog w = .ok (.value (sv ⟨x, y⟩)) w := by
  unfold ldN
  go_simp
theorem ch_er (s : Sp) : ((vN s.lo && vN s.hi) = true ∧ (chM s).2 = 0) ∨ ((vN s.lo && vN s.hi) = false ∧ (chM s).2 = 3 ∧ (chM s).1 = ⟨0, 0⟩) := by
  unfold chM
  cases h0 : vN s.lo <;> cases h1 : vN s.hi <;> simp
theorem add_er {a b : Sp} (ha : vB a = true) (hb : vB b = true) : ((vN (a.lo + b.lo) && vN (a.hi + b.hi)) = true ∧ (addM a b).2 = 0) ∨ ((vN (a.lo + b.lo) && vN (a.hi + b.hi)) = false ∧ (addM a b).2 = 3 ∧ (addM a b).1 = ⟨0, 0⟩) := by
  rw [add_ch ha hb]; exact ch_er ⟨a.lo + b.lo, a.hi + b.hi⟩
theorem sub_er {a b : Sp} (ha : vB a = true) (hb : vB b = true) : ((vN (a.lo - b.hi) && vN (a.hi - b.lo)) = true ∧ (subM a b).2 = 0) ∨ ((vN (a.lo - b.hi) && vN (a.hi - b.lo)) = false ∧ (subM a b).2 = 3) := by
  rw [sub_ch ha hb]
  rcases ch_er ⟨a.lo - b.hi, a.hi - b.lo⟩ with h | h
  · exact .inl h
  · exact .inr ⟨h.1, h.2.1⟩
theorem mul_er {a b : Sp} (ha : vB a = true) (hb : vB b = true) : ((vN (mulF a.lo b.lo) && (vN (mulF a.lo b.hi) && (vN (mulF a.hi b.lo) && vN (mulF a.hi b.hi)))) = true ∧ (mulM a b).2 = 0) ∨
    ((vN (mulF a.lo b.lo) && (vN (mulF a.lo b.hi) && (vN (mulF a.hi b.lo) && vN (mulF a.hi b.hi)))) = false ∧ (mulM a b).2 = 3 ∧ (mulM a b).1 = ⟨0, 0⟩) := by
  rw [mul_ch ha hb]
  have e : (vN (mulF a.lo b.lo) && (vN (mulF a.lo b.hi) && (vN (mulF a.hi b.lo) && vN (mulF a.hi b.hi)))) = (vN (arM (mulF a.lo b.lo) (mulF a.lo b.hi) (mulF a.hi b.lo) (mulF a.hi b.hi)).lo && vN (arM (mulF a.lo b.lo) (mulF a.lo b.hi) (mulF a.hi b.lo) (mulF a.hi b.hi)).hi) := by
    have h := vB_arM (p := mulF a.lo b.lo) (q := mulF a.lo b.hi) (r := mulF a.hi b.lo) (s := mulF a.hi b.hi)
    rw [vB_split] at h
    have hl := arM_le (mulF a.lo b.lo) (mulF a.lo b.hi) (mulF a.hi b.lo) (mulF a.hi b.hi)
    rw [decide_eq_true hl, Bool.and_true] at h
    rw [h, Bool.and_assoc, Bool.and_assoc]
  rw [e]
  exact ch_er _
theorem dv_er {a b : Sp} (ha : vB a = true) (hb : vB b = true) : (zB b = true ∧ (dvM a b).2 = 14) ∨ (zB b = false ∧ (dvM a b).2 = 0) := by
  rcases hz : zB b with _ | _
  · rw [dv_ch ha hb hz]; exact .inr ⟨rfl, rfl⟩
  · rw [show dvM a b = (⟨0, 0⟩, 14) from div_z ha hb hz]; exact .inl ⟨rfl, rfl⟩
set_option maxHeartbeats 16000000 in
set_option maxRecDepth 100000 in
theorem errors_bad1 (a b : Sp) (hVa : Hid (∀ w, Calls Try.prog 6 #[sv a] w (BB false w))) (hVb : True)
        (hAdd : Hid (∀ w, Calls Try.prog 9 #[sv a, sv b] w (VV (.tuple #[sv ⟨0, 0⟩, .int .i64 1]) w)))
    (hSub : Hid (∀ w, Calls Try.prog 11 #[sv a, sv b] w (VV (.tuple #[sv ⟨0, 0⟩, .int .i64 1]) w)))
    (hMul : Hid (∀ w, Calls Try.prog 12 #[sv a, sv b] w (VV (.tuple #[sv ⟨0, 0⟩, .int .i64 1]) w)))
    (hDiv : Hid (∀ w, Calls Try.prog 13 #[sv a, sv b] w (VV (.tuple #[sv ⟨0, 0⟩, .int .i64 1]) w)))
    (hJoin : Hid (∀ w, Calls Try.prog 17 #[sv a, sv b] w (VV (.tuple #[sv ⟨0, 0⟩, .int .i64 1]) w))) (w : World) : Calls Try.prog 4 #[sv a, sv b] w (BB true w) := by
  go_enter Try.func4, Try.ntmps4
  have HW := Lib.hid (Below.refl w.heap.size w)
  go_upto_region 2 with (go_at_call 5; refine (head_any _).mono ?_; rintro e wn ⟨rfl, hbn⟩; obtain ⟨HA, HB⟩ := two2 hbn; have HA := Lib.hid HA; have HB := Lib.hid HB; replace HW := Lib.hid (bCall (by (repeat with_reducible first | exact HW.out | apply bDrew | apply bAlloc)) hbn); clear hbn)
  go_cut [6] (fun s1 wx => s1 = .bool false ∧ Hid (wx.heap[w.heap.size]? = some (.cells #[.int .i64 (a.lo), .int .i64 (a.hi)] 23 (0, 0))) ∧ Hid (wx.heap[w.heap.size + 1]? = some (.cells #[.int .i64 (b.lo), .int .i64 (b.hi)] 23 (0, 0))) ∧ Hid (Below w.heap.size w wx))
  case first => as_aux_lemma =>
    have A0 := (cells2 HA.out).1.1
    have A1 := (cells2 HA.out).1.2
    have A2 := (cells2 HA.out).2.1
    have A3 := (cells2 HA.out).2.2
    have Al := blkLt HA.out
    have B0 := (cells2 HB.out).1.1
    have B1 := (cells2 HB.out).1.2
    have B2 := (cells2 HB.out).2.1
    have B3 := (cells2 HB.out).2.2
    have Bl := blkLt HB.out
    go_wp2_with (first
      | (go_at_call_of 6 (Value.agg #[.int .i64 a.lo, .int .i64 a.hi]); refine (hVa.out _).mono ?_; rintro e2 wn ⟨rfl, hbn⟩; replace HW := Lib.hid (bCall (by (repeat with_reducible first | exact HW.out | apply bDrew | apply bAlloc)) hbn); replace HA := Lib.hid (moveX (by (repeat with_reducible first | exact Below.refl _ _ | apply bDrew | apply bAlloc)) hbn HA.out); replace HB := Lib.hid (moveX (by (repeat with_reducible first | exact Below.refl _ _ | apply bDrew | apply bAlloc)) hbn HB.out); replace A0 := (cells2 HA.out).1.1; replace A1 := (cells2 HA.out).1.2; replace A2 := (cells2 HA.out).2.1; replace A3 := (cells2 HA.out).2.2; replace Al := blkLt HA.out; replace B0 := (cells2 HB.out).1.1; replace B1 := (cells2 HB.out).1.2; replace B2 := (cells2 HB.out).2.1; replace B3 := (cells2 HB.out).2.2; replace Bl := blkLt HB.out; clear hbn)
      | (go_at_call_of 6 (Value.agg #[.int .i64 b.lo, .int .i64 b.hi]); refine (hVb.out _).mono ?_; rintro e2 wn ⟨rfl, hbn⟩; replace HW := Lib.hid (bCall (by (repeat with_reducible first | exact HW.out | apply bDrew | apply bAlloc)) hbn); replace HA := Lib.hid (moveX (by (repeat with_reducible first | exact Below.refl _ _ | apply bDrew | apply bAlloc)) hbn HA.out); replace HB := Lib.hid (moveX (by (repeat with_reducible first | exact Below.refl _ _ | apply bDrew | apply bAlloc)) hbn HB.out); replace A0 := (cells2 HA.out).1.1; replace A1 := (cells2 HA.out).1.2; replace A2 := (cells2 HA.out).2.1; replace A3 := (cells2 HA.out).2.2; replace Al := blkLt HA.out; replace B0 := (cells2 HB.out).1.1; replace B1 := (cells2 HB.out).1.2; replace B2 := (cells2 HB.out).2.1; replace B3 := (cells2 HB.out).2.2; replace Bl := blkLt HB.out; clear hbn))
    go_meet
    exact ⟨rfl, HA, HB, HW⟩
  case rest => as_aux_lemma =>
    clear HW HA HB
    obtain ⟨rfl, HA, HB, HW⟩ := hcut
    clear hVa hVb
    go_upto_region 3 with fail
    go_cut [7, 8] (fun s1 s2 wx => ∃ bS : Nat, s1 = .pointer (some ⟨bS, 0, none⟩) ∧ s2 = .int .i64 1 ∧ Hid (wx.heap[w.heap.size]? = some (.cells #[.int .i64 (a.lo), .int .i64 (a.hi)] 23 (0, 0))) ∧ Hid (wx.heap[w.heap.size + 1]? = some (.cells #[.int .i64 (b.lo), .int .i64 (b.hi)] 23 (0, 0))) ∧ Hid (wx.heap[bS]? = some (.cells #[.int .i64 (0), .int .i64 (0)] 23 (0, 0))) ∧ Hid (Below w.heap.size w wx))
    case first => as_aux_lemma =>
      have A0 := (cells2 HA.out).1.1
      have A1 := (cells2 HA.out).1.2
      have A2 := (cells2 HA.out).2.1
      have A3 := (cells2 HA.out).2.2
      have Al := blkLt HA.out
      have B0 := (cells2 HB.out).1.1
      have B1 := (cells2 HB.out).1.2
      have B2 := (cells2 HB.out).2.1
      have B3 := (cells2 HB.out).2.2
      have Bl := blkLt HB.out
      go_wp2_with (go_at_call 9; refine (hAdd.out _).mono ?_; rintro e wn ⟨rfl, hbn⟩; replace HW := Lib.hid (bCall (by (repeat with_reducible first | exact HW.out | apply bDrew | apply bAlloc)) hbn); replace HA := Lib.hid (moveX (by (repeat with_reducible first | exact Below.refl _ _ | apply bDrew | apply bAlloc)) hbn HA.out); replace HB := Lib.hid (moveX (by (repeat with_reducible first | exact Below.refl _ _ | apply bDrew | apply bAlloc)) hbn HB.out); replace A0 := (cells2 HA.out).1.1; replace A1 := (cells2 HA.out).1.2; replace A2 := (cells2 HA.out).2.1; replace A3 := (cells2 HA.out).2.2; replace Al := blkLt HA.out; replace B0 := (cells2 HB.out).1.1; replace B1 := (cells2 HB.out).1.2; replace B2 := (cells2 HB.out).2.1; replace B3 := (cells2 HB.out).2.2; replace Bl := blkLt HB.out; clear hbn)
      go_meet
      exact ⟨_, rfl, rfl, Lib.hid (mvAlloc HA.out), Lib.hid (mvAlloc HB.out), Lib.hid (newBlk _ _ _ rfl), Lib.hid (bAlloc HW.out)⟩
    case rest => as_aux_lemma =>
      clear HW HA HB
      obtain ⟨bS, rfl, rfl, HA, HB, HS, HW⟩ := hcut
      clear hAdd
      go_upto_region 4 with fail
      go_cut [9, 10] (fun s1 s2 wx => ∃ bT : Nat, s1 = .pointer (some ⟨bT, 0, none⟩) ∧ s2 = .int .i64 1 ∧ Hid (wx.heap[w.heap.size]? = some (.cells #[.int .i64 (a.lo), .int .i64 (a.hi)] 23 (0, 0))) ∧ Hid (wx.heap[w.heap.size + 1]? = some (.cells #[.int .i64 (b.lo), .int .i64 (b.hi)] 23 (0, 0))) ∧ Hid (wx.heap[bS]? = some (.cells #[.int .i64 (0), .int .i64 (0)] 23 (0, 0))) ∧ Hid (wx.heap[bT]? = some (.cells #[.int .i64 (0), .int .i64 (0)] 23 (0, 0))) ∧ Hid (Below w.heap.size w wx))
      case first => as_aux_lemma =>
        have A0 := (cells2 HA.out).1.1
        have A1 := (cells2 HA.out).1.2
        have A2 := (cells2 HA.out).2.1
        have A3 := (cells2 HA.out).2.2
        have Al := blkLt HA.out
        have B0 := (cells2 HB.out).1.1
        have B1 := (cells2 HB.out).1.2
        have B2 := (cells2 HB.out).2.1
        have B3 := (cells2 HB.out).2.2
        have Bl := blkLt HB.out
        have S0 := (cells2 HS.out).1.1
        have S1 := (cells2 HS.out).1.2
        have S2 := (cells2 HS.out).2.1
        have S3 := (cells2 HS.out).2.2
        have Sl := blkLt HS.out
        go_wp2_with (go_at_call 11; refine (hSub.out _).mono ?_; rintro e wn ⟨rfl, hbn⟩; replace HW := Lib.hid (bCall (by (repeat with_reducible first | exact HW.out | apply bDrew | apply bAlloc)) hbn); replace HA := Lib.hid (moveX (by (repeat with_reducible first | exact Below.refl _ _ | apply bDrew | apply bAlloc)) hbn HA.out); replace HB := Lib.hid (moveX (by (repeat with_reducible first | exact Below.refl _ _ | apply bDrew | apply bAlloc)) hbn HB.out); replace HS := Lib.hid (moveX (by (repeat with_reducible first | exact Below.refl _ _ | apply bDrew | apply bAlloc)) hbn HS.out); replace A0 := (cells2 HA.out).1.1; replace A1 := (cells2 HA.out).1.2; replace A2 := (cells2 HA.out).2.1; replace A3 := (cells2 HA.out).2.2; replace Al := blkLt HA.out; replace B0 := (cells2 HB.out).1.1; replace B1 := (cells2 HB.out).1.2; replace B2 := (cells2 HB.out).2.1; replace B3 := (cells2 HB.out).2.2; replace Bl := blkLt HB.out; replace S0 := (cells2 HS.out).1.1; replace S1 := (cells2 HS.out).1.2; replace S2 := (cells2 HS.out).2.1; replace S3 := (cells2 HS.out).2.2; replace Sl := blkLt HS.out; clear hbn)
        go_meet
        exact ⟨_, rfl, rfl, Lib.hid (mvAlloc HA.out), Lib.hid (mvAlloc HB.out), Lib.hid (mvAlloc HS.out), Lib.hid (newBlk _ _ _ rfl), Lib.hid (bAlloc HW.out)⟩
      case rest => as_aux_lemma =>
        clear HW HA HB HS
        obtain ⟨bT, rfl, rfl, HA, HB, HS, HT, HW⟩ := hcut
        clear hSub
        go_upto_region 5 with fail
        go_cut [11, 12] (fun s1 s2 wx => ∃ bU : Nat, s1 = .pointer (some ⟨bU, 0, none⟩) ∧ s2 = .int .i64 1 ∧ Hid (wx.heap[w.heap.size]? = some (.cells #[.int .i64 (a.lo), .int .i64 (a.hi)] 23 (0, 0))) ∧ Hid (wx.heap[w.heap.size + 1]? = some (.cells #[.int .i64 (b.lo), .int .i64 (b.hi)] 23 (0, 0))) ∧ Hid (wx.heap[bS]? = some (.cells #[.int .i64 (0), .int .i64 (0)] 23 (0, 0))) ∧ Hid (wx.heap[bT]? = some (.cells #[.int .i64 (0), .int .i64 (0)] 23 (0, 0))) ∧ Hid (wx.heap[bU]? = some (.cells #[.int .i64 (0), .int .i64 (0)] 23 (0, 0))) ∧ Hid (Below w.heap.size w wx))
        case first => as_aux_lemma =>
          have A0 := (cells2 HA.out).1.1
          have A1 := (cells2 HA.out).1.2
          have A2 := (cells2 HA.out).2.1
          have A3 := (cells2 HA.out).2.2
          have Al := blkLt HA.out
          have B0 := (cells2 HB.out).1.1
          have B1 := (cells2 HB.out).1.2
          have B2 := (cells2 HB.out).2.1
          have B3 := (cells2 HB.out).2.2
          have Bl := blkLt HB.out
          have S0 := (cells2 HS.out).1.1
          have S1 := (cells2 HS.out).1.2
          have S2 := (cells2 HS.out).2.1
          have S3 := (cells2 HS.out).2.2
          have Sl := blkLt HS.out
          have T0 := (cells2 HT.out).1.1
          have T1 := (cells2 HT.out).1.2
          have T2 := (cells2 HT.out).2.1
          have T3 := (cells2 HT.out).2.2
          have Tl := blkLt HT.out
          go_wp2_with (go_at_call 12; refine (hMul.out _).mono ?_; rintro e wn ⟨rfl, hbn⟩; replace HW := Lib.hid (bCall (by (repeat with_reducible first | exact HW.out | apply bDrew | apply bAlloc)) hbn); replace HA := Lib.hid (moveX (by (repeat with_reducible first | exact Below.refl _ _ | apply bDrew | apply bAlloc)) hbn HA.out); replace HB := Lib.hid (moveX (by (repeat with_reducible first | exact Below.refl _ _ | apply bDrew | apply bAlloc)) hbn HB.out); replace HS := Lib.hid (moveX (by (repeat with_reducible first | exact Below.refl _ _ | apply bDrew | apply bAlloc)) hbn HS.out); replace HT := Lib.hid (moveX (by (repeat with_reducible first | exact Below.refl _ _ | apply bDrew | apply bAlloc)) hbn HT.out); replace A0 := (cells2 HA.out).1.1; replace A1 := (cells2 HA.out).1.2; replace A2 := (cells2 HA.out).2.1; replace A3 := (cells2 HA.out).2.2; replace Al := blkLt HA.out; replace B0 := (cells2 HB.out).1.1; replace B1 := (cells2 HB.out).1.2; replace B2 := (cells2 HB.out).2.1; replace B3 := (cells2 HB.out).2.2; replace Bl := blkLt HB.out; replace S0 := (cells2 HS.out).1.1; replace S1 := (cells2 HS.out).1.2; replace S2 := (cells2 HS.out).2.1; replace S3 := (cells2 HS.out).2.2; replace Sl := blkLt HS.out; replace T0 := (cells2 HT.out).1.1; replace T1 := (cells2 HT.out).1.2; replace T2 := (cells2 HT.out).2.1; replace T3 := (cells2 HT.out).2.2; replace Tl := blkLt HT.out; clear hbn)
          go_meet
          exact ⟨_, rfl, rfl, Lib.hid (mvAlloc HA.out), Lib.hid (mvAlloc HB.out), Lib.hid (mvAlloc HS.out), Lib.hid (mvAlloc HT.out), Lib.hid (newBlk _ _ _ rfl), Lib.hid (bAlloc HW.out)⟩
        case rest => as_aux_lemma =>
          clear HW HA HB HS HT
          obtain ⟨bU, rfl, rfl, HA, HB, HS, HT, HU, HW⟩ := hcut
          clear hMul
          go_upto_region 6 with fail
          go_cut [13, 14] (fun s1 s2 wx => ∃ bV : Nat, s1 = .pointer (some ⟨bV, 0, none⟩) ∧ s2 = .int .i64 1 ∧ Hid (wx.heap[w.heap.size]? = some (.cells #[.int .i64 (a.lo), .int .i64 (a.hi)] 23 (0, 0))) ∧ Hid (wx.heap[w.heap.size + 1]? = some (.cells #[.int .i64 (b.lo), .int .i64 (b.hi)] 23 (0, 0))) ∧ Hid (wx.heap[bS]? = some (.cells #[.int .i64 (0), .int .i64 (0)] 23 (0, 0))) ∧ Hid (wx.heap[bT]? = some (.cells #[.int .i64 (0), .int .i64 (0)] 23 (0, 0))) ∧ Hid (wx.heap[bU]? = some (.cells #[.int .i64 (0), .int .i64 (0)] 23 (0, 0))) ∧ Hid (wx.heap[bV]? = some (.cells #[.int .i64 (0), .int .i64 (0)] 23 (0, 0))) ∧ Hid (Below w.heap.size w wx))
          case first => as_aux_lemma =>
            have A0 := (cells2 HA.out).1.1
            have A1 := (cells2 HA.out).1.2
            have A2 := (cells2 HA.out).2.1
            have A3 := (cells2 HA.out).2.2
            have Al := blkLt HA.out
            have B0 := (cells2 HB.out).1.1
            have B1 := (cells2 HB.out).1.2
            have B2 := (cells2 HB.out).2.1
            have B3 := (cells2 HB.out).2.2
            have Bl := blkLt HB.out
            have S0 := (cells2 HS.out).1.1
            have S1 := (cells2 HS.out).1.2
            have S2 := (cells2 HS.out).2.1
            have S3 := (cells2 HS.out).2.2
            have Sl := blkLt HS.out
            have T0 := (cells2 HT.out).1.1
            have T1 := (cells2 HT.out).1.2
            have T2 := (cells2 HT.out).2.1
            have T3 := (cells2 HT.out).2.2
            have Tl := blkLt HT.out
            have U0 := (cells2 HU.out).1.1
            have U1 := (cells2 HU.out).1.2
            have U2 := (cells2 HU.out).2.1
            have U3 := (cells2 HU.out).2.2
            have Ul := blkLt HU.out
            go_wp2_with (go_at_call 13; refine (hDiv.out _).mono ?_; rintro e wn ⟨rfl, hbn⟩; replace HW := Lib.hid (bCall (by (repeat with_reducible first | exact HW.out | apply bDrew | apply bAlloc)) hbn); replace HA := Lib.hid (moveX (by (repeat with_reducible first | exact Below.refl _ _ | apply bDrew | apply bAlloc)) hbn HA.out); replace HB := Lib.hid (moveX (by (repeat with_reducible first | exact Below.refl _ _ | apply bDrew | apply bAlloc)) hbn HB.out); replace HS := Lib.hid (moveX (by (repeat with_reducible first | exact Below.refl _ _ | apply bDrew | apply bAlloc)) hbn HS.out); replace HT := Lib.hid (moveX (by (repeat with_reducible first | exact Below.refl _ _ | apply bDrew | apply bAlloc)) hbn HT.out); replace HU := Lib.hid (moveX (by (repeat with_reducible first | exact Below.refl _ _ | apply bDrew | apply bAlloc)) hbn HU.out); replace A0 := (cells2 HA.out).1.1; replace A1 := (cells2 HA.out).1.2; replace A2 := (cells2 HA.out).2.1; replace A3 := (cells2 HA.out).2.2; replace Al := blkLt HA.out; replace B0 := (cells2 HB.out).1.1; replace B1 := (cells2 HB.out).1.2; replace B2 := (cells2 HB.out).2.1; replace B3 := (cells2 HB.out).2.2; replace Bl := blkLt HB.out; replace S0 := (cells2 HS.out).1.1; replace S1 := (cells2 HS.out).1.2; replace S2 := (cells2 HS.out).2.1; replace S3 := (cells2 HS.out).2.2; replace Sl := blkLt HS.out; replace T0 := (cells2 HT.out).1.1; replace T1 := (cells2 HT.out).1.2; replace T2 := (cells2 HT.out).2.1; replace T3 := (cells2 HT.out).2.2; replace Tl := blkLt HT.out; replace U0 := (cells2 HU.out).1.1; replace U1 := (cells2 HU.out).1.2; replace U2 := (cells2 HU.out).2.1; replace U3 := (cells2 HU.out).2.2; replace Ul := blkLt HU.out; clear hbn)
            go_meet
            exact ⟨_, rfl, rfl, Lib.hid (mvAlloc HA.out), Lib.hid (mvAlloc HB.out), Lib.hid (mvAlloc HS.out), Lib.hid (mvAlloc HT.out), Lib.hid (mvAlloc HU.out), Lib.hid (newBlk _ _ _ rfl), Lib.hid (bAlloc HW.out)⟩
          case rest => as_aux_lemma =>
            clear HW HA HB HS HT HU
            obtain ⟨bV, rfl, rfl, HA, HB, HS, HT, HU, HV, HW⟩ := hcut
            clear hDiv
            go_upto_region 7 with fail
            go_cut [15, 16] (fun s1 s2 wx => ∃ bX : Nat, s1 = .pointer (some ⟨bX, 0, none⟩) ∧ s2 = .int .i64 1 ∧ Hid (wx.heap[w.heap.size]? = some (.cells #[.int .i64 (a.lo), .int .i64 (a.hi)] 23 (0, 0))) ∧ Hid (wx.heap[w.heap.size + 1]? = some (.cells #[.int .i64 (b.lo), .int .i64 (b.hi)] 23 (0, 0))) ∧ Hid (wx.heap[bS]? = some (.cells #[.int .i64 (0), .int .i64 (0)] 23 (0, 0))) ∧ Hid (wx.heap[bT]? = some (.cells #[.int .i64 (0), .int .i64 (0)] 23 (0, 0))) ∧ Hid (wx.heap[bU]? = some (.cells #[.int .i64 (0), .int .i64 (0)] 23 (0, 0))) ∧ Hid (wx.heap[bV]? = some (.cells #[.int .i64 (0), .int .i64 (0)] 23 (0, 0))) ∧ Hid (wx.heap[bX]? = some (.cells #[.int .i64 (0), .int .i64 (0)] 23 (0, 0))) ∧ Hid (Below w.heap.size w wx))
            case first => as_aux_lemma =>
              have A0 := (cells2 HA.out).1.1
              have A1 := (cells2 HA.out).1.2
              have A2 := (cells2 HA.out).2.1
              have A3 := (cells2 HA.out).2.2
              have Al := blkLt HA.out
              have B0 := (cells2 HB.out).1.1
              have B1 := (cells2 HB.out).1.2
              have B2 := (cells2 HB.out).2.1
              have B3 := (cells2 HB.out).2.2
              have Bl := blkLt HB.out
              have S0 := (cells2 HS.out).1.1
              have S1 := (cells2 HS.out).1.2
              have S2 := (cells2 HS.out).2.1
              have S3 := (cells2 HS.out).2.2
              have Sl := blkLt HS.out
              have T0 := (cells2 HT.out).1.1
              have T1 := (cells2 HT.out).1.2
              have T2 := (cells2 HT.out).2.1
              have T3 := (cells2 HT.out).2.2
              have Tl := blkLt HT.out
              have U0 := (cells2 HU.out).1.1
              have U1 := (cells2 HU.out).1.2
              have U2 := (cells2 HU.out).2.1
              have U3 := (cells2 HU.out).2.2
              have Ul := blkLt HU.out
              have V0 := (cells2 HV.out).1.1
              have V1 := (cells2 HV.out).1.2
              have V2 := (cells2 HV.out).2.1
              have V3 := (cells2 HV.out).2.2
              have Vl := blkLt HV.out
              go_wp2_with (go_at_call 17; refine (hJoin.out _).mono ?_; rintro e wn ⟨rfl, hbn⟩; replace HW := Lib.hid (bCall (by (repeat with_reducible first | exact HW.out | apply bDrew | apply bAlloc)) hbn); replace HA := Lib.hid (moveX (by (repeat with_reducible first | exact Below.refl _ _ | apply bDrew | apply bAlloc)) hbn HA.out); replace HB := Lib.hid (moveX (by (repeat with_reducible first | exact Below.refl _ _ | apply bDrew | apply bAlloc)) hbn HB.out); replace HS := Lib.hid (moveX (by (repeat with_reducible first | exact Below.refl _ _ | apply bDrew | apply bAlloc)) hbn HS.out); replace HT := Lib.hid (moveX (by (repeat with_reducible first | exact Below.refl _ _ | apply bDrew | apply bAlloc)) hbn HT.out); replace HU := Lib.hid (moveX (by (repeat with_reducible first | exact Below.refl _ _ | apply bDrew | apply bAlloc)) hbn HU.out); replace HV := Lib.hid (moveX (by (repeat with_reducible first | exact Below.refl _ _ | apply bDrew | apply bAlloc)) hbn HV.out); replace A0 := (cells2 HA.out).1.1; replace A1 := (cells2 HA.out).1.2; replace A2 := (cells2 HA.out).2.1; replace A3 := (cells2 HA.out).2.2; replace Al := blkLt HA.out; replace B0 := (cells2 HB.out).1.1; replace B1 := (cells2 HB.out).1.2; replace B2 := (cells2 HB.out).2.1; replace B3 := (cells2 HB.out).2.2; replace Bl := blkLt HB.out; replace S0 := (cells2 HS.out).1.1; replace S1 := (cells2 HS.out).1.2; replace S2 := (cells2 HS.out).2.1; replace S3 := (cells2 HS.out).2.2; replace Sl := blkLt HS.out; replace T0 := (cells2 HT.out).1.1; replace T1 := (cells2 HT.out).1.2; replace T2 := (cells2 HT.out).2.1; replace T3 := (cells2 HT.out).2.2; replace Tl := blkLt HT.out; replace U0 := (cells2 HU.out).1.1; replace U1 := (cells2 HU.out).1.2; replace U2 := (cells2 HU.out).2.1; replace U3 := (cells2 HU.out).2.2; replace Ul := blkLt HU.out; replace V0 := (cells2 HV.out).1.1; replace V1 := (cells2 HV.out).1.2; replace V2 := (cells2 HV.out).2.1; replace V3 := (cells2 HV.out).2.2; replace Vl := blkLt HV.out; clear hbn)
              go_meet
              exact ⟨_, rfl, rfl, Lib.hid (mvAlloc HA.out), Lib.hid (mvAlloc HB.out), Lib.hid (mvAlloc HS.out), Lib.hid (mvAlloc HT.out), Lib.hid (mvAlloc HU.out), Lib.hid (mvAlloc HV.out), Lib.hid (newBlk _ _ _ rfl), Lib.hid (bAlloc HW.out)⟩
            case rest => as_aux_lemma =>
              clear HW HA HB HS HT HU HV
              obtain ⟨bX, rfl, rfl, HA, HB, HS, HT, HU, HV, HX, HW⟩ := hcut
              clear hJoin
              go_upto_region 9 with fail
              have S0 := (cells2 HS.out).1.1
              have S1 := (cells2 HS.out).1.2
              have S2 := (cells2 HS.out).2.1
              have S3 := (cells2 HS.out).2.2
              have Sl := blkLt HS.out
              have T0 := (cells2 HT.out).1.1
              have T1 := (cells2 HT.out).1.2
              have T2 := (cells2 HT.out).2.1
              have T3 := (cells2 HT.out).2.2
              have Tl := blkLt HT.out
              have U0 := (cells2 HU.out).1.1
              have U1 := (cells2 HU.out).1.2
              have U2 := (cells2 HU.out).2.1
              have U3 := (cells2 HU.out).2.2
              have Ul := blkLt HU.out
              have V0 := (cells2 HV.out).1.1
              have V1 := (cells2 HV.out).1.2
              have V2 := (cells2 HV.out).2.1
              have V3 := (cells2 HV.out).2.2
              have Vl := blkLt HV.out
              have X0 := (cells2 HX.out).1.1
              have X1 := (cells2 HX.out).1.2
              have X2 := (cells2 HX.out).2.1
              have X3 := (cells2 HX.out).2.2
              have Xl := blkLt HX.out
              have z := z_zero
              go_region_held3 (fun w' => w'.cell? ⟨bS, 0, none⟩ = some (.int .i64 0) ∧ w'.cell? ⟨bS, 1, none⟩ = some (.int .i64 0) ∧ w'.cell? ⟨bT, 0, none⟩ = some (.int .i64 0) ∧ w'.cell? ⟨bT, 1, none⟩ = some (.int .i64 0) ∧ w'.cell? ⟨bU, 0, none⟩ = some (.int .i64 0) ∧ w'.cell? ⟨bU, 1, none⟩ = some (.int .i64 0) ∧ w'.cell? ⟨bV, 0, none⟩ = some (.int .i64 0) ∧ w'.cell? ⟨bV, 1, none⟩ = some (.int .i64 0) ∧ w'.cell? ⟨bX, 0, none⟩ = some (.int .i64 0) ∧ w'.cell? ⟨bX, 1, none⟩ = some (.int .i64 0))
                (first | (with_reducible exact ⟨S0, S1, T0, T1, U0, U1, V0, V1, X0, X1⟩) | go_keep)
                (first
                | (go_at_call 7; refine (span_any 0 0 _).mono ?_; rintro e2 wn ⟨rfl, hbn⟩; replace HW := Lib.hid (bCall (by (repeat with_reducible first | exact HW.out | apply bDrew | apply bAlloc)) hbn); replace HS := Lib.hid (moveX (by (repeat with_reducible first | exact Below.refl _ _ | apply bDrew | apply bAlloc)) hbn HS.out); replace HT := Lib.hid (moveX (by (repeat with_reducible first | exact Below.refl _ _ | apply bDrew | apply bAlloc)) hbn HT.out); replace HU := Lib.hid (moveX (by (repeat with_reducible first | exact Below.refl _ _ | apply bDrew | apply bAlloc)) hbn HU.out); replace HV := Lib.hid (moveX (by (repeat with_reducible first | exact Below.refl _ _ | apply bDrew | apply bAlloc)) hbn HV.out); replace HX := Lib.hid (moveX (by (repeat with_reducible first | exact Below.refl _ _ | apply bDrew | apply bAlloc)) hbn HX.out); replace S0 := (cells2 HS.out).1.1; replace S1 := (cells2 HS.out).1.2; replace S2 := (cells2 HS.out).2.1; replace S3 := (cells2 HS.out).2.2; replace Sl := blkLt HS.out; replace T0 := (cells2 HT.out).1.1; replace T1 := (cells2 HT.out).1.2; replace T2 := (cells2 HT.out).2.1; replace T3 := (cells2 HT.out).2.2; replace Tl := blkLt HT.out; replace U0 := (cells2 HU.out).1.1; replace U1 := (cells2 HU.out).1.2; replace U2 := (cells2 HU.out).2.1; replace U3 := (cells2 HU.out).2.2; replace Ul := blkLt HU.out; replace V0 := (cells2 HV.out).1.1; replace V1 := (cells2 HV.out).1.2; replace V2 := (cells2 HV.out).2.1; replace V3 := (cells2 HV.out).2.2; replace Vl := blkLt HV.out; replace X0 := (cells2 HX.out).1.1; replace X1 := (cells2 HX.out).1.2; replace X2 := (cells2 HX.out).2.1; replace X3 := (cells2 HX.out).2.2; replace Xl := blkLt HX.out; clear hbn))
              all_goals go_wp2
              all_goals go_ret
              all_goals exact ⟨rfl, HW.out⟩
set_option maxHeartbeats 16000000 in
set_option maxRecDepth 100000 in
theorem errors_bad2 (a b : Sp) (hVa : Hid (∀ w, Calls Try.prog 6 #[sv a] w (BB true w))) (hVb : Hid (∀ w, Calls Try.prog 6 #[sv b] w (BB false w)))
        (hAdd : Hid (∀ w, Calls Try.prog 9 #[sv a, sv b] w (VV (.tuple #[sv ⟨0, 0⟩, .int .i64 1]) w)))
    (hSub : Hid (∀ w, Calls Try.prog 11 #[sv a, sv b] w (VV (.tuple #[sv ⟨0, 0⟩, .int .i64 1]) w)))
    (hMul : Hid (∀ w, Calls Try.prog 12 #[sv a, sv b] w (VV (.tuple #[sv ⟨0, 0⟩, .int .i64 1]) w)))
    (hDiv : Hid (∀ w, Calls Try.prog 13 #[sv a, sv b] w (VV (.tuple #[sv ⟨0, 0⟩, .int .i64 1]) w)))
    (hJoin : Hid (∀ w, Calls Try.prog 17 #[sv a, sv b] w (VV (.tuple #[sv ⟨0, 0⟩, .int .i64 1]) w))) (w : World) : Calls Try.prog 4 #[sv a, sv b] w (BB true w) := by
  go_enter Try.func4, Try.ntmps4
  have HW := Lib.hid (Below.refl w.heap.size w)
  go_upto_region 2 with (go_at_call 5; refine (head_any _).mono ?_; rintro e wn ⟨rfl, hbn⟩; obtain ⟨HA, HB⟩ := two2 hbn; have HA := Lib.hid HA; have HB := Lib.hid HB; replace HW := Lib.hid (bCall (by (repeat with_reducible first | exact HW.out | apply bDrew | apply bAlloc)) hbn); clear hbn)
  go_cut [6] (fun s1 wx => s1 = .bool false ∧ Hid (wx.heap[w.heap.size]? = some (.cells #[.int .i64 (a.lo), .int .i64 (a.hi)] 23 (0, 0))) ∧ Hid (wx.heap[w.heap.size + 1]? = some (.cells #[.int .i64 (b.lo), .int .i64 (b.hi)] 23 (0, 0))) ∧ Hid (Below w.heap.size w wx))
  case first => as_aux_lemma =>
    have A0 := (cells2 HA.out).1.1
    have A1 := (cells2 HA.out).1.2
    have A2 := (cells2 HA.out).2.1
    have A3 := (cells2 HA.out).2.2
    have Al := blkLt HA.out
    have B0 := (cells2 HB.out).1.1
    have B1 := (cells2 HB.out).1.2
    have B2 := (cells2 HB.out).2.1
    have B3 := (cells2 HB.out).2.2
    have Bl := blkLt HB.out
    go_wp2_with (first
      | (go_at_call_of 6 (Value.agg #[.int .i64 a.lo, .int .i64 a.hi]); refine (hVa.out _).mono ?_; rintro e2 wn ⟨rfl, hbn⟩; replace HW := Lib.hid (bCall (by (repeat with_reducible first | exact HW.out | apply bDrew | apply bAlloc)) hbn); replace HA := Lib.hid (moveX (by (repeat with_reducible first | exact Below.refl _ _ | apply bDrew | apply bAlloc)) hbn HA.out); replace HB := Lib.hid (moveX (by (repeat with_reducible first | exact Below.refl _ _ | apply bDrew | apply bAlloc)) hbn HB.out); replace A0 := (cells2 HA.out).1.1; replace A1 := (cells2 HA.out).1.2; replace A2 := (cells2 HA.out).2.1; replace A3 := (cells2 HA.out).2.2; replace Al := blkLt HA.out; replace B0 := (cells2 HB.out).1.1; replace B1 := (cells2 HB.out).1.2; replace B2 := (cells2 HB.out).2.1; replace B3 := (cells2 HB.out).2.2; replace Bl := blkLt HB.out; clear hbn)
      | (go_at_call_of 6 (Value.agg #[.int .i64 b.lo, .int .i64 b.hi]); refine (hVb.out _).mono ?_; rintro e2 wn ⟨rfl, hbn⟩; replace HW := Lib.hid (bCall (by (repeat with_reducible first | exact HW.out | apply bDrew | apply bAlloc)) hbn); replace HA := Lib.hid (moveX (by (repeat with_reducible first | exact Below.refl _ _ | apply bDrew | apply bAlloc)) hbn HA.out); replace HB := Lib.hid (moveX (by (repeat with_reducible first | exact Below.refl _ _ | apply bDrew | apply bAlloc)) hbn HB.out); replace A0 := (cells2 HA.out).1.1; replace A1 := (cells2 HA.out).1.2; replace A2 := (cells2 HA.out).2.1; replace A3 := (cells2 HA.out).2.2; replace Al := blkLt HA.out; replace B0 := (cells2 HB.out).1.1; replace B1 := (cells2 HB.out).1.2; replace B2 := (cells2 HB.out).2.1; replace B3 := (cells2 HB.out).2.2; replace Bl := blkLt HB.out; clear hbn))
    go_meet
    exact ⟨rfl, HA, HB, HW⟩
  case rest => as_aux_lemma =>
    clear HW HA HB
    obtain ⟨rfl, HA, HB, HW⟩ := hcut
    clear hVa hVb
    go_upto_region 3 with fail
    go_cut [7, 8] (fun s1 s2 wx => ∃ bS : Nat, s1 = .pointer (some ⟨bS, 0, none⟩) ∧ s2 = .int .i64 1 ∧ Hid (wx.heap[w.heap.size]? = some (.cells #[.int .i64 (a.lo), .int .i64 (a.hi)] 23 (0, 0))) ∧ Hid (wx.heap[w.heap.size + 1]? = some (.cells #[.int .i64 (b.lo), .int .i64 (b.hi)] 23 (0, 0))) ∧ Hid (wx.heap[bS]? = some (.cells #[.int .i64 (0), .int .i64 (0)] 23 (0, 0))) ∧ Hid (Below w.heap.size w wx))
    case first => as_aux_lemma =>
      have A0 := (cells2 HA.out).1.1
      have A1 := (cells2 HA.out).1.2
      have A2 := (cells2 HA.out).2.1
      have A3 := (cells2 HA.out).2.2
      have Al := blkLt HA.out
      have B0 := (cells2 HB.out).1.1
      have B1 := (cells2 HB.out).1.2
      have B2 := (cells2 HB.out).2.1
      have B3 := (cells2 HB.out).2.2
      have Bl := blkLt HB.out
      go_wp2_with (go_at_call 9; refine (hAdd.out _).mono ?_; rintro e wn ⟨rfl, hbn⟩; replace HW := Lib.hid (bCall (by (repeat with_reducible first | exact HW.out | apply bDrew | apply bAlloc)) hbn); replace HA := Lib.hid (moveX (by (repeat with_reducible first | exact Below.refl _ _ | apply bDrew | apply bAlloc)) hbn HA.out); replace HB := Lib.hid (moveX (by (repeat with_reducible first | exact Below.refl _ _ | apply bDrew | apply bAlloc)) hbn HB.out); replace A0 := (cells2 HA.out).1.1; replace A1 := (cells2 HA.out).1.2; replace A2 := (cells2 HA.out).2.1; replace A3 := (cells2 HA.out).2.2; replace Al := blkLt HA.out; replace B0 := (cells2 HB.out).1.1; replace B1 := (cells2 HB.out).1.2; replace B2 := (cells2 HB.out).2.1; replace B3 := (cells2 HB.out).2.2; replace Bl := blkLt HB.out; clear hbn)
      go_meet
      exact ⟨_, rfl, rfl, Lib.hid (mvAlloc HA.out), Lib.hid (mvAlloc HB.out), Lib.hid (newBlk _ _ _ rfl), Lib.hid (bAlloc HW.out)⟩
    case rest => as_aux_lemma =>
      clear HW HA HB
      obtain ⟨bS, rfl, rfl, HA, HB, HS, HW⟩ := hcut
      clear hAdd
      go_upto_region 4 with fail
      go_cut [9, 10] (fun s1 s2 wx => ∃ bT : Nat, s1 = .pointer (some ⟨bT, 0, none⟩) ∧ s2 = .int .i64 1 ∧ Hid (wx.heap[w.heap.size]? = some (.cells #[.int .i64 (a.lo), .int .i64 (a.hi)] 23 (0, 0))) ∧ Hid (wx.heap[w.heap.size + 1]? = some (.cells #[.int .i64 (b.lo), .int .i64 (b.hi)] 23 (0, 0))) ∧ Hid (wx.heap[bS]? = some (.cells #[.int .i64 (0), .int .i64 (0)] 23 (0, 0))) ∧ Hid (wx.heap[bT]? = some (.cells #[.int .i64 (0), .int .i64 (0)] 23 (0, 0))) ∧ Hid (Below w.heap.size w wx))
      case first => as_aux_lemma =>
        have A0 := (cells2 HA.out).1.1
        have A1 := (cells2 HA.out).1.2
        have A2 := (cells2 HA.out).2.1
        have A3 := (cells2 HA.out).2.2
        have Al := blkLt HA.out
        have B0 := (cells2 HB.out).1.1
        have B1 := (cells2 HB.out).1.2
        have B2 := (cells2 HB.out).2.1
        have B3 := (cells2 HB.out).2.2
        have Bl := blkLt HB.out
        have S0 := (cells2 HS.out).1.1
        have S1 := (cells2 HS.out).1.2
        have S2 := (cells2 HS.out).2.1
        have S3 := (cells2 HS.out).2.2
        have Sl := blkLt HS.out
        go_wp2_with (go_at_call 11; refine (hSub.out _).mono ?_; rintro e wn ⟨rfl, hbn⟩; replace HW := Lib.hid (bCall (by (repeat with_reducible first | exact HW.out | apply bDrew | apply bAlloc)) hbn); replace HA := Lib.hid (moveX (by (repeat with_reducible first | exact Below.refl _ _ | apply bDrew | apply bAlloc)) hbn HA.out); replace HB := Lib.hid (moveX (by (repeat with_reducible first | exact Below.refl _ _ | apply bDrew | apply bAlloc)) hbn HB.out); replace HS := Lib.hid (moveX (by (repeat with_reducible first | exact Below.refl _ _ | apply bDrew | apply bAlloc)) hbn HS.out); replace A0 := (cells2 HA.out).1.1; replace A1 := (cells2 HA.out).1.2; replace A2 := (cells2 HA.out).2.1; replace A3 := (cells2 HA.out).2.2; replace Al := blkLt HA.out; replace B0 := (cells2 HB.out).1.1; replace B1 := (cells2 HB.out).1.2; replace B2 := (cells2 HB.out).2.1; replace B3 := (cells2 HB.out).2.2; replace Bl := blkLt HB.out; replace S0 := (cells2 HS.out).1.1; replace S1 := (cells2 HS.out).1.2; replace S2 := (cells2 HS.out).2.1; replace S3 := (cells2 HS.out).2.2; replace Sl := blkLt HS.out; clear hbn)
        go_meet
        exact ⟨_, rfl, rfl, Lib.hid (mvAlloc HA.out), Lib.hid (mvAlloc HB.out), Lib.hid (mvAlloc HS.out), Lib.hid (newBlk _ _ _ rfl), Lib.hid (bAlloc HW.out)⟩
      case rest => as_aux_lemma =>
        clear HW HA HB HS
        obtain ⟨bT, rfl, rfl, HA, HB, HS, HT, HW⟩ := hcut
        clear hSub
        go_upto_region 5 with fail
        go_cut [11, 12] (fun s1 s2 wx => ∃ bU : Nat, s1 = .pointer (some ⟨bU, 0, none⟩) ∧ s2 = .int .i64 1 ∧ Hid (wx.heap[w.heap.size]? = some (.cells #[.int .i64 (a.lo), .int .i64 (a.hi)] 23 (0, 0))) ∧ Hid (wx.heap[w.heap.size + 1]? = some (.cells #[.int .i64 (b.lo), .int .i64 (b.hi)] 23 (0, 0))) ∧ Hid (wx.heap[bS]? = some (.cells #[.int .i64 (0), .int .i64 (0)] 23 (0, 0))) ∧ Hid (wx.heap[bT]? = some (.cells #[.int .i64 (0), .int .i64 (0)] 23 (0, 0))) ∧ Hid (wx.heap[bU]? = some (.cells #[.int .i64 (0), .int .i64 (0)] 23 (0, 0))) ∧ Hid (Below w.heap.size w wx))
        case first => as_aux_lemma =>
          have A0 := (cells2 HA.out).1.1
          have A1 := (cells2 HA.out).1.2
          have A2 := (cells2 HA.out).2.1
          have A3 := (cells2 HA.out).2.2
          have Al := blkLt HA.out
          have B0 := (cells2 HB.out).1.1
          have B1 := (cells2 HB.out).1.2
          have B2 := (cells2 HB.out).2.1
          have B3 := (cells2 HB.out).2.2
          have Bl := blkLt HB.out
          have S0 := (cells2 HS.out).1.1
          have S1 := (cells2 HS.out).1.2
          have S2 := (cells2 HS.out).2.1
          have S3 := (cells2 HS.out).2.2
          have Sl := blkLt HS.out
          have T0 := (cells2 HT.out).1.1
          have T1 := (cells2 HT.out).1.2
          have T2 := (cells2 HT.out).2.1
          have T3 := (cells2 HT.out).2.2
          have Tl := blkLt HT.out
          go_wp2_with (go_at_call 12; refine (hMul.out _).mono ?_; rintro e wn ⟨rfl, hbn⟩; replace HW := Lib.hid (bCall (by (repeat with_reducible first | exact HW.out | apply bDrew | apply bAlloc)) hbn); replace HA := Lib.hid (moveX (by (repeat with_reducible first | exact Below.refl _ _ | apply bDrew | apply bAlloc)) hbn HA.out); replace HB := Lib.hid (moveX (by (repeat with_reducible first | exact Below.refl _ _ | apply bDrew | apply bAlloc)) hbn HB.out); replace HS := Lib.hid (moveX (by (repeat with_reducible first | exact Below.refl _ _ | apply bDrew | apply bAlloc)) hbn HS.out); replace HT := Lib.hid (moveX (by (repeat with_reducible first | exact Below.refl _ _ | apply bDrew | apply bAlloc)) hbn HT.out); replace A0 := (cells2 HA.out).1.1; replace A1 := (cells2 HA.out).1.2; replace A2 := (cells2 HA.out).2.1; replace A3 := (cells2 HA.out).2.2; replace Al := blkLt HA.out; replace B0 := (cells2 HB.out).1.1; replace B1 := (cells2 HB.out).1.2; replace B2 := (cells2 HB.out).2.1; replace B3 := (cells2 HB.out).2.2; replace Bl := blkLt HB.out; replace S0 := (cells2 HS.out).1.1; replace S1 := (cells2 HS.out).1.2; replace S2 := (cells2 HS.out).2.1; replace S3 := (cells2 HS.out).2.2; replace Sl := blkLt HS.out; replace T0 := (cells2 HT.out).1.1; replace T1 := (cells2 HT.out).1.2; replace T2 := (cells2 HT.out).2.1; replace T3 := (cells2 HT.out).2.2; replace Tl := blkLt HT.out; clear hbn)
          go_meet
          exact ⟨_, rfl, rfl, Lib.hid (mvAlloc HA.out), Lib.hid (mvAlloc HB.out), Lib.hid (mvAlloc HS.out), Lib.hid (mvAlloc HT.out), Lib.hid (newBlk _ _ _ rfl), Lib.hid (bAlloc HW.out)⟩
        case rest => as_aux_lemma =>
          clear HW HA HB HS HT
          obtain ⟨bU, rfl, rfl, HA, HB, HS, HT, HU, HW⟩ := hcut
          clear hMul
          go_upto_region 6 with fail
          go_cut [13, 14] (fun s1 s2 wx => ∃ bV : Nat, s1 = .pointer (some ⟨bV, 0, none⟩) ∧ s2 = .int .i64 1 ∧ Hid (wx.heap[w.heap.size]? = some (.cells #[.int .i64 (a.lo), .int .i64 (a.hi)] 23 (0, 0))) ∧ Hid (wx.heap[w.heap.size + 1]? = some (.cells #[.int .i64 (b.lo), .int .i64 (b.hi)] 23 (0, 0))) ∧ Hid (wx.heap[bS]? = some (.cells #[.int .i64 (0), .int .i64 (0)] 23 (0, 0))) ∧ Hid (wx.heap[bT]? = some (.cells #[.int .i64 (0), .int .i64 (0)] 23 (0, 0))) ∧ Hid (wx.heap[bU]? = some (.cells #[.int .i64 (0), .int .i64 (0)] 23 (0, 0))) ∧ Hid (wx.heap[bV]? = some (.cells #[.int .i64 (0), .int .i64 (0)] 23 (0, 0))) ∧ Hid (Below w.heap.size w wx))
          case first => as_aux_lemma =>
            have A0 := (cells2 HA.out).1.1
            have A1 := (cells2 HA.out).1.2
            have A2 := (cells2 HA.out).2.1
            have A3 := (cells2 HA.out).2.2
            have Al := blkLt HA.out
            have B0 := (cells2 HB.out).1.1
            have B1 := (cells2 HB.out).1.2
            have B2 := (cells2 HB.out).2.1
            have B3 := (cells2 HB.out).2.2
            have Bl := blkLt HB.out
            have S0 := (cells2 HS.out).1.1
            have S1 := (cells2 HS.out).1.2
            have S2 := (cells2 HS.out).2.1
            have S3 := (cells2 HS.out).2.2
            have Sl := blkLt HS.out
            have T0 := (cells2 HT.out).1.1
            have T1 := (cells2 HT.out).1.2
            have T2 := (cells2 HT.out).2.1
            have T3 := (cells2 HT.out).2.2
            have Tl := blkLt HT.out
            have U0 := (cells2 HU.out).1.1
            have U1 := (cells2 HU.out).1.2
            have U2 := (cells2 HU.out).2.1
            have U3 := (cells2 HU.out).2.2
            have Ul := blkLt HU.out
            go_wp2_with (go_at_call 13; refine (hDiv.out _).mono ?_; rintro e wn ⟨rfl, hbn⟩; replace HW := Lib.hid (bCall (by (repeat with_reducible first | exact HW.out | apply bDrew | apply bAlloc)) hbn); replace HA := Lib.hid (moveX (by (repeat with_reducible first | exact Below.refl _ _ | apply bDrew | apply bAlloc)) hbn HA.out); replace HB := Lib.hid (moveX (by (repeat with_reducible first | exact Below.refl _ _ | apply bDrew | apply bAlloc)) hbn HB.out); replace HS := Lib.hid (moveX (by (repeat with_reducible first | exact Below.refl _ _ | apply bDrew | apply bAlloc)) hbn HS.out); replace HT := Lib.hid (moveX (by (repeat with_reducible first | exact Below.refl _ _ | apply bDrew | apply bAlloc)) hbn HT.out); replace HU := Lib.hid (moveX (by (repeat with_reducible first | exact Below.refl _ _ | apply bDrew | apply bAlloc)) hbn HU.out); replace A0 := (cells2 HA.out).1.1; replace A1 := (cells2 HA.out).1.2; replace A2 := (cells2 HA.out).2.1; replace A3 := (cells2 HA.out).2.2; replace Al := blkLt HA.out; replace B0 := (cells2 HB.out).1.1; replace B1 := (cells2 HB.out).1.2; replace B2 := (cells2 HB.out).2.1; replace B3 := (cells2 HB.out).2.2; replace Bl := blkLt HB.out; replace S0 := (cells2 HS.out).1.1; replace S1 := (cells2 HS.out).1.2; replace S2 := (cells2 HS.out).2.1; replace S3 := (cells2 HS.out).2.2; replace Sl := blkLt HS.out; replace T0 := (cells2 HT.out).1.1; replace T1 := (cells2 HT.out).1.2; replace T2 := (cells2 HT.out).2.1; replace T3 := (cells2 HT.out).2.2; replace Tl := blkLt HT.out; replace U0 := (cells2 HU.out).1.1; replace U1 := (cells2 HU.out).1.2; replace U2 := (cells2 HU.out).2.1; replace U3 := (cells2 HU.out).2.2; replace Ul := blkLt HU.out; clear hbn)
            go_meet
            exact ⟨_, rfl, rfl, Lib.hid (mvAlloc HA.out), Lib.hid (mvAlloc HB.out), Lib.hid (mvAlloc HS.out), Lib.hid (mvAlloc HT.out), Lib.hid (mvAlloc HU.out), Lib.hid (newBlk _ _ _ rfl), Lib.hid (bAlloc HW.out)⟩
          case rest => as_aux_lemma =>
            clear HW HA HB HS HT HU
            obtain ⟨bV, rfl, rfl, HA, HB, HS, HT, HU, HV, HW⟩ := hcut
            clear hDiv
            go_upto_region 7 with fail
            go_cut [15, 16] (fun s1 s2 wx => ∃ bX : Nat, s1 = .pointer (some ⟨bX, 0, none⟩) ∧ s2 = .int .i64 1 ∧ Hid (wx.heap[w.heap.size]? = some (.cells #[.int .i64 (a.lo), .int .i64 (a.hi)] 23 (0, 0))) ∧ Hid (wx.heap[w.heap.size + 1]? = some (.cells #[.int .i64 (b.lo), .int .i64 (b.hi)] 23 (0, 0))) ∧ Hid (wx.heap[bS]? = some (.cells #[.int .i64 (0), .int .i64 (0)] 23 (0, 0))) ∧ Hid (wx.heap[bT]? = some (.cells #[.int .i64 (0), .int .i64 (0)] 23 (0, 0))) ∧ Hid (wx.heap[bU]? = some (.cells #[.int .i64 (0), .int .i64 (0)] 23 (0, 0))) ∧ Hid (wx.heap[bV]? = some (.cells #[.int .i64 (0), .int .i64 (0)] 23 (0, 0))) ∧ Hid (wx.heap[bX]? = some (.cells #[.int .i64 (0), .int .i64 (0)] 23 (0, 0))) ∧ Hid (Below w.heap.size w wx))
            case first => as_aux_lemma =>
              have A0 := (cells2 HA.out).1.1
              have A1 := (cells2 HA.out).1.2
              have A2 := (cells2 HA.out).2.1
              have A3 := (cells2 HA.out).2.2
              have Al := blkLt HA.out
              have B0 := (cells2 HB.out).1.1
              have B1 := (cells2 HB.out).1.2
              have B2 := (cells2 HB.out).2.1
              have B3 := (cells2 HB.out).2.2
              have Bl := blkLt HB.out
              have S0 := (cells2 HS.out).1.1
              have S1 := (cells2 HS.out).1.2
              have S2 := (cells2 HS.out).2.1
              have S3 := (cells2 HS.out).2.2
              have Sl := blkLt HS.out
              have T0 := (cells2 HT.out).1.1
              have T1 := (cells2 HT.out).1.2
              have T2 := (cells2 HT.out).2.1
              have T3 := (cells2 HT.out).2.2
              have Tl := blkLt HT.out
              have U0 := (cells2 HU.out).1.1
              have U1 := (cells2 HU.out).1.2
              have U2 := (cells2 HU.out).2.1
              have U3 := (cells2 HU.out).2.2
              have Ul := blkLt HU.out
              have V0 := (cells2 HV.out).1.1
              have V1 := (cells2 HV.out).1.2
              have V2 := (cells2 HV.out).2.1
              have V3 := (cells2 HV.out).2.2
              have Vl := blkLt HV.out
              go_wp2_with (go_at_call 17; refine (hJoin.out _).mono ?_; rintro e wn ⟨rfl, hbn⟩; replace HW := Lib.hid (bCall (by (repeat with_reducible first | exact HW.out | apply bDrew | apply bAlloc)) hbn); replace HA := Lib.hid (moveX (by (repeat with_reducible first | exact Below.refl _ _ | apply bDrew | apply bAlloc)) hbn HA.out); replace HB := Lib.hid (moveX (by (repeat with_reducible first | exact Below.refl _ _ | apply bDrew | apply bAlloc)) hbn HB.out); replace HS := Lib.hid (moveX (by (repeat with_reducible first | exact Below.refl _ _ | apply bDrew | apply bAlloc)) hbn HS.out); replace HT := Lib.hid (moveX (by (repeat with_reducible first | exact Below.refl _ _ | apply bDrew | apply bAlloc)) hbn HT.out); replace HU := Lib.hid (moveX (by (repeat with_reducible first | exact Below.refl _ _ | apply bDrew | apply bAlloc)) hbn HU.out); replace HV := Lib.hid (moveX (by (repeat with_reducible first | exact Below.refl _ _ | apply bDrew | apply bAlloc)) hbn HV.out); replace A0 := (cells2 HA.out).1.1; replace A1 := (cells2 HA.out).1.2; replace A2 := (cells2 HA.out).2.1; replace A3 := (cells2 HA.out).2.2; replace Al := blkLt HA.out; replace B0 := (cells2 HB.out).1.1; replace B1 := (cells2 HB.out).1.2; replace B2 := (cells2 HB.out).2.1; replace B3 := (cells2 HB.out).2.2; replace Bl := blkLt HB.out; replace S0 := (cells2 HS.out).1.1; replace S1 := (cells2 HS.out).1.2; replace S2 := (cells2 HS.out).2.1; replace S3 := (cells2 HS.out).2.2; replace Sl := blkLt HS.out; replace T0 := (cells2 HT.out).1.1; replace T1 := (cells2 HT.out).1.2; replace T2 := (cells2 HT.out).2.1; replace T3 := (cells2 HT.out).2.2; replace Tl := blkLt HT.out; replace U0 := (cells2 HU.out).1.1; replace U1 := (cells2 HU.out).1.2; replace U2 := (cells2 HU.out).2.1; replace U3 := (cells2 HU.out).2.2; replace Ul := blkLt HU.out; replace V0 := (cells2 HV.out).1.1; replace V1 := (cells2 HV.out).1.2; replace V2 := (cells2 HV.out).2.1; replace V3 := (cells2 HV.out).2.2; replace Vl := blkLt HV.out; clear hbn)
              go_meet
              exact ⟨_, rfl, rfl, Lib.hid (mvAlloc HA.out), Lib.hid (mvAlloc HB.out), Lib.hid (mvAlloc HS.out), Lib.hid (mvAlloc HT.out), Lib.hid (mvAlloc HU.out), Lib.hid (mvAlloc HV.out), Lib.hid (newBlk _ _ _ rfl), Lib.hid (bAlloc HW.out)⟩
            case rest => as_aux_lemma =>
              clear HW HA HB HS HT HU HV
              obtain ⟨bX, rfl, rfl, HA, HB, HS, HT, HU, HV, HX, HW⟩ := hcut
              clear hJoin
              go_upto_region 9 with fail
              have S0 := (cells2 HS.out).1.1
              have S1 := (cells2 HS.out).1.2
              have S2 := (cells2 HS.out).2.1
              have S3 := (cells2 HS.out).2.2
              have Sl := blkLt HS.out
              have T0 := (cells2 HT.out).1.1
              have T1 := (cells2 HT.out).1.2
              have T2 := (cells2 HT.out).2.1
              have T3 := (cells2 HT.out).2.2
              have Tl := blkLt HT.out
              have U0 := (cells2 HU.out).1.1
              have U1 := (cells2 HU.out).1.2
              have U2 := (cells2 HU.out).2.1
              have U3 := (cells2 HU.out).2.2
              have Ul := blkLt HU.out
              have V0 := (cells2 HV.out).1.1
              have V1 := (cells2 HV.out).1.2
              have V2 := (cells2 HV.out).2.1
              have V3 := (cells2 HV.out).2.2
              have Vl := blkLt HV.out
              have X0 := (cells2 HX.out).1.1
              have X1 := (cells2 HX.out).1.2
              have X2 := (cells2 HX.out).2.1
              have X3 := (cells2 HX.out).2.2
              have Xl := blkLt HX.out
              have z := z_zero
              go_region_held3 (fun w' => w'.cell? ⟨bS, 0, none⟩ = some (.int .i64 0) ∧ w'.cell? ⟨bS, 1, none⟩ = some (.int .i64 0) ∧ w'.cell? ⟨bT, 0, none⟩ = some (.int .i64 0) ∧ w'.cell? ⟨bT, 1, none⟩ = some (.int .i64 0) ∧ w'.cell? ⟨bU, 0, none⟩ = some (.int .i64 0) ∧ w'.cell? ⟨bU, 1, none⟩ = some (.int .i64 0) ∧ w'.cell? ⟨bV, 0, none⟩ = some (.int .i64 0) ∧ w'.cell? ⟨bV, 1, none⟩ = some (.int .i64 0) ∧ w'.cell? ⟨bX, 0, none⟩ = some (.int .i64 0) ∧ w'.cell? ⟨bX, 1, none⟩ = some (.int .i64 0))
                (first | (with_reducible exact ⟨S0, S1, T0, T1, U0, U1, V0, V1, X0, X1⟩) | go_keep)
                (first
                | (go_at_call 7; refine (span_any 0 0 _).mono ?_; rintro e2 wn ⟨rfl, hbn⟩; replace HW := Lib.hid (bCall (by (repeat with_reducible first | exact HW.out | apply bDrew | apply bAlloc)) hbn); replace HS := Lib.hid (moveX (by (repeat with_reducible first | exact Below.refl _ _ | apply bDrew | apply bAlloc)) hbn HS.out); replace HT := Lib.hid (moveX (by (repeat with_reducible first | exact Below.refl _ _ | apply bDrew | apply bAlloc)) hbn HT.out); replace HU := Lib.hid (moveX (by (repeat with_reducible first | exact Below.refl _ _ | apply bDrew | apply bAlloc)) hbn HU.out); replace HV := Lib.hid (moveX (by (repeat with_reducible first | exact Below.refl _ _ | apply bDrew | apply bAlloc)) hbn HV.out); replace HX := Lib.hid (moveX (by (repeat with_reducible first | exact Below.refl _ _ | apply bDrew | apply bAlloc)) hbn HX.out); replace S0 := (cells2 HS.out).1.1; replace S1 := (cells2 HS.out).1.2; replace S2 := (cells2 HS.out).2.1; replace S3 := (cells2 HS.out).2.2; replace Sl := blkLt HS.out; replace T0 := (cells2 HT.out).1.1; replace T1 := (cells2 HT.out).1.2; replace T2 := (cells2 HT.out).2.1; replace T3 := (cells2 HT.out).2.2; replace Tl := blkLt HT.out; replace U0 := (cells2 HU.out).1.1; replace U1 := (cells2 HU.out).1.2; replace U2 := (cells2 HU.out).2.1; replace U3 := (cells2 HU.out).2.2; replace Ul := blkLt HU.out; replace V0 := (cells2 HV.out).1.1; replace V1 := (cells2 HV.out).1.2; replace V2 := (cells2 HV.out).2.1; replace V3 := (cells2 HV.out).2.2; replace Vl := blkLt HV.out; replace X0 := (cells2 HX.out).1.1; replace X1 := (cells2 HX.out).1.2; replace X2 := (cells2 HX.out).2.1; replace X3 := (cells2 HX.out).2.2; replace Xl := blkLt HX.out; clear hbn))
              all_goals go_wp2
              all_goals go_ret
              all_goals exact ⟨rfl, HW.out⟩
end Go.Proofs.Ytphjkkkjkfclgaa
