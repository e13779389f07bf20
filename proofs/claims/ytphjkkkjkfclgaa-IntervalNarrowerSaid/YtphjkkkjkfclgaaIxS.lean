/- Law package 06: IntervalNarrower. -/
import Derived.Test.YtphjkkkjkfclgaaIxL
import Derived.Test.YtphjkkkjkfclgaaIxN
import Derived.Test.YtphjkkkjkfclgaaIxSa
import Derived.Test.YtphjkkkjkfclgaaDgA
namespace Go.Proofs.Ytphjkkkjkfclgaa
open Go.RowKit
set_option linter.unusedVariables false
set_option linter.unusedSimpArgs false
theorem wi_true {s t : Sp} {e f : Int} (h : wiB s e t f = true) (w : World) : Calls Try.prog 10 #[sv s, .int .i64 e, sv t, .int .i64 f] w (BB true w) := by
  have := within_any s e t f w
  rw [h] at this
  exact this
set_option maxHeartbeats 8000000 in
set_option maxRecDepth 100000 in
theorem narrower_bad (a b : Sp) (i k m n : Int) (h : (vB a && vB b) = false) (w : World) : Calls Try.prog 3 #[sv a, sv b, .int .u64 i, .int .u64 k, .int .u64 m, .int .u64 n] w (BB true w) := by
  have hVa := Lib.hid (RValid_any a)
  have hVb := Lib.hid (RValid_any b)
  rcases ha : vB a with _ | _
  · rw [ha] at hVa
    clear ha h hVb
    go_enter Try.func3, Try.ntmps3
    have HW := Lib.hid (Below.refl w.heap.size w)
    go_upto_region 2 with (go_at_call 5; refine (head_any _).mono ?_; rintro e wn ⟨rfl, hbn⟩; obtain ⟨HA, HB⟩ := two2 hbn; have HA := Lib.hid HA; have HB := Lib.hid HB; replace HW := Lib.hid (bCall (by (repeat with_reducible first | exact HW.out | apply bDrew | apply bAlloc)) hbn); clear hbn)
    have A0 := (cells2 HA.out).1.1
    have A1 := (cells2 HA.out).1.2
    have A2 := (cells2 HA.out).2.1
    have A3 := (cells2 HA.out).2.2
    have Al := blkLt HA.out
    have B0 := (cells2 HB.out).1.1
    have B1 := (cells2 HB.out).1.2
    have B2 := (cells2 HB.out).2.1
    have B3 := (cells2 HB.out).2.2
    have Bl := blkLt HB.out
    go_wp2_with (go_at_call_of 6 (Value.agg #[.int .i64 a.lo, .int .i64 a.hi]); refine (hVa.out _).mono ?_; rintro e wn ⟨rfl, hbn⟩; replace HW := Lib.hid (bCall (by (repeat with_reducible first | exact HW.out | apply bDrew | apply bAlloc)) hbn); replace HA := Lib.hid (moveX (by (repeat with_reducible first | exact Below.refl _ _ | apply bDrew | apply bAlloc)) hbn HA.out); replace HB := Lib.hid (moveX (by (repeat with_reducible first | exact Below.refl _ _ | apply bDrew | apply bAlloc)) hbn HB.out); replace A0 := (cells2 HA.out).1.1; replace A1 := (cells2 HA.out).1.2; replace A2 := (cells2 HA.out).2.1; replace A3 := (cells2 HA.out).2.2; replace Al := blkLt HA.out; replace B0 := (cells2 HB.out).1.1; replace B1 := (cells2 HB.out).1.2; replace B2 := (cells2 HB.out).2.1; replace B3 := (cells2 HB.out).2.2; replace Bl := blkLt HB.out; clear hbn)
    go_ret
    exact ⟨rfl, HW.out⟩
  · rw [ha] at hVa h
    have hb : vB b = false := by simpa using h
    rw [hb] at hVb
    clear ha h hb
    go_enter Try.func3, Try.ntmps3
    have HW := Lib.hid (Below.refl w.heap.size w)
    go_upto_region 2 with (go_at_call 5; refine (head_any _).mono ?_; rintro e wn ⟨rfl, hbn⟩; obtain ⟨HA, HB⟩ := two2 hbn; have HA := Lib.hid HA; have HB := Lib.hid HB; replace HW := Lib.hid (bCall (by (repeat with_reducible first | exact HW.out | apply bDrew | apply bAlloc)) hbn); clear hbn)
    have A0 := (cells2 HA.out).1.1
    have A1 := (cells2 HA.out).1.2
    have A2 := (cells2 HA.out).2.1
    have A3 := (cells2 HA.out).2.2
    have Al := blkLt HA.out
    have B0 := (cells2 HB.out).1.1
    have B1 := (cells2 HB.out).1.2
    have B2 := (cells2 HB.out).2.1
    have B3 := (cells2 HB.out).2.2
    have Bl := blkLt HB.out
    go_wp2_with (first
      | (go_at_call_of 6 (Value.agg #[.int .i64 a.lo, .int .i64 a.hi]); refine (hVa.out _).mono ?_; rintro e wn ⟨rfl, hbn⟩; replace HW := Lib.hid (bCall (by (repeat with_reducible first | exact HW.out | apply bDrew | apply bAlloc)) hbn); replace HA := Lib.hid (moveX (by (repeat with_reducible first | exact Below.refl _ _ | apply bDrew | apply bAlloc)) hbn HA.out); replace HB := Lib.hid (moveX (by (repeat with_reducible first | exact Below.refl _ _ | apply bDrew | apply bAlloc)) hbn HB.out); replace A0 := (cells2 HA.out).1.1; replace A1 := (cells2 HA.out).1.2; replace A2 := (cells2 HA.out).2.1; replace A3 := (cells2 HA.out).2.2; replace Al := blkLt HA.out; replace B0 := (cells2 HB.out).1.1; replace B1 := (cells2 HB.out).1.2; replace B2 := (cells2 HB.out).2.1; replace B3 := (cells2 HB.out).2.2; replace Bl := blkLt HB.out; clear hbn)
      | (go_at_call_of 6 (Value.agg #[.int .i64 b.lo, .int .i64 b.hi]); refine (hVb.out _).mono ?_; rintro e wn ⟨rfl, hbn⟩; replace HW := Lib.hid (bCall (by (repeat with_reducible first | exact HW.out | apply bDrew | apply bAlloc)) hbn); replace HA := Lib.hid (moveX (by (repeat with_reducible first | exact Below.refl _ _ | apply bDrew | apply bAlloc)) hbn HA.out); replace HB := Lib.hid (moveX (by (repeat with_reducible first | exact Below.refl _ _ | apply bDrew | apply bAlloc)) hbn HB.out); replace A0 := (cells2 HA.out).1.1; replace A1 := (cells2 HA.out).1.2; replace A2 := (cells2 HA.out).2.1; replace A3 := (cells2 HA.out).2.2; replace Al := blkLt HA.out; replace B0 := (cells2 HB.out).1.1; replace B1 := (cells2 HB.out).1.2; replace B2 := (cells2 HB.out).2.1; replace B3 := (cells2 HB.out).2.2; replace Bl := blkLt HB.out; clear hbn))
    go_ret
    exact ⟨rfl, HW.out⟩
set_option maxHeartbeats 16000000 in
set_option maxRecDepth 100000 in
theorem narrower_ok (a b : Sp) (i k m n : Int) (hi : 0 ≤ i ∧ i < 18446744073709551616) (hk : 0 ≤ k ∧ k < 18446744073709551616) (hm : 0 ≤ m ∧ m < 18446744073709551616) (hn : 0 ≤ n ∧ n < 18446744073709551616) (ha : vB a = true) (hb : vB b = true) (w : World) : Calls Try.prog 3 #[sv a, sv b, .int .u64 i, .int .u64 k, .int .u64 m, .int .u64 n] w (BB true w) := by
  have hVa := Lib.hid (RValid_any a)
  have hVb := Lib.hid (RValid_any b)
  have hPi := Lib.hid (pick_any a i ha hi)
  have hPk := Lib.hid (pick_any a k ha hk)
  have hPm := Lib.hid (pick_any b m hb hm)
  have hPn := Lib.hid (pick_any b n hb hn)
  have pc := pick_part ha hi.1 hk.1
  have pd := pick_part hb hm.1 hn.1
  rw [ha] at hVa
  rw [hb] at hVb
  generalize pickM a i = x at *
  generalize pickM a k = x2 at *
  generalize pickM b m = y at *
  generalize pickM b n = y2 at *
  obtain ⟨c, hc⟩ : ∃ c : Sp, c = ⟨min x x2, max x x2⟩ := ⟨_, rfl⟩
  obtain ⟨d, hd⟩ : ∃ d : Sp, d = ⟨min y y2, max y y2⟩ := ⟨_, rfl⟩
  rw [← hc] at pc
  rw [← hd] at pd
  have e1 := run_min2 x x2 c.lo (by rw [hc])
  have e2 := run_max2 x x2 c.hi (by rw [hc])
  have e3 := run_min2 y y2 d.lo (by rw [hd])
  have e4 := run_max2 y y2 d.hi (by rw [hd])
  have HH := Lib.hid (And.intro (And.intro ha hb) (And.intro pc pd))
  clear ha hb hi hk hm hn pc pd hc hd
  go_enter Try.func3, Try.ntmps3
  have HW := Lib.hid (Below.refl w.heap.size w)
  go_upto_region 2 with (go_at_call 5; refine (head_any _).mono ?_; rintro e wn ⟨rfl, hbn⟩; obtain ⟨HA, HB⟩ := two2 hbn; have HA := Lib.hid HA; have HB := Lib.hid HB; replace HW := Lib.hid (bCall (by (repeat with_reducible first | exact HW.out | apply bDrew | apply bAlloc)) hbn); clear hbn)
  have A0 := (cells2 HA.out).1.1
  have A1 := (cells2 HA.out).1.2
  have A2 := (cells2 HA.out).2.1
  have A3 := (cells2 HA.out).2.2
  have Al := blkLt HA.out
  have B0 := (cells2 HB.out).1.1
  have B1 := (cells2 HB.out).1.2
  have B2 := (cells2 HB.out).2.1
  have B3 := (cells2 HB.out).2.2
  have Bl := blkLt HB.out
  go_upto_region 4 with (first
      | (go_at_call_of 6 (Value.agg #[.int .i64 a.lo, .int .i64 a.hi]); refine (hVa.out _).mono ?_; rintro e wn ⟨rfl, hbn⟩; replace HW := Lib.hid (bCall (by (repeat with_reducible first | exact HW.out | apply bDrew | apply bAlloc)) hbn); replace HA := Lib.hid (moveX (by (repeat with_reducible first | exact Below.refl _ _ | apply bDrew | apply bAlloc)) hbn HA.out); replace HB := Lib.hid (moveX (by (repeat with_reducible first | exact Below.refl _ _ | apply bDrew | apply bAlloc)) hbn HB.out); replace A0 := (cells2 HA.out).1.1; replace A1 := (cells2 HA.out).1.2; replace A2 := (cells2 HA.out).2.1; replace A3 := (cells2 HA.out).2.2; replace Al := blkLt HA.out; replace B0 := (cells2 HB.out).1.1; replace B1 := (cells2 HB.out).1.2; replace B2 := (cells2 HB.out).2.1; replace B3 := (cells2 HB.out).2.2; replace Bl := blkLt HB.out; clear hbn)
      | (go_at_call_of 6 (Value.agg #[.int .i64 b.lo, .int .i64 b.hi]); refine (hVb.out _).mono ?_; rintro e wn ⟨rfl, hbn⟩; replace HW := Lib.hid (bCall (by (repeat with_reducible first | exact HW.out | apply bDrew | apply bAlloc)) hbn); replace HA := Lib.hid (moveX (by (repeat with_reducible first | exact Below.refl _ _ | apply bDrew | apply bAlloc)) hbn HA.out); replace HB := Lib.hid (moveX (by (repeat with_reducible first | exact Below.refl _ _ | apply bDrew | apply bAlloc)) hbn HB.out); replace A0 := (cells2 HA.out).1.1; replace A1 := (cells2 HA.out).1.2; replace A2 := (cells2 HA.out).2.1; replace A3 := (cells2 HA.out).2.2; replace Al := blkLt HA.out; replace B0 := (cells2 HB.out).1.1; replace B1 := (cells2 HB.out).1.2; replace B2 := (cells2 HB.out).2.1; replace B3 := (cells2 HB.out).2.2; replace Bl := blkLt HB.out; clear hbn))
  clear hVa hVb A0 A1 A2 A3 Al B0 B1 B2 B3 Bl
  go_cut [14, 15] (fun s1 s2 wx => ∃ bC bD : Nat, s1 = .pointer (some ⟨bC, 0, none⟩) ∧ s2 = .pointer (some ⟨bD, 0, none⟩) ∧ w.heap.size + 2 ≤ bC ∧ w.heap.size + 2 ≤ bD ∧ bC ≠ bD ∧ Hid (wx.heap[w.heap.size]? = some (.cells #[.int .i64 (a.lo), .int .i64 (a.hi)] 23 (0, 0))) ∧ Hid (wx.heap[w.heap.size + 1]? = some (.cells #[.int .i64 (b.lo), .int .i64 (b.hi)] 23 (0, 0))) ∧ Hid (wx.heap[bC]? = some (.cells #[.int .i64 (c.lo), .int .i64 (c.hi)] 23 (0, 0))) ∧ Hid (wx.heap[bD]? = some (.cells #[.int .i64 (d.lo), .int .i64 (d.hi)] 23 (0, 0))) ∧ Hid (Below w.heap.size w wx))
  case first => as_aux_lemma =>
    have A0 := (cells2 HA.out).1.1
    have A1 := (cells2 HA.out).1.2
    have A2 := (cells2 HA.out).2.1
    have A3 := (cells2 HA.out).2.2
    have Al := blkLt HA.out
    have B0 := (cells2 HB.out).1.1
    have B1 := (cells2 HB.out).1.2
    have B2 := (cells2 HB.out).2.1
    have B3 := (cells2 HB.out).2.2
    have Bl := blkLt HB.out
    have hSG : Hid (∀ w1 w2 : World, (w1.cell? ⟨w.heap.size, 0, none⟩ = some (.int .i64 a.lo) ∧ w1.cell? ⟨w.heap.size, 1, none⟩ = some (.int .i64 a.hi) ∧ w1.cell? ⟨w.heap.size + 1, 0, none⟩ = some (.int .i64 b.lo) ∧ w1.cell? ⟨w.heap.size + 1, 1, none⟩ = some (.int .i64 b.hi)) → Gr w1 w2 → (w2.cell? ⟨w.heap.size, 0, none⟩ = some (.int .i64 a.lo) ∧ w2.cell? ⟨w.heap.size, 1, none⟩ = some (.int .i64 a.hi) ∧ w2.cell? ⟨w.heap.size + 1, 0, none⟩ = some (.int .i64 b.lo) ∧ w2.cell? ⟨w.heap.size + 1, 1, none⟩ = some (.int .i64 b.hi))) := Lib.hid (fun w1 w2 h hg => ⟨grCell hg h.1, grCell hg h.2.1, grCell hg h.2.2.1, grCell hg h.2.2.2⟩)
    refine wp_region_G (S := fun w5 => w5.cell? ⟨w.heap.size, 0, none⟩ = some (.int .i64 a.lo) ∧ w5.cell? ⟨w.heap.size, 1, none⟩ = some (.int .i64 a.hi) ∧ w5.cell? ⟨w.heap.size + 1, 0, none⟩ = some (.int .i64 b.lo) ∧ w5.cell? ⟨w.heap.size + 1, 1, none⟩ = some (.int .i64 b.hi)) (by kernel_rfl) (by exact ⟨A0, A1, B0, B1⟩) (fun hHeld => ?_)
    first
      | (refine wpAnyG_take hSG (i := 0) (v := ?_) rfl (by kernel_rfl) (by kernel_rfl) (by kernel_rfl) (fun _ _ _ h => h) (YieldsIf.gives (Or.inl ⟨by rfl, ?_⟩)) hHeld ?_; rotate_left; focus (intro w' hSw; (try dsimp only at hSw); go_simp; (try with_reducible rfl)))
      | (refine wpAnyG_take hSG (i := 0) (v := undef) rfl (by kernel_rfl) (by kernel_rfl) (by kernel_rfl) (fun _ _ _ h => h) (Or.inr ⟨by rfl, rfl⟩) hHeld ?_)
    (try simp only [List.getElem_toArray, List.getElem_cons_succ, List.getElem_cons_zero, Act.put, List.setIfInBounds_toArray, List.set_cons_zero, List.set_cons_succ])
    first
      | (refine wpAnyG_take hSG (i := 1) (v := ?_) rfl (by kernel_rfl) (by kernel_rfl) (by kernel_rfl) (fun _ _ _ h => h) (YieldsIf.gives (Or.inl ⟨by rfl, ?_⟩)) hHeld ?_; rotate_left; focus (intro w' hSw; (try dsimp only at hSw); go_simp; (try with_reducible rfl)))
      | (refine wpAnyG_take hSG (i := 1) (v := undef) rfl (by kernel_rfl) (by kernel_rfl) (by kernel_rfl) (fun _ _ _ h => h) (Or.inr ⟨by rfl, rfl⟩) hHeld ?_)
    (try simp only [List.getElem_toArray, List.getElem_cons_succ, List.getElem_cons_zero, Act.put, List.setIfInBounds_toArray, List.set_cons_zero, List.set_cons_succ])
    refine wpAnyG_take hSG (i := 2) (v := .int .i64 x) rfl (by kernel_rfl) (by kernel_rfl) (by kernel_rfl) (fun _ _ _ h => h) (Or.inl ⟨by rfl, ?_⟩) hHeld ?_
    focus (intro wz hSw K hK; (try dsimp only at hSw); go_simp; refine (hPi.out _).mono ?_; rintro e w2 ⟨rfl, hb2⟩; exact hK.out _ hb2)
    (try simp only [List.getElem_toArray, List.getElem_cons_succ, List.getElem_cons_zero, Act.put, List.setIfInBounds_toArray, List.set_cons_zero, List.set_cons_succ])
    first
      | (refine wpAnyG_take hSG (i := 3) (v := ?_) rfl (by kernel_rfl) (by kernel_rfl) (by kernel_rfl) (fun _ _ _ h => h) (YieldsIf.gives (Or.inl ⟨by rfl, ?_⟩)) hHeld ?_; rotate_left; focus (intro w' hSw; (try dsimp only at hSw); go_simp; (try with_reducible rfl)))
      | (refine wpAnyG_take hSG (i := 3) (v := undef) rfl (by kernel_rfl) (by kernel_rfl) (by kernel_rfl) (fun _ _ _ h => h) (Or.inr ⟨by rfl, rfl⟩) hHeld ?_)
    (try simp only [List.getElem_toArray, List.getElem_cons_succ, List.getElem_cons_zero, Act.put, List.setIfInBounds_toArray, List.set_cons_zero, List.set_cons_succ])
    first
      | (refine wpAnyG_take hSG (i := 4) (v := ?_) rfl (by kernel_rfl) (by kernel_rfl) (by kernel_rfl) (fun _ _ _ h => h) (YieldsIf.gives (Or.inl ⟨by rfl, ?_⟩)) hHeld ?_; rotate_left; focus (intro w' hSw; (try dsimp only at hSw); go_simp; (try with_reducible rfl)))
      | (refine wpAnyG_take hSG (i := 4) (v := undef) rfl (by kernel_rfl) (by kernel_rfl) (by kernel_rfl) (fun _ _ _ h => h) (Or.inr ⟨by rfl, rfl⟩) hHeld ?_)
    (try simp only [List.getElem_toArray, List.getElem_cons_succ, List.getElem_cons_zero, Act.put, List.setIfInBounds_toArray, List.set_cons_zero, List.set_cons_succ])
    refine wpAnyG_take hSG (i := 5) (v := .int .i64 x2) rfl (by kernel_rfl) (by kernel_rfl) (by kernel_rfl) (fun _ _ _ h => h) (Or.inl ⟨by rfl, ?_⟩) hHeld ?_
    focus (intro wz hSw K hK; (try dsimp only at hSw); go_simp; refine (hPk.out _).mono ?_; rintro e w2 ⟨rfl, hb2⟩; exact hK.out _ hb2)
    (try simp only [List.getElem_toArray, List.getElem_cons_succ, List.getElem_cons_zero, Act.put, List.setIfInBounds_toArray, List.set_cons_zero, List.set_cons_succ])
    first
      | (refine wpAnyG_take hSG (i := 6) (v := ?_) rfl (by kernel_rfl) (by kernel_rfl) (by kernel_rfl) (fun _ _ _ h => h) (YieldsIf.gives (Or.inl ⟨by rfl, ?_⟩)) hHeld ?_; rotate_left; focus (intro w' hSw; (try dsimp only at hSw); go_simp; (try with_reducible rfl)))
      | (refine wpAnyG_take hSG (i := 6) (v := undef) rfl (by kernel_rfl) (by kernel_rfl) (by kernel_rfl) (fun _ _ _ h => h) (Or.inr ⟨by rfl, rfl⟩) hHeld ?_)
    (try simp only [List.getElem_toArray, List.getElem_cons_succ, List.getElem_cons_zero, Act.put, List.setIfInBounds_toArray, List.set_cons_zero, List.set_cons_succ])
    first
      | (refine wpAnyG_take hSG (i := 7) (v := ?_) rfl (by kernel_rfl) (by kernel_rfl) (by kernel_rfl) (fun _ _ _ h => h) (YieldsIf.gives (Or.inl ⟨by rfl, ?_⟩)) hHeld ?_; rotate_left; focus (intro w' hSw; (try dsimp only at hSw); go_simp; (try with_reducible rfl)))
      | (refine wpAnyG_take hSG (i := 7) (v := undef) rfl (by kernel_rfl) (by kernel_rfl) (by kernel_rfl) (fun _ _ _ h => h) (Or.inr ⟨by rfl, rfl⟩) hHeld ?_)
    (try simp only [List.getElem_toArray, List.getElem_cons_succ, List.getElem_cons_zero, Act.put, List.setIfInBounds_toArray, List.set_cons_zero, List.set_cons_succ])
    first
      | (refine wpAnyG_take hSG (i := 8) (v := ?_) rfl (by kernel_rfl) (by kernel_rfl) (by kernel_rfl) (fun _ _ _ h => h) (YieldsIf.gives (Or.inl ⟨by rfl, ?_⟩)) hHeld ?_; rotate_left; focus (intro w' hSw; (try dsimp only at hSw); go_simp; (try with_reducible rfl)))
      | (refine wpAnyG_take hSG (i := 8) (v := undef) rfl (by kernel_rfl) (by kernel_rfl) (by kernel_rfl) (fun _ _ _ h => h) (Or.inr ⟨by rfl, rfl⟩) hHeld ?_)
    (try simp only [List.getElem_toArray, List.getElem_cons_succ, List.getElem_cons_zero, Act.put, List.setIfInBounds_toArray, List.set_cons_zero, List.set_cons_succ])
    refine wpAnyG_take hSG (i := 9) (v := .int .i64 x) rfl (by kernel_rfl) (by kernel_rfl) (by kernel_rfl) (fun _ _ _ h => h) (Or.inl ⟨by rfl, ?_⟩) hHeld ?_
    focus (intro wz hSw K hK; (try dsimp only at hSw); go_simp; refine (hPi.out _).mono ?_; rintro e w2 ⟨rfl, hb2⟩; exact hK.out _ hb2)
    (try simp only [List.getElem_toArray, List.getElem_cons_succ, List.getElem_cons_zero, Act.put, List.setIfInBounds_toArray, List.set_cons_zero, List.set_cons_succ])
    first
      | (refine wpAnyG_take hSG (i := 10) (v := ?_) rfl (by kernel_rfl) (by kernel_rfl) (by kernel_rfl) (fun _ _ _ h => h) (YieldsIf.gives (Or.inl ⟨by rfl, ?_⟩)) hHeld ?_; rotate_left; focus (intro w' hSw; (try dsimp only at hSw); go_simp; (try with_reducible rfl)))
      | (refine wpAnyG_take hSG (i := 10) (v := undef) rfl (by kernel_rfl) (by kernel_rfl) (by kernel_rfl) (fun _ _ _ h => h) (Or.inr ⟨by rfl, rfl⟩) hHeld ?_)
    (try simp only [List.getElem_toArray, List.getElem_cons_succ, List.getElem_cons_zero, Act.put, List.setIfInBounds_toArray, List.set_cons_zero, List.set_cons_succ])
    first
      | (refine wpAnyG_take hSG (i := 11) (v := ?_) rfl (by kernel_rfl) (by kernel_rfl) (by kernel_rfl) (fun _ _ _ h => h) (YieldsIf.gives (Or.inl ⟨by rfl, ?_⟩)) hHeld ?_; rotate_left; focus (intro w' hSw; (try dsimp only at hSw); go_simp; (try with_reducible rfl)))
      | (refine wpAnyG_take hSG (i := 11) (v := undef) rfl (by kernel_rfl) (by kernel_rfl) (by kernel_rfl) (fun _ _ _ h => h) (Or.inr ⟨by rfl, rfl⟩) hHeld ?_)
    (try simp only [List.getElem_toArray, List.getElem_cons_succ, List.getElem_cons_zero, Act.put, List.setIfInBounds_toArray, List.set_cons_zero, List.set_cons_succ])
    refine wpAnyG_take hSG (i := 12) (v := .int .i64 x2) rfl (by kernel_rfl) (by kernel_rfl) (by kernel_rfl) (fun _ _ _ h => h) (Or.inl ⟨by rfl, ?_⟩) hHeld ?_
    focus (intro wz hSw K hK; (try dsimp only at hSw); go_simp; refine (hPk.out _).mono ?_; rintro e w2 ⟨rfl, hb2⟩; exact hK.out _ hb2)
    (try simp only [List.getElem_toArray, List.getElem_cons_succ, List.getElem_cons_zero, Act.put, List.setIfInBounds_toArray, List.set_cons_zero, List.set_cons_succ])
    first
      | (refine wpAnyG_take hSG (i := 13) (v := ?_) rfl (by kernel_rfl) (by kernel_rfl) (by kernel_rfl) (fun _ _ _ h => h) (YieldsIf.gives (Or.inl ⟨by rfl, ?_⟩)) hHeld ?_; rotate_left; focus (intro w' hSw; (try dsimp only at hSw); go_simp; (try with_reducible rfl)))
      | (refine wpAnyG_take hSG (i := 13) (v := undef) rfl (by kernel_rfl) (by kernel_rfl) (by kernel_rfl) (fun _ _ _ h => h) (Or.inr ⟨by rfl, rfl⟩) hHeld ?_)
    (try simp only [List.getElem_toArray, List.getElem_cons_succ, List.getElem_cons_zero, Act.put, List.setIfInBounds_toArray, List.set_cons_zero, List.set_cons_succ])
    refine wpAnyG_take hSG (i := 14) (v := sv c) rfl (by kernel_rfl) (by kernel_rfl) (by kernel_rfl) (fun _ _ _ h => h) (Or.inl ⟨by rfl, ?_⟩) hHeld ?_
    focus (intro wz hSw K hK; (try dsimp only at hSw); go_simp; refine (span_any c.lo c.hi _).mono ?_; rintro e w2 ⟨rfl, hb2⟩; exact hK.out _ hb2)
    (try simp only [List.getElem_toArray, List.getElem_cons_succ, List.getElem_cons_zero, Act.put, List.setIfInBounds_toArray, List.set_cons_zero, List.set_cons_succ])
    first
      | (refine wpAnyG_take hSG (i := 15) (v := ?_) rfl (by kernel_rfl) (by kernel_rfl) (by kernel_rfl) (fun _ _ _ h => h) (YieldsIf.gives (Or.inl ⟨by rfl, ?_⟩)) hHeld ?_; rotate_left; focus (intro w' hSw; (try dsimp only at hSw); go_simp; (try with_reducible rfl)))
      | (refine wpAnyG_take hSG (i := 15) (v := undef) rfl (by kernel_rfl) (by kernel_rfl) (by kernel_rfl) (fun _ _ _ h => h) (Or.inr ⟨by rfl, rfl⟩) hHeld ?_)
    (try simp only [List.getElem_toArray, List.getElem_cons_succ, List.getElem_cons_zero, Act.put, List.setIfInBounds_toArray, List.set_cons_zero, List.set_cons_succ])
    first
      | (refine wpAnyG_take hSG (i := 16) (v := ?_) rfl (by kernel_rfl) (by kernel_rfl) (by kernel_rfl) (fun _ _ _ h => h) (YieldsIf.gives (Or.inl ⟨by rfl, ?_⟩)) hHeld ?_; rotate_left; focus (intro w' hSw; (try dsimp only at hSw); go_simp; (try with_reducible rfl)))
      | (refine wpAnyG_take hSG (i := 16) (v := undef) rfl (by kernel_rfl) (by kernel_rfl) (by kernel_rfl) (fun _ _ _ h => h) (Or.inr ⟨by rfl, rfl⟩) hHeld ?_)
    (try simp only [List.getElem_toArray, List.getElem_cons_succ, List.getElem_cons_zero, Act.put, List.setIfInBounds_toArray, List.set_cons_zero, List.set_cons_succ])
    refine wpAnyG_take hSG (i := 17) (v := .int .i64 y) rfl (by kernel_rfl) (by kernel_rfl) (by kernel_rfl) (fun _ _ _ h => h) (Or.inl ⟨by rfl, ?_⟩) hHeld ?_
    focus (intro wz hSw K hK; (try dsimp only at hSw); go_simp; refine (hPm.out _).mono ?_; rintro e w2 ⟨rfl, hb2⟩; exact hK.out _ hb2)
    (try simp only [List.getElem_toArray, List.getElem_cons_succ, List.getElem_cons_zero, Act.put, List.setIfInBounds_toArray, List.set_cons_zero, List.set_cons_succ])
    first
      | (refine wpAnyG_take hSG (i := 18) (v := ?_) rfl (by kernel_rfl) (by kernel_rfl) (by kernel_rfl) (fun _ _ _ h => h) (YieldsIf.gives (Or.inl ⟨by rfl, ?_⟩)) hHeld ?_; rotate_left; focus (intro w' hSw; (try dsimp only at hSw); go_simp; (try with_reducible rfl)))
      | (refine wpAnyG_take hSG (i := 18) (v := undef) rfl (by kernel_rfl) (by kernel_rfl) (by kernel_rfl) (fun _ _ _ h => h) (Or.inr ⟨by rfl, rfl⟩) hHeld ?_)
    (try simp only [List.getElem_toArray, List.getElem_cons_succ, List.getElem_cons_zero, Act.put, List.setIfInBounds_toArray, List.set_cons_zero, List.set_cons_succ])
    first
      | (refine wpAnyG_take hSG (i := 19) (v := ?_) rfl (by kernel_rfl) (by kernel_rfl) (by kernel_rfl) (fun _ _ _ h => h) (YieldsIf.gives (Or.inl ⟨by rfl, ?_⟩)) hHeld ?_; rotate_left; focus (intro w' hSw; (try dsimp only at hSw); go_simp; (try with_reducible rfl)))
      | (refine wpAnyG_take hSG (i := 19) (v := undef) rfl (by kernel_rfl) (by kernel_rfl) (by kernel_rfl) (fun _ _ _ h => h) (Or.inr ⟨by rfl, rfl⟩) hHeld ?_)
    (try simp only [List.getElem_toArray, List.getElem_cons_succ, List.getElem_cons_zero, Act.put, List.setIfInBounds_toArray, List.set_cons_zero, List.set_cons_succ])
    refine wpAnyG_take hSG (i := 20) (v := .int .i64 y2) rfl (by kernel_rfl) (by kernel_rfl) (by kernel_rfl) (fun _ _ _ h => h) (Or.inl ⟨by rfl, ?_⟩) hHeld ?_
    focus (intro wz hSw K hK; (try dsimp only at hSw); go_simp; refine (hPn.out _).mono ?_; rintro e w2 ⟨rfl, hb2⟩; exact hK.out _ hb2)
    (try simp only [List.getElem_toArray, List.getElem_cons_succ, List.getElem_cons_zero, Act.put, List.setIfInBounds_toArray, List.set_cons_zero, List.set_cons_succ])
    first
      | (refine wpAnyG_take hSG (i := 21) (v := ?_) rfl (by kernel_rfl) (by kernel_rfl) (by kernel_rfl) (fun _ _ _ h => h) (YieldsIf.gives (Or.inl ⟨by rfl, ?_⟩)) hHeld ?_; rotate_left; focus (intro w' hSw; (try dsimp only at hSw); go_simp; (try with_reducible rfl)))
      | (refine wpAnyG_take hSG (i := 21) (v := undef) rfl (by kernel_rfl) (by kernel_rfl) (by kernel_rfl) (fun _ _ _ h => h) (Or.inr ⟨by rfl, rfl⟩) hHeld ?_)
    (try simp only [List.getElem_toArray, List.getElem_cons_succ, List.getElem_cons_zero, Act.put, List.setIfInBounds_toArray, List.set_cons_zero, List.set_cons_succ])
    first
      | (refine wpAnyG_take hSG (i := 22) (v := ?_) rfl (by kernel_rfl) (by kernel_rfl) (by kernel_rfl) (fun _ _ _ h => h) (YieldsIf.gives (Or.inl ⟨by rfl, ?_⟩)) hHeld ?_; rotate_left; focus (intro w' hSw; (try dsimp only at hSw); go_simp; (try with_reducible rfl)))
      | (refine wpAnyG_take hSG (i := 22) (v := undef) rfl (by kernel_rfl) (by kernel_rfl) (by kernel_rfl) (fun _ _ _ h => h) (Or.inr ⟨by rfl, rfl⟩) hHeld ?_)
    (try simp only [List.getElem_toArray, List.getElem_cons_succ, List.getElem_cons_zero, Act.put, List.setIfInBounds_toArray, List.set_cons_zero, List.set_cons_succ])
    first
      | (refine wpAnyG_take hSG (i := 23) (v := ?_) rfl (by kernel_rfl) (by kernel_rfl) (by kernel_rfl) (fun _ _ _ h => h) (YieldsIf.gives (Or.inl ⟨by rfl, ?_⟩)) hHeld ?_; rotate_left; focus (intro w' hSw; (try dsimp only at hSw); go_simp; (try with_reducible rfl)))
      | (refine wpAnyG_take hSG (i := 23) (v := undef) rfl (by kernel_rfl) (by kernel_rfl) (by kernel_rfl) (fun _ _ _ h => h) (Or.inr ⟨by rfl, rfl⟩) hHeld ?_)
    (try simp only [List.getElem_toArray, List.getElem_cons_succ, List.getElem_cons_zero, Act.put, List.setIfInBounds_toArray, List.set_cons_zero, List.set_cons_succ])
    refine wpAnyG_take hSG (i := 24) (v := .int .i64 y) rfl (by kernel_rfl) (by kernel_rfl) (by kernel_rfl) (fun _ _ _ h => h) (Or.inl ⟨by rfl, ?_⟩) hHeld ?_
    focus (intro wz hSw K hK; (try dsimp only at hSw); go_simp; refine (hPm.out _).mono ?_; rintro e w2 ⟨rfl, hb2⟩; exact hK.out _ hb2)
    (try simp only [List.getElem_toArray, List.getElem_cons_succ, List.getElem_cons_zero, Act.put, List.setIfInBounds_toArray, List.set_cons_zero, List.set_cons_succ])
    first
      | (refine wpAnyG_take hSG (i := 25) (v := ?_) rfl (by kernel_rfl) (by kernel_rfl) (by kernel_rfl) (fun _ _ _ h => h) (YieldsIf.gives (Or.inl ⟨by rfl, ?_⟩)) hHeld ?_; rotate_left; focus (intro w' hSw; (try dsimp only at hSw); go_simp; (try with_reducible rfl)))
      | (refine wpAnyG_take hSG (i := 25) (v := undef) rfl (by kernel_rfl) (by kernel_rfl) (by kernel_rfl) (fun _ _ _ h => h) (Or.inr ⟨by rfl, rfl⟩) hHeld ?_)
    (try simp only [List.getElem_toArray, List.getElem_cons_succ, List.getElem_cons_zero, Act.put, List.setIfInBounds_toArray, List.set_cons_zero, List.set_cons_succ])
    first
      | (refine wpAnyG_take hSG (i := 26) (v := ?_) rfl (by kernel_rfl) (by kernel_rfl) (by kernel_rfl) (fun _ _ _ h => h) (YieldsIf.gives (Or.inl ⟨by rfl, ?_⟩)) hHeld ?_; rotate_left; focus (intro w' hSw; (try dsimp only at hSw); go_simp; (try with_reducible rfl)))
      | (refine wpAnyG_take hSG (i := 26) (v := undef) rfl (by kernel_rfl) (by kernel_rfl) (by kernel_rfl) (fun _ _ _ h => h) (Or.inr ⟨by rfl, rfl⟩) hHeld ?_)
    (try simp only [List.getElem_toArray, List.getElem_cons_succ, List.getElem_cons_zero, Act.put, List.setIfInBounds_toArray, List.set_cons_zero, List.set_cons_succ])
    refine wpAnyG_take hSG (i := 27) (v := .int .i64 y2) rfl (by kernel_rfl) (by kernel_rfl) (by kernel_rfl) (fun _ _ _ h => h) (Or.inl ⟨by rfl, ?_⟩) hHeld ?_
    focus (intro wz hSw K hK; (try dsimp only at hSw); go_simp; refine (hPn.out _).mono ?_; rintro e w2 ⟨rfl, hb2⟩; exact hK.out _ hb2)
    (try simp only [List.getElem_toArray, List.getElem_cons_succ, List.getElem_cons_zero, Act.put, List.setIfInBounds_toArray, List.set_cons_zero, List.set_cons_succ])
    first
      | (refine wpAnyG_take hSG (i := 28) (v := ?_) rfl (by kernel_rfl) (by kernel_rfl) (by kernel_rfl) (fun _ _ _ h => h) (YieldsIf.gives (Or.inl ⟨by rfl, ?_⟩)) hHeld ?_; rotate_left; focus (intro w' hSw; (try dsimp only at hSw); go_simp; (try with_reducible rfl)))
      | (refine wpAnyG_take hSG (i := 28) (v := undef) rfl (by kernel_rfl) (by kernel_rfl) (by kernel_rfl) (fun _ _ _ h => h) (Or.inr ⟨by rfl, rfl⟩) hHeld ?_)
    (try simp only [List.getElem_toArray, List.getElem_cons_succ, List.getElem_cons_zero, Act.put, List.setIfInBounds_toArray, List.set_cons_zero, List.set_cons_succ])
    refine wpAnyG_take hSG (i := 29) (v := sv d) rfl (by kernel_rfl) (by kernel_rfl) (by kernel_rfl) (fun _ _ _ h => h) (Or.inl ⟨by rfl, ?_⟩) hHeld ?_
    focus (intro wz hSw K hK; (try dsimp only at hSw); go_simp; refine (span_any d.lo d.hi _).mono ?_; rintro e w2 ⟨rfl, hb2⟩; exact hK.out _ hb2)
    (try simp only [List.getElem_toArray, List.getElem_cons_succ, List.getElem_cons_zero, Act.put, List.setIfInBounds_toArray, List.set_cons_zero, List.set_cons_succ])
    have zA := blkLt HB.out
    refine wpAnyG_ready (rs := [30, 31]) (by kernel_rfl) (by simp) (AllG.cons rfl (fun w1 hg1 K hK => ?_) (AllG.cons rfl (fun w1 hg1 K hK => ?_) AllG.nil))
    · have z1 : wn.heap.size ≤ w1.heap.size := hg1.size
      have HA := Lib.hid (grBlk hg1 HA.out)
      have HB := Lib.hid (grBlk hg1 HB.out)
      have HW := Lib.hid (HW.out.drew.trans (hg1.mono HW.out.size))
      go_simp
      refine hK.out _ _ (hSG.out _ _ hHeld.out (hg1.tr (grAlloc _ _))) (fun hHeld => ?_)
      have HC := Lib.hid (newBlk w1 (.cells #[.int .i64 0, .int .i64 0] 23) _ rfl)
      have HA := Lib.hid (mvAlloc (o := (.cells #[.int .i64 0, .int .i64 0] 23)) HA.out)
      have HB := Lib.hid (mvAlloc (o := (.cells #[.int .i64 0, .int .i64 0] 23)) HB.out)
      have HW := Lib.hid (bAlloc (o := (.cells #[.int .i64 0, .int .i64 0] 23)) HW.out)
      clear hK K hg1
      refine wpAnyG_ready (rs := [31]) (by kernel_rfl) (by simp) (AllG.cons rfl (fun w2 hg2 K hK => ?_) AllG.nil)
      have z2 : w1.heap.size + 1 ≤ w2.heap.size := by have := hg2.size; simpa using this
      have HA := Lib.hid (grBlk hg2 HA.out)
      have HB := Lib.hid (grBlk hg2 HB.out)
      have HC := Lib.hid (grBlk hg2 HC.out)
      have HW := Lib.hid (HW.out.trans (hg2.mono HW.out.size))
      go_simp
      refine hK.out _ _ (hSG.out _ _ hHeld.out (hg2.tr (grAlloc _ _))) (fun hHeld => ?_)
      have HD := Lib.hid (newBlk w2 (.cells #[.int .i64 0, .int .i64 0] 23) _ rfl)
      have HA := Lib.hid (mvAlloc (o := (.cells #[.int .i64 0, .int .i64 0] 23)) HA.out)
      have HB := Lib.hid (mvAlloc (o := (.cells #[.int .i64 0, .int .i64 0] 23)) HB.out)
      have HC := Lib.hid (mvAlloc (o := (.cells #[.int .i64 0, .int .i64 0] 23)) HC.out)
      have HW := Lib.hid (bAlloc (o := (.cells #[.int .i64 0, .int .i64 0] 23)) HW.out)
      clear hK K hg2
      refine wpAnyG_ready (rs := [32]) (by kernel_rfl) (by simp) (AllG.cons rfl (fun w3 hg K hK => ?_) AllG.nil)
      have HA := Lib.hid (grBlk hg HA.out)
      have HB := Lib.hid (grBlk hg HB.out)
      have HC := Lib.hid (grBlk hg HC.out)
      have HD := Lib.hid (grBlk hg HD.out)
      have HW := Lib.hid (HW.out.trans (hg.mono HW.out.size))
      have hS3 := hSG.out _ _ hHeld.out hg
      have x0 := (cells2 HC.out).1.1
      have x1 := (cells2 HC.out).1.2
      have x2 := (cells2 HC.out).2.1
      have x3 := (cells2 HC.out).2.2
      go_simp
      refine hK.out _ _ ⟨(far2 (by omega)).trans hS3.1, (far2 (by omega)).trans hS3.2.1, (far2 (by omega)).trans hS3.2.2.1, (far2 (by omega)).trans hS3.2.2.2⟩ (fun hHeld => ?_)
      have HC := Lib.hid (res2 (x := .int .i64 c.lo) (y := .int .i64 c.hi) HC.out).1
      have HA := Lib.hid (setK (w := w3) (b := w1.heap.size) (x := .int .i64 c.lo) (y := .int .i64 c.hi) HA.out (by omega))
      have HB := Lib.hid (setK (w := w3) (b := w1.heap.size) (x := .int .i64 c.lo) (y := .int .i64 c.hi) HB.out (by omega))
      have HD := Lib.hid (setK (w := w3) (b := w1.heap.size) (x := .int .i64 c.lo) (y := .int .i64 c.hi) HD.out (by omega))
      have HW := Lib.hid (below2 (b := w1.heap.size) (v0 := .int .i64 c.lo) (v1 := .int .i64 c.hi) HW.out (by omega))
      clear hK K hg hS3 x0 x1 x2 x3
      refine wpAnyG_ready (rs := [33]) (by kernel_rfl) (by simp) (AllG.cons rfl (fun w4 hg K hK => ?_) AllG.nil)
      have HA := Lib.hid (grBlk hg HA.out)
      have HB := Lib.hid (grBlk hg HB.out)
      have HC := Lib.hid (grBlk hg HC.out)
      have HD := Lib.hid (grBlk hg HD.out)
      have HW := Lib.hid (HW.out.trans (hg.mono HW.out.size))
      have hS3 := hSG.out _ _ hHeld.out hg
      have x0 := (cells2 HD.out).1.1
      have x1 := (cells2 HD.out).1.2
      have x2 := (cells2 HD.out).2.1
      have x3 := (cells2 HD.out).2.2
      go_simp
      refine hK.out _ _ ⟨(far2 (by omega)).trans hS3.1, (far2 (by omega)).trans hS3.2.1, (far2 (by omega)).trans hS3.2.2.1, (far2 (by omega)).trans hS3.2.2.2⟩ (fun hHeld => ?_)
      have HD := Lib.hid (res2 (x := .int .i64 d.lo) (y := .int .i64 d.hi) HD.out).1
      have HA := Lib.hid (setK (w := w4) (b := w2.heap.size) (x := .int .i64 d.lo) (y := .int .i64 d.hi) HA.out (by omega))
      have HB := Lib.hid (setK (w := w4) (b := w2.heap.size) (x := .int .i64 d.lo) (y := .int .i64 d.hi) HB.out (by omega))
      have HC := Lib.hid (setK (w := w4) (b := w2.heap.size) (x := .int .i64 d.lo) (y := .int .i64 d.hi) HC.out (by omega))
      have HW := Lib.hid (below2 (b := w2.heap.size) (v0 := .int .i64 d.lo) (v1 := .int .i64 d.hi) HW.out (by omega))
      clear hK K hg hS3 x0 x1 x2 x3
      refine wpAnyG_done (by kernel_rfl) (fun w5 hg => ?_) _
      have HA := Lib.hid (grBlk hg HA.out)
      have HB := Lib.hid (grBlk hg HB.out)
      have HC := Lib.hid (grBlk hg HC.out)
      have HD := Lib.hid (grBlk hg HD.out)
      have HW := Lib.hid (HW.out.trans (hg.mono HW.out.size))
      go_wp2
      go_meet
      exact ⟨_, _, rfl, rfl, by omega, by omega, by omega, HA, HB, HC, HD, HW⟩
    · have z1 : wn.heap.size ≤ w1.heap.size := hg1.size
      have HA := Lib.hid (grBlk hg1 HA.out)
      have HB := Lib.hid (grBlk hg1 HB.out)
      have HW := Lib.hid (HW.out.drew.trans (hg1.mono HW.out.size))
      go_simp
      refine hK.out _ _ (hSG.out _ _ hHeld.out (hg1.tr (grAlloc _ _))) (fun hHeld => ?_)
      have HD := Lib.hid (newBlk w1 (.cells #[.int .i64 0, .int .i64 0] 23) _ rfl)
      have HA := Lib.hid (mvAlloc (o := (.cells #[.int .i64 0, .int .i64 0] 23)) HA.out)
      have HB := Lib.hid (mvAlloc (o := (.cells #[.int .i64 0, .int .i64 0] 23)) HB.out)
      have HW := Lib.hid (bAlloc (o := (.cells #[.int .i64 0, .int .i64 0] 23)) HW.out)
      clear hK K hg1
      refine wpAnyG_ready (rs := [30]) (by kernel_rfl) (by simp) (AllG.cons rfl (fun w2 hg2 K hK => ?_) AllG.nil)
      have z2 : w1.heap.size + 1 ≤ w2.heap.size := by have := hg2.size; simpa using this
      have HA := Lib.hid (grBlk hg2 HA.out)
      have HB := Lib.hid (grBlk hg2 HB.out)
      have HD := Lib.hid (grBlk hg2 HD.out)
      have HW := Lib.hid (HW.out.trans (hg2.mono HW.out.size))
      go_simp
      refine hK.out _ _ (hSG.out _ _ hHeld.out (hg2.tr (grAlloc _ _))) (fun hHeld => ?_)
      have HC := Lib.hid (newBlk w2 (.cells #[.int .i64 0, .int .i64 0] 23) _ rfl)
      have HA := Lib.hid (mvAlloc (o := (.cells #[.int .i64 0, .int .i64 0] 23)) HA.out)
      have HB := Lib.hid (mvAlloc (o := (.cells #[.int .i64 0, .int .i64 0] 23)) HB.out)
      have HD := Lib.hid (mvAlloc (o := (.cells #[.int .i64 0, .int .i64 0] 23)) HD.out)
      have HW := Lib.hid (bAlloc (o := (.cells #[.int .i64 0, .int .i64 0] 23)) HW.out)
      clear hK K hg2
      refine wpAnyG_ready (rs := [32]) (by kernel_rfl) (by simp) (AllG.cons rfl (fun w3 hg K hK => ?_) AllG.nil)
      have HA := Lib.hid (grBlk hg HA.out)
      have HB := Lib.hid (grBlk hg HB.out)
      have HC := Lib.hid (grBlk hg HC.out)
      have HD := Lib.hid (grBlk hg HD.out)
      have HW := Lib.hid (HW.out.trans (hg.mono HW.out.size))
      have hS3 := hSG.out _ _ hHeld.out hg
      have x0 := (cells2 HC.out).1.1
      have x1 := (cells2 HC.out).1.2
      have x2 := (cells2 HC.out).2.1
      have x3 := (cells2 HC.out).2.2
      go_simp
      refine hK.out _ _ ⟨(far2 (by omega)).trans hS3.1, (far2 (by omega)).trans hS3.2.1, (far2 (by omega)).trans hS3.2.2.1, (far2 (by omega)).trans hS3.2.2.2⟩ (fun hHeld => ?_)
      have HC := Lib.hid (res2 (x := .int .i64 c.lo) (y := .int .i64 c.hi) HC.out).1
      have HA := Lib.hid (setK (w := w3) (b := w2.heap.size) (x := .int .i64 c.lo) (y := .int .i64 c.hi) HA.out (by omega))
      have HB := Lib.hid (setK (w := w3) (b := w2.heap.size) (x := .int .i64 c.lo) (y := .int .i64 c.hi) HB.out (by omega))
      have HD := Lib.hid (setK (w := w3) (b := w2.heap.size) (x := .int .i64 c.lo) (y := .int .i64 c.hi) HD.out (by omega))
      have HW := Lib.hid (below2 (b := w2.heap.size) (v0 := .int .i64 c.lo) (v1 := .int .i64 c.hi) HW.out (by omega))
      clear hK K hg hS3 x0 x1 x2 x3
      refine wpAnyG_ready (rs := [33]) (by kernel_rfl) (by simp) (AllG.cons rfl (fun w4 hg K hK => ?_) AllG.nil)
      have HA := Lib.hid (grBlk hg HA.out)
      have HB := Lib.hid (grBlk hg HB.out)
      have HC := Lib.hid (grBlk hg HC.out)
      have HD := Lib.hid (grBlk hg HD.out)
      have HW := Lib.hid (HW.out.trans (hg.mono HW.out.size))
      have hS3 := hSG.out _ _ hHeld.out hg
      have x0 := (cells2 HD.out).1.1
      have x1 := (cells2 HD.out).1.2
      have x2 := (cells2 HD.out).2.1
      have x3 := (cells2 HD.out).2.2
      go_simp
      refine hK.out _ _ ⟨(far2 (by omega)).trans hS3.1, (far2 (by omega)).trans hS3.2.1, (far2 (by omega)).trans hS3.2.2.1, (far2 (by omega)).trans hS3.2.2.2⟩ (fun hHeld => ?_)
      have HD := Lib.hid (res2 (x := .int .i64 d.lo) (y := .int .i64 d.hi) HD.out).1
      have HA := Lib.hid (setK (w := w4) (b := w1.heap.size) (x := .int .i64 d.lo) (y := .int .i64 d.hi) HA.out (by omega))
      have HB := Lib.hid (setK (w := w4) (b := w1.heap.size) (x := .int .i64 d.lo) (y := .int .i64 d.hi) HB.out (by omega))
      have HC := Lib.hid (setK (w := w4) (b := w1.heap.size) (x := .int .i64 d.lo) (y := .int .i64 d.hi) HC.out (by omega))
      have HW := Lib.hid (below2 (b := w1.heap.size) (v0 := .int .i64 d.lo) (v1 := .int .i64 d.hi) HW.out (by omega))
      clear hK K hg hS3 x0 x1 x2 x3
      refine wpAnyG_done (by kernel_rfl) (fun w5 hg => ?_) _
      have HA := Lib.hid (grBlk hg HA.out)
      have HB := Lib.hid (grBlk hg HB.out)
      have HC := Lib.hid (grBlk hg HC.out)
      have HD := Lib.hid (grBlk hg HD.out)
      have HW := Lib.hid (HW.out.trans (hg.mono HW.out.size))
      go_wp2
      go_meet
      exact ⟨_, _, rfl, rfl, by omega, by omega, by omega, HA, HB, HC, HD, HW⟩
  case rest => as_aux_lemma =>
    clear HW HA HB
    obtain ⟨bC, bD, rfl, rfl, hCn, hDn, hCD, HA, HB, HC, HD, HW⟩ := hcut
    clear hPi hPk hPm hPn e1 e2 e3 e4
    go_upto_region 5 with fail
    go_cut [16, 17] (fun s1 s2 wx => ∃ bS : Nat, s1 = .pointer (some ⟨bS, 0, none⟩) ∧ s2 = .int .i64 (addM c d).2 ∧ bC < bS ∧ bD < bS ∧ w.heap.size + 2 ≤ bS ∧ Hid (wx.heap[w.heap.size]? = some (.cells #[.int .i64 (a.lo), .int .i64 (a.hi)] 23 (0, 0))) ∧ Hid (wx.heap[w.heap.size + 1]? = some (.cells #[.int .i64 (b.lo), .int .i64 (b.hi)] 23 (0, 0))) ∧ Hid (wx.heap[bC]? = some (.cells #[.int .i64 (c.lo), .int .i64 (c.hi)] 23 (0, 0))) ∧ Hid (wx.heap[bD]? = some (.cells #[.int .i64 (d.lo), .int .i64 (d.hi)] 23 (0, 0))) ∧ Hid (wx.heap[bS]? = some (.cells #[.int .i64 ((addM c d).1.lo), .int .i64 ((addM c d).1.hi)] 23 (0, 0))) ∧ Hid (Below w.heap.size w wx))
    case first => as_aux_lemma =>
      have A0 := (cells2 HA.out).1.1
      have A1 := (cells2 HA.out).1.2
      have A2 := (cells2 HA.out).2.1
      have A3 := (cells2 HA.out).2.2
      have Al := blkLt HA.out
      have B0 := (cells2 HB.out).1.1
      have B1 := (cells2 HB.out).1.2
      have B2 := (cells2 HB.out).2.1
      have B3 := (cells2 HB.out).2.2
      have Bl := blkLt HB.out
      have C0 := (cells2 HC.out).1.1
      have C1 := (cells2 HC.out).1.2
      have C2 := (cells2 HC.out).2.1
      have C3 := (cells2 HC.out).2.2
      have Cl := blkLt HC.out
      have D0 := (cells2 HD.out).1.1
      have D1 := (cells2 HD.out).1.2
      have D2 := (cells2 HD.out).2.1
      have D3 := (cells2 HD.out).2.2
      have Dl := blkLt HD.out
      go_wp2_with (go_at_call 9; refine (Add_any c d _).mono ?_; rintro e wn ⟨rfl, hbn⟩; replace HW := Lib.hid (bCall (by (repeat with_reducible first | exact HW.out | apply bDrew | apply bAlloc)) hbn); replace HA := Lib.hid (moveX (by (repeat with_reducible first | exact Below.refl _ _ | apply bDrew | apply bAlloc)) hbn HA.out); replace HB := Lib.hid (moveX (by (repeat with_reducible first | exact Below.refl _ _ | apply bDrew | apply bAlloc)) hbn HB.out); replace HC := Lib.hid (moveX (by (repeat with_reducible first | exact Below.refl _ _ | apply bDrew | apply bAlloc)) hbn HC.out); replace HD := Lib.hid (moveX (by (repeat with_reducible first | exact Below.refl _ _ | apply bDrew | apply bAlloc)) hbn HD.out); replace A0 := (cells2 HA.out).1.1; replace A1 := (cells2 HA.out).1.2; replace A2 := (cells2 HA.out).2.1; replace A3 := (cells2 HA.out).2.2; replace Al := blkLt HA.out; replace B0 := (cells2 HB.out).1.1; replace B1 := (cells2 HB.out).1.2; replace B2 := (cells2 HB.out).2.1; replace B3 := (cells2 HB.out).2.2; replace Bl := blkLt HB.out; replace C0 := (cells2 HC.out).1.1; replace C1 := (cells2 HC.out).1.2; replace C2 := (cells2 HC.out).2.1; replace C3 := (cells2 HC.out).2.2; replace Cl := blkLt HC.out; replace D0 := (cells2 HD.out).1.1; replace D1 := (cells2 HD.out).1.2; replace D2 := (cells2 HD.out).2.1; replace D3 := (cells2 HD.out).2.2; replace Dl := blkLt HD.out; clear hbn)
      go_meet
      exact ⟨_, rfl, rfl, Cl, Dl, by have := Bl; omega, Lib.hid (mvAlloc HA.out), Lib.hid (mvAlloc HB.out), Lib.hid (mvAlloc HC.out), Lib.hid (mvAlloc HD.out), Lib.hid (newBlk _ _ _ rfl), Lib.hid (bAlloc HW.out)⟩
    case rest => as_aux_lemma =>
      clear HW HA HB HC HD
      obtain ⟨bS, rfl, rfl, hSc, hSd, hSn, HA, HB, HC, HD, HS, HW⟩ := hcut
      go_upto_region 6 with fail
      go_cut [18, 19] (fun s1 s2 wx => ∃ bT : Nat, s1 = .pointer (some ⟨bT, 0, none⟩) ∧ s2 = .int .i64 (addM a b).2 ∧ bC < bT ∧ bD < bT ∧ w.heap.size + 2 ≤ bT ∧ bS < bT ∧ Hid (wx.heap[w.heap.size]? = some (.cells #[.int .i64 (a.lo), .int .i64 (a.hi)] 23 (0, 0))) ∧ Hid (wx.heap[w.heap.size + 1]? = some (.cells #[.int .i64 (b.lo), .int .i64 (b.hi)] 23 (0, 0))) ∧ Hid (wx.heap[bC]? = some (.cells #[.int .i64 (c.lo), .int .i64 (c.hi)] 23 (0, 0))) ∧ Hid (wx.heap[bD]? = some (.cells #[.int .i64 (d.lo), .int .i64 (d.hi)] 23 (0, 0))) ∧ Hid (wx.heap[bS]? = some (.cells #[.int .i64 ((addM c d).1.lo), .int .i64 ((addM c d).1.hi)] 23 (0, 0))) ∧ Hid (wx.heap[bT]? = some (.cells #[.int .i64 ((addM a b).1.lo), .int .i64 ((addM a b).1.hi)] 23 (0, 0))) ∧ Hid (Below w.heap.size w wx))
      case first => as_aux_lemma =>
        have A0 := (cells2 HA.out).1.1
        have A1 := (cells2 HA.out).1.2
        have A2 := (cells2 HA.out).2.1
        have A3 := (cells2 HA.out).2.2
        have Al := blkLt HA.out
        have B0 := (cells2 HB.out).1.1
        have B1 := (cells2 HB.out).1.2
        have B2 := (cells2 HB.out).2.1
        have B3 := (cells2 HB.out).2.2
        have Bl := blkLt HB.out
        have C0 := (cells2 HC.out).1.1
        have C1 := (cells2 HC.out).1.2
        have C2 := (cells2 HC.out).2.1
        have C3 := (cells2 HC.out).2.2
        have Cl := blkLt HC.out
        have D0 := (cells2 HD.out).1.1
        have D1 := (cells2 HD.out).1.2
        have D2 := (cells2 HD.out).2.1
        have D3 := (cells2 HD.out).2.2
        have Dl := blkLt HD.out
        have S0 := (cells2 HS.out).1.1
        have S1 := (cells2 HS.out).1.2
        have S2 := (cells2 HS.out).2.1
        have S3 := (cells2 HS.out).2.2
        have Sl := blkLt HS.out
        go_wp2_with (go_at_call 9; refine (Add_any a b _).mono ?_; rintro e wn ⟨rfl, hbn⟩; replace HW := Lib.hid (bCall (by (repeat with_reducible first | exact HW.out | apply bDrew | apply bAlloc)) hbn); replace HA := Lib.hid (moveX (by (repeat with_reducible first | exact Below.refl _ _ | apply bDrew | apply bAlloc)) hbn HA.out); replace HB := Lib.hid (moveX (by (repeat with_reducible first | exact Below.refl _ _ | apply bDrew | apply bAlloc)) hbn HB.out); replace HC := Lib.hid (moveX (by (repeat with_reducible first | exact Below.refl _ _ | apply bDrew | apply bAlloc)) hbn HC.out); replace HD := Lib.hid (moveX (by (repeat with_reducible first | exact Below.refl _ _ | apply bDrew | apply bAlloc)) hbn HD.out); replace HS := Lib.hid (moveX (by (repeat with_reducible first | exact Below.refl _ _ | apply bDrew | apply bAlloc)) hbn HS.out); replace A0 := (cells2 HA.out).1.1; replace A1 := (cells2 HA.out).1.2; replace A2 := (cells2 HA.out).2.1; replace A3 := (cells2 HA.out).2.2; replace Al := blkLt HA.out; replace B0 := (cells2 HB.out).1.1; replace B1 := (cells2 HB.out).1.2; replace B2 := (cells2 HB.out).2.1; replace B3 := (cells2 HB.out).2.2; replace Bl := blkLt HB.out; replace C0 := (cells2 HC.out).1.1; replace C1 := (cells2 HC.out).1.2; replace C2 := (cells2 HC.out).2.1; replace C3 := (cells2 HC.out).2.2; replace Cl := blkLt HC.out; replace D0 := (cells2 HD.out).1.1; replace D1 := (cells2 HD.out).1.2; replace D2 := (cells2 HD.out).2.1; replace D3 := (cells2 HD.out).2.2; replace Dl := blkLt HD.out; replace S0 := (cells2 HS.out).1.1; replace S1 := (cells2 HS.out).1.2; replace S2 := (cells2 HS.out).2.1; replace S3 := (cells2 HS.out).2.2; replace Sl := blkLt HS.out; clear hbn)
        go_meet
        exact ⟨_, rfl, rfl, Cl, Dl, by have := Bl; omega, Sl, Lib.hid (mvAlloc HA.out), Lib.hid (mvAlloc HB.out), Lib.hid (mvAlloc HC.out), Lib.hid (mvAlloc HD.out), Lib.hid (mvAlloc HS.out), Lib.hid (newBlk _ _ _ rfl), Lib.hid (bAlloc HW.out)⟩
      case rest => as_aux_lemma =>
        clear HW HA HB HC HD HS
        obtain ⟨bT, rfl, rfl, hTc, hTd, hTn, hST, HA, HB, HC, HD, HS, HT, HW⟩ := hcut
        go_upto_region 7 with fail
        go_cut [13] (fun s1 wx => s1 = .bool true ∧ Hid (wx.heap[w.heap.size]? = some (.cells #[.int .i64 (a.lo), .int .i64 (a.hi)] 23 (0, 0))) ∧ Hid (wx.heap[w.heap.size + 1]? = some (.cells #[.int .i64 (b.lo), .int .i64 (b.hi)] 23 (0, 0))) ∧ Hid (wx.heap[bC]? = some (.cells #[.int .i64 (c.lo), .int .i64 (c.hi)] 23 (0, 0))) ∧ Hid (wx.heap[bD]? = some (.cells #[.int .i64 (d.lo), .int .i64 (d.hi)] 23 (0, 0))) ∧ Hid (wx.heap[bS]? = some (.cells #[.int .i64 ((addM c d).1.lo), .int .i64 ((addM c d).1.hi)] 23 (0, 0))) ∧ Hid (wx.heap[bT]? = some (.cells #[.int .i64 ((addM a b).1.lo), .int .i64 ((addM a b).1.hi)] 23 (0, 0))) ∧ Hid (Below w.heap.size w wx))
        case first => as_aux_lemma =>
          have hin := Lib.hid (wi_true (add_wi HH.out.1.1 HH.out.1.2 HH.out.2.1 HH.out.2.2))
          have S0 := (cells2 HS.out).1.1
          have S1 := (cells2 HS.out).1.2
          have S2 := (cells2 HS.out).2.1
          have S3 := (cells2 HS.out).2.2
          have Sl := blkLt HS.out
          have T0 := (cells2 HT.out).1.1
          have T1 := (cells2 HT.out).1.2
          have T2 := (cells2 HT.out).2.1
          have T3 := (cells2 HT.out).2.2
          have Tl := blkLt HT.out
          go_wp2_with (go_at_call 10; refine (hin.out _).mono ?_; rintro e wn ⟨rfl, hbn⟩; replace HW := Lib.hid (bCall (by (repeat with_reducible first | exact HW.out | apply bDrew | apply bAlloc)) hbn); replace HA := Lib.hid (moveX (by (repeat with_reducible first | exact Below.refl _ _ | apply bDrew | apply bAlloc)) hbn HA.out); replace HB := Lib.hid (moveX (by (repeat with_reducible first | exact Below.refl _ _ | apply bDrew | apply bAlloc)) hbn HB.out); replace HC := Lib.hid (moveX (by (repeat with_reducible first | exact Below.refl _ _ | apply bDrew | apply bAlloc)) hbn HC.out); replace HD := Lib.hid (moveX (by (repeat with_reducible first | exact Below.refl _ _ | apply bDrew | apply bAlloc)) hbn HD.out); replace HS := Lib.hid (moveX (by (repeat with_reducible first | exact Below.refl _ _ | apply bDrew | apply bAlloc)) hbn HS.out); replace HT := Lib.hid (moveX (by (repeat with_reducible first | exact Below.refl _ _ | apply bDrew | apply bAlloc)) hbn HT.out); replace S0 := (cells2 HS.out).1.1; replace S1 := (cells2 HS.out).1.2; replace S2 := (cells2 HS.out).2.1; replace S3 := (cells2 HS.out).2.2; replace Sl := blkLt HS.out; replace T0 := (cells2 HT.out).1.1; replace T1 := (cells2 HT.out).1.2; replace T2 := (cells2 HT.out).2.1; replace T3 := (cells2 HT.out).2.2; replace Tl := blkLt HT.out; clear hbn)
          go_meet
          exact ⟨rfl, HA, HB, HC, HD, HS, HT, HW⟩
        case rest => as_aux_lemma =>
          clear HW HA HB HC HD HS HT
          obtain ⟨rfl, HA, HB, HC, HD, HS, HT, HW⟩ := hcut
          go_upto_region 8 with fail
          go_cut [17] (fun s2 wx => s2 = .int .i64 (subM c d).2 ∧ Hid (wx.heap[w.heap.size]? = some (.cells #[.int .i64 (a.lo), .int .i64 (a.hi)] 23 (0, 0))) ∧ Hid (wx.heap[w.heap.size + 1]? = some (.cells #[.int .i64 (b.lo), .int .i64 (b.hi)] 23 (0, 0))) ∧ Hid (wx.heap[bC]? = some (.cells #[.int .i64 (c.lo), .int .i64 (c.hi)] 23 (0, 0))) ∧ Hid (wx.heap[bD]? = some (.cells #[.int .i64 (d.lo), .int .i64 (d.hi)] 23 (0, 0))) ∧ Hid (wx.heap[bS]? = some (.cells #[.int .i64 ((subM c d).1.lo), .int .i64 ((subM c d).1.hi)] 23 (0, 0))) ∧ Hid (wx.heap[bT]? = some (.cells #[.int .i64 ((addM a b).1.lo), .int .i64 ((addM a b).1.hi)] 23 (0, 0))) ∧ Hid (Below w.heap.size w wx))
          case first => as_aux_lemma =>
            have A0 := (cells2 HA.out).1.1
            have A1 := (cells2 HA.out).1.2
            have A2 := (cells2 HA.out).2.1
            have A3 := (cells2 HA.out).2.2
            have Al := blkLt HA.out
            have B0 := (cells2 HB.out).1.1
            have B1 := (cells2 HB.out).1.2
            have B2 := (cells2 HB.out).2.1
            have B3 := (cells2 HB.out).2.2
            have Bl := blkLt HB.out
            have C0 := (cells2 HC.out).1.1
            have C1 := (cells2 HC.out).1.2
            have C2 := (cells2 HC.out).2.1
            have C3 := (cells2 HC.out).2.2
            have Cl := blkLt HC.out
            have D0 := (cells2 HD.out).1.1
            have D1 := (cells2 HD.out).1.2
            have D2 := (cells2 HD.out).2.1
            have D3 := (cells2 HD.out).2.2
            have Dl := blkLt HD.out
            have S0 := (cells2 HS.out).1.1
            have S1 := (cells2 HS.out).1.2
            have S2 := (cells2 HS.out).2.1
            have S3 := (cells2 HS.out).2.2
            have Sl := blkLt HS.out
            have T0 := (cells2 HT.out).1.1
            have T1 := (cells2 HT.out).1.2
            have T2 := (cells2 HT.out).2.1
            have T3 := (cells2 HT.out).2.2
            have Tl := blkLt HT.out
            go_wp2_with (go_at_call 11; refine (Sub_any c d _).mono ?_; rintro e wn ⟨rfl, hbn⟩; replace HW := Lib.hid (bCall (by (repeat with_reducible first | exact HW.out | apply bDrew | apply bAlloc)) hbn); replace HA := Lib.hid (moveX (by (repeat with_reducible first | exact Below.refl _ _ | apply bDrew | apply bAlloc)) hbn HA.out); replace HB := Lib.hid (moveX (by (repeat with_reducible first | exact Below.refl _ _ | apply bDrew | apply bAlloc)) hbn HB.out); replace HC := Lib.hid (moveX (by (repeat with_reducible first | exact Below.refl _ _ | apply bDrew | apply bAlloc)) hbn HC.out); replace HD := Lib.hid (moveX (by (repeat with_reducible first | exact Below.refl _ _ | apply bDrew | apply bAlloc)) hbn HD.out); replace HS := Lib.hid (moveX (by (repeat with_reducible first | exact Below.refl _ _ | apply bDrew | apply bAlloc)) hbn HS.out); replace HT := Lib.hid (moveX (by (repeat with_reducible first | exact Below.refl _ _ | apply bDrew | apply bAlloc)) hbn HT.out); replace A0 := (cells2 HA.out).1.1; replace A1 := (cells2 HA.out).1.2; replace A2 := (cells2 HA.out).2.1; replace A3 := (cells2 HA.out).2.2; replace Al := blkLt HA.out; replace B0 := (cells2 HB.out).1.1; replace B1 := (cells2 HB.out).1.2; replace B2 := (cells2 HB.out).2.1; replace B3 := (cells2 HB.out).2.2; replace Bl := blkLt HB.out; replace C0 := (cells2 HC.out).1.1; replace C1 := (cells2 HC.out).1.2; replace C2 := (cells2 HC.out).2.1; replace C3 := (cells2 HC.out).2.2; replace Cl := blkLt HC.out; replace D0 := (cells2 HD.out).1.1; replace D1 := (cells2 HD.out).1.2; replace D2 := (cells2 HD.out).2.1; replace D3 := (cells2 HD.out).2.2; replace Dl := blkLt HD.out; replace S0 := (cells2 HS.out).1.1; replace S1 := (cells2 HS.out).1.2; replace S2 := (cells2 HS.out).2.1; replace S3 := (cells2 HS.out).2.2; replace Sl := blkLt HS.out; replace T0 := (cells2 HT.out).1.1; replace T1 := (cells2 HT.out).1.2; replace T2 := (cells2 HT.out).2.1; replace T3 := (cells2 HT.out).2.2; replace Tl := blkLt HT.out; clear hbn)
            go_meet
            exact ⟨rfl, Lib.hid (setK HA.out (by omega)), Lib.hid (setK HB.out (by omega)), Lib.hid (setK HC.out (by omega)), Lib.hid (setK HD.out (by omega)), Lib.hid (res2 HS.out).1, Lib.hid (setK HT.out (by omega)), Lib.hid (below2 HW.out (by omega))⟩
          case rest => as_aux_lemma =>
            clear HW HA HB HC HD HS HT
            obtain ⟨rfl, HA, HB, HC, HD, HS, HT, HW⟩ := hcut
            go_upto_region 9 with fail
            go_cut [19] (fun s2 wx => s2 = .int .i64 (subM a b).2 ∧ Hid (wx.heap[w.heap.size]? = some (.cells #[.int .i64 (a.lo), .int .i64 (a.hi)] 23 (0, 0))) ∧ Hid (wx.heap[w.heap.size + 1]? = some (.cells #[.int .i64 (b.lo), .int .i64 (b.hi)] 23 (0, 0))) ∧ Hid (wx.heap[bC]? = some (.cells #[.int .i64 (c.lo), .int .i64 (c.hi)] 23 (0, 0))) ∧ Hid (wx.heap[bD]? = some (.cells #[.int .i64 (d.lo), .int .i64 (d.hi)] 23 (0, 0))) ∧ Hid (wx.heap[bS]? = some (.cells #[.int .i64 ((subM c d).1.lo), .int .i64 ((subM c d).1.hi)] 23 (0, 0))) ∧ Hid (wx.heap[bT]? = some (.cells #[.int .i64 ((subM a b).1.lo), .int .i64 ((subM a b).1.hi)] 23 (0, 0))) ∧ Hid (Below w.heap.size w wx))
            case first => as_aux_lemma =>
              have A0 := (cells2 HA.out).1.1
              have A1 := (cells2 HA.out).1.2
              have A2 := (cells2 HA.out).2.1
              have A3 := (cells2 HA.out).2.2
              have Al := blkLt HA.out
              have B0 := (cells2 HB.out).1.1
              have B1 := (cells2 HB.out).1.2
              have B2 := (cells2 HB.out).2.1
              have B3 := (cells2 HB.out).2.2
              have Bl := blkLt HB.out
              have C0 := (cells2 HC.out).1.1
              have C1 := (cells2 HC.out).1.2
              have C2 := (cells2 HC.out).2.1
              have C3 := (cells2 HC.out).2.2
              have Cl := blkLt HC.out
              have D0 := (cells2 HD.out).1.1
              have D1 := (cells2 HD.out).1.2
              have D2 := (cells2 HD.out).2.1
              have D3 := (cells2 HD.out).2.2
              have Dl := blkLt HD.out
              have S0 := (cells2 HS.out).1.1
              have S1 := (cells2 HS.out).1.2
              have S2 := (cells2 HS.out).2.1
              have S3 := (cells2 HS.out).2.2
              have Sl := blkLt HS.out
              have T0 := (cells2 HT.out).1.1
              have T1 := (cells2 HT.out).1.2
              have T2 := (cells2 HT.out).2.1
              have T3 := (cells2 HT.out).2.2
              have Tl := blkLt HT.out
              go_wp2_with (go_at_call 11; refine (Sub_any a b _).mono ?_; rintro e wn ⟨rfl, hbn⟩; replace HW := Lib.hid (bCall (by (repeat with_reducible first | exact HW.out | apply bDrew | apply bAlloc)) hbn); replace HA := Lib.hid (moveX (by (repeat with_reducible first | exact Below.refl _ _ | apply bDrew | apply bAlloc)) hbn HA.out); replace HB := Lib.hid (moveX (by (repeat with_reducible first | exact Below.refl _ _ | apply bDrew | apply bAlloc)) hbn HB.out); replace HC := Lib.hid (moveX (by (repeat with_reducible first | exact Below.refl _ _ | apply bDrew | apply bAlloc)) hbn HC.out); replace HD := Lib.hid (moveX (by (repeat with_reducible first | exact Below.refl _ _ | apply bDrew | apply bAlloc)) hbn HD.out); replace HS := Lib.hid (moveX (by (repeat with_reducible first | exact Below.refl _ _ | apply bDrew | apply bAlloc)) hbn HS.out); replace HT := Lib.hid (moveX (by (repeat with_reducible first | exact Below.refl _ _ | apply bDrew | apply bAlloc)) hbn HT.out); replace A0 := (cells2 HA.out).1.1; replace A1 := (cells2 HA.out).1.2; replace A2 := (cells2 HA.out).2.1; replace A3 := (cells2 HA.out).2.2; replace Al := blkLt HA.out; replace B0 := (cells2 HB.out).1.1; replace B1 := (cells2 HB.out).1.2; replace B2 := (cells2 HB.out).2.1; replace B3 := (cells2 HB.out).2.2; replace Bl := blkLt HB.out; replace C0 := (cells2 HC.out).1.1; replace C1 := (cells2 HC.out).1.2; replace C2 := (cells2 HC.out).2.1; replace C3 := (cells2 HC.out).2.2; replace Cl := blkLt HC.out; replace D0 := (cells2 HD.out).1.1; replace D1 := (cells2 HD.out).1.2; replace D2 := (cells2 HD.out).2.1; replace D3 := (cells2 HD.out).2.2; replace Dl := blkLt HD.out; replace S0 := (cells2 HS.out).1.1; replace S1 := (cells2 HS.out).1.2; replace S2 := (cells2 HS.out).2.1; replace S3 := (cells2 HS.out).2.2; replace Sl := blkLt HS.out; replace T0 := (cells2 HT.out).1.1; replace T1 := (cells2 HT.out).1.2; replace T2 := (cells2 HT.out).2.1; replace T3 := (cells2 HT.out).2.2; replace Tl := blkLt HT.out; clear hbn)
              go_meet
              exact ⟨rfl, Lib.hid (setK HA.out (by omega)), Lib.hid (setK HB.out (by omega)), Lib.hid (setK HC.out (by omega)), Lib.hid (setK HD.out (by omega)), Lib.hid (setK HS.out (by omega)), Lib.hid (res2 HT.out).1, Lib.hid (below2 HW.out (by omega))⟩
            case rest => as_aux_lemma =>
              clear HW HA HB HC HD HS HT
              obtain ⟨rfl, HA, HB, HC, HD, HS, HT, HW⟩ := hcut
              go_upto_region 10 with fail
              go_cut [13] (fun s1 wx => s1 = .bool true ∧ Hid (wx.heap[w.heap.size]? = some (.cells #[.int .i64 (a.lo), .int .i64 (a.hi)] 23 (0, 0))) ∧ Hid (wx.heap[w.heap.size + 1]? = some (.cells #[.int .i64 (b.lo), .int .i64 (b.hi)] 23 (0, 0))) ∧ Hid (wx.heap[bC]? = some (.cells #[.int .i64 (c.lo), .int .i64 (c.hi)] 23 (0, 0))) ∧ Hid (wx.heap[bD]? = some (.cells #[.int .i64 (d.lo), .int .i64 (d.hi)] 23 (0, 0))) ∧ Hid (wx.heap[bS]? = some (.cells #[.int .i64 ((subM c d).1.lo), .int .i64 ((subM c d).1.hi)] 23 (0, 0))) ∧ Hid (wx.heap[bT]? = some (.cells #[.int .i64 ((subM a b).1.lo), .int .i64 ((subM a b).1.hi)] 23 (0, 0))) ∧ Hid (Below w.heap.size w wx))
              case first => as_aux_lemma =>
                have hin := Lib.hid (wi_true (sub_wi HH.out.1.1 HH.out.1.2 HH.out.2.1 HH.out.2.2))
                have S0 := (cells2 HS.out).1.1
                have S1 := (cells2 HS.out).1.2
                have S2 := (cells2 HS.out).2.1
                have S3 := (cells2 HS.out).2.2
                have Sl := blkLt HS.out
                have T0 := (cells2 HT.out).1.1
                have T1 := (cells2 HT.out).1.2
                have T2 := (cells2 HT.out).2.1
                have T3 := (cells2 HT.out).2.2
                have Tl := blkLt HT.out
                go_wp2_with (go_at_call 10; refine (hin.out _).mono ?_; rintro e wn ⟨rfl, hbn⟩; replace HW := Lib.hid (bCall (by (repeat with_reducible first | exact HW.out | apply bDrew | apply bAlloc)) hbn); replace HA := Lib.hid (moveX (by (repeat with_reducible first | exact Below.refl _ _ | apply bDrew | apply bAlloc)) hbn HA.out); replace HB := Lib.hid (moveX (by (repeat with_reducible first | exact Below.refl _ _ | apply bDrew | apply bAlloc)) hbn HB.out); replace HC := Lib.hid (moveX (by (repeat with_reducible first | exact Below.refl _ _ | apply bDrew | apply bAlloc)) hbn HC.out); replace HD := Lib.hid (moveX (by (repeat with_reducible first | exact Below.refl _ _ | apply bDrew | apply bAlloc)) hbn HD.out); replace HS := Lib.hid (moveX (by (repeat with_reducible first | exact Below.refl _ _ | apply bDrew | apply bAlloc)) hbn HS.out); replace HT := Lib.hid (moveX (by (repeat with_reducible first | exact Below.refl _ _ | apply bDrew | apply bAlloc)) hbn HT.out); replace S0 := (cells2 HS.out).1.1; replace S1 := (cells2 HS.out).1.2; replace S2 := (cells2 HS.out).2.1; replace S3 := (cells2 HS.out).2.2; replace Sl := blkLt HS.out; replace T0 := (cells2 HT.out).1.1; replace T1 := (cells2 HT.out).1.2; replace T2 := (cells2 HT.out).2.1; replace T3 := (cells2 HT.out).2.2; replace Tl := blkLt HT.out; clear hbn)
                go_meet
                exact ⟨rfl, HA, HB, HC, HD, HS, HT, HW⟩
              case rest => as_aux_lemma =>
                clear HW HA HB HC HD HS HT
                obtain ⟨rfl, HA, HB, HC, HD, HS, HT, HW⟩ := hcut
                go_upto_region 11 with fail
                go_cut [17] (fun s2 wx => s2 = .int .i64 (mulM c d).2 ∧ Hid (wx.heap[w.heap.size]? = some (.cells #[.int .i64 (a.lo), .int .i64 (a.hi)] 23 (0, 0))) ∧ Hid (wx.heap[w.heap.size + 1]? = some (.cells #[.int .i64 (b.lo), .int .i64 (b.hi)] 23 (0, 0))) ∧ Hid (wx.heap[bC]? = some (.cells #[.int .i64 (c.lo), .int .i64 (c.hi)] 23 (0, 0))) ∧ Hid (wx.heap[bD]? = some (.cells #[.int .i64 (d.lo), .int .i64 (d.hi)] 23 (0, 0))) ∧ Hid (wx.heap[bS]? = some (.cells #[.int .i64 ((mulM c d).1.lo), .int .i64 ((mulM c d).1.hi)] 23 (0, 0))) ∧ Hid (wx.heap[bT]? = some (.cells #[.int .i64 ((subM a b).1.lo), .int .i64 ((subM a b).1.hi)] 23 (0, 0))) ∧ Hid (Below w.heap.size w wx))
                case first => as_aux_lemma =>
                  have A0 := (cells2 HA.out).1.1
                  have A1 := (cells2 HA.out).1.2
                  have A2 := (cells2 HA.out).2.1
                  have A3 := (cells2 HA.out).2.2
                  have Al := blkLt HA.out
                  have B0 := (cells2 HB.out).1.1
                  have B1 := (cells2 HB.out).1.2
                  have B2 := (cells2 HB.out).2.1
                  have B3 := (cells2 HB.out).2.2
                  have Bl := blkLt HB.out
                  have C0 := (cells2 HC.out).1.1
                  have C1 := (cells2 HC.out).1.2
                  have C2 := (cells2 HC.out).2.1
                  have C3 := (cells2 HC.out).2.2
                  have Cl := blkLt HC.out
                  have D0 := (cells2 HD.out).1.1
                  have D1 := (cells2 HD.out).1.2
                  have D2 := (cells2 HD.out).2.1
                  have D3 := (cells2 HD.out).2.2
                  have Dl := blkLt HD.out
                  have S0 := (cells2 HS.out).1.1
                  have S1 := (cells2 HS.out).1.2
                  have S2 := (cells2 HS.out).2.1
                  have S3 := (cells2 HS.out).2.2
                  have Sl := blkLt HS.out
                  have T0 := (cells2 HT.out).1.1
                  have T1 := (cells2 HT.out).1.2
                  have T2 := (cells2 HT.out).2.1
                  have T3 := (cells2 HT.out).2.2
                  have Tl := blkLt HT.out
                  go_wp2_with (go_at_call 12; refine (Mul_any c d _).mono ?_; rintro e wn ⟨rfl, hbn⟩; replace HW := Lib.hid (bCall (by (repeat with_reducible first | exact HW.out | apply bDrew | apply bAlloc)) hbn); replace HA := Lib.hid (moveX (by (repeat with_reducible first | exact Below.refl _ _ | apply bDrew | apply bAlloc)) hbn HA.out); replace HB := Lib.hid (moveX (by (repeat with_reducible first | exact Below.refl _ _ | apply bDrew | apply bAlloc)) hbn HB.out); replace HC := Lib.hid (moveX (by (repeat with_reducible first | exact Below.refl _ _ | apply bDrew | apply bAlloc)) hbn HC.out); replace HD := Lib.hid (moveX (by (repeat with_reducible first | exact Below.refl _ _ | apply bDrew | apply bAlloc)) hbn HD.out); replace HS := Lib.hid (moveX (by (repeat with_reducible first | exact Below.refl _ _ | apply bDrew | apply bAlloc)) hbn HS.out); replace HT := Lib.hid (moveX (by (repeat with_reducible first | exact Below.refl _ _ | apply bDrew | apply bAlloc)) hbn HT.out); replace A0 := (cells2 HA.out).1.1; replace A1 := (cells2 HA.out).1.2; replace A2 := (cells2 HA.out).2.1; replace A3 := (cells2 HA.out).2.2; replace Al := blkLt HA.out; replace B0 := (cells2 HB.out).1.1; replace B1 := (cells2 HB.out).1.2; replace B2 := (cells2 HB.out).2.1; replace B3 := (cells2 HB.out).2.2; replace Bl := blkLt HB.out; replace C0 := (cells2 HC.out).1.1; replace C1 := (cells2 HC.out).1.2; replace C2 := (cells2 HC.out).2.1; replace C3 := (cells2 HC.out).2.2; replace Cl := blkLt HC.out; replace D0 := (cells2 HD.out).1.1; replace D1 := (cells2 HD.out).1.2; replace D2 := (cells2 HD.out).2.1; replace D3 := (cells2 HD.out).2.2; replace Dl := blkLt HD.out; replace S0 := (cells2 HS.out).1.1; replace S1 := (cells2 HS.out).1.2; replace S2 := (cells2 HS.out).2.1; replace S3 := (cells2 HS.out).2.2; replace Sl := blkLt HS.out; replace T0 := (cells2 HT.out).1.1; replace T1 := (cells2 HT.out).1.2; replace T2 := (cells2 HT.out).2.1; replace T3 := (cells2 HT.out).2.2; replace Tl := blkLt HT.out; clear hbn)
                  go_meet
                  exact ⟨rfl, Lib.hid (setK HA.out (by omega)), Lib.hid (setK HB.out (by omega)), Lib.hid (setK HC.out (by omega)), Lib.hid (setK HD.out (by omega)), Lib.hid (res2 HS.out).1, Lib.hid (setK HT.out (by omega)), Lib.hid (below2 HW.out (by omega))⟩
                case rest => as_aux_lemma =>
                  clear HW HA HB HC HD HS HT
                  obtain ⟨rfl, HA, HB, HC, HD, HS, HT, HW⟩ := hcut
                  go_upto_region 12 with fail
                  go_cut [19] (fun s2 wx => s2 = .int .i64 (mulM a b).2 ∧ Hid (wx.heap[w.heap.size]? = some (.cells #[.int .i64 (a.lo), .int .i64 (a.hi)] 23 (0, 0))) ∧ Hid (wx.heap[w.heap.size + 1]? = some (.cells #[.int .i64 (b.lo), .int .i64 (b.hi)] 23 (0, 0))) ∧ Hid (wx.heap[bC]? = some (.cells #[.int .i64 (c.lo), .int .i64 (c.hi)] 23 (0, 0))) ∧ Hid (wx.heap[bD]? = some (.cells #[.int .i64 (d.lo), .int .i64 (d.hi)] 23 (0, 0))) ∧ Hid (wx.heap[bS]? = some (.cells #[.int .i64 ((mulM c d).1.lo), .int .i64 ((mulM c d).1.hi)] 23 (0, 0))) ∧ Hid (wx.heap[bT]? = some (.cells #[.int .i64 ((mulM a b).1.lo), .int .i64 ((mulM a b).1.hi)] 23 (0, 0))) ∧ Hid (Below w.heap.size w wx))
                  case first => as_aux_lemma =>
                    have A0 := (cells2 HA.out).1.1
                    have A1 := (cells2 HA.out).1.2
                    have A2 := (cells2 HA.out).2.1
                    have A3 := (cells2 HA.out).2.2
                    have Al := blkLt HA.out
                    have B0 := (cells2 HB.out).1.1
                    have B1 := (cells2 HB.out).1.2
                    have B2 := (cells2 HB.out).2.1
                    have B3 := (cells2 HB.out).2.2
                    have Bl := blkLt HB.out
                    have C0 := (cells2 HC.out).1.1
                    have C1 := (cells2 HC.out).1.2
                    have C2 := (cells2 HC.out).2.1
                    have C3 := (cells2 HC.out).2.2
                    have Cl := blkLt HC.out
                    have D0 := (cells2 HD.out).1.1
                    have D1 := (cells2 HD.out).1.2
                    have D2 := (cells2 HD.out).2.1
                    have D3 := (cells2 HD.out).2.2
                    have Dl := blkLt HD.out
                    have S0 := (cells2 HS.out).1.1
                    have S1 := (cells2 HS.out).1.2
                    have S2 := (cells2 HS.out).2.1
                    have S3 := (cells2 HS.out).2.2
                    have Sl := blkLt HS.out
                    have T0 := (cells2 HT.out).1.1
                    have T1 := (cells2 HT.out).1.2
                    have T2 := (cells2 HT.out).2.1
                    have T3 := (cells2 HT.out).2.2
                    have Tl := blkLt HT.out
                    go_wp2_with (go_at_call 12; refine (Mul_any a b _).mono ?_; rintro e wn ⟨rfl, hbn⟩; replace HW := Lib.hid (bCall (by (repeat with_reducible first | exact HW.out | apply bDrew | apply bAlloc)) hbn); replace HA := Lib.hid (moveX (by (repeat with_reducible first | exact Below.refl _ _ | apply bDrew | apply bAlloc)) hbn HA.out); replace HB := Lib.hid (moveX (by (repeat with_reducible first | exact Below.refl _ _ | apply bDrew | apply bAlloc)) hbn HB.out); replace HC := Lib.hid (moveX (by (repeat with_reducible first | exact Below.refl _ _ | apply bDrew | apply bAlloc)) hbn HC.out); replace HD := Lib.hid (moveX (by (repeat with_reducible first | exact Below.refl _ _ | apply bDrew | apply bAlloc)) hbn HD.out); replace HS := Lib.hid (moveX (by (repeat with_reducible first | exact Below.refl _ _ | apply bDrew | apply bAlloc)) hbn HS.out); replace HT := Lib.hid (moveX (by (repeat with_reducible first | exact Below.refl _ _ | apply bDrew | apply bAlloc)) hbn HT.out); replace A0 := (cells2 HA.out).1.1; replace A1 := (cells2 HA.out).1.2; replace A2 := (cells2 HA.out).2.1; replace A3 := (cells2 HA.out).2.2; replace Al := blkLt HA.out; replace B0 := (cells2 HB.out).1.1; replace B1 := (cells2 HB.out).1.2; replace B2 := (cells2 HB.out).2.1; replace B3 := (cells2 HB.out).2.2; replace Bl := blkLt HB.out; replace C0 := (cells2 HC.out).1.1; replace C1 := (cells2 HC.out).1.2; replace C2 := (cells2 HC.out).2.1; replace C3 := (cells2 HC.out).2.2; replace Cl := blkLt HC.out; replace D0 := (cells2 HD.out).1.1; replace D1 := (cells2 HD.out).1.2; replace D2 := (cells2 HD.out).2.1; replace D3 := (cells2 HD.out).2.2; replace Dl := blkLt HD.out; replace S0 := (cells2 HS.out).1.1; replace S1 := (cells2 HS.out).1.2; replace S2 := (cells2 HS.out).2.1; replace S3 := (cells2 HS.out).2.2; replace Sl := blkLt HS.out; replace T0 := (cells2 HT.out).1.1; replace T1 := (cells2 HT.out).1.2; replace T2 := (cells2 HT.out).2.1; replace T3 := (cells2 HT.out).2.2; replace Tl := blkLt HT.out; clear hbn)
                    go_meet
                    exact ⟨rfl, Lib.hid (setK HA.out (by omega)), Lib.hid (setK HB.out (by omega)), Lib.hid (setK HC.out (by omega)), Lib.hid (setK HD.out (by omega)), Lib.hid (setK HS.out (by omega)), Lib.hid (res2 HT.out).1, Lib.hid (below2 HW.out (by omega))⟩
                  case rest => as_aux_lemma =>
                    clear HW HA HB HC HD HS HT
                    obtain ⟨rfl, HA, HB, HC, HD, HS, HT, HW⟩ := hcut
                    go_upto_region 13 with fail
                    go_cut [13] (fun s1 wx => s1 = .bool true ∧ Hid (wx.heap[w.heap.size]? = some (.cells #[.int .i64 (a.lo), .int .i64 (a.hi)] 23 (0, 0))) ∧ Hid (wx.heap[w.heap.size + 1]? = some (.cells #[.int .i64 (b.lo), .int .i64 (b.hi)] 23 (0, 0))) ∧ Hid (wx.heap[bC]? = some (.cells #[.int .i64 (c.lo), .int .i64 (c.hi)] 23 (0, 0))) ∧ Hid (wx.heap[bD]? = some (.cells #[.int .i64 (d.lo), .int .i64 (d.hi)] 23 (0, 0))) ∧ Hid (wx.heap[bS]? = some (.cells #[.int .i64 ((mulM c d).1.lo), .int .i64 ((mulM c d).1.hi)] 23 (0, 0))) ∧ Hid (wx.heap[bT]? = some (.cells #[.int .i64 ((mulM a b).1.lo), .int .i64 ((mulM a b).1.hi)] 23 (0, 0))) ∧ Hid (Below w.heap.size w wx))
                    case first => as_aux_lemma =>
                      have hin := Lib.hid (wi_true (mul_wi HH.out.1.1 HH.out.1.2 HH.out.2.1 HH.out.2.2))
                      have S0 := (cells2 HS.out).1.1
                      have S1 := (cells2 HS.out).1.2
                      have S2 := (cells2 HS.out).2.1
                      have S3 := (cells2 HS.out).2.2
                      have Sl := blkLt HS.out
                      have T0 := (cells2 HT.out).1.1
                      have T1 := (cells2 HT.out).1.2
                      have T2 := (cells2 HT.out).2.1
                      have T3 := (cells2 HT.out).2.2
                      have Tl := blkLt HT.out
                      go_wp2_with (go_at_call 10; refine (hin.out _).mono ?_; rintro e wn ⟨rfl, hbn⟩; replace HW := Lib.hid (bCall (by (repeat with_reducible first | exact HW.out | apply bDrew | apply bAlloc)) hbn); replace HA := Lib.hid (moveX (by (repeat with_reducible first | exact Below.refl _ _ | apply bDrew | apply bAlloc)) hbn HA.out); replace HB := Lib.hid (moveX (by (repeat with_reducible first | exact Below.refl _ _ | apply bDrew | apply bAlloc)) hbn HB.out); replace HC := Lib.hid (moveX (by (repeat with_reducible first | exact Below.refl _ _ | apply bDrew | apply bAlloc)) hbn HC.out); replace HD := Lib.hid (moveX (by (repeat with_reducible first | exact Below.refl _ _ | apply bDrew | apply bAlloc)) hbn HD.out); replace HS := Lib.hid (moveX (by (repeat with_reducible first | exact Below.refl _ _ | apply bDrew | apply bAlloc)) hbn HS.out); replace HT := Lib.hid (moveX (by (repeat with_reducible first | exact Below.refl _ _ | apply bDrew | apply bAlloc)) hbn HT.out); replace S0 := (cells2 HS.out).1.1; replace S1 := (cells2 HS.out).1.2; replace S2 := (cells2 HS.out).2.1; replace S3 := (cells2 HS.out).2.2; replace Sl := blkLt HS.out; replace T0 := (cells2 HT.out).1.1; replace T1 := (cells2 HT.out).1.2; replace T2 := (cells2 HT.out).2.1; replace T3 := (cells2 HT.out).2.2; replace Tl := blkLt HT.out; clear hbn)
                      go_meet
                      exact ⟨rfl, HA, HB, HC, HD, HS, HT, HW⟩
                    case rest => as_aux_lemma =>
                      clear HW HA HB HC HD HS HT
                      obtain ⟨rfl, HA, HB, HC, HD, HS, HT, HW⟩ := hcut
                      go_upto_region 14 with fail
                      go_cut [17] (fun s2 wx => s2 = .int .i64 (dvM c d).2 ∧ Hid (wx.heap[w.heap.size]? = some (.cells #[.int .i64 (a.lo), .int .i64 (a.hi)] 23 (0, 0))) ∧ Hid (wx.heap[w.heap.size + 1]? = some (.cells #[.int .i64 (b.lo), .int .i64 (b.hi)] 23 (0, 0))) ∧ Hid (wx.heap[bC]? = some (.cells #[.int .i64 (c.lo), .int .i64 (c.hi)] 23 (0, 0))) ∧ Hid (wx.heap[bD]? = some (.cells #[.int .i64 (d.lo), .int .i64 (d.hi)] 23 (0, 0))) ∧ Hid (wx.heap[bS]? = some (.cells #[.int .i64 ((dvM c d).1.lo), .int .i64 ((dvM c d).1.hi)] 23 (0, 0))) ∧ Hid (wx.heap[bT]? = some (.cells #[.int .i64 ((mulM a b).1.lo), .int .i64 ((mulM a b).1.hi)] 23 (0, 0))) ∧ Hid (Below w.heap.size w wx))
                      case first => as_aux_lemma =>
                        have A0 := (cells2 HA.out).1.1
                        have A1 := (cells2 HA.out).1.2
                        have A2 := (cells2 HA.out).2.1
                        have A3 := (cells2 HA.out).2.2
                        have Al := blkLt HA.out
                        have B0 := (cells2 HB.out).1.1
                        have B1 := (cells2 HB.out).1.2
                        have B2 := (cells2 HB.out).2.1
                        have B3 := (cells2 HB.out).2.2
                        have Bl := blkLt HB.out
                        have C0 := (cells2 HC.out).1.1
                        have C1 := (cells2 HC.out).1.2
                        have C2 := (cells2 HC.out).2.1
                        have C3 := (cells2 HC.out).2.2
                        have Cl := blkLt HC.out
                        have D0 := (cells2 HD.out).1.1
                        have D1 := (cells2 HD.out).1.2
                        have D2 := (cells2 HD.out).2.1
                        have D3 := (cells2 HD.out).2.2
                        have Dl := blkLt HD.out
                        have S0 := (cells2 HS.out).1.1
                        have S1 := (cells2 HS.out).1.2
                        have S2 := (cells2 HS.out).2.1
                        have S3 := (cells2 HS.out).2.2
                        have Sl := blkLt HS.out
                        have T0 := (cells2 HT.out).1.1
                        have T1 := (cells2 HT.out).1.2
                        have T2 := (cells2 HT.out).2.1
                        have T3 := (cells2 HT.out).2.2
                        have Tl := blkLt HT.out
                        go_wp2_with (go_at_call 13; refine (Div_any c d _).mono ?_; rintro e wn ⟨rfl, hbn⟩; replace HW := Lib.hid (bCall (by (repeat with_reducible first | exact HW.out | apply bDrew | apply bAlloc)) hbn); replace HA := Lib.hid (moveX (by (repeat with_reducible first | exact Below.refl _ _ | apply bDrew | apply bAlloc)) hbn HA.out); replace HB := Lib.hid (moveX (by (repeat with_reducible first | exact Below.refl _ _ | apply bDrew | apply bAlloc)) hbn HB.out); replace HC := Lib.hid (moveX (by (repeat with_reducible first | exact Below.refl _ _ | apply bDrew | apply bAlloc)) hbn HC.out); replace HD := Lib.hid (moveX (by (repeat with_reducible first | exact Below.refl _ _ | apply bDrew | apply bAlloc)) hbn HD.out); replace HS := Lib.hid (moveX (by (repeat with_reducible first | exact Below.refl _ _ | apply bDrew | apply bAlloc)) hbn HS.out); replace HT := Lib.hid (moveX (by (repeat with_reducible first | exact Below.refl _ _ | apply bDrew | apply bAlloc)) hbn HT.out); replace A0 := (cells2 HA.out).1.1; replace A1 := (cells2 HA.out).1.2; replace A2 := (cells2 HA.out).2.1; replace A3 := (cells2 HA.out).2.2; replace Al := blkLt HA.out; replace B0 := (cells2 HB.out).1.1; replace B1 := (cells2 HB.out).1.2; replace B2 := (cells2 HB.out).2.1; replace B3 := (cells2 HB.out).2.2; replace Bl := blkLt HB.out; replace C0 := (cells2 HC.out).1.1; replace C1 := (cells2 HC.out).1.2; replace C2 := (cells2 HC.out).2.1; replace C3 := (cells2 HC.out).2.2; replace Cl := blkLt HC.out; replace D0 := (cells2 HD.out).1.1; replace D1 := (cells2 HD.out).1.2; replace D2 := (cells2 HD.out).2.1; replace D3 := (cells2 HD.out).2.2; replace Dl := blkLt HD.out; replace S0 := (cells2 HS.out).1.1; replace S1 := (cells2 HS.out).1.2; replace S2 := (cells2 HS.out).2.1; replace S3 := (cells2 HS.out).2.2; replace Sl := blkLt HS.out; replace T0 := (cells2 HT.out).1.1; replace T1 := (cells2 HT.out).1.2; replace T2 := (cells2 HT.out).2.1; replace T3 := (cells2 HT.out).2.2; replace Tl := blkLt HT.out; clear hbn)
                        go_meet
                        exact ⟨rfl, Lib.hid (setK HA.out (by omega)), Lib.hid (setK HB.out (by omega)), Lib.hid (setK HC.out (by omega)), Lib.hid (setK HD.out (by omega)), Lib.hid (res2 HS.out).1, Lib.hid (setK HT.out (by omega)), Lib.hid (below2 HW.out (by omega))⟩
                      case rest => as_aux_lemma =>
                        clear HW HA HB HC HD HS HT
                        obtain ⟨rfl, HA, HB, HC, HD, HS, HT, HW⟩ := hcut
                        go_upto_region 15 with fail
                        go_cut [19] (fun s2 wx => s2 = .int .i64 (dvM a b).2 ∧ Hid (wx.heap[w.heap.size]? = some (.cells #[.int .i64 (a.lo), .int .i64 (a.hi)] 23 (0, 0))) ∧ Hid (wx.heap[w.heap.size + 1]? = some (.cells #[.int .i64 (b.lo), .int .i64 (b.hi)] 23 (0, 0))) ∧ Hid (wx.heap[bC]? = some (.cells #[.int .i64 (c.lo), .int .i64 (c.hi)] 23 (0, 0))) ∧ Hid (wx.heap[bD]? = some (.cells #[.int .i64 (d.lo), .int .i64 (d.hi)] 23 (0, 0))) ∧ Hid (wx.heap[bS]? = some (.cells #[.int .i64 ((dvM c d).1.lo), .int .i64 ((dvM c d).1.hi)] 23 (0, 0))) ∧ Hid (wx.heap[bT]? = some (.cells #[.int .i64 ((dvM a b).1.lo), .int .i64 ((dvM a b).1.hi)] 23 (0, 0))) ∧ Hid (Below w.heap.size w wx))
                        case first => as_aux_lemma =>
                          have A0 := (cells2 HA.out).1.1
                          have A1 := (cells2 HA.out).1.2
                          have A2 := (cells2 HA.out).2.1
                          have A3 := (cells2 HA.out).2.2
                          have Al := blkLt HA.out
                          have B0 := (cells2 HB.out).1.1
                          have B1 := (cells2 HB.out).1.2
                          have B2 := (cells2 HB.out).2.1
                          have B3 := (cells2 HB.out).2.2
                          have Bl := blkLt HB.out
                          have C0 := (cells2 HC.out).1.1
                          have C1 := (cells2 HC.out).1.2
                          have C2 := (cells2 HC.out).2.1
                          have C3 := (cells2 HC.out).2.2
                          have Cl := blkLt HC.out
                          have D0 := (cells2 HD.out).1.1
                          have D1 := (cells2 HD.out).1.2
                          have D2 := (cells2 HD.out).2.1
                          have D3 := (cells2 HD.out).2.2
                          have Dl := blkLt HD.out
                          have S0 := (cells2 HS.out).1.1
                          have S1 := (cells2 HS.out).1.2
                          have S2 := (cells2 HS.out).2.1
                          have S3 := (cells2 HS.out).2.2
                          have Sl := blkLt HS.out
                          have T0 := (cells2 HT.out).1.1
                          have T1 := (cells2 HT.out).1.2
                          have T2 := (cells2 HT.out).2.1
                          have T3 := (cells2 HT.out).2.2
                          have Tl := blkLt HT.out
                          go_wp2_with (go_at_call 13; refine (Div_any a b _).mono ?_; rintro e wn ⟨rfl, hbn⟩; replace HW := Lib.hid (bCall (by (repeat with_reducible first | exact HW.out | apply bDrew | apply bAlloc)) hbn); replace HA := Lib.hid (moveX (by (repeat with_reducible first | exact Below.refl _ _ | apply bDrew | apply bAlloc)) hbn HA.out); replace HB := Lib.hid (moveX (by (repeat with_reducible first | exact Below.refl _ _ | apply bDrew | apply bAlloc)) hbn HB.out); replace HC := Lib.hid (moveX (by (repeat with_reducible first | exact Below.refl _ _ | apply bDrew | apply bAlloc)) hbn HC.out); replace HD := Lib.hid (moveX (by (repeat with_reducible first | exact Below.refl _ _ | apply bDrew | apply bAlloc)) hbn HD.out); replace HS := Lib.hid (moveX (by (repeat with_reducible first | exact Below.refl _ _ | apply bDrew | apply bAlloc)) hbn HS.out); replace HT := Lib.hid (moveX (by (repeat with_reducible first | exact Below.refl _ _ | apply bDrew | apply bAlloc)) hbn HT.out); replace A0 := (cells2 HA.out).1.1; replace A1 := (cells2 HA.out).1.2; replace A2 := (cells2 HA.out).2.1; replace A3 := (cells2 HA.out).2.2; replace Al := blkLt HA.out; replace B0 := (cells2 HB.out).1.1; replace B1 := (cells2 HB.out).1.2; replace B2 := (cells2 HB.out).2.1; replace B3 := (cells2 HB.out).2.2; replace Bl := blkLt HB.out; replace C0 := (cells2 HC.out).1.1; replace C1 := (cells2 HC.out).1.2; replace C2 := (cells2 HC.out).2.1; replace C3 := (cells2 HC.out).2.2; replace Cl := blkLt HC.out; replace D0 := (cells2 HD.out).1.1; replace D1 := (cells2 HD.out).1.2; replace D2 := (cells2 HD.out).2.1; replace D3 := (cells2 HD.out).2.2; replace Dl := blkLt HD.out; replace S0 := (cells2 HS.out).1.1; replace S1 := (cells2 HS.out).1.2; replace S2 := (cells2 HS.out).2.1; replace S3 := (cells2 HS.out).2.2; replace Sl := blkLt HS.out; replace T0 := (cells2 HT.out).1.1; replace T1 := (cells2 HT.out).1.2; replace T2 := (cells2 HT.out).2.1; replace T3 := (cells2 HT.out).2.2; replace Tl := blkLt HT.out; clear hbn)
                          go_meet
                          exact ⟨rfl, Lib.hid (setK HA.out (by omega)), Lib.hid (setK HB.out (by omega)), Lib.hid (setK HC.out (by omega)), Lib.hid (setK HD.out (by omega)), Lib.hid (setK HS.out (by omega)), Lib.hid (res2 HT.out).1, Lib.hid (below2 HW.out (by omega))⟩
                        case rest => as_aux_lemma =>
                          clear HW HA HB HC HD HS HT
                          obtain ⟨rfl, HA, HB, HC, HD, HS, HT, HW⟩ := hcut
                          go_upto_region 16 with fail
                          go_cut [13] (fun s1 wx => s1 = .bool true ∧ Hid (wx.heap[w.heap.size]? = some (.cells #[.int .i64 (a.lo), .int .i64 (a.hi)] 23 (0, 0))) ∧ Hid (wx.heap[w.heap.size + 1]? = some (.cells #[.int .i64 (b.lo), .int .i64 (b.hi)] 23 (0, 0))) ∧ Hid (wx.heap[bC]? = some (.cells #[.int .i64 (c.lo), .int .i64 (c.hi)] 23 (0, 0))) ∧ Hid (wx.heap[bD]? = some (.cells #[.int .i64 (d.lo), .int .i64 (d.hi)] 23 (0, 0))) ∧ Hid (wx.heap[bS]? = some (.cells #[.int .i64 ((dvM c d).1.lo), .int .i64 ((dvM c d).1.hi)] 23 (0, 0))) ∧ Hid (wx.heap[bT]? = some (.cells #[.int .i64 ((dvM a b).1.lo), .int .i64 ((dvM a b).1.hi)] 23 (0, 0))) ∧ Hid (Below w.heap.size w wx))
                          case first => as_aux_lemma =>
                            have hin := Lib.hid (wi_true (div_wi div_pos_mono div_neg_mono HH.out.1.1 HH.out.1.2 HH.out.2.1 HH.out.2.2))
                            have S0 := (cells2 HS.out).1.1
                            have S1 := (cells2 HS.out).1.2
                            have S2 := (cells2 HS.out).2.1
                            have S3 := (cells2 HS.out).2.2
                            have Sl := blkLt HS.out
                            have T0 := (cells2 HT.out).1.1
                            have T1 := (cells2 HT.out).1.2
                            have T2 := (cells2 HT.out).2.1
                            have T3 := (cells2 HT.out).2.2
                            have Tl := blkLt HT.out
                            go_wp2_with (go_at_call 10; refine (hin.out _).mono ?_; rintro e wn ⟨rfl, hbn⟩; replace HW := Lib.hid (bCall (by (repeat with_reducible first | exact HW.out | apply bDrew | apply bAlloc)) hbn); replace HA := Lib.hid (moveX (by (repeat with_reducible first | exact Below.refl _ _ | apply bDrew | apply bAlloc)) hbn HA.out); replace HB := Lib.hid (moveX (by (repeat with_reducible first | exact Below.refl _ _ | apply bDrew | apply bAlloc)) hbn HB.out); replace HC := Lib.hid (moveX (by (repeat with_reducible first | exact Below.refl _ _ | apply bDrew | apply bAlloc)) hbn HC.out); replace HD := Lib.hid (moveX (by (repeat with_reducible first | exact Below.refl _ _ | apply bDrew | apply bAlloc)) hbn HD.out); replace HS := Lib.hid (moveX (by (repeat with_reducible first | exact Below.refl _ _ | apply bDrew | apply bAlloc)) hbn HS.out); replace HT := Lib.hid (moveX (by (repeat with_reducible first | exact Below.refl _ _ | apply bDrew | apply bAlloc)) hbn HT.out); replace S0 := (cells2 HS.out).1.1; replace S1 := (cells2 HS.out).1.2; replace S2 := (cells2 HS.out).2.1; replace S3 := (cells2 HS.out).2.2; replace Sl := blkLt HS.out; replace T0 := (cells2 HT.out).1.1; replace T1 := (cells2 HT.out).1.2; replace T2 := (cells2 HT.out).2.1; replace T3 := (cells2 HT.out).2.2; replace Tl := blkLt HT.out; clear hbn)
                            go_meet
                            exact ⟨rfl, HA, HB, HC, HD, HS, HT, HW⟩
                          case rest => as_aux_lemma =>
                            clear HW HA HB HC HD HS HT
                            obtain ⟨rfl, HA, HB, HC, HD, HS, HT, HW⟩ := hcut
                            go_upto_region 17 with fail
                            go_cut [17] (fun s2 wx => s2 = .int .i64 (upM c d).2 ∧ Hid (wx.heap[w.heap.size]? = some (.cells #[.int .i64 (a.lo), .int .i64 (a.hi)] 23 (0, 0))) ∧ Hid (wx.heap[w.heap.size + 1]? = some (.cells #[.int .i64 (b.lo), .int .i64 (b.hi)] 23 (0, 0))) ∧ Hid (wx.heap[bC]? = some (.cells #[.int .i64 (c.lo), .int .i64 (c.hi)] 23 (0, 0))) ∧ Hid (wx.heap[bD]? = some (.cells #[.int .i64 (d.lo), .int .i64 (d.hi)] 23 (0, 0))) ∧ Hid (wx.heap[bS]? = some (.cells #[.int .i64 ((upM c d).1.lo), .int .i64 ((upM c d).1.hi)] 23 (0, 0))) ∧ Hid (wx.heap[bT]? = some (.cells #[.int .i64 ((dvM a b).1.lo), .int .i64 ((dvM a b).1.hi)] 23 (0, 0))) ∧ Hid (Below w.heap.size w wx))
                            case first => as_aux_lemma =>
                              have A0 := (cells2 HA.out).1.1
                              have A1 := (cells2 HA.out).1.2
                              have A2 := (cells2 HA.out).2.1
                              have A3 := (cells2 HA.out).2.2
                              have Al := blkLt HA.out
                              have B0 := (cells2 HB.out).1.1
                              have B1 := (cells2 HB.out).1.2
                              have B2 := (cells2 HB.out).2.1
                              have B3 := (cells2 HB.out).2.2
                              have Bl := blkLt HB.out
                              have C0 := (cells2 HC.out).1.1
                              have C1 := (cells2 HC.out).1.2
                              have C2 := (cells2 HC.out).2.1
                              have C3 := (cells2 HC.out).2.2
                              have Cl := blkLt HC.out
                              have D0 := (cells2 HD.out).1.1
                              have D1 := (cells2 HD.out).1.2
                              have D2 := (cells2 HD.out).2.1
                              have D3 := (cells2 HD.out).2.2
                              have Dl := blkLt HD.out
                              have S0 := (cells2 HS.out).1.1
                              have S1 := (cells2 HS.out).1.2
                              have S2 := (cells2 HS.out).2.1
                              have S3 := (cells2 HS.out).2.2
                              have Sl := blkLt HS.out
                              have T0 := (cells2 HT.out).1.1
                              have T1 := (cells2 HT.out).1.2
                              have T2 := (cells2 HT.out).2.1
                              have T3 := (cells2 HT.out).2.2
                              have Tl := blkLt HT.out
                              go_wp2_with (go_at_call 14; refine (Up_any c d _).mono ?_; rintro e wn ⟨rfl, hbn⟩; replace HW := Lib.hid (bCall (by (repeat with_reducible first | exact HW.out | apply bDrew | apply bAlloc)) hbn); replace HA := Lib.hid (moveX (by (repeat with_reducible first | exact Below.refl _ _ | apply bDrew | apply bAlloc)) hbn HA.out); replace HB := Lib.hid (moveX (by (repeat with_reducible first | exact Below.refl _ _ | apply bDrew | apply bAlloc)) hbn HB.out); replace HC := Lib.hid (moveX (by (repeat with_reducible first | exact Below.refl _ _ | apply bDrew | apply bAlloc)) hbn HC.out); replace HD := Lib.hid (moveX (by (repeat with_reducible first | exact Below.refl _ _ | apply bDrew | apply bAlloc)) hbn HD.out); replace HS := Lib.hid (moveX (by (repeat with_reducible first | exact Below.refl _ _ | apply bDrew | apply bAlloc)) hbn HS.out); replace HT := Lib.hid (moveX (by (repeat with_reducible first | exact Below.refl _ _ | apply bDrew | apply bAlloc)) hbn HT.out); replace A0 := (cells2 HA.out).1.1; replace A1 := (cells2 HA.out).1.2; replace A2 := (cells2 HA.out).2.1; replace A3 := (cells2 HA.out).2.2; replace Al := blkLt HA.out; replace B0 := (cells2 HB.out).1.1; replace B1 := (cells2 HB.out).1.2; replace B2 := (cells2 HB.out).2.1; replace B3 := (cells2 HB.out).2.2; replace Bl := blkLt HB.out; replace C0 := (cells2 HC.out).1.1; replace C1 := (cells2 HC.out).1.2; replace C2 := (cells2 HC.out).2.1; replace C3 := (cells2 HC.out).2.2; replace Cl := blkLt HC.out; replace D0 := (cells2 HD.out).1.1; replace D1 := (cells2 HD.out).1.2; replace D2 := (cells2 HD.out).2.1; replace D3 := (cells2 HD.out).2.2; replace Dl := blkLt HD.out; replace S0 := (cells2 HS.out).1.1; replace S1 := (cells2 HS.out).1.2; replace S2 := (cells2 HS.out).2.1; replace S3 := (cells2 HS.out).2.2; replace Sl := blkLt HS.out; replace T0 := (cells2 HT.out).1.1; replace T1 := (cells2 HT.out).1.2; replace T2 := (cells2 HT.out).2.1; replace T3 := (cells2 HT.out).2.2; replace Tl := blkLt HT.out; clear hbn)
                              go_meet
                              exact ⟨rfl, Lib.hid (setK HA.out (by omega)), Lib.hid (setK HB.out (by omega)), Lib.hid (setK HC.out (by omega)), Lib.hid (setK HD.out (by omega)), Lib.hid (res2 HS.out).1, Lib.hid (setK HT.out (by omega)), Lib.hid (below2 HW.out (by omega))⟩
                            case rest => as_aux_lemma =>
                              clear HW HA HB HC HD HS HT
                              obtain ⟨rfl, HA, HB, HC, HD, HS, HT, HW⟩ := hcut
                              go_upto_region 18 with fail
                              go_cut [19] (fun s2 wx => s2 = .int .i64 (upM a b).2 ∧ Hid (wx.heap[w.heap.size]? = some (.cells #[.int .i64 (a.lo), .int .i64 (a.hi)] 23 (0, 0))) ∧ Hid (wx.heap[w.heap.size + 1]? = some (.cells #[.int .i64 (b.lo), .int .i64 (b.hi)] 23 (0, 0))) ∧ Hid (wx.heap[bC]? = some (.cells #[.int .i64 (c.lo), .int .i64 (c.hi)] 23 (0, 0))) ∧ Hid (wx.heap[bD]? = some (.cells #[.int .i64 (d.lo), .int .i64 (d.hi)] 23 (0, 0))) ∧ Hid (wx.heap[bS]? = some (.cells #[.int .i64 ((upM c d).1.lo), .int .i64 ((upM c d).1.hi)] 23 (0, 0))) ∧ Hid (wx.heap[bT]? = some (.cells #[.int .i64 ((upM a b).1.lo), .int .i64 ((upM a b).1.hi)] 23 (0, 0))) ∧ Hid (Below w.heap.size w wx))
                              case first => as_aux_lemma =>
                                have A0 := (cells2 HA.out).1.1
                                have A1 := (cells2 HA.out).1.2
                                have A2 := (cells2 HA.out).2.1
                                have A3 := (cells2 HA.out).2.2
                                have Al := blkLt HA.out
                                have B0 := (cells2 HB.out).1.1
                                have B1 := (cells2 HB.out).1.2
                                have B2 := (cells2 HB.out).2.1
                                have B3 := (cells2 HB.out).2.2
                                have Bl := blkLt HB.out
                                have C0 := (cells2 HC.out).1.1
                                have C1 := (cells2 HC.out).1.2
                                have C2 := (cells2 HC.out).2.1
                                have C3 := (cells2 HC.out).2.2
                                have Cl := blkLt HC.out
                                have D0 := (cells2 HD.out).1.1
                                have D1 := (cells2 HD.out).1.2
                                have D2 := (cells2 HD.out).2.1
                                have D3 := (cells2 HD.out).2.2
                                have Dl := blkLt HD.out
                                have S0 := (cells2 HS.out).1.1
                                have S1 := (cells2 HS.out).1.2
                                have S2 := (cells2 HS.out).2.1
                                have S3 := (cells2 HS.out).2.2
                                have Sl := blkLt HS.out
                                have T0 := (cells2 HT.out).1.1
                                have T1 := (cells2 HT.out).1.2
                                have T2 := (cells2 HT.out).2.1
                                have T3 := (cells2 HT.out).2.2
                                have Tl := blkLt HT.out
                                go_wp2_with (go_at_call 14; refine (Up_any a b _).mono ?_; rintro e wn ⟨rfl, hbn⟩; replace HW := Lib.hid (bCall (by (repeat with_reducible first | exact HW.out | apply bDrew | apply bAlloc)) hbn); replace HA := Lib.hid (moveX (by (repeat with_reducible first | exact Below.refl _ _ | apply bDrew | apply bAlloc)) hbn HA.out); replace HB := Lib.hid (moveX (by (repeat with_reducible first | exact Below.refl _ _ | apply bDrew | apply bAlloc)) hbn HB.out); replace HC := Lib.hid (moveX (by (repeat with_reducible first | exact Below.refl _ _ | apply bDrew | apply bAlloc)) hbn HC.out); replace HD := Lib.hid (moveX (by (repeat with_reducible first | exact Below.refl _ _ | apply bDrew | apply bAlloc)) hbn HD.out); replace HS := Lib.hid (moveX (by (repeat with_reducible first | exact Below.refl _ _ | apply bDrew | apply bAlloc)) hbn HS.out); replace HT := Lib.hid (moveX (by (repeat with_reducible first | exact Below.refl _ _ | apply bDrew | apply bAlloc)) hbn HT.out); replace A0 := (cells2 HA.out).1.1; replace A1 := (cells2 HA.out).1.2; replace A2 := (cells2 HA.out).2.1; replace A3 := (cells2 HA.out).2.2; replace Al := blkLt HA.out; replace B0 := (cells2 HB.out).1.1; replace B1 := (cells2 HB.out).1.2; replace B2 := (cells2 HB.out).2.1; replace B3 := (cells2 HB.out).2.2; replace Bl := blkLt HB.out; replace C0 := (cells2 HC.out).1.1; replace C1 := (cells2 HC.out).1.2; replace C2 := (cells2 HC.out).2.1; replace C3 := (cells2 HC.out).2.2; replace Cl := blkLt HC.out; replace D0 := (cells2 HD.out).1.1; replace D1 := (cells2 HD.out).1.2; replace D2 := (cells2 HD.out).2.1; replace D3 := (cells2 HD.out).2.2; replace Dl := blkLt HD.out; replace S0 := (cells2 HS.out).1.1; replace S1 := (cells2 HS.out).1.2; replace S2 := (cells2 HS.out).2.1; replace S3 := (cells2 HS.out).2.2; replace Sl := blkLt HS.out; replace T0 := (cells2 HT.out).1.1; replace T1 := (cells2 HT.out).1.2; replace T2 := (cells2 HT.out).2.1; replace T3 := (cells2 HT.out).2.2; replace Tl := blkLt HT.out; clear hbn)
                                go_meet
                                exact ⟨rfl, Lib.hid (setK HA.out (by omega)), Lib.hid (setK HB.out (by omega)), Lib.hid (setK HC.out (by omega)), Lib.hid (setK HD.out (by omega)), Lib.hid (setK HS.out (by omega)), Lib.hid (res2 HT.out).1, Lib.hid (below2 HW.out (by omega))⟩
                              case rest => as_aux_lemma =>
                                clear HW HA HB HC HD HS HT
                                obtain ⟨rfl, HA, HB, HC, HD, HS, HT, HW⟩ := hcut
                                go_upto_region 19 with fail
                                go_cut [13] (fun s1 wx => s1 = .bool true ∧ Hid (wx.heap[w.heap.size]? = some (.cells #[.int .i64 (a.lo), .int .i64 (a.hi)] 23 (0, 0))) ∧ Hid (wx.heap[w.heap.size + 1]? = some (.cells #[.int .i64 (b.lo), .int .i64 (b.hi)] 23 (0, 0))) ∧ Hid (wx.heap[bC]? = some (.cells #[.int .i64 (c.lo), .int .i64 (c.hi)] 23 (0, 0))) ∧ Hid (wx.heap[bD]? = some (.cells #[.int .i64 (d.lo), .int .i64 (d.hi)] 23 (0, 0))) ∧ Hid (wx.heap[bS]? = some (.cells #[.int .i64 ((upM c d).1.lo), .int .i64 ((upM c d).1.hi)] 23 (0, 0))) ∧ Hid (wx.heap[bT]? = some (.cells #[.int .i64 ((upM a b).1.lo), .int .i64 ((upM a b).1.hi)] 23 (0, 0))) ∧ Hid (Below w.heap.size w wx))
                                case first => as_aux_lemma =>
                                  have hin := Lib.hid (wi_true (div_wi (up_of_div div_pos_mono) (up_of_div div_neg_mono) HH.out.1.1 HH.out.1.2 HH.out.2.1 HH.out.2.2))
                                  have S0 := (cells2 HS.out).1.1
                                  have S1 := (cells2 HS.out).1.2
                                  have S2 := (cells2 HS.out).2.1
                                  have S3 := (cells2 HS.out).2.2
                                  have Sl := blkLt HS.out
                                  have T0 := (cells2 HT.out).1.1
                                  have T1 := (cells2 HT.out).1.2
                                  have T2 := (cells2 HT.out).2.1
                                  have T3 := (cells2 HT.out).2.2
                                  have Tl := blkLt HT.out
                                  go_wp2_with (go_at_call 10; refine (hin.out _).mono ?_; rintro e wn ⟨rfl, hbn⟩; replace HW := Lib.hid (bCall (by (repeat with_reducible first | exact HW.out | apply bDrew | apply bAlloc)) hbn); replace HA := Lib.hid (moveX (by (repeat with_reducible first | exact Below.refl _ _ | apply bDrew | apply bAlloc)) hbn HA.out); replace HB := Lib.hid (moveX (by (repeat with_reducible first | exact Below.refl _ _ | apply bDrew | apply bAlloc)) hbn HB.out); replace HC := Lib.hid (moveX (by (repeat with_reducible first | exact Below.refl _ _ | apply bDrew | apply bAlloc)) hbn HC.out); replace HD := Lib.hid (moveX (by (repeat with_reducible first | exact Below.refl _ _ | apply bDrew | apply bAlloc)) hbn HD.out); replace HS := Lib.hid (moveX (by (repeat with_reducible first | exact Below.refl _ _ | apply bDrew | apply bAlloc)) hbn HS.out); replace HT := Lib.hid (moveX (by (repeat with_reducible first | exact Below.refl _ _ | apply bDrew | apply bAlloc)) hbn HT.out); replace S0 := (cells2 HS.out).1.1; replace S1 := (cells2 HS.out).1.2; replace S2 := (cells2 HS.out).2.1; replace S3 := (cells2 HS.out).2.2; replace Sl := blkLt HS.out; replace T0 := (cells2 HT.out).1.1; replace T1 := (cells2 HT.out).1.2; replace T2 := (cells2 HT.out).2.1; replace T3 := (cells2 HT.out).2.2; replace Tl := blkLt HT.out; clear hbn)
                                  go_meet
                                  exact ⟨rfl, HA, HB, HC, HD, HS, HT, HW⟩
                                case rest => as_aux_lemma =>
                                  clear HW HA HB HC HD HS HT
                                  obtain ⟨rfl, HA, HB, HC, HD, HS, HT, HW⟩ := hcut
                                  go_upto_region 20 with fail
                                  go_cut [17] (fun s2 wx => s2 = .int .i64 (minM c d).2 ∧ Hid (wx.heap[w.heap.size]? = some (.cells #[.int .i64 (a.lo), .int .i64 (a.hi)] 23 (0, 0))) ∧ Hid (wx.heap[w.heap.size + 1]? = some (.cells #[.int .i64 (b.lo), .int .i64 (b.hi)] 23 (0, 0))) ∧ Hid (wx.heap[bC]? = some (.cells #[.int .i64 (c.lo), .int .i64 (c.hi)] 23 (0, 0))) ∧ Hid (wx.heap[bD]? = some (.cells #[.int .i64 (d.lo), .int .i64 (d.hi)] 23 (0, 0))) ∧ Hid (wx.heap[bS]? = some (.cells #[.int .i64 ((minM c d).1.lo), .int .i64 ((minM c d).1.hi)] 23 (0, 0))) ∧ Hid (wx.heap[bT]? = some (.cells #[.int .i64 ((upM a b).1.lo), .int .i64 ((upM a b).1.hi)] 23 (0, 0))) ∧ Hid (Below w.heap.size w wx))
                                  case first => as_aux_lemma =>
                                    have A0 := (cells2 HA.out).1.1
                                    have A1 := (cells2 HA.out).1.2
                                    have A2 := (cells2 HA.out).2.1
                                    have A3 := (cells2 HA.out).2.2
                                    have Al := blkLt HA.out
                                    have B0 := (cells2 HB.out).1.1
                                    have B1 := (cells2 HB.out).1.2
                                    have B2 := (cells2 HB.out).2.1
                                    have B3 := (cells2 HB.out).2.2
                                    have Bl := blkLt HB.out
                                    have C0 := (cells2 HC.out).1.1
                                    have C1 := (cells2 HC.out).1.2
                                    have C2 := (cells2 HC.out).2.1
                                    have C3 := (cells2 HC.out).2.2
                                    have Cl := blkLt HC.out
                                    have D0 := (cells2 HD.out).1.1
                                    have D1 := (cells2 HD.out).1.2
                                    have D2 := (cells2 HD.out).2.1
                                    have D3 := (cells2 HD.out).2.2
                                    have Dl := blkLt HD.out
                                    have S0 := (cells2 HS.out).1.1
                                    have S1 := (cells2 HS.out).1.2
                                    have S2 := (cells2 HS.out).2.1
                                    have S3 := (cells2 HS.out).2.2
                                    have Sl := blkLt HS.out
                                    have T0 := (cells2 HT.out).1.1
                                    have T1 := (cells2 HT.out).1.2
                                    have T2 := (cells2 HT.out).2.1
                                    have T3 := (cells2 HT.out).2.2
                                    have Tl := blkLt HT.out
                                    go_wp2_with (go_at_call 15; refine (Min_any c d _).mono ?_; rintro e wn ⟨rfl, hbn⟩; replace HW := Lib.hid (bCall (by (repeat with_reducible first | exact HW.out | apply bDrew | apply bAlloc)) hbn); replace HA := Lib.hid (moveX (by (repeat with_reducible first | exact Below.refl _ _ | apply bDrew | apply bAlloc)) hbn HA.out); replace HB := Lib.hid (moveX (by (repeat with_reducible first | exact Below.refl _ _ | apply bDrew | apply bAlloc)) hbn HB.out); replace HC := Lib.hid (moveX (by (repeat with_reducible first | exact Below.refl _ _ | apply bDrew | apply bAlloc)) hbn HC.out); replace HD := Lib.hid (moveX (by (repeat with_reducible first | exact Below.refl _ _ | apply bDrew | apply bAlloc)) hbn HD.out); replace HS := Lib.hid (moveX (by (repeat with_reducible first | exact Below.refl _ _ | apply bDrew | apply bAlloc)) hbn HS.out); replace HT := Lib.hid (moveX (by (repeat with_reducible first | exact Below.refl _ _ | apply bDrew | apply bAlloc)) hbn HT.out); replace A0 := (cells2 HA.out).1.1; replace A1 := (cells2 HA.out).1.2; replace A2 := (cells2 HA.out).2.1; replace A3 := (cells2 HA.out).2.2; replace Al := blkLt HA.out; replace B0 := (cells2 HB.out).1.1; replace B1 := (cells2 HB.out).1.2; replace B2 := (cells2 HB.out).2.1; replace B3 := (cells2 HB.out).2.2; replace Bl := blkLt HB.out; replace C0 := (cells2 HC.out).1.1; replace C1 := (cells2 HC.out).1.2; replace C2 := (cells2 HC.out).2.1; replace C3 := (cells2 HC.out).2.2; replace Cl := blkLt HC.out; replace D0 := (cells2 HD.out).1.1; replace D1 := (cells2 HD.out).1.2; replace D2 := (cells2 HD.out).2.1; replace D3 := (cells2 HD.out).2.2; replace Dl := blkLt HD.out; replace S0 := (cells2 HS.out).1.1; replace S1 := (cells2 HS.out).1.2; replace S2 := (cells2 HS.out).2.1; replace S3 := (cells2 HS.out).2.2; replace Sl := blkLt HS.out; replace T0 := (cells2 HT.out).1.1; replace T1 := (cells2 HT.out).1.2; replace T2 := (cells2 HT.out).2.1; replace T3 := (cells2 HT.out).2.2; replace Tl := blkLt HT.out; clear hbn)
                                    go_meet
                                    exact ⟨rfl, Lib.hid (setK HA.out (by omega)), Lib.hid (setK HB.out (by omega)), Lib.hid (setK HC.out (by omega)), Lib.hid (setK HD.out (by omega)), Lib.hid (res2 HS.out).1, Lib.hid (setK HT.out (by omega)), Lib.hid (below2 HW.out (by omega))⟩
                                  case rest => as_aux_lemma =>
                                    clear HW HA HB HC HD HS HT
                                    obtain ⟨rfl, HA, HB, HC, HD, HS, HT, HW⟩ := hcut
                                    go_upto_region 21 with fail
                                    go_cut [19] (fun s2 wx => s2 = .int .i64 (minM a b).2 ∧ Hid (wx.heap[w.heap.size]? = some (.cells #[.int .i64 (a.lo), .int .i64 (a.hi)] 23 (0, 0))) ∧ Hid (wx.heap[w.heap.size + 1]? = some (.cells #[.int .i64 (b.lo), .int .i64 (b.hi)] 23 (0, 0))) ∧ Hid (wx.heap[bC]? = some (.cells #[.int .i64 (c.lo), .int .i64 (c.hi)] 23 (0, 0))) ∧ Hid (wx.heap[bD]? = some (.cells #[.int .i64 (d.lo), .int .i64 (d.hi)] 23 (0, 0))) ∧ Hid (wx.heap[bS]? = some (.cells #[.int .i64 ((minM c d).1.lo), .int .i64 ((minM c d).1.hi)] 23 (0, 0))) ∧ Hid (wx.heap[bT]? = some (.cells #[.int .i64 ((minM a b).1.lo), .int .i64 ((minM a b).1.hi)] 23 (0, 0))) ∧ Hid (Below w.heap.size w wx))
                                    case first => as_aux_lemma =>
                                      have A0 := (cells2 HA.out).1.1
                                      have A1 := (cells2 HA.out).1.2
                                      have A2 := (cells2 HA.out).2.1
                                      have A3 := (cells2 HA.out).2.2
                                      have Al := blkLt HA.out
                                      have B0 := (cells2 HB.out).1.1
                                      have B1 := (cells2 HB.out).1.2
                                      have B2 := (cells2 HB.out).2.1
                                      have B3 := (cells2 HB.out).2.2
                                      have Bl := blkLt HB.out
                                      have C0 := (cells2 HC.out).1.1
                                      have C1 := (cells2 HC.out).1.2
                                      have C2 := (cells2 HC.out).2.1
                                      have C3 := (cells2 HC.out).2.2
                                      have Cl := blkLt HC.out
                                      have D0 := (cells2 HD.out).1.1
                                      have D1 := (cells2 HD.out).1.2
                                      have D2 := (cells2 HD.out).2.1
                                      have D3 := (cells2 HD.out).2.2
                                      have Dl := blkLt HD.out
                                      have S0 := (cells2 HS.out).1.1
                                      have S1 := (cells2 HS.out).1.2
                                      have S2 := (cells2 HS.out).2.1
                                      have S3 := (cells2 HS.out).2.2
                                      have Sl := blkLt HS.out
                                      have T0 := (cells2 HT.out).1.1
                                      have T1 := (cells2 HT.out).1.2
                                      have T2 := (cells2 HT.out).2.1
                                      have T3 := (cells2 HT.out).2.2
                                      have Tl := blkLt HT.out
                                      go_wp2_with (go_at_call 15; refine (Min_any a b _).mono ?_; rintro e wn ⟨rfl, hbn⟩; replace HW := Lib.hid (bCall (by (repeat with_reducible first | exact HW.out | apply bDrew | apply bAlloc)) hbn); replace HA := Lib.hid (moveX (by (repeat with_reducible first | exact Below.refl _ _ | apply bDrew | apply bAlloc)) hbn HA.out); replace HB := Lib.hid (moveX (by (repeat with_reducible first | exact Below.refl _ _ | apply bDrew | apply bAlloc)) hbn HB.out); replace HC := Lib.hid (moveX (by (repeat with_reducible first | exact Below.refl _ _ | apply bDrew | apply bAlloc)) hbn HC.out); replace HD := Lib.hid (moveX (by (repeat with_reducible first | exact Below.refl _ _ | apply bDrew | apply bAlloc)) hbn HD.out); replace HS := Lib.hid (moveX (by (repeat with_reducible first | exact Below.refl _ _ | apply bDrew | apply bAlloc)) hbn HS.out); replace HT := Lib.hid (moveX (by (repeat with_reducible first | exact Below.refl _ _ | apply bDrew | apply bAlloc)) hbn HT.out); replace A0 := (cells2 HA.out).1.1; replace A1 := (cells2 HA.out).1.2; replace A2 := (cells2 HA.out).2.1; replace A3 := (cells2 HA.out).2.2; replace Al := blkLt HA.out; replace B0 := (cells2 HB.out).1.1; replace B1 := (cells2 HB.out).1.2; replace B2 := (cells2 HB.out).2.1; replace B3 := (cells2 HB.out).2.2; replace Bl := blkLt HB.out; replace C0 := (cells2 HC.out).1.1; replace C1 := (cells2 HC.out).1.2; replace C2 := (cells2 HC.out).2.1; replace C3 := (cells2 HC.out).2.2; replace Cl := blkLt HC.out; replace D0 := (cells2 HD.out).1.1; replace D1 := (cells2 HD.out).1.2; replace D2 := (cells2 HD.out).2.1; replace D3 := (cells2 HD.out).2.2; replace Dl := blkLt HD.out; replace S0 := (cells2 HS.out).1.1; replace S1 := (cells2 HS.out).1.2; replace S2 := (cells2 HS.out).2.1; replace S3 := (cells2 HS.out).2.2; replace Sl := blkLt HS.out; replace T0 := (cells2 HT.out).1.1; replace T1 := (cells2 HT.out).1.2; replace T2 := (cells2 HT.out).2.1; replace T3 := (cells2 HT.out).2.2; replace Tl := blkLt HT.out; clear hbn)
                                      go_meet
                                      exact ⟨rfl, Lib.hid (setK HA.out (by omega)), Lib.hid (setK HB.out (by omega)), Lib.hid (setK HC.out (by omega)), Lib.hid (setK HD.out (by omega)), Lib.hid (setK HS.out (by omega)), Lib.hid (res2 HT.out).1, Lib.hid (below2 HW.out (by omega))⟩
                                    case rest => as_aux_lemma =>
                                      clear HW HA HB HC HD HS HT
                                      obtain ⟨rfl, HA, HB, HC, HD, HS, HT, HW⟩ := hcut
                                      go_upto_region 22 with fail
                                      go_cut [13] (fun s1 wx => s1 = .bool true ∧ Hid (wx.heap[w.heap.size]? = some (.cells #[.int .i64 (a.lo), .int .i64 (a.hi)] 23 (0, 0))) ∧ Hid (wx.heap[w.heap.size + 1]? = some (.cells #[.int .i64 (b.lo), .int .i64 (b.hi)] 23 (0, 0))) ∧ Hid (wx.heap[bC]? = some (.cells #[.int .i64 (c.lo), .int .i64 (c.hi)] 23 (0, 0))) ∧ Hid (wx.heap[bD]? = some (.cells #[.int .i64 (d.lo), .int .i64 (d.hi)] 23 (0, 0))) ∧ Hid (wx.heap[bS]? = some (.cells #[.int .i64 ((minM c d).1.lo), .int .i64 ((minM c d).1.hi)] 23 (0, 0))) ∧ Hid (wx.heap[bT]? = some (.cells #[.int .i64 ((minM a b).1.lo), .int .i64 ((minM a b).1.hi)] 23 (0, 0))) ∧ Hid (Below w.heap.size w wx))
                                      case first => as_aux_lemma =>
                                        have hin := Lib.hid (wi_true (min_wi HH.out.1.1 HH.out.1.2 HH.out.2.1 HH.out.2.2))
                                        have S0 := (cells2 HS.out).1.1
                                        have S1 := (cells2 HS.out).1.2
                                        have S2 := (cells2 HS.out).2.1
                                        have S3 := (cells2 HS.out).2.2
                                        have Sl := blkLt HS.out
                                        have T0 := (cells2 HT.out).1.1
                                        have T1 := (cells2 HT.out).1.2
                                        have T2 := (cells2 HT.out).2.1
                                        have T3 := (cells2 HT.out).2.2
                                        have Tl := blkLt HT.out
                                        go_wp2_with (go_at_call 10; refine (hin.out _).mono ?_; rintro e wn ⟨rfl, hbn⟩; replace HW := Lib.hid (bCall (by (repeat with_reducible first | exact HW.out | apply bDrew | apply bAlloc)) hbn); replace HA := Lib.hid (moveX (by (repeat with_reducible first | exact Below.refl _ _ | apply bDrew | apply bAlloc)) hbn HA.out); replace HB := Lib.hid (moveX (by (repeat with_reducible first | exact Below.refl _ _ | apply bDrew | apply bAlloc)) hbn HB.out); replace HC := Lib.hid (moveX (by (repeat with_reducible first | exact Below.refl _ _ | apply bDrew | apply bAlloc)) hbn HC.out); replace HD := Lib.hid (moveX (by (repeat with_reducible first | exact Below.refl _ _ | apply bDrew | apply bAlloc)) hbn HD.out); replace HS := Lib.hid (moveX (by (repeat with_reducible first | exact Below.refl _ _ | apply bDrew | apply bAlloc)) hbn HS.out); replace HT := Lib.hid (moveX (by (repeat with_reducible first | exact Below.refl _ _ | apply bDrew | apply bAlloc)) hbn HT.out); replace S0 := (cells2 HS.out).1.1; replace S1 := (cells2 HS.out).1.2; replace S2 := (cells2 HS.out).2.1; replace S3 := (cells2 HS.out).2.2; replace Sl := blkLt HS.out; replace T0 := (cells2 HT.out).1.1; replace T1 := (cells2 HT.out).1.2; replace T2 := (cells2 HT.out).2.1; replace T3 := (cells2 HT.out).2.2; replace Tl := blkLt HT.out; clear hbn)
                                        go_meet
                                        exact ⟨rfl, HA, HB, HC, HD, HS, HT, HW⟩
                                      case rest => as_aux_lemma =>
                                        clear HW HA HB HC HD HS HT
                                        obtain ⟨rfl, HA, HB, HC, HD, HS, HT, HW⟩ := hcut
                                        go_upto_region 23 with fail
                                        go_cut [17] (fun s2 wx => s2 = .int .i64 (maxM c d).2 ∧ Hid (wx.heap[w.heap.size]? = some (.cells #[.int .i64 (a.lo), .int .i64 (a.hi)] 23 (0, 0))) ∧ Hid (wx.heap[w.heap.size + 1]? = some (.cells #[.int .i64 (b.lo), .int .i64 (b.hi)] 23 (0, 0))) ∧ Hid (wx.heap[bC]? = some (.cells #[.int .i64 (c.lo), .int .i64 (c.hi)] 23 (0, 0))) ∧ Hid (wx.heap[bD]? = some (.cells #[.int .i64 (d.lo), .int .i64 (d.hi)] 23 (0, 0))) ∧ Hid (wx.heap[bS]? = some (.cells #[.int .i64 ((maxM c d).1.lo), .int .i64 ((maxM c d).1.hi)] 23 (0, 0))) ∧ Hid (wx.heap[bT]? = some (.cells #[.int .i64 ((minM a b).1.lo), .int .i64 ((minM a b).1.hi)] 23 (0, 0))) ∧ Hid (Below w.heap.size w wx))
                                        case first => as_aux_lemma =>
                                          have A0 := (cells2 HA.out).1.1
                                          have A1 := (cells2 HA.out).1.2
                                          have A2 := (cells2 HA.out).2.1
                                          have A3 := (cells2 HA.out).2.2
                                          have Al := blkLt HA.out
                                          have B0 := (cells2 HB.out).1.1
                                          have B1 := (cells2 HB.out).1.2
                                          have B2 := (cells2 HB.out).2.1
                                          have B3 := (cells2 HB.out).2.2
                                          have Bl := blkLt HB.out
                                          have C0 := (cells2 HC.out).1.1
                                          have C1 := (cells2 HC.out).1.2
                                          have C2 := (cells2 HC.out).2.1
                                          have C3 := (cells2 HC.out).2.2
                                          have Cl := blkLt HC.out
                                          have D0 := (cells2 HD.out).1.1
                                          have D1 := (cells2 HD.out).1.2
                                          have D2 := (cells2 HD.out).2.1
                                          have D3 := (cells2 HD.out).2.2
                                          have Dl := blkLt HD.out
                                          have S0 := (cells2 HS.out).1.1
                                          have S1 := (cells2 HS.out).1.2
                                          have S2 := (cells2 HS.out).2.1
                                          have S3 := (cells2 HS.out).2.2
                                          have Sl := blkLt HS.out
                                          have T0 := (cells2 HT.out).1.1
                                          have T1 := (cells2 HT.out).1.2
                                          have T2 := (cells2 HT.out).2.1
                                          have T3 := (cells2 HT.out).2.2
                                          have Tl := blkLt HT.out
                                          go_wp2_with (go_at_call 16; refine (Max_any c d _).mono ?_; rintro e wn ⟨rfl, hbn⟩; replace HW := Lib.hid (bCall (by (repeat with_reducible first | exact HW.out | apply bDrew | apply bAlloc)) hbn); replace HA := Lib.hid (moveX (by (repeat with_reducible first | exact Below.refl _ _ | apply bDrew | apply bAlloc)) hbn HA.out); replace HB := Lib.hid (moveX (by (repeat with_reducible first | exact Below.refl _ _ | apply bDrew | apply bAlloc)) hbn HB.out); replace HC := Lib.hid (moveX (by (repeat with_reducible first | exact Below.refl _ _ | apply bDrew | apply bAlloc)) hbn HC.out); replace HD := Lib.hid (moveX (by (repeat with_reducible first | exact Below.refl _ _ | apply bDrew | apply bAlloc)) hbn HD.out); replace HS := Lib.hid (moveX (by (repeat with_reducible first | exact Below.refl _ _ | apply bDrew | apply bAlloc)) hbn HS.out); replace HT := Lib.hid (moveX (by (repeat with_reducible first | exact Below.refl _ _ | apply bDrew | apply bAlloc)) hbn HT.out); replace A0 := (cells2 HA.out).1.1; replace A1 := (cells2 HA.out).1.2; replace A2 := (cells2 HA.out).2.1; replace A3 := (cells2 HA.out).2.2; replace Al := blkLt HA.out; replace B0 := (cells2 HB.out).1.1; replace B1 := (cells2 HB.out).1.2; replace B2 := (cells2 HB.out).2.1; replace B3 := (cells2 HB.out).2.2; replace Bl := blkLt HB.out; replace C0 := (cells2 HC.out).1.1; replace C1 := (cells2 HC.out).1.2; replace C2 := (cells2 HC.out).2.1; replace C3 := (cells2 HC.out).2.2; replace Cl := blkLt HC.out; replace D0 := (cells2 HD.out).1.1; replace D1 := (cells2 HD.out).1.2; replace D2 := (cells2 HD.out).2.1; replace D3 := (cells2 HD.out).2.2; replace Dl := blkLt HD.out; replace S0 := (cells2 HS.out).1.1; replace S1 := (cells2 HS.out).1.2; replace S2 := (cells2 HS.out).2.1; replace S3 := (cells2 HS.out).2.2; replace Sl := blkLt HS.out; replace T0 := (cells2 HT.out).1.1; replace T1 := (cells2 HT.out).1.2; replace T2 := (cells2 HT.out).2.1; replace T3 := (cells2 HT.out).2.2; replace Tl := blkLt HT.out; clear hbn)
                                          go_meet
                                          exact ⟨rfl, Lib.hid (setK HA.out (by omega)), Lib.hid (setK HB.out (by omega)), Lib.hid (setK HC.out (by omega)), Lib.hid (setK HD.out (by omega)), Lib.hid (res2 HS.out).1, Lib.hid (setK HT.out (by omega)), Lib.hid (below2 HW.out (by omega))⟩
                                        case rest => as_aux_lemma =>
                                          clear HW HA HB HC HD HS HT
                                          obtain ⟨rfl, HA, HB, HC, HD, HS, HT, HW⟩ := hcut
                                          go_upto_region 24 with fail
                                          go_cut [19] (fun s2 wx => s2 = .int .i64 (maxM a b).2 ∧ Hid (wx.heap[w.heap.size]? = some (.cells #[.int .i64 (a.lo), .int .i64 (a.hi)] 23 (0, 0))) ∧ Hid (wx.heap[w.heap.size + 1]? = some (.cells #[.int .i64 (b.lo), .int .i64 (b.hi)] 23 (0, 0))) ∧ Hid (wx.heap[bC]? = some (.cells #[.int .i64 (c.lo), .int .i64 (c.hi)] 23 (0, 0))) ∧ Hid (wx.heap[bD]? = some (.cells #[.int .i64 (d.lo), .int .i64 (d.hi)] 23 (0, 0))) ∧ Hid (wx.heap[bS]? = some (.cells #[.int .i64 ((maxM c d).1.lo), .int .i64 ((maxM c d).1.hi)] 23 (0, 0))) ∧ Hid (wx.heap[bT]? = some (.cells #[.int .i64 ((maxM a b).1.lo), .int .i64 ((maxM a b).1.hi)] 23 (0, 0))) ∧ Hid (Below w.heap.size w wx))
                                          case first => as_aux_lemma =>
                                            have A0 := (cells2 HA.out).1.1
                                            have A1 := (cells2 HA.out).1.2
                                            have A2 := (cells2 HA.out).2.1
                                            have A3 := (cells2 HA.out).2.2
                                            have Al := blkLt HA.out
                                            have B0 := (cells2 HB.out).1.1
                                            have B1 := (cells2 HB.out).1.2
                                            have B2 := (cells2 HB.out).2.1
                                            have B3 := (cells2 HB.out).2.2
                                            have Bl := blkLt HB.out
                                            have C0 := (cells2 HC.out).1.1
                                            have C1 := (cells2 HC.out).1.2
                                            have C2 := (cells2 HC.out).2.1
                                            have C3 := (cells2 HC.out).2.2
                                            have Cl := blkLt HC.out
                                            have D0 := (cells2 HD.out).1.1
                                            have D1 := (cells2 HD.out).1.2
                                            have D2 := (cells2 HD.out).2.1
                                            have D3 := (cells2 HD.out).2.2
                                            have Dl := blkLt HD.out
                                            have S0 := (cells2 HS.out).1.1
                                            have S1 := (cells2 HS.out).1.2
                                            have S2 := (cells2 HS.out).2.1
                                            have S3 := (cells2 HS.out).2.2
                                            have Sl := blkLt HS.out
                                            have T0 := (cells2 HT.out).1.1
                                            have T1 := (cells2 HT.out).1.2
                                            have T2 := (cells2 HT.out).2.1
                                            have T3 := (cells2 HT.out).2.2
                                            have Tl := blkLt HT.out
                                            go_wp2_with (go_at_call 16; refine (Max_any a b _).mono ?_; rintro e wn ⟨rfl, hbn⟩; replace HW := Lib.hid (bCall (by (repeat with_reducible first | exact HW.out | apply bDrew | apply bAlloc)) hbn); replace HA := Lib.hid (moveX (by (repeat with_reducible first | exact Below.refl _ _ | apply bDrew | apply bAlloc)) hbn HA.out); replace HB := Lib.hid (moveX (by (repeat with_reducible first | exact Below.refl _ _ | apply bDrew | apply bAlloc)) hbn HB.out); replace HC := Lib.hid (moveX (by (repeat with_reducible first | exact Below.refl _ _ | apply bDrew | apply bAlloc)) hbn HC.out); replace HD := Lib.hid (moveX (by (repeat with_reducible first | exact Below.refl _ _ | apply bDrew | apply bAlloc)) hbn HD.out); replace HS := Lib.hid (moveX (by (repeat with_reducible first | exact Below.refl _ _ | apply bDrew | apply bAlloc)) hbn HS.out); replace HT := Lib.hid (moveX (by (repeat with_reducible first | exact Below.refl _ _ | apply bDrew | apply bAlloc)) hbn HT.out); replace A0 := (cells2 HA.out).1.1; replace A1 := (cells2 HA.out).1.2; replace A2 := (cells2 HA.out).2.1; replace A3 := (cells2 HA.out).2.2; replace Al := blkLt HA.out; replace B0 := (cells2 HB.out).1.1; replace B1 := (cells2 HB.out).1.2; replace B2 := (cells2 HB.out).2.1; replace B3 := (cells2 HB.out).2.2; replace Bl := blkLt HB.out; replace C0 := (cells2 HC.out).1.1; replace C1 := (cells2 HC.out).1.2; replace C2 := (cells2 HC.out).2.1; replace C3 := (cells2 HC.out).2.2; replace Cl := blkLt HC.out; replace D0 := (cells2 HD.out).1.1; replace D1 := (cells2 HD.out).1.2; replace D2 := (cells2 HD.out).2.1; replace D3 := (cells2 HD.out).2.2; replace Dl := blkLt HD.out; replace S0 := (cells2 HS.out).1.1; replace S1 := (cells2 HS.out).1.2; replace S2 := (cells2 HS.out).2.1; replace S3 := (cells2 HS.out).2.2; replace Sl := blkLt HS.out; replace T0 := (cells2 HT.out).1.1; replace T1 := (cells2 HT.out).1.2; replace T2 := (cells2 HT.out).2.1; replace T3 := (cells2 HT.out).2.2; replace Tl := blkLt HT.out; clear hbn)
                                            go_meet
                                            exact ⟨rfl, Lib.hid (setK HA.out (by omega)), Lib.hid (setK HB.out (by omega)), Lib.hid (setK HC.out (by omega)), Lib.hid (setK HD.out (by omega)), Lib.hid (setK HS.out (by omega)), Lib.hid (res2 HT.out).1, Lib.hid (below2 HW.out (by omega))⟩
                                          case rest => as_aux_lemma =>
                                            clear HW HA HB HC HD HS HT
                                            obtain ⟨rfl, HA, HB, HC, HD, HS, HT, HW⟩ := hcut
                                            go_upto_region 25 with fail
                                            go_cut [13] (fun s1 wx => s1 = .bool true ∧ Hid (wx.heap[w.heap.size]? = some (.cells #[.int .i64 (a.lo), .int .i64 (a.hi)] 23 (0, 0))) ∧ Hid (wx.heap[w.heap.size + 1]? = some (.cells #[.int .i64 (b.lo), .int .i64 (b.hi)] 23 (0, 0))) ∧ Hid (wx.heap[bC]? = some (.cells #[.int .i64 (c.lo), .int .i64 (c.hi)] 23 (0, 0))) ∧ Hid (wx.heap[bD]? = some (.cells #[.int .i64 (d.lo), .int .i64 (d.hi)] 23 (0, 0))) ∧ Hid (wx.heap[bS]? = some (.cells #[.int .i64 ((maxM c d).1.lo), .int .i64 ((maxM c d).1.hi)] 23 (0, 0))) ∧ Hid (wx.heap[bT]? = some (.cells #[.int .i64 ((maxM a b).1.lo), .int .i64 ((maxM a b).1.hi)] 23 (0, 0))) ∧ Hid (Below w.heap.size w wx))
                                            case first => as_aux_lemma =>
                                              have hin := Lib.hid (wi_true (max_wi HH.out.1.1 HH.out.1.2 HH.out.2.1 HH.out.2.2))
                                              have S0 := (cells2 HS.out).1.1
                                              have S1 := (cells2 HS.out).1.2
                                              have S2 := (cells2 HS.out).2.1
                                              have S3 := (cells2 HS.out).2.2
                                              have Sl := blkLt HS.out
                                              have T0 := (cells2 HT.out).1.1
                                              have T1 := (cells2 HT.out).1.2
                                              have T2 := (cells2 HT.out).2.1
                                              have T3 := (cells2 HT.out).2.2
                                              have Tl := blkLt HT.out
                                              go_wp2_with (go_at_call 10; refine (hin.out _).mono ?_; rintro e wn ⟨rfl, hbn⟩; replace HW := Lib.hid (bCall (by (repeat with_reducible first | exact HW.out | apply bDrew | apply bAlloc)) hbn); replace HA := Lib.hid (moveX (by (repeat with_reducible first | exact Below.refl _ _ | apply bDrew | apply bAlloc)) hbn HA.out); replace HB := Lib.hid (moveX (by (repeat with_reducible first | exact Below.refl _ _ | apply bDrew | apply bAlloc)) hbn HB.out); replace HC := Lib.hid (moveX (by (repeat with_reducible first | exact Below.refl _ _ | apply bDrew | apply bAlloc)) hbn HC.out); replace HD := Lib.hid (moveX (by (repeat with_reducible first | exact Below.refl _ _ | apply bDrew | apply bAlloc)) hbn HD.out); replace HS := Lib.hid (moveX (by (repeat with_reducible first | exact Below.refl _ _ | apply bDrew | apply bAlloc)) hbn HS.out); replace HT := Lib.hid (moveX (by (repeat with_reducible first | exact Below.refl _ _ | apply bDrew | apply bAlloc)) hbn HT.out); replace S0 := (cells2 HS.out).1.1; replace S1 := (cells2 HS.out).1.2; replace S2 := (cells2 HS.out).2.1; replace S3 := (cells2 HS.out).2.2; replace Sl := blkLt HS.out; replace T0 := (cells2 HT.out).1.1; replace T1 := (cells2 HT.out).1.2; replace T2 := (cells2 HT.out).2.1; replace T3 := (cells2 HT.out).2.2; replace Tl := blkLt HT.out; clear hbn)
                                              go_meet
                                              exact ⟨rfl, HA, HB, HC, HD, HS, HT, HW⟩
                                            case rest => as_aux_lemma =>
                                              clear HW HA HB HC HD HS HT
                                              obtain ⟨rfl, HA, HB, HC, HD, HS, HT, HW⟩ := hcut
                                              go_upto_region 26 with fail
                                              go_cut [17] (fun s2 wx => s2 = .int .i64 (joinM c d).2 ∧ Hid (wx.heap[w.heap.size]? = some (.cells #[.int .i64 (a.lo), .int .i64 (a.hi)] 23 (0, 0))) ∧ Hid (wx.heap[w.heap.size + 1]? = some (.cells #[.int .i64 (b.lo), .int .i64 (b.hi)] 23 (0, 0))) ∧ Hid (wx.heap[bC]? = some (.cells #[.int .i64 (c.lo), .int .i64 (c.hi)] 23 (0, 0))) ∧ Hid (wx.heap[bD]? = some (.cells #[.int .i64 (d.lo), .int .i64 (d.hi)] 23 (0, 0))) ∧ Hid (wx.heap[bS]? = some (.cells #[.int .i64 ((joinM c d).1.lo), .int .i64 ((joinM c d).1.hi)] 23 (0, 0))) ∧ Hid (wx.heap[bT]? = some (.cells #[.int .i64 ((maxM a b).1.lo), .int .i64 ((maxM a b).1.hi)] 23 (0, 0))) ∧ Hid (Below w.heap.size w wx))
                                              case first => as_aux_lemma =>
                                                have A0 := (cells2 HA.out).1.1
                                                have A1 := (cells2 HA.out).1.2
                                                have A2 := (cells2 HA.out).2.1
                                                have A3 := (cells2 HA.out).2.2
                                                have Al := blkLt HA.out
                                                have B0 := (cells2 HB.out).1.1
                                                have B1 := (cells2 HB.out).1.2
                                                have B2 := (cells2 HB.out).2.1
                                                have B3 := (cells2 HB.out).2.2
                                                have Bl := blkLt HB.out
                                                have C0 := (cells2 HC.out).1.1
                                                have C1 := (cells2 HC.out).1.2
                                                have C2 := (cells2 HC.out).2.1
                                                have C3 := (cells2 HC.out).2.2
                                                have Cl := blkLt HC.out
                                                have D0 := (cells2 HD.out).1.1
                                                have D1 := (cells2 HD.out).1.2
                                                have D2 := (cells2 HD.out).2.1
                                                have D3 := (cells2 HD.out).2.2
                                                have Dl := blkLt HD.out
                                                have S0 := (cells2 HS.out).1.1
                                                have S1 := (cells2 HS.out).1.2
                                                have S2 := (cells2 HS.out).2.1
                                                have S3 := (cells2 HS.out).2.2
                                                have Sl := blkLt HS.out
                                                have T0 := (cells2 HT.out).1.1
                                                have T1 := (cells2 HT.out).1.2
                                                have T2 := (cells2 HT.out).2.1
                                                have T3 := (cells2 HT.out).2.2
                                                have Tl := blkLt HT.out
                                                go_wp2_with (go_at_call 17; refine (Join_any c d _).mono ?_; rintro e wn ⟨rfl, hbn⟩; replace HW := Lib.hid (bCall (by (repeat with_reducible first | exact HW.out | apply bDrew | apply bAlloc)) hbn); replace HA := Lib.hid (moveX (by (repeat with_reducible first | exact Below.refl _ _ | apply bDrew | apply bAlloc)) hbn HA.out); replace HB := Lib.hid (moveX (by (repeat with_reducible first | exact Below.refl _ _ | apply bDrew | apply bAlloc)) hbn HB.out); replace HC := Lib.hid (moveX (by (repeat with_reducible first | exact Below.refl _ _ | apply bDrew | apply bAlloc)) hbn HC.out); replace HD := Lib.hid (moveX (by (repeat with_reducible first | exact Below.refl _ _ | apply bDrew | apply bAlloc)) hbn HD.out); replace HS := Lib.hid (moveX (by (repeat with_reducible first | exact Below.refl _ _ | apply bDrew | apply bAlloc)) hbn HS.out); replace HT := Lib.hid (moveX (by (repeat with_reducible first | exact Below.refl _ _ | apply bDrew | apply bAlloc)) hbn HT.out); replace A0 := (cells2 HA.out).1.1; replace A1 := (cells2 HA.out).1.2; replace A2 := (cells2 HA.out).2.1; replace A3 := (cells2 HA.out).2.2; replace Al := blkLt HA.out; replace B0 := (cells2 HB.out).1.1; replace B1 := (cells2 HB.out).1.2; replace B2 := (cells2 HB.out).2.1; replace B3 := (cells2 HB.out).2.2; replace Bl := blkLt HB.out; replace C0 := (cells2 HC.out).1.1; replace C1 := (cells2 HC.out).1.2; replace C2 := (cells2 HC.out).2.1; replace C3 := (cells2 HC.out).2.2; replace Cl := blkLt HC.out; replace D0 := (cells2 HD.out).1.1; replace D1 := (cells2 HD.out).1.2; replace D2 := (cells2 HD.out).2.1; replace D3 := (cells2 HD.out).2.2; replace Dl := blkLt HD.out; replace S0 := (cells2 HS.out).1.1; replace S1 := (cells2 HS.out).1.2; replace S2 := (cells2 HS.out).2.1; replace S3 := (cells2 HS.out).2.2; replace Sl := blkLt HS.out; replace T0 := (cells2 HT.out).1.1; replace T1 := (cells2 HT.out).1.2; replace T2 := (cells2 HT.out).2.1; replace T3 := (cells2 HT.out).2.2; replace Tl := blkLt HT.out; clear hbn)
                                                go_meet
                                                exact ⟨rfl, Lib.hid (setK HA.out (by omega)), Lib.hid (setK HB.out (by omega)), Lib.hid (setK HC.out (by omega)), Lib.hid (setK HD.out (by omega)), Lib.hid (res2 HS.out).1, Lib.hid (setK HT.out (by omega)), Lib.hid (below2 HW.out (by omega))⟩
                                              case rest => as_aux_lemma =>
                                                clear HW HA HB HC HD HS HT
                                                obtain ⟨rfl, HA, HB, HC, HD, HS, HT, HW⟩ := hcut
                                                go_upto_region 27 with fail
                                                go_cut [19] (fun s2 wx => s2 = .int .i64 (joinM a b).2 ∧ Hid (wx.heap[w.heap.size]? = some (.cells #[.int .i64 (a.lo), .int .i64 (a.hi)] 23 (0, 0))) ∧ Hid (wx.heap[w.heap.size + 1]? = some (.cells #[.int .i64 (b.lo), .int .i64 (b.hi)] 23 (0, 0))) ∧ Hid (wx.heap[bC]? = some (.cells #[.int .i64 (c.lo), .int .i64 (c.hi)] 23 (0, 0))) ∧ Hid (wx.heap[bD]? = some (.cells #[.int .i64 (d.lo), .int .i64 (d.hi)] 23 (0, 0))) ∧ Hid (wx.heap[bS]? = some (.cells #[.int .i64 ((joinM c d).1.lo), .int .i64 ((joinM c d).1.hi)] 23 (0, 0))) ∧ Hid (wx.heap[bT]? = some (.cells #[.int .i64 ((joinM a b).1.lo), .int .i64 ((joinM a b).1.hi)] 23 (0, 0))) ∧ Hid (Below w.heap.size w wx))
                                                case first => as_aux_lemma =>
                                                  have A0 := (cells2 HA.out).1.1
                                                  have A1 := (cells2 HA.out).1.2
                                                  have A2 := (cells2 HA.out).2.1
                                                  have A3 := (cells2 HA.out).2.2
                                                  have Al := blkLt HA.out
                                                  have B0 := (cells2 HB.out).1.1
                                                  have B1 := (cells2 HB.out).1.2
                                                  have B2 := (cells2 HB.out).2.1
                                                  have B3 := (cells2 HB.out).2.2
                                                  have Bl := blkLt HB.out
                                                  have C0 := (cells2 HC.out).1.1
                                                  have C1 := (cells2 HC.out).1.2
                                                  have C2 := (cells2 HC.out).2.1
                                                  have C3 := (cells2 HC.out).2.2
                                                  have Cl := blkLt HC.out
                                                  have D0 := (cells2 HD.out).1.1
                                                  have D1 := (cells2 HD.out).1.2
                                                  have D2 := (cells2 HD.out).2.1
                                                  have D3 := (cells2 HD.out).2.2
                                                  have Dl := blkLt HD.out
                                                  have S0 := (cells2 HS.out).1.1
                                                  have S1 := (cells2 HS.out).1.2
                                                  have S2 := (cells2 HS.out).2.1
                                                  have S3 := (cells2 HS.out).2.2
                                                  have Sl := blkLt HS.out
                                                  have T0 := (cells2 HT.out).1.1
                                                  have T1 := (cells2 HT.out).1.2
                                                  have T2 := (cells2 HT.out).2.1
                                                  have T3 := (cells2 HT.out).2.2
                                                  have Tl := blkLt HT.out
                                                  go_wp2_with (go_at_call 17; refine (Join_any a b _).mono ?_; rintro e wn ⟨rfl, hbn⟩; replace HW := Lib.hid (bCall (by (repeat with_reducible first | exact HW.out | apply bDrew | apply bAlloc)) hbn); replace HA := Lib.hid (moveX (by (repeat with_reducible first | exact Below.refl _ _ | apply bDrew | apply bAlloc)) hbn HA.out); replace HB := Lib.hid (moveX (by (repeat with_reducible first | exact Below.refl _ _ | apply bDrew | apply bAlloc)) hbn HB.out); replace HC := Lib.hid (moveX (by (repeat with_reducible first | exact Below.refl _ _ | apply bDrew | apply bAlloc)) hbn HC.out); replace HD := Lib.hid (moveX (by (repeat with_reducible first | exact Below.refl _ _ | apply bDrew | apply bAlloc)) hbn HD.out); replace HS := Lib.hid (moveX (by (repeat with_reducible first | exact Below.refl _ _ | apply bDrew | apply bAlloc)) hbn HS.out); replace HT := Lib.hid (moveX (by (repeat with_reducible first | exact Below.refl _ _ | apply bDrew | apply bAlloc)) hbn HT.out); replace A0 := (cells2 HA.out).1.1; replace A1 := (cells2 HA.out).1.2; replace A2 := (cells2 HA.out).2.1; replace A3 := (cells2 HA.out).2.2; replace Al := blkLt HA.out; replace B0 := (cells2 HB.out).1.1; replace B1 := (cells2 HB.out).1.2; replace B2 := (cells2 HB.out).2.1; replace B3 := (cells2 HB.out).2.2; replace Bl := blkLt HB.out; replace C0 := (cells2 HC.out).1.1; replace C1 := (cells2 HC.out).1.2; replace C2 := (cells2 HC.out).2.1; replace C3 := (cells2 HC.out).2.2; replace Cl := blkLt HC.out; replace D0 := (cells2 HD.out).1.1; replace D1 := (cells2 HD.out).1.2; replace D2 := (cells2 HD.out).2.1; replace D3 := (cells2 HD.out).2.2; replace Dl := blkLt HD.out; replace S0 := (cells2 HS.out).1.1; replace S1 := (cells2 HS.out).1.2; replace S2 := (cells2 HS.out).2.1; replace S3 := (cells2 HS.out).2.2; replace Sl := blkLt HS.out; replace T0 := (cells2 HT.out).1.1; replace T1 := (cells2 HT.out).1.2; replace T2 := (cells2 HT.out).2.1; replace T3 := (cells2 HT.out).2.2; replace Tl := blkLt HT.out; clear hbn)
                                                  go_meet
                                                  exact ⟨rfl, Lib.hid (setK HA.out (by omega)), Lib.hid (setK HB.out (by omega)), Lib.hid (setK HC.out (by omega)), Lib.hid (setK HD.out (by omega)), Lib.hid (setK HS.out (by omega)), Lib.hid (res2 HT.out).1, Lib.hid (below2 HW.out (by omega))⟩
                                                case rest => as_aux_lemma =>
                                                  clear HW HA HB HC HD HS HT
                                                  obtain ⟨rfl, HA, HB, HC, HD, HS, HT, HW⟩ := hcut
                                                  go_upto_region 28 with fail
                                                  have hin := Lib.hid (wi_true (join_wi HH.out.1.1 HH.out.1.2 HH.out.2.1 HH.out.2.2))
                                                  have S0 := (cells2 HS.out).1.1
                                                  have S1 := (cells2 HS.out).1.2
                                                  have S2 := (cells2 HS.out).2.1
                                                  have S3 := (cells2 HS.out).2.2
                                                  have Sl := blkLt HS.out
                                                  have T0 := (cells2 HT.out).1.1
                                                  have T1 := (cells2 HT.out).1.2
                                                  have T2 := (cells2 HT.out).2.1
                                                  have T3 := (cells2 HT.out).2.2
                                                  have Tl := blkLt HT.out
                                                  go_wp2_with (go_at_call 10; refine (hin.out _).mono ?_; rintro e wn ⟨rfl, hbn⟩; replace HW := Lib.hid (bCall (by (repeat with_reducible first | exact HW.out | apply bDrew | apply bAlloc)) hbn); replace HA := Lib.hid (moveX (by (repeat with_reducible first | exact Below.refl _ _ | apply bDrew | apply bAlloc)) hbn HA.out); replace HB := Lib.hid (moveX (by (repeat with_reducible first | exact Below.refl _ _ | apply bDrew | apply bAlloc)) hbn HB.out); replace HC := Lib.hid (moveX (by (repeat with_reducible first | exact Below.refl _ _ | apply bDrew | apply bAlloc)) hbn HC.out); replace HD := Lib.hid (moveX (by (repeat with_reducible first | exact Below.refl _ _ | apply bDrew | apply bAlloc)) hbn HD.out); replace HS := Lib.hid (moveX (by (repeat with_reducible first | exact Below.refl _ _ | apply bDrew | apply bAlloc)) hbn HS.out); replace HT := Lib.hid (moveX (by (repeat with_reducible first | exact Below.refl _ _ | apply bDrew | apply bAlloc)) hbn HT.out); replace S0 := (cells2 HS.out).1.1; replace S1 := (cells2 HS.out).1.2; replace S2 := (cells2 HS.out).2.1; replace S3 := (cells2 HS.out).2.2; replace Sl := blkLt HS.out; replace T0 := (cells2 HT.out).1.1; replace T1 := (cells2 HT.out).1.2; replace T2 := (cells2 HT.out).2.1; replace T3 := (cells2 HT.out).2.2; replace Tl := blkLt HT.out; clear hbn)
                                                  go_ret
                                                  exact ⟨rfl, HW.out⟩
theorem narrower_any (a b : Sp) (i k m n : Int) (hi : 0 ≤ i ∧ i < 18446744073709551616) (hk : 0 ≤ k ∧ k < 18446744073709551616) (hm : 0 ≤ m ∧ m < 18446744073709551616) (hn : 0 ≤ n ∧ n < 18446744073709551616) (w : World) : Calls Try.prog 3 #[sv a, sv b, .int .u64 i, .int .u64 k, .int .u64 m, .int .u64 n] w (BB true w) := by
  rcases h : (vB a && vB b) with _ | _
  · exact narrower_bad a b i k m n h w
  · simp only [Bool.and_eq_true] at h
    exact narrower_ok a b i k m n hi hk hm hn h.1 h.2 w
end Go.Proofs.Ytphjkkkjkfclgaa
