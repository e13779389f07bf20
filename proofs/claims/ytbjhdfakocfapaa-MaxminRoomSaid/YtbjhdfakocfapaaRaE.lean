/- Contracts of the reference of package ratio, and of the law's own functions. -/
import Derived.Test.YtbjhdfakocfapaaRaC
namespace Go.Proofs.Ytbjhdfakocfapaa
open Go.RowKit
set_option linter.unusedVariables false
set_option linter.unusedSimpArgs false
theorem gc_abs2 (n d : Int) : gc (max n (-n)) d = gc n d := gc_abs n d
set_option maxHeartbeats 1000000 in
set_option maxRecDepth 100000 in
theorem RGcd_any (x y : Int) (hx : 0 ≤ x) (hy : 0 ≤ y) (fx : Fit x) (fy : Fit y) (w : World) : Calls Try.prog 55 #[.int .i64 x, .int .i64 y] w (SS (.int .i64 (gc x y)) w) := by
  obtain ⟨G, hG⟩ : ∃ G, gc x y = G := ⟨_, rfl⟩
  rw [hG]
  go_enter Try.func55, Try.ntmps55
  go_wp2_with fail
  go_loop [0, 1, 5] (fun p q _ => ∃ (a b : Int), p = .int .i64 a ∧ q = .int .i64 b ∧ 0 ≤ a ∧ Fit a ∧ 0 ≤ b ∧ Fit b ∧ Hid (gc a b = G)) (fun _ q _ => (intOf q).toNat)
  case atStart => exact ⟨x, y, rfl, rfl, hx, fx, hy, fy, Lib.hid hG⟩
  case round =>
    obtain ⟨a, b, rfl, rfl, ha, hfa, hb, hfb, hg⟩ := hrel
    by_cases h0 : b = 0
    · subst h0
      have e := hg.out
      rw [gc_self_nn ha] at e
      subst e
      clear hg hfa hfb hG
      go_wp2
      go_ret
      exact ⟨rfl, rfl⟩
    · have e := (gc_step a b).trans hg.out
      have hbd := tmod_bd (p := a) h0
      have hnn := Int.tmod_nonneg b ha
      obtain ⟨r, hr⟩ : ∃ r, a.tmod b = r := ⟨_, rfl⟩
      rw [hr] at e hbd hnn
      have q : IntKind.i64.wrap (a.tmod b) = r := by rw [hr]; exact IntWalk.i64_in _ (by unfold Fit at hfb; omega)
      have hfr : Fit r := by unfold Fit at *; omega
      have HR := Lib.hid hr
      have HE : Hid (a % b = r) := Lib.hid (by rw [← hr, Int.tmod_eq_emod_of_nonneg ha])
      have HH := Lib.hid (And.intro (And.intro hbd hnn) (And.intro e (And.intro hb (And.intro hfb hfr))))
      clear hg e hbd hnn hr hfa hx hy ha hb hfb hfr
      go_wp2
      go_round
      case rel => exact ⟨b, r, rfl, by first | rfl | exact congrArg _ HR.out | exact congrArg _ HE.out, HH.out.2.2.1, HH.out.2.2.2.1, HH.out.1.2, HH.out.2.2.2.2, Lib.hid HH.out.2.1⟩
      case measure => have := HH.out.1; have := HH.out.2.2.1; simp only [intOf]; (try rw [HR.out]); (try rw [HE.out]); simp; omega
set_option maxHeartbeats 1000000 in
set_option maxRecDepth 100000 in
theorem RValid_any (s : Q) (w : World) : Calls Try.prog 35 #[qv s] w (BB (qB s) w) := by
  have hF : ∀ w, Calls Try.prog 54 #[.int .i64 s.n, .int .i64 s.d] w (fun e w'' => e = .returned (.bool (rB s)) ∧ w'' = w) := fits_any s.n s.d
  have HW := Lib.hid (bAlloc (o := qb s) (Below.refl w.heap.size w))
  rcases hr : rB s with _ | _
  · have e : qB s = false := by unfold qB; rw [hr]; rfl
    rw [e]
    rw [hr] at hF
    have hF := Lib.hid hF
    clear e hr
    go_enter Try.func35, Try.ntmps35
    go_wp2_with fail
    go_quiet ((go_at_call 54; exact Calls.quiet_of_same (hF.out _)))
    go_wp2
    go_ret
    exact ⟨rfl, bDrewN HW.out _⟩
  · have hfit := rB_fit hr
    have e : qB s = decide (gc s.n s.d = 1) := by unfold qB; rw [hr]; rfl
    have hm : 0 ≤ max s.n (-s.n) ∧ Fit (max s.n (-s.n)) := by unfold Fit at *; omega
    have hA : Hid (∀ w, Calls Try.prog 56 #[.int .i64 s.n] w (fun e w'' => e = .returned (.int .i64 (max s.n (-s.n))) ∧ w'' = w)) := Lib.hid (abs_any s.n hfit.1)
    have hD : Hid (∀ w, Calls Try.prog 55 #[.int .i64 (max s.n (-s.n)), .int .i64 s.d] w (fun e w'' => e = .returned (.int .i64 (gc s.n s.d)) ∧ w'' = w)) := Lib.hid (fun w => gc_abs s.n s.d ▸ RGcd_any _ _ hm.1 (by have := rB_iff.1 hr; omega) hm.2 hfit.2 w)
    rw [e]
    rw [hr] at hF
    have hF := Lib.hid hF
    clear e hr hfit hm
    generalize gc s.n s.d = g at *
    generalize max s.n (-s.n) = m at *
    obtain ⟨t, ht⟩ : ∃ t, decide (g = 1) = t := ⟨_, rfl⟩
    rw [ht]
    have ht := Lib.hid ht
    go_enter Try.func35, Try.ntmps35
    go_wp2_with fail
    go_quiet ((first | (go_at_call 54; exact Calls.quiet_of_same (hF.out _)) | (go_at_call 56; exact Calls.quiet_of_same (hA.out _)) | (go_at_call 55; exact Calls.quiet_of_same (hD.out _))))
    go_wp2
    go_ret
    exact ⟨ret_bool (show (g == 1) = t by rw [← ht.out]; rfl), bDrewN HW.out _⟩
set_option maxHeartbeats 1000000 in
set_option maxRecDepth 100000 in
theorem RRed_p (n d : Int) (hn : Fit n) (hd : Fit d) (h0 : d ≠ 0) (hs : ¬ d < 0) (w : World) : Calls Try.prog 76 #[.int .i64 n, .int .i64 d] w (VV (qr (redM n d)) w) := by
  have hl := (tdiv_low (n := n) h0).2 hs
  have hg1 := gc_pos (n := n) h0
  have e1 : redM n d = if rB (lowM n d) = true then (lowM n d, 0) else (⟨0, 0⟩, 3) := by unfold redM; rw [if_neg h0]
  rw [e1]
  clear e1
  have hG : gc n d = gc n d := rfl
  have hE : 0 ≤ d := by omega
  have hm : 0 ≤ max n (-n) ∧ Fit (max n (-n)) := by unfold Fit at *; omega
  have hA : Hid (∀ w, Calls Try.prog 56 #[.int .i64 n] w (fun e w'' => e = .returned (.int .i64 (max n (-n))) ∧ w'' = w)) := Lib.hid (abs_any n hn)
  have hD : Hid (∀ w, Calls Try.prog 55 #[.int .i64 (max n (-n)), .int .i64 d] w (fun e w'' => e = .returned (.int .i64 (gc n d)) ∧ w'' = w)) := Lib.hid (fun w => by have h := RGcd_any _ _ hm.1 hE hm.2 hd w; rw [gc_abs, hG] at h; exact h)
  have hF : Hid (∀ w, Calls Try.prog 54 #[.int .i64 (lowM n d).n, .int .i64 (lowM n d).d] w (fun e w'' => e = .returned (.bool (rB (lowM n d))) ∧ w'' = w)) := Lib.hid (fits_any _ _)
  clear hG hm hE
  have k1 := tdiv_fit (y := gc n d) hn
  have k2 := tdiv_fit (y := gc n d) hd
  rw [hl.1] at k1
  rw [hl.2] at k2
  generalize max n (-n) = m at *
  generalize gc n d = g at *
  generalize lowM n d = l at *
  have q1 : IntKind.i64.wrap (n.tdiv g) = l.n := by rw [hl.1]; exact IntWalk.i64_in _ (by unfold Fit at k1; omega)
  have q2 : IntKind.i64.wrap (d.tdiv g) = l.d := by rw [hl.2]; exact IntWalk.i64_in _ (by unfold Fit at k2; omega)
  have hne : g ≠ 0 := by omega
  have td : decide (d < 0) = false := by simpa using hs
  obtain ⟨t, ht⟩ : ∃ t, rB l = t := ⟨_, rfl⟩
  rw [ht] at hF ⊢
  have HR := Lib.hid (newBlk w (qb ⟨0, 0⟩) _ rfl)
  have HW := Lib.hid (bAlloc (o := qb ⟨0, 0⟩) (Below.refl w.heap.size w))
  obtain ⟨⟨r0, r1⟩, r2, r3⟩ := cells2 HR.out
  clear hl hn hd k1 k2 ht hg1
  cases t
  all_goals
    first | rw [if_pos rfl] | rw [if_neg (by decide)]
    go_enter Try.func76, Try.ntmps76
    go_wp2_with (first
      | (go_at_call 56; refine (hA.out _).mono ?_; rintro e w1 ⟨rfl, rfl⟩)
      | (go_at_call 55; refine (hD.out _).mono ?_; rintro e w1 ⟨rfl, rfl⟩))
    go_quiet ((go_at_call 54; exact Calls.quiet_of_same (hF.out _)))
    go_wp2_with fail
  · exact bodyPost_ret (v := qr (⟨0, 0⟩, 3)) (by simp [results, Try.results76, go_sem, (res2 HR.out).2.1, (res2 HR.out).2.2]) rfl ⟨rfl, below2 (bDrewN HW.out _) (by omega)⟩
  · obtain ⟨W, hW⟩ : ∃ W, (w.alloc (qb ⟨0, 0⟩)).drewN nq = W := ⟨_, rfl⟩
    change Code.wp _ _ _ _ ((w.alloc (qb ⟨0, 0⟩)).drewN nq)
    have HR := Lib.hid (show W.heap[w.heap.size]? = some (qb ⟨0, 0⟩) by rw [← hW]; exact HR.out)
    have HW := Lib.hid (show Below w.heap.size w W by rw [← hW]; exact bDrewN HW.out _)
    rw [hW]
    clear hW r0 r1 r2 r3
    obtain ⟨Wd, hWd⟩ : ∃ Wd, Wd = ({ W with drawn := W.drawn + 1 } : World) := ⟨_, rfl⟩
    have HR := Lib.hid (show Wd.heap[w.heap.size]? = some (qb ⟨0, 0⟩) by rw [hWd]; exact HR.out)
    have HW := Lib.hid (show Below w.heap.size w Wd by rw [hWd]; exact HW.out.drew)
    refine wp_region_still_tail 7 (by kernel_rfl) (by kernel_rfl) ?_
    rw [← hWd]
    clear hWd
    simp only [List.take_succ_cons, List.take_zero, List.drop_succ_cons, List.drop_zero]
    obtain ⟨⟨r0, r1⟩, r2, r3⟩ := cells2 HR.out
    have hl := blkLt HR.out
    repeat still_step
    refine wpStill_nil ?_
    go_wp2
    exact bodyPost_ret (v := qr (l, 0)) (by simp [results, Try.results76, go_sem, (res2 HR.out).2.1, (res2 HR.out).2.2]) rfl ⟨rfl, below2 HW.out (by omega)⟩
set_option maxHeartbeats 1000000 in
set_option maxRecDepth 100000 in
theorem RRed_m (n d : Int) (hn : Fit n) (hd : Fit d) (h0 : d ≠ 0) (hs : d < 0) (w : World) : Calls Try.prog 76 #[.int .i64 n, .int .i64 d] w (VV (qr (redM n d)) w) := by
  have hl := (tdiv_low (n := n) h0).1 hs
  have hg1 := gc_pos (n := n) h0
  have e1 : redM n d = if rB (lowM n d) = true then (lowM n d, 0) else (⟨0, 0⟩, 3) := by unfold redM; rw [if_neg h0]
  rw [e1]
  clear e1
  obtain ⟨p, hp⟩ : ∃ p, -n = p := ⟨_, rfl⟩
  obtain ⟨e, he⟩ : ∃ e, -d = e := ⟨_, rfl⟩
  have qp : IntKind.i64.wrap (-n) = p := by rw [← hp]; exact IntWalk.i64_in _ (by unfold Fit at hn; omega)
  have qe : IntKind.i64.wrap (-d) = e := by rw [← he]; exact IntWalk.i64_in _ (by unfold Fit at hd; omega)
  have hG : gc p e = gc n d := by rw [← hp, ← he]; unfold gc; simp
  rw [show n.tdiv (-(gc n d)) = p.tdiv (gc n d) by rw [← hp, Int.neg_tdiv, Int.tdiv_neg], show d.tdiv (-(gc n d)) = e.tdiv (gc n d) by rw [← he, Int.neg_tdiv, Int.tdiv_neg]] at hl
  have hn : Fit p := by unfold Fit at *; omega
  have hd : Fit e := by unfold Fit at *; omega
  have hE : 0 ≤ e := by omega
  clear hp he
  have hm : 0 ≤ max p (-p) ∧ Fit (max p (-p)) := by unfold Fit at *; omega
  have hA : Hid (∀ w, Calls Try.prog 56 #[.int .i64 p] w (fun e w'' => e = .returned (.int .i64 (max p (-p))) ∧ w'' = w)) := Lib.hid (abs_any p hn)
  have hD : Hid (∀ w, Calls Try.prog 55 #[.int .i64 (max p (-p)), .int .i64 e] w (fun e w'' => e = .returned (.int .i64 (gc n d)) ∧ w'' = w)) := Lib.hid (fun w => by have h := RGcd_any _ _ hm.1 hE hm.2 hd w; rw [gc_abs, hG] at h; exact h)
  have hF : Hid (∀ w, Calls Try.prog 54 #[.int .i64 (lowM n d).n, .int .i64 (lowM n d).d] w (fun e w'' => e = .returned (.bool (rB (lowM n d))) ∧ w'' = w)) := Lib.hid (fits_any _ _)
  clear hG hm hE
  have k1 := tdiv_fit (y := gc n d) hn
  have k2 := tdiv_fit (y := gc n d) hd
  rw [hl.1] at k1
  rw [hl.2] at k2
  generalize max p (-p) = m at *
  generalize gc n d = g at *
  generalize lowM n d = l at *
  have q1 : IntKind.i64.wrap (p.tdiv g) = l.n := by rw [hl.1]; exact IntWalk.i64_in _ (by unfold Fit at k1; omega)
  have q2 : IntKind.i64.wrap (e.tdiv g) = l.d := by rw [hl.2]; exact IntWalk.i64_in _ (by unfold Fit at k2; omega)
  have hne : g ≠ 0 := by omega
  have td : decide (d < 0) = true := by simpa using hs
  obtain ⟨t, ht⟩ : ∃ t, rB l = t := ⟨_, rfl⟩
  rw [ht] at hF ⊢
  have HR := Lib.hid (newBlk w (qb ⟨0, 0⟩) _ rfl)
  have HW := Lib.hid (bAlloc (o := qb ⟨0, 0⟩) (Below.refl w.heap.size w))
  obtain ⟨⟨r0, r1⟩, r2, r3⟩ := cells2 HR.out
  clear hl hn hd k1 k2 ht hg1
  cases t
  all_goals
    first | rw [if_pos rfl] | rw [if_neg (by decide)]
    go_enter Try.func76, Try.ntmps76
    go_wp2_with (first
      | (go_at_call 56; refine (hA.out _).mono ?_; rintro e w1 ⟨rfl, rfl⟩)
      | (go_at_call 55; refine (hD.out _).mono ?_; rintro e w1 ⟨rfl, rfl⟩))
    go_quiet ((go_at_call 54; exact Calls.quiet_of_same (hF.out _)))
    go_wp2_with fail
  · exact bodyPost_ret (v := qr (⟨0, 0⟩, 3)) (by simp [results, Try.results76, go_sem, (res2 HR.out).2.1, (res2 HR.out).2.2]) rfl ⟨rfl, below2 (bDrewN HW.out _) (by omega)⟩
  · obtain ⟨W, hW⟩ : ∃ W, (w.alloc (qb ⟨0, 0⟩)).drewN nq = W := ⟨_, rfl⟩
    change Code.wp _ _ _ _ ((w.alloc (qb ⟨0, 0⟩)).drewN nq)
    have HR := Lib.hid (show W.heap[w.heap.size]? = some (qb ⟨0, 0⟩) by rw [← hW]; exact HR.out)
    have HW := Lib.hid (show Below w.heap.size w W by rw [← hW]; exact bDrewN HW.out _)
    rw [hW]
    clear hW r0 r1 r2 r3
    obtain ⟨Wd, hWd⟩ : ∃ Wd, Wd = ({ W with drawn := W.drawn + 1 } : World) := ⟨_, rfl⟩
    have HR := Lib.hid (show Wd.heap[w.heap.size]? = some (qb ⟨0, 0⟩) by rw [hWd]; exact HR.out)
    have HW := Lib.hid (show Below w.heap.size w Wd by rw [hWd]; exact HW.out.drew)
    refine wp_region_still_tail 7 (by kernel_rfl) (by kernel_rfl) ?_
    rw [← hWd]
    clear hWd
    simp only [List.take_succ_cons, List.take_zero, List.drop_succ_cons, List.drop_zero]
    obtain ⟨⟨r0, r1⟩, r2, r3⟩ := cells2 HR.out
    have hl := blkLt HR.out
    repeat still_step
    refine wpStill_nil ?_
    go_wp2
    exact bodyPost_ret (v := qr (l, 0)) (by simp [results, Try.results76, go_sem, (res2 HR.out).2.1, (res2 HR.out).2.2]) rfl ⟨rfl, below2 HW.out (by omega)⟩
end Go.Proofs.Ytbjhdfakocfapaa
