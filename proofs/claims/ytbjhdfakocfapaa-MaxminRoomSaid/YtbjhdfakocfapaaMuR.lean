/- MaxminRoom: the law as a contract. -/
import Derived.Test.YtbjhdfakocfapaaMuB
import Derived.Test.YtbjhdfakocfapaaMuL
import Derived.Test.YtbjhdfakocfapaaMuM
import Derived.Test.YtbjhdfakocfapaaMuN
namespace Go.Proofs.Ytbjhdfakocfapaa
open Go.RowKit
set_option linter.unusedVariables false
set_option linter.unusedSimpArgs false
set_option maxHeartbeats 8000000 in
set_option maxRecDepth 100000 in
theorem room_any (n : Net) (a : NetA) (wh mo : Int) (w : World) (hn : NetR w n a) (hs : n.c.length ≤ maxLen ∧ n.f.length ≤ maxLen ∧ n.l.length ≤ maxLen) (hrow : ∀ r ∈ n.f, r.length ≤ maxLen) :
    Calls Try.prog 8 #[nv n a, .int .i64 wh, .int .i64 mo] w (VV (.bool true) w) := by
  have hml : maxLen = 9223372036854775807 := rfl
  obtain ⟨W1, hW1⟩ : ∃ W1, W1 = w.alloc (netB n a) := ⟨_, rfl⟩
  have G1 : Gr w W1 := by rw [hW1]; exact grAlloc _ _
  have A1 : W1.heap[w.heap.size]? = some (netB n a) := by rw [hW1]; exact newBlk _ _ _ rfl
  obtain ⟨a0, a1, a2⟩ := cells3 A1
  have HFe := Lib.hid (fun wx (hg : Gr W1 wx) => RFew_any n a wx (hn.gr (Gr.tr G1 hg)))
  have HVa := Lib.hid (fun wx (hg : Gr W1 wx) => RValid13_any n a wx (hn.gr (Gr.tr G1 hg)) hrow)
  have HSh := Lib.hid (fun wx (hg : Gr W1 wx) => Share_any n a wx (hn.gr (Gr.tr G1 hg)) hs)
  have HN := Lib.hid (fun wx (hg : Gr W1 wx) => hn.gr (Gr.tr G1 hg))
  have HB := Lib.hid (fun wx (hg : Gr W1 wx) => cells3 (grBlk hg A1))
  have HW1 := Lib.hid (show w.heap.size + 1 ≤ W1.heap.size from by rw [hW1]; simp)
  have HG := Lib.hid G1
  clear A1 hn hs G1 hrow
  rcases hf : fewB n with _ | _
  · rw [hf] at HFe
    clear hf
    go_enter Try.func8, Try.ntmps8
    go_upto_region 1 with fail
    rw [← hW1]
    clear hW1
    go_wp2_with (first
      | (go_at_call 10; refine (head_any _).mono ?_; rintro e w2 ⟨rfl, hg2⟩; have a0 := grCell hg2 a0; have a1 := grCell hg2 a1; have a2 := grCell hg2 a2; have hg2 := Lib.hid hg2)
      | (go_at_call 11; refine (HFe.out _ hg2.out).mono ?_; rintro e w3 ⟨rfl, hg3⟩; have a0 := grCell hg3 a0; have a1 := grCell hg3 a1; have a2 := grCell hg3 a2; have hg3 := Lib.hid (Gr.tr hg2.out hg3)))
    go_ret
    exact ⟨rfl, Gr.tr HG.out hg3.out⟩
  rw [hf] at HFe
  rcases hv : validB n with _ | _
  · rw [hv] at HVa
    clear hv
    go_enter Try.func8, Try.ntmps8
    go_upto_region 1 with fail
    rw [← hW1]
    clear hW1
    go_wp2_with (first
      | (go_at_call 10; refine (head_any _).mono ?_; rintro e w2 ⟨rfl, hg2⟩; have a0 := grCell hg2 a0; have a1 := grCell hg2 a1; have a2 := grCell hg2 a2; have hg2 := Lib.hid hg2)
      | (go_at_call 11; refine (HFe.out _ hg2.out).mono ?_; rintro e w3 ⟨rfl, hg3⟩; have a0 := grCell hg3 a0; have a1 := grCell hg3 a1; have a2 := grCell hg3 a2; have hg3 := Lib.hid (Gr.tr hg2.out hg3))
      | (go_at_call 18; refine (HVa.out _ hg3.out).mono ?_; rintro e w4 ⟨rfl, hg4⟩; have a0 := grCell hg4 a0; have a1 := grCell hg4 a1; have a2 := grCell hg4 a2; have hg4 := Lib.hid (Gr.tr hg3.out hg4)))
    go_ret
    exact ⟨rfl, Gr.tr HG.out hg4.out⟩
  rw [hv] at HVa
  by_cases h0 : n.f.length = 0
  · have t0 : ((n.f.length : Int) == 0) = true := by rw [h0]; rfl
    clear hv hf h0
    go_enter Try.func8, Try.ntmps8
    go_upto_region 1 with fail
    rw [← hW1]
    clear hW1
    go_wp2_with (first
      | (go_at_call 10; refine (head_any _).mono ?_; rintro e w2 ⟨rfl, hg2⟩; have a0 := grCell hg2 a0; have a1 := grCell hg2 a1; have a2 := grCell hg2 a2; have hg2 := Lib.hid hg2)
      | (go_at_call 11; refine (HFe.out _ hg2.out).mono ?_; rintro e w3 ⟨rfl, hg3⟩; have a0 := grCell hg3 a0; have a1 := grCell hg3 a1; have a2 := grCell hg3 a2; have hg3 := Lib.hid (Gr.tr hg2.out hg3))
      | (go_at_call 18; refine (HVa.out _ hg3.out).mono ?_; rintro e w4 ⟨rfl, hg4⟩; have a0 := grCell hg4 a0; have a1 := grCell hg4 a1; have a2 := grCell hg4 a2; have hg4 := Lib.hid (Gr.tr hg3.out hg4)))
    go_ret
    exact ⟨rfl, Gr.tr HG.out hg4.out⟩
  have t0 : ((n.f.length : Int) == 0) = false := by
    have h9 : ¬ (n.f.length : Int) = 0 := by omega
    simpa using h9
  by_cases h1 : wh < 0
  · clear hv hf h0
    go_enter Try.func8, Try.ntmps8
    go_upto_region 1 with fail
    rw [← hW1]
    clear hW1
    go_wp2_with (first
      | (go_at_call 10; refine (head_any _).mono ?_; rintro e w2 ⟨rfl, hg2⟩; have a0 := grCell hg2 a0; have a1 := grCell hg2 a1; have a2 := grCell hg2 a2; have hg2 := Lib.hid hg2)
      | (go_at_call 11; refine (HFe.out _ hg2.out).mono ?_; rintro e w3 ⟨rfl, hg3⟩; have a0 := grCell hg3 a0; have a1 := grCell hg3 a1; have a2 := grCell hg3 a2; have hg3 := Lib.hid (Gr.tr hg2.out hg3))
      | (go_at_call 18; refine (HVa.out _ hg3.out).mono ?_; rintro e w4 ⟨rfl, hg4⟩; have a0 := grCell hg4 a0; have a1 := grCell hg4 a1; have a2 := grCell hg4 a2; have hg4 := Lib.hid (Gr.tr hg3.out hg4)))
    go_ret
    exact ⟨rfl, Gr.tr HG.out hg4.out⟩
  by_cases h2 : mo < 0
  · clear hv hf h0
    go_enter Try.func8, Try.ntmps8
    go_upto_region 1 with fail
    rw [← hW1]
    clear hW1
    go_wp2_with (first
      | (go_at_call 10; refine (head_any _).mono ?_; rintro e w2 ⟨rfl, hg2⟩; have a0 := grCell hg2 a0; have a1 := grCell hg2 a1; have a2 := grCell hg2 a2; have hg2 := Lib.hid hg2)
      | (go_at_call 11; refine (HFe.out _ hg2.out).mono ?_; rintro e w3 ⟨rfl, hg3⟩; have a0 := grCell hg3 a0; have a1 := grCell hg3 a1; have a2 := grCell hg3 a2; have hg3 := Lib.hid (Gr.tr hg2.out hg3))
      | (go_at_call 18; refine (HVa.out _ hg3.out).mono ?_; rintro e w4 ⟨rfl, hg4⟩; have a0 := grCell hg4 a0; have a1 := grCell hg4 a1; have a2 := grCell hg4 a2; have hg4 := Lib.hid (Gr.tr hg3.out hg4)))
    go_ret
    exact ⟨rfl, Gr.tr HG.out hg4.out⟩
  by_cases h3 : 1000 < mo
  · clear hv hf h0
    go_enter Try.func8, Try.ntmps8
    go_upto_region 1 with fail
    rw [← hW1]
    clear hW1
    go_wp2_with (first
      | (go_at_call 10; refine (head_any _).mono ?_; rintro e w2 ⟨rfl, hg2⟩; have a0 := grCell hg2 a0; have a1 := grCell hg2 a1; have a2 := grCell hg2 a2; have hg2 := Lib.hid hg2)
      | (go_at_call 11; refine (HFe.out _ hg2.out).mono ?_; rintro e w3 ⟨rfl, hg3⟩; have a0 := grCell hg3 a0; have a1 := grCell hg3 a1; have a2 := grCell hg3 a2; have hg3 := Lib.hid (Gr.tr hg2.out hg3))
      | (go_at_call 18; refine (HVa.out _ hg3.out).mono ?_; rintro e w4 ⟨rfl, hg4⟩; have a0 := grCell hg4 a0; have a1 := grCell hg4 a1; have a2 := grCell hg4 a2; have hg4 := Lib.hid (Gr.tr hg3.out hg4)))
    go_ret
    exact ⟨rfl, Gr.tr HG.out hg4.out⟩
  obtain ⟨k1, k2, k3, k4, k5, k6⟩ := valid_parts hv
  have hS : Hid (∀ W e w', ShareP n W e w' → Gr W w' ∧ ∃ YA, QsR w' (shareM n) YA ∧ e = .returned (.tuple #[.slice YA (shareM n).length (shareM n).length, .int .i64 0])) := Lib.hid (fun W e w' h => share_ok hv h)
  have HV := Lib.hid hv
  have K := Lib.hid (And.intro k1 (And.intro k2 k3))
  have hC : 0 < n.c.length := by
    obtain ⟨r0, hr0⟩ : ∃ r0, r0 ∈ n.f := List.exists_mem_of_length_pos (by omega)
    have hr := links_len (k4 r0 hr0)
    obtain ⟨l, hl⟩ : ∃ l, l ∈ r0 := List.exists_mem_of_length_pos (by omega)
    have := valid_links hv r0 hr0 l hl
    omega
  obtain ⟨l, hl, hlc⟩ : ∃ l : Nat, wh.tmod (n.c.length : Int) = (l : Int) ∧ l < n.c.length := by
    have e1 := Int.tmod_nonneg (n.c.length : Int) (show 0 ≤ wh by omega)
    have e2 := Int.tmod_lt_of_pos wh (show (0 : Int) < (n.c.length : Int) by omega)
    exact ⟨(wh.tmod (n.c.length : Int)).toNat, by omega, by omega⟩
  have el : IntKind.i64.wrap (l : Int) = (l : Int) := IntWalk.i64_in _ (by omega)
  have hz : ¬ (n.c.length : Int) = 0 := by omega
  have hcl := capsB_num k5 l
  obtain ⟨v, hvv⟩ : ∃ v, v = min 1000 (num n.c l + mo) := ⟨_, rfl⟩
  have HV1 := Lib.hid (show num n.c l ≤ v ∧ v ≤ 1000 ∧ 0 ≤ v from by omega)
  obtain ⟨sm, hsm⟩ : ∃ sm, num n.c l + mo = sm := ⟨_, rfl⟩
  have esm : IntKind.i64.wrap (num n.c l + mo) = sm := by rw [hsm]; exact IntWalk.i64_in _ (by omega)
  have em := run_min2 1000 sm v (by rw [← hsm]; exact hvv)
  have HE := Lib.hid (And.intro esm em)
  have HC := Lib.hid (And.intro hC (And.intro hlc hcl))
  have hF0 : 0 < n.f.length := by omega
  have HRo := Lib.hid (fun r (hr : r ∈ n.f) => show r.length ≤ 1000000 from by have := links_len (k4 r hr); omega)
  have hwv := wide_valid (l := l) hv HV1.out.2.2 HV1.out.2.1
  have hlx := (share_fair hv).2.1
  have hly : (shareM (wideNet n l v)).length = n.f.length := (share_fair hwv).2.1
  have hS2 : Hid (∀ W e w', ShareP (wideNet n l v) W e w' → Gr W w' ∧ ∃ YA, QsR w' (shareM (wideNet n l v)) YA ∧ e = .returned (.tuple #[.slice YA (shareM (wideNet n l v)).length (shareM (wideNet n l v)).length, .int .i64 0])) := Lib.hid (fun W e w' h => share_ok hwv h)
  obtain ⟨sq, hsq1, hsq2, hsq3⟩ := share_load hv hlc
  have hLd := Lib.hid (fun XA xm wx (hn2 : NetR wx n a) (hx : QsR wx (shareM n) XA) => RLoad_any n a (shareM n) XA xm l wx hn2 hx hlx (by omega) HRo.out)
  have HQ := Lib.hid (show (∀ i, i < n.f.length → qB (rat (shareM n) i) = true) ∧ (∀ i, i < n.f.length → qB (rat (shareM (wideNet n l v)) i) = true) from ⟨(share_fair hv).2.2.1, (share_fair hwv).2.2.1⟩)
  have HLe := Lib.hid (fun (x : Rat) (hx : ∀ i, i < n.f.length → x ≤ ratT (shareM n) i) => wide_least hv hlc HV1.out.1 HV1.out.2.1 hx)
  have HSq := Lib.hid (And.intro hsq1 hsq2)
  have HRm := Lib.hid (show sq.n < num n.c l * sq.d → sameB (shareM n) (shareM (wideNet n l v)) = true from fun h => by
    have h2 := (room_iff hsq2 hcl).1 h
    rw [hsq3] at h2
    rw [wide_same hv hlc HV1.out.1 HV1.out.2.1 h2]
    exact decide_eq_true rfl)
  have HSd := Lib.hid (show IntKind.i64.wrap (num n.c l * sq.d) = num n.c l * sq.d from by
    have h5 := (qB_iff.1 hsq2).1
    have h6 : num n.c l * sq.d ≤ 1000 * sq.d := Int.mul_le_mul_of_nonneg_right hcl.2 (by omega)
    have h7 : 0 ≤ num n.c l * sq.d := Int.mul_nonneg hcl.1 (by omega)
    exact IntWalk.i64_in _ (by omega))
  have tl1 : (((shareM n).length : Int) != (n.f.length : Int)) = false := by simp; rw [hlx]
  have tl2 : (((shareM (wideNet n l v)).length : Int) != ((shareM n).length : Int)) = false := by simp; rw [hlx, hly]
  have HL := Lib.hid (show (shareM n).length = n.f.length ∧ (shareM (wideNet n l v)).length = n.f.length ∧ n.f.length ≤ 8 from ⟨hlx, hly, k2⟩)
  have hSm := Lib.hid (fun XA YA xm ym wx (hx : QsR wx (shareM n) XA) (hy : QsR wx (shareM (wideNet n l v)) YA) => RSame_any (shareM n) (shareM (wideNet n l v)) XA YA xm ym wx hx hy (by rw [hlx]; omega))
  have HWs := Lib.hid (fun g cap wx (hi : IntsR wx (n.c.set l v) (some ⟨g, 0, none⟩)) (hg : Gr W1 wx) => (show Calls Try.prog 12 #[.agg #[.slice (some ⟨g, 0, none⟩) n.c.length cap, .slice a.fa n.f.length a.fm, .slice a.la n.l.length a.lm]] wx (ShareP (wideNet n l v) wx) from by
    have hN := HN.out wx hg
    have h := Share_any (wideNet n l v) ⟨some ⟨g, 0, none⟩, cap, a.fa, a.fm, a.la, a.lm⟩ wx ⟨hi, hN.2.1, hN.2.2⟩ (by unfold wideNet; simp only [List.length_set]; omega)
    have e : nv (wideNet n l v) ⟨some ⟨g, 0, none⟩, cap, a.fa, a.fm, a.la, a.lm⟩ = .agg #[.slice (some ⟨g, 0, none⟩) n.c.length cap, .slice a.fa n.f.length a.fm, .slice a.la n.l.length a.lm] := by unfold nv wideNet; simp
    rw [e] at h
    exact h))
  clear k1 k2 k3 k4 k5 k6 hv hf hC hlc hcl hvv hsm esm em hwv hlx hly hsq1 hsq2 hsq3 h0
  generalize shareM (wideNet n l v) = ys at *
  generalize shareM n = xs at *
  go_enter Try.func8, Try.ntmps8
  go_upto_region 1 with fail
  rw [← hW1]
  clear hW1
  go_upto_region 7 with (first
    | (go_at_call 10; refine (head_any _).mono ?_; rintro e w2 ⟨rfl, hg2⟩; have a0 := grCell hg2 a0; have a1 := grCell hg2 a1; have a2 := grCell hg2 a2; have hg2 := Lib.hid hg2)
    | (go_at_call 11; refine (HFe.out _ hg2.out).mono ?_; rintro e w3 ⟨rfl, hg3⟩; have a0 := grCell hg3 a0; have a1 := grCell hg3 a1; have a2 := grCell hg3 a2; have hg3 := Lib.hid (Gr.tr hg2.out hg3))
    | (go_at_call 18; refine (HVa.out _ hg3.out).mono ?_; rintro e w4 ⟨rfl, hg4⟩; have a0 := grCell hg4 a0; have a1 := grCell hg4 a1; have a2 := grCell hg4 a2; have hg4 := Lib.hid (Gr.tr hg3.out hg4)))
  have hg4w := Lib.hid hg4.out.size
  clear hg2 hg3 HFe HVa el hz
  go_cut [11] from 57 to 203 (fun s11 wx => ∃ BM g cap, s11 = .pointer (some ⟨BM, 0, none⟩) ∧ Hid (WB w4 BM g cap n.c (.slice a.fa n.f.length a.fm) (.slice a.la n.l.length a.lm) wx))
  case first =>
    have KF := Lib.hid K.out
    have mk0 := mkI0 n.c.length (by have := K.out; omega)
    obtain ⟨i0, hi, hz0, hz1, hz2⟩ := info_parts intInfo
    have HI := Lib.hid hi
    obtain ⟨gc, oc, hAc, -⟩ := (HN.out w4 hg4.out).1.addr HC.out.1
    have hNI := Lib.hid (show IntsR w4 n.c (some ⟨gc, oc, none⟩) from by rw [← hAc]; exact (HN.out w4 hg4.out).1)
    rw [hAc] at a0
    have hbw : w.heap.size < w4.heap.size := by have := hg4w.out; have := HW1.out; omega
    clear hi hAc
    refine wp_region_G (S := fun wq => Gr w4 wq) (by kernel_rfl) (grDrew _) (fun hHeld => ?_)
    have hSG : Hid (∀ wp wq : World, Gr w4 wp → Gr wp wq → Gr w4 wq) := Lib.hid (fun _ _ h k => h.tr k)
    have hmv := Lib.hid (fun (wq : World) (hq : Gr w4 wq) => And.intro (grCell hq a0) (And.intro (grCell hq a1) (grCell hq a2)))
    first
     | (refine tk hSG 0 (v := ?_) rfl (by kernel_rfl) (fun _ _ _ h => h) (by rfl) ?_ hHeld ?_; rotate_left; focus (intro w' hSw; obtain ⟨a0, a1, a2⟩ := hmv.out _ hSw; go_simp; (try with_reducible rfl)))
     | refine tn hSG 0 rfl (by kernel_rfl) (fun _ _ _ h => h) (by rfl) hHeld ?_
    (try simp only [zq1, zq2, zq3, Act.put, zq4, zq5, zq6])
    first
     | (refine tk hSG 1 (v := ?_) rfl (by kernel_rfl) (fun _ _ _ h => h) (by rfl) ?_ hHeld ?_; rotate_left; focus (intro w' hSw; obtain ⟨a0, a1, a2⟩ := hmv.out _ hSw; go_simp; (try with_reducible rfl)))
     | refine tn hSG 1 rfl (by kernel_rfl) (fun _ _ _ h => h) (by rfl) hHeld ?_
    (try simp only [zq1, zq2, zq3, Act.put, zq4, zq5, zq6])
    first
     | (refine tk hSG 2 (v := ?_) rfl (by kernel_rfl) (fun _ _ _ h => h) (by rfl) ?_ hHeld ?_; rotate_left; focus (intro w' hSw; obtain ⟨a0, a1, a2⟩ := hmv.out _ hSw; go_simp; (try with_reducible rfl)))
     | refine tn hSG 2 rfl (by kernel_rfl) (fun _ _ _ h => h) (by rfl) hHeld ?_
    (try simp only [zq1, zq2, zq3, Act.put, zq4, zq5, zq6])
    first
     | (refine tk hSG 3 (v := ?_) rfl (by kernel_rfl) (fun _ _ _ h => h) (by rfl) ?_ hHeld ?_; rotate_left; focus (intro w' hSw; obtain ⟨a0, a1, a2⟩ := hmv.out _ hSw; go_simp; (try with_reducible rfl)))
     | refine tn hSG 3 rfl (by kernel_rfl) (fun _ _ _ h => h) (by rfl) hHeld ?_
    (try simp only [zq1, zq2, zq3, Act.put, zq4, zq5, zq6])
    first
     | (refine tk hSG 4 (v := ?_) rfl (by kernel_rfl) (fun _ _ _ h => h) (by rfl) ?_ hHeld ?_; rotate_left; focus (intro w' hSw; obtain ⟨a0, a1, a2⟩ := hmv.out _ hSw; go_simp; (try with_reducible rfl)))
     | refine tn hSG 4 rfl (by kernel_rfl) (fun _ _ _ h => h) (by rfl) hHeld ?_
    (try simp only [zq1, zq2, zq3, Act.put, zq4, zq5, zq6])
    first
     | (refine tk hSG 5 (v := ?_) rfl (by kernel_rfl) (fun _ _ _ h => h) (by rfl) ?_ hHeld ?_; rotate_left; focus (intro w' hSw; obtain ⟨a0, a1, a2⟩ := hmv.out _ hSw; go_simp; (try with_reducible rfl)))
     | refine tn hSG 5 rfl (by kernel_rfl) (fun _ _ _ h => h) (by rfl) hHeld ?_
    (try simp only [zq1, zq2, zq3, Act.put, zq4, zq5, zq6])
    first
     | (refine tk hSG 6 (v := ?_) rfl (by kernel_rfl) (fun _ _ _ h => h) (by rfl) ?_ hHeld ?_; rotate_left; focus (intro w' hSw; obtain ⟨a0, a1, a2⟩ := hmv.out _ hSw; go_simp; (try with_reducible rfl)))
     | refine tn hSG 6 rfl (by kernel_rfl) (fun _ _ _ h => h) (by rfl) hHeld ?_
    (try simp only [zq1, zq2, zq3, Act.put, zq4, zq5, zq6])
    first
     | (refine tk hSG 8 (v := ?_) rfl (by kernel_rfl) (fun _ _ _ h => h) (by rfl) ?_ hHeld ?_; rotate_left; focus (intro w' hSw; obtain ⟨a0, a1, a2⟩ := hmv.out _ hSw; go_simp; (try with_reducible rfl)))
     | refine tn hSG 8 rfl (by kernel_rfl) (fun _ _ _ h => h) (by rfl) hHeld ?_
    (try simp only [zq1, zq2, zq3, Act.put, zq4, zq5, zq6])
    first
     | (refine tk hSG 9 (v := ?_) rfl (by kernel_rfl) (fun _ _ _ h => h) (by rfl) ?_ hHeld ?_; rotate_left; focus (intro w' hSw; obtain ⟨a0, a1, a2⟩ := hmv.out _ hSw; go_simp; (try with_reducible rfl)))
     | refine tn hSG 9 rfl (by kernel_rfl) (fun _ _ _ h => h) (by rfl) hHeld ?_
    (try simp only [zq1, zq2, zq3, Act.put, zq4, zq5, zq6])
    refine wpAnyG_ready (rs := [7, 12]) (by kernel_rfl) (by simp) (AllG.cons rfl (fun v0 hg K hK => ?_) (AllG.cons rfl (fun v0 hg K hK => ?_) AllG.nil))
    · skip
      have hgS := hSG.out _ _ hHeld.out hg
      go_simp
      refine hK.out _ _ (hgS.tr (grAlloc _ _)) (fun hHeld => ?_)
      have Sn := newBlk v0 (.cells (iC (List.replicate n.c.length 0)).toArray 3) _ rfl
      have zS := hgS.size
      clear hK K hg hgS
      (try simp only [zq1, zq2, zq3, Act.put, zq4, zq5, zq6])
      refine wpAnyG_ready (rs := [10, 12]) (by kernel_rfl) (by simp) (AllG.cons rfl (fun v1 hg K hK => ?_) (AllG.cons rfl (fun v1 hg K hK => ?_) AllG.nil))
      · skip
        have hgS := hSG.out _ _ hHeld.out hg
        have Sv := grBlk hg Sn
        refine wp_append_lies _ _ _ _ rfl w4.heap.size 3 i0 _ 1 8 Try.underlying22 HI.out hz0 hz1 hz2 rfl (by decide) (.slice (some ⟨v0.heap.size, 0, none⟩) 0 n.c.length) 0 [] rfl (own_made (by omega) (by have := KF.out; omega) Sv) ⟨gc, oc, none⟩ n.c.length a.cm (iC n.c) rfl (by rw [iC_len]; omega) (news_ints (hNI.out.gr hgS)) (one_ints _) (by have := HC.out.1; omega) (by have := KF.out; unfold maxLen; omega) (by have := KF.out; omega) hgS.size _ rfl ?_
        intro g2 cap w2 hown2 hgrow hat hlt2
        have hg2w : Gr w4 w2 := hgS.trans (gbBelow hgrow hgS.size (fun k hk => by have h9 : v0.heap.size = k := (by simpa [Value.ownBlock] using hk); omega))
        refine hK.out _ _ hg2w (fun hHeld => ?_)
        have hv1 := hg.size
        have zg := hlt2
        clear hK K hg hgS
        (try simp only [zq1, zq2, zq3, Act.put, zq4, zq5, zq6])
        first
         | (refine tk hSG 11 (v := ?_) rfl (by kernel_rfl) (fun _ _ _ h => h) (by rfl) ?_ hHeld ?_; rotate_left; focus (intro w' hSw; obtain ⟨a0, a1, a2⟩ := hmv.out _ hSw; go_simp; (try with_reducible rfl)))
         | refine tn hSG 11 rfl (by kernel_rfl) (fun _ _ _ h => h) (by rfl) hHeld ?_
        (try simp only [zq1, zq2, zq3, Act.put, zq4, zq5, zq6])
        refine wpAnyG_ready (rs := [12]) (by kernel_rfl) (by simp) (AllG.cons rfl (fun v2 hg K hK => ?_) AllG.nil)
        have z2 := hg.size
        have hgS := hSG.out _ _ hHeld.out hg
        go_simp
        refine hK.out _ _ (hgS.tr (grAlloc _ _)) (fun hHeld => ?_)
        have hown2 := owns_gr hown2 (Gr.tr hg (grAlloc _ (.cells #[.slice none 0 0, .slice none 0 0, .slice none 0 0] 25 (0, 0))))
        have Dn := newBlk v2 (.cells #[.slice none 0 0, .slice none 0 0, .slice none 0 0] 25 (0, 0)) _ rfl
        have zD := hgS.size
        clear hK K hg hgS
        (try simp only [zq1, zq2, zq3, Act.put, zq4, zq5, zq6])
        have hng : v2.heap.size ≠ g2 := by omega
        refine wpAnyG_ready (rs := [13]) (by kernel_rfl) (by simp) (AllG.cons rfl (fun v3 hg K hK => ?_) AllG.nil)
        have hgS := hSG.out _ _ hHeld.out hg
        have D2 := grBlk hg Dn
        have O2 := owns_gr hown2 hg
        obtain ⟨d0, d1, d2⟩ := cells3 D2
        have e0 := frz D2 0
        have e1 := frz D2 1
        have e2 := frz D2 2
        go_simp
        have hWB := WB.set2 (vf := .slice a.fa n.f.length a.fm) (vl := .slice a.la n.l.length a.lm) hgS O2 (by omega) hng D2
        refine hK.out _ _ hWB.gr (fun hHeld => ?_)
        clear hK K hg hgS D2 d0 d1 d2 e0 e1 e2 Dn O2
        (try simp only [zq1, zq2, zq3, Act.put, zq4, zq5, zq6])
        refine wpAnyG_done (by kernel_rfl) (fun w9 hg => ?_) _
        have hW9 := hWB.up hg
        clear hg hWB hHeld hSG hmv hown2 hgrow
        go_wp2_with fail
        go_meet
        exact ⟨v2.heap.size, g2, cap, rfl, Lib.hid hW9⟩
      · skip
        have hgS := hSG.out _ _ hHeld.out hg
        go_simp
        refine hK.out _ _ (hgS.tr (grAlloc _ _)) (fun hHeld => ?_)
        have Dn := newBlk v1 (.cells #[.slice none 0 0, .slice none 0 0, .slice none 0 0] 25 (0, 0)) _ rfl
        have zD := hgS.size
        have Sn := grBlk (Gr.tr hg (grAlloc _ (.cells #[.slice none 0 0, .slice none 0 0, .slice none 0 0] 25 (0, 0)))) Sn
        have z1 := hg.size
        simp at z1
        clear hK K hg hgS
        (try simp only [zq1, zq2, zq3, Act.put, zq4, zq5, zq6])
        refine wpAnyG_ready (rs := [10]) (by kernel_rfl) (by simp) (AllG.cons rfl (fun v2 hg K hK => ?_) AllG.nil)
        have hgS := hSG.out _ _ hHeld.out hg
        have Sv := grBlk hg Sn
        have z3 := hg.size
        have Dn := grBlk hg Dn
        refine wp_append_lies _ _ _ _ rfl w4.heap.size 3 i0 _ 1 8 Try.underlying22 HI.out hz0 hz1 hz2 rfl (by decide) (.slice (some ⟨v0.heap.size, 0, none⟩) 0 n.c.length) 0 [] rfl (own_made (by omega) (by have := KF.out; omega) Sv) ⟨gc, oc, none⟩ n.c.length a.cm (iC n.c) rfl (by rw [iC_len]; omega) (news_ints (hNI.out.gr hgS)) (one_ints _) (by have := HC.out.1; omega) (by have := KF.out; unfold maxLen; omega) (by have := KF.out; omega) hgS.size _ rfl ?_
        intro g2 cap w2 hown2 hgrow hat hlt2
        have hg2w : Gr w4 w2 := hgS.trans (gbBelow hgrow hgS.size (fun k hk => by have h9 : v0.heap.size = k := (by simpa [Value.ownBlock] using hk); omega))
        refine hK.out _ _ hg2w (fun hHeld => ?_)
        have hDl := blkLt Dn
        have hng : v1.heap.size ≠ g2 := by
          rcases hat with e | e
          · have h9 : v0.heap.size = g2 := by simpa [Value.ownBlock] using e
            omega
          · omega
        have Dn := (hgrow.block _ hDl (by simp [Value.ownBlock]; omega)).trans Dn
        clear hK K hg hgS
        (try simp only [zq1, zq2, zq3, Act.put, zq4, zq5, zq6])
        first
         | (refine tk hSG 11 (v := ?_) rfl (by kernel_rfl) (fun _ _ _ h => h) (by rfl) ?_ hHeld ?_; rotate_left; focus (intro w' hSw; obtain ⟨a0, a1, a2⟩ := hmv.out _ hSw; go_simp; (try with_reducible rfl)))
         | refine tn hSG 11 rfl (by kernel_rfl) (fun _ _ _ h => h) (by rfl) hHeld ?_
        (try simp only [zq1, zq2, zq3, Act.put, zq4, zq5, zq6])
        refine wpAnyG_ready (rs := [13]) (by kernel_rfl) (by simp) (AllG.cons rfl (fun v3 hg K hK => ?_) AllG.nil)
        have hgS := hSG.out _ _ hHeld.out hg
        have D2 := grBlk hg Dn
        have O2 := owns_gr hown2 hg
        obtain ⟨d0, d1, d2⟩ := cells3 D2
        have e0 := frz D2 0
        have e1 := frz D2 1
        have e2 := frz D2 2
        go_simp
        have hWB := WB.set2 (vf := .slice a.fa n.f.length a.fm) (vl := .slice a.la n.l.length a.lm) hgS O2 (by omega) hng D2
        refine hK.out _ _ hWB.gr (fun hHeld => ?_)
        clear hK K hg hgS D2 d0 d1 d2 e0 e1 e2 Dn O2
        (try simp only [zq1, zq2, zq3, Act.put, zq4, zq5, zq6])
        refine wpAnyG_done (by kernel_rfl) (fun w9 hg => ?_) _
        have hW9 := hWB.up hg
        clear hg hWB hHeld hSG hmv hown2 hgrow
        go_wp2_with fail
        go_meet
        exact ⟨v1.heap.size, g2, cap, rfl, Lib.hid hW9⟩
    · skip
      have hgS := hSG.out _ _ hHeld.out hg
      go_simp
      refine hK.out _ _ (hgS.tr (grAlloc _ _)) (fun hHeld => ?_)
      have Dn := newBlk v0 (.cells #[.slice none 0 0, .slice none 0 0, .slice none 0 0] 25 (0, 0)) _ rfl
      have zD := hgS.size
      clear hK K hg hgS
      (try simp only [zq1, zq2, zq3, Act.put, zq4, zq5, zq6])
      refine wpAnyG_ready (rs := [7]) (by kernel_rfl) (by simp) (AllG.cons rfl (fun v1 hg K hK => ?_) AllG.nil)
      have hgS := hSG.out _ _ hHeld.out hg
      go_simp
      refine hK.out _ _ (hgS.tr (grAlloc _ _)) (fun hHeld => ?_)
      have Dn := grBlk (Gr.tr hg (grAlloc _ (.cells (iC (List.replicate n.c.length 0)).toArray 3 (0, 0)))) Dn
      have z1 := hg.size
      simp at z1
      have Sn := newBlk v1 (.cells (iC (List.replicate n.c.length 0)).toArray 3) _ rfl
      have zS := hgS.size
      clear hK K hg hgS
      (try simp only [zq1, zq2, zq3, Act.put, zq4, zq5, zq6])
      refine wpAnyG_ready (rs := [10]) (by kernel_rfl) (by simp) (AllG.cons rfl (fun v2 hg K hK => ?_) AllG.nil)
      have hgS := hSG.out _ _ hHeld.out hg
      have Sv := grBlk hg Sn
      have z3 := hg.size
      have Dn := grBlk hg Dn
      refine wp_append_lies _ _ _ _ rfl w4.heap.size 3 i0 _ 1 8 Try.underlying22 HI.out hz0 hz1 hz2 rfl (by decide) (.slice (some ⟨v1.heap.size, 0, none⟩) 0 n.c.length) 0 [] rfl (own_made (by omega) (by have := KF.out; omega) Sv) ⟨gc, oc, none⟩ n.c.length a.cm (iC n.c) rfl (by rw [iC_len]; omega) (news_ints (hNI.out.gr hgS)) (one_ints _) (by have := HC.out.1; omega) (by have := KF.out; unfold maxLen; omega) (by have := KF.out; omega) hgS.size _ rfl ?_
      intro g2 cap w2 hown2 hgrow hat hlt2
      have hg2w : Gr w4 w2 := hgS.trans (gbBelow hgrow hgS.size (fun k hk => by have h9 : v1.heap.size = k := (by simpa [Value.ownBlock] using hk); omega))
      refine hK.out _ _ hg2w (fun hHeld => ?_)
      have hDl := blkLt Dn
      have hng : v0.heap.size ≠ g2 := by
        rcases hat with e | e
        · have h9 : v1.heap.size = g2 := by simpa [Value.ownBlock] using e
          omega
        · omega
      have Dn := (hgrow.block _ hDl (by simp [Value.ownBlock]; omega)).trans Dn
      clear hK K hg hgS
      (try simp only [zq1, zq2, zq3, Act.put, zq4, zq5, zq6])
      first
       | (refine tk hSG 11 (v := ?_) rfl (by kernel_rfl) (fun _ _ _ h => h) (by rfl) ?_ hHeld ?_; rotate_left; focus (intro w' hSw; obtain ⟨a0, a1, a2⟩ := hmv.out _ hSw; go_simp; (try with_reducible rfl)))
       | refine tn hSG 11 rfl (by kernel_rfl) (fun _ _ _ h => h) (by rfl) hHeld ?_
      (try simp only [zq1, zq2, zq3, Act.put, zq4, zq5, zq6])
      refine wpAnyG_ready (rs := [13]) (by kernel_rfl) (by simp) (AllG.cons rfl (fun v3 hg K hK => ?_) AllG.nil)
      have hgS := hSG.out _ _ hHeld.out hg
      have D2 := grBlk hg Dn
      have O2 := owns_gr hown2 hg
      obtain ⟨d0, d1, d2⟩ := cells3 D2
      have e0 := frz D2 0
      have e1 := frz D2 1
      have e2 := frz D2 2
      go_simp
      have hWB := WB.set2 (vf := .slice a.fa n.f.length a.fm) (vl := .slice a.la n.l.length a.lm) hgS O2 (by omega) hng D2
      refine hK.out _ _ hWB.gr (fun hHeld => ?_)
      clear hK K hg hgS D2 d0 d1 d2 e0 e1 e2 Dn O2
      (try simp only [zq1, zq2, zq3, Act.put, zq4, zq5, zq6])
      refine wpAnyG_done (by kernel_rfl) (fun w9 hg => ?_) _
      have hW9 := hWB.up hg
      clear hg hWB hHeld hSG hmv hown2 hgrow
      go_wp2_with fail
      go_meet
      exact ⟨v0.heap.size, g2, cap, rfl, Lib.hid hW9⟩
  case rest =>
    obtain ⟨BM, g, cap, rfl, hWB⟩ := hcut
    have hgw := Lib.hid (Gr.tr hg4.out hWB.out.gr)
    obtain ⟨c0, c1, c2⟩ := cells3 hWB.out.blk
    obtain ⟨g', o', e', hcs⟩ := hWB.out.ints.addr HC.out.1
    simp only [Option.some.injEq, Addr.mk.injEq, and_true] at e'
    obtain ⟨rfl, rfl⟩ := e'
    have hlc := HC.out.2.1
    have gl := hcs l (num n.c l) (by simp [num, hlc])
    rw [Nat.zero_add] at gl
    have hfz := hWB.out.frz l
    have esm := HE.out.1
    have em := HE.out.2
    clear hcs a0 a1 a2
    go_upto_region 8 with fail
    have c0 : wc.drew.cell? ⟨BM, 0, none⟩ = some (.slice (some ⟨g, 0, none⟩) n.c.length cap) := c0
    have gl : wc.drew.cell? ⟨g, l, none⟩ = some (.int .i64 (num n.c l)) := gl
    have hfz : wc.drew.frozen? ⟨g, l, none⟩ = false := hfz
    go_region
    have P1 := Lib.hid (Gr.tr hg4.out (Gr.tr (hWB.out.put l v).1 (grDrew _)))
    have P2 := Lib.hid (show (wc.setCell ⟨g, l, none⟩ (.int .i64 v)).drew.heap[BM]? = some (.cells #[.slice (some ⟨g, 0, none⟩) n.c.length cap, .slice a.fa n.f.length a.fm, .slice a.la n.l.length a.lm] 25 (0, 0)) from (hWB.out.put l v).2.1)
    have P3 := Lib.hid ((hWB.out.put l v).2.2.gr (grDrew _))
    generalize (wc.setCell ⟨g, l, none⟩ (.int .i64 v)).drew = wz at *
    clear gl hfz c0 c1 c2 esm em hWB
    obtain ⟨a0, a1, a2⟩ := HB.out wz P1.out
    obtain ⟨c0, c1, c2⟩ := cells3 P2.out
    go_upto_region 13 with (first
      | (go_at_call 12; have gg := hQ1; refine (HWs.out g cap _ (P3.out.gr hg7.out) (Gr.tr P1.out hg7.out)).mono ?_; intro e w8 hP; obtain ⟨hg8, YB, hQ2, rfl⟩ := hS2.out _ _ _ hP; clear hP; have hQ2 := Lib.hid hQ2; have hQ1 := Lib.hid (hQ1.out.gr hg8); have a1 := grCell hg8 a1; have hg8 := Lib.hid (Gr.tr hg7.out hg8))
      | (go_at_call 12; refine (HSh.out _ P1.out).mono ?_; intro e w7 hP; obtain ⟨hg7, YA, hQ1, rfl⟩ := hS.out _ _ _ hP; clear hP; have hQ1 := Lib.hid hQ1; have c0 := grCell hg7 c0; have c1 := grCell hg7 c1; have c2 := grCell hg7 c2; have a1 := grCell hg7 a1; have hg7 := Lib.hid hg7))
    clear a0 a1 a2 c0 c1 c2 hS hS2 hg7 HSh HWs
    have hx0 : 0 < xs.length := by have := HL.out; omega
    have hy0 : 0 < ys.length := by have := HL.out; omega
    obtain ⟨gx, ox, rfl, hcx⟩ := hQ1.out.addr hx0
    obtain ⟨gy, oy, rfl, hcy⟩ := hQ2.out.addr hy0
    obtain ⟨p0, p1⟩ := hcx 0 _ (rat_get hx0)
    obtain ⟨q0, q1⟩ := hcy 0 _ (rat_get hy0)
    simp only [Nat.zero_mul, Nat.add_zero] at p0 p1 q0 q1
    have hlx := cell_lt p0
    have hly := cell_lt q0
    simp only at hlx hly
    have Hly := Lib.hid (And.intro hly hlx)
    clear hcx hcy
    go_upto_region 15 with fail
    obtain ⟨W9, hW9⟩ : ∃ W9, (w8.alloc (.cells #[.int .i64 (rat xs 0).n, .int .i64 (rat xs 0).d] 35 (0, 0))).alloc (.cells #[.int .i64 (rat ys 0).n, .int .i64 (rat ys 0).d] 35 (0, 0)) = W9 := ⟨_, rfl⟩
    have G9 : Gr w8 W9 := by rw [← hW9]; exact Gr.tr (grAlloc _ _) (grAlloc _ _)
    have PA9 : W9.heap[w8.heap.size]? = some (qb (rat xs 0)) := by rw [← hW9]; exact mvAlloc (newBlk _ _ _ rfl)
    have PB9 : W9.heap[w8.heap.size + 1]? = some (qb (rat ys 0)) := by rw [← hW9]; exact newBlk _ _ _ (by simp)
    rw [hW9]
    clear hW9 p0 p1 q0 q1 hlx hly
    obtain ⟨PB, hPB⟩ : ∃ PB, w8.heap.size + 1 = PB := ⟨_, rfl⟩
    obtain ⟨PA, hPA⟩ : ∃ PA, w8.heap.size = PA := ⟨_, rfl⟩
    rw [hPB] at PB9 ⊢
    rw [hPA] at PA9 ⊢
    have HP := Lib.hid (show w8.heap.size = PA ∧ PB = PA + 1 from by omega)
    clear hPA hPB
    go_wp2
    go_loopg [18] (xs.length) (fun gk s wr => ∃ (k : Nat) (aq bq : Q), k + gk = xs.length ∧ s = .int .i64 k ∧ Hid ((∃ i, i < n.f.length ∧ aq = rat xs i) ∧ (∃ i, i < n.f.length ∧ bq = rat ys i) ∧ ∀ i, i < k → val aq ≤ val (rat xs i)) ∧ Hid (Gr w8 wr) ∧ Hid (wr.heap[PA]? = some (qb aq)) ∧ Hid (wr.heap[PB]? = some (qb bq)))
    case atStart => exact ⟨0, rat xs 0, rat ys 0, by omega, rfl, Lib.hid ⟨⟨0, hF0, rfl⟩, ⟨0, hF0, rfl⟩, fun i hi => absurd hi (by omega)⟩, Lib.hid G9, Lib.hid PA9, Lib.hid PB9⟩
    case round =>
      obtain ⟨k, aq, bq, hk, rfl, hI, hW, hA, hB⟩ := hrel
      clear G9 PA9 PB9
      have hle : xs.length ≤ 8 := by have := HL.out; omega
      by_cases hlt : k < xs.length
      · obtain ⟨g9, rfl⟩ : ∃ g, gk = g + 1 := ⟨gk - 1, by omega⟩
        have hky : k < ys.length := by have := HL.out; omega
        have hkf : k < n.f.length := by have := HL.out; omega
        obtain ⟨g3, o3, e3, hcx⟩ := (hQ1.out.gr hW.out).addr hx0
        obtain ⟨g4, o4, e4, hcy⟩ := (hQ2.out.gr hW.out).addr hy0
        simp only [Option.some.injEq, Addr.mk.injEq, and_true] at e3 e4
        obtain ⟨rfl, rfl⟩ := e3
        obtain ⟨rfl, rfl⟩ := e4
        obtain ⟨p0, p1⟩ := hcx k _ (rat_get hlt)
        obtain ⟨q0, q1⟩ := hcy k _ (rat_get hky)
        obtain ⟨⟨d0, d1⟩, zd0, zd1⟩ := cells2 hA.out
        obtain ⟨⟨f0, f1⟩, zf0, zf1⟩ := cells2 hB.out
        have hq : IntKind.i64.wrap ((k : Int) + 1) = (k : Int) + 1 := IntWalk.i64_in _ (by omega)
        have HC1 := Lib.hid (fun wx => RCmp_any (rat xs k) aq wx)
        have HC2 := Lib.hid (fun wx => RCmp_any (rat ys k) bq wx)
        have hcm : Hid ((cmpM (rat xs k) aq).1 < 0 ↔ val (rat xs k) < val aq) := Lib.hid (by
          obtain ⟨i, hi, e⟩ := hI.out.1
          exact (cmp_val (HQ.out.1 k hkf) (by rw [e]; exact HQ.out.1 i hi)).2.1)
        obtain ⟨z, hz⟩ : ∃ z, cmpM (rat xs k) aq = z := ⟨_, rfl⟩
        obtain ⟨u, hu⟩ : ∃ u, cmpM (rat ys k) bq = u := ⟨_, rfl⟩
        rw [hz] at HC1 hcm
        rw [hu] at HC2
        obtain ⟨z1, z2⟩ := z
        obtain ⟨u1, u2⟩ := u
        simp only at hcm
        obtain ⟨x, hx⟩ : ∃ x, rat xs k = x := ⟨_, rfl⟩
        obtain ⟨y, hy⟩ : ∃ y, rat ys k = y := ⟨_, rfl⟩
        have HX := Lib.hid hx
        have HY := Lib.hid hy
        rw [hx] at p0 p1 HC1 hcm
        rw [hy] at q0 q1 HC2
        clear hcx hcy hz hu hx hy
        go_upto_region 18 with fail
        refine wp_region_G (S := fun wq => Gr wr wq) (by kernel_rfl) (grDrew _) (fun hHeld => ?_)
        have hSG : Hid (∀ wp wq : World, Gr wr wp → Gr wp wq → Gr wr wq) := Lib.hid (fun _ _ h k => h.tr k)
        have hmv := Lib.hid (fun (wq : World) (hq : Gr wr wq) => And.intro (grCell hq p0) (And.intro (grCell hq p1) (And.intro (grCell hq d0) (And.intro (grCell hq d1) (And.intro (grCell hq q0) (And.intro (grCell hq q1) (And.intro (grCell hq f0) (grCell hq f1))))))))
        first
         | (refine tk hSG 0 (v := ?_) rfl (by kernel_rfl) (fun _ _ _ h => h) (by rfl) ?_ hHeld ?_; rotate_left; focus (intro w' hSw; obtain ⟨p0, p1, d0, d1, q0, q1, f0, f1⟩ := hmv.out _ hSw; go_simp; (try with_reducible rfl)))
         | refine tn hSG 0 rfl (by kernel_rfl) (fun _ _ _ h => h) (by rfl) hHeld ?_
        (try simp only [zq1, zq2, zq3, Act.put, zq4, zq5, zq6])
        first
         | (refine tk hSG 1 (v := ?_) rfl (by kernel_rfl) (fun _ _ _ h => h) (by rfl) ?_ hHeld ?_; rotate_left; focus (intro w' hSw; obtain ⟨p0, p1, d0, d1, q0, q1, f0, f1⟩ := hmv.out _ hSw; go_simp; (try with_reducible rfl)))
         | refine tn hSG 1 rfl (by kernel_rfl) (fun _ _ _ h => h) (by rfl) hHeld ?_
        (try simp only [zq1, zq2, zq3, Act.put, zq4, zq5, zq6])
        first
         | (refine tk hSG 2 (v := ?_) rfl (by kernel_rfl) (fun _ _ _ h => h) (by rfl) ?_ hHeld ?_; rotate_left; focus (intro w' hSw; obtain ⟨p0, p1, d0, d1, q0, q1, f0, f1⟩ := hmv.out _ hSw; go_simp; (try with_reducible rfl)))
         | refine tn hSG 2 rfl (by kernel_rfl) (fun _ _ _ h => h) (by rfl) hHeld ?_
        (try simp only [zq1, zq2, zq3, Act.put, zq4, zq5, zq6])
        first
         | (refine tk hSG 3 (v := ?_) rfl (by kernel_rfl) (fun _ _ _ h => h) (by rfl) ?_ hHeld ?_; rotate_left; focus (intro w' hSw; obtain ⟨p0, p1, d0, d1, q0, q1, f0, f1⟩ := hmv.out _ hSw; go_simp; (try with_reducible rfl)))
         | refine tn hSG 3 rfl (by kernel_rfl) (fun _ _ _ h => h) (by rfl) hHeld ?_
        (try simp only [zq1, zq2, zq3, Act.put, zq4, zq5, zq6])
        first
         | (refine tk hSG 4 (v := ?_) rfl (by kernel_rfl) (fun _ _ _ h => h) (by rfl) ?_ hHeld ?_; rotate_left; focus (intro w' hSw; obtain ⟨p0, p1, d0, d1, q0, q1, f0, f1⟩ := hmv.out _ hSw; go_simp; (try with_reducible rfl)))
         | refine tn hSG 4 rfl (by kernel_rfl) (fun _ _ _ h => h) (by rfl) hHeld ?_
        (try simp only [zq1, zq2, zq3, Act.put, zq4, zq5, zq6])
        refine tc hSG 5 (v := ir (z1, z2)) rfl (by kernel_rfl) (fun _ _ _ h => h) (by rfl) ?_ hHeld ?_
        focus (intro wz hSw K hK; obtain ⟨p0, p1, d0, d1, q0, q1, f0, f1⟩ := hmv.out _ hSw; go_simp; go_at_call 23; refine (HC1.out _).mono ?_; rintro e w2 ⟨rfl, hb2⟩; first | exact hK.out _ hb2 | (have h9 := hK.out _ hb2; (try simp only [zq1, zq2, zq3, Act.put, zq4, zq5, zq6] at h9 ⊢); exact h9) | (have h9 := hK.out _ hb2; go_simp; exact h9))
        (try simp only [zq1, zq2, zq3, Act.put, zq4, zq5, zq6])
        first
         | (refine tk hSG 6 (v := ?_) rfl (by kernel_rfl) (fun _ _ _ h => h) (by rfl) ?_ hHeld ?_; rotate_left; focus (intro w' hSw; obtain ⟨p0, p1, d0, d1, q0, q1, f0, f1⟩ := hmv.out _ hSw; go_simp; (try with_reducible rfl)))
         | refine tn hSG 6 rfl (by kernel_rfl) (fun _ _ _ h => h) (by rfl) hHeld ?_
        (try simp only [zq1, zq2, zq3, Act.put, zq4, zq5, zq6])
        first
         | (refine tk hSG 7 (v := ?_) rfl (by kernel_rfl) (fun _ _ _ h => h) (by rfl) ?_ hHeld ?_; rotate_left; focus (intro w' hSw; obtain ⟨p0, p1, d0, d1, q0, q1, f0, f1⟩ := hmv.out _ hSw; go_simp; (try with_reducible rfl)))
         | refine tn hSG 7 rfl (by kernel_rfl) (fun _ _ _ h => h) (by rfl) hHeld ?_
        (try simp only [zq1, zq2, zq3, Act.put, zq4, zq5, zq6])
        first
         | (refine tk hSG 8 (v := ?_) rfl (by kernel_rfl) (fun _ _ _ h => h) (by rfl) ?_ hHeld ?_; rotate_left; focus (intro w' hSw; obtain ⟨p0, p1, d0, d1, q0, q1, f0, f1⟩ := hmv.out _ hSw; go_simp; (try with_reducible rfl)))
         | refine tn hSG 8 rfl (by kernel_rfl) (fun _ _ _ h => h) (by rfl) hHeld ?_
        (try simp only [zq1, zq2, zq3, Act.put, zq4, zq5, zq6])
        first
         | (refine tk hSG 9 (v := ?_) rfl (by kernel_rfl) (fun _ _ _ h => h) (by rfl) ?_ hHeld ?_; rotate_left; focus (intro w' hSw; obtain ⟨p0, p1, d0, d1, q0, q1, f0, f1⟩ := hmv.out _ hSw; go_simp; (try with_reducible rfl)))
         | refine tn hSG 9 rfl (by kernel_rfl) (fun _ _ _ h => h) (by rfl) hHeld ?_
        (try simp only [zq1, zq2, zq3, Act.put, zq4, zq5, zq6])
        first
         | (refine tk hSG 10 (v := ?_) rfl (by kernel_rfl) (fun _ _ _ h => h) (by rfl) ?_ hHeld ?_; rotate_left; focus (intro w' hSw; obtain ⟨p0, p1, d0, d1, q0, q1, f0, f1⟩ := hmv.out _ hSw; go_simp; (try with_reducible rfl)))
         | refine tn hSG 10 rfl (by kernel_rfl) (fun _ _ _ h => h) (by rfl) hHeld ?_
        (try simp only [zq1, zq2, zq3, Act.put, zq4, zq5, zq6])
        refine wpAnyG_done (by kernel_rfl) (fun w5 hgD => ?_) _
        have hg5 : Gr wr w5 := (grDrew wr).tr hgD
        clear hgD hSG hHeld
        clear hmv
        have p0 := grCell hg5 p0; have p1 := grCell hg5 p1; have q0 := grCell hg5 q0; have q1 := grCell hg5 q1; have d0 := grCell hg5 d0; have d1 := grCell hg5 d1; have f0 := grCell hg5 f0; have f1 := grCell hg5 f1
        have hg5 := Lib.hid hg5
        go_upto_region 19 with fail
        refine wp_region_G (S := fun wq => Gr w5 wq) (by kernel_rfl) (grDrew _) (fun hHeld => ?_)
        have hSG : Hid (∀ wp wq : World, Gr w5 wp → Gr wp wq → Gr w5 wq) := Lib.hid (fun _ _ h k => h.tr k)
        have hmv := Lib.hid (fun (wq : World) (hq : Gr w5 wq) => And.intro (grCell hq q0) (And.intro (grCell hq q1) (And.intro (grCell hq f0) (And.intro (grCell hq f1) (And.intro (grCell hq p0) (grCell hq p1))))))
        first
         | (refine tk hSG 0 (v := ?_) rfl (by kernel_rfl) (fun _ _ _ h => h) (by rfl) ?_ hHeld ?_; rotate_left; focus (intro w' hSw; obtain ⟨q0, q1, f0, f1, p0, p1⟩ := hmv.out _ hSw; go_simp; (try with_reducible rfl)))
         | refine tn hSG 0 rfl (by kernel_rfl) (fun _ _ _ h => h) (by rfl) hHeld ?_
        (try simp only [zq1, zq2, zq3, Act.put, zq4, zq5, zq6])
        first
         | (refine tk hSG 1 (v := ?_) rfl (by kernel_rfl) (fun _ _ _ h => h) (by rfl) ?_ hHeld ?_; rotate_left; focus (intro w' hSw; obtain ⟨q0, q1, f0, f1, p0, p1⟩ := hmv.out _ hSw; go_simp; (try with_reducible rfl)))
         | refine tn hSG 1 rfl (by kernel_rfl) (fun _ _ _ h => h) (by rfl) hHeld ?_
        (try simp only [zq1, zq2, zq3, Act.put, zq4, zq5, zq6])
        first
         | (refine tk hSG 2 (v := ?_) rfl (by kernel_rfl) (fun _ _ _ h => h) (by rfl) ?_ hHeld ?_; rotate_left; focus (intro w' hSw; obtain ⟨q0, q1, f0, f1, p0, p1⟩ := hmv.out _ hSw; go_simp; (try with_reducible rfl)))
         | refine tn hSG 2 rfl (by kernel_rfl) (fun _ _ _ h => h) (by rfl) hHeld ?_
        (try simp only [zq1, zq2, zq3, Act.put, zq4, zq5, zq6])
        first
         | (refine tk hSG 3 (v := ?_) rfl (by kernel_rfl) (fun _ _ _ h => h) (by rfl) ?_ hHeld ?_; rotate_left; focus (intro w' hSw; obtain ⟨q0, q1, f0, f1, p0, p1⟩ := hmv.out _ hSw; go_simp; (try with_reducible rfl)))
         | refine tn hSG 3 rfl (by kernel_rfl) (fun _ _ _ h => h) (by rfl) hHeld ?_
        (try simp only [zq1, zq2, zq3, Act.put, zq4, zq5, zq6])
        first
         | (refine tk hSG 4 (v := ?_) rfl (by kernel_rfl) (fun _ _ _ h => h) (by rfl) ?_ hHeld ?_; rotate_left; focus (intro w' hSw; obtain ⟨q0, q1, f0, f1, p0, p1⟩ := hmv.out _ hSw; go_simp; (try with_reducible rfl)))
         | refine tn hSG 4 rfl (by kernel_rfl) (fun _ _ _ h => h) (by rfl) hHeld ?_
        (try simp only [zq1, zq2, zq3, Act.put, zq4, zq5, zq6])
        refine tc hSG 5 (v := ir (u1, u2)) rfl (by kernel_rfl) (fun _ _ _ h => h) (by rfl) ?_ hHeld ?_
        focus (intro wz hSw K hK; obtain ⟨q0, q1, f0, f1, p0, p1⟩ := hmv.out _ hSw; go_simp; go_at_call 23; refine (HC2.out _).mono ?_; rintro e w2 ⟨rfl, hb2⟩; first | exact hK.out _ hb2 | (have h9 := hK.out _ hb2; (try simp only [zq1, zq2, zq3, Act.put, zq4, zq5, zq6] at h9 ⊢); exact h9) | (have h9 := hK.out _ hb2; go_simp; exact h9))
        (try simp only [zq1, zq2, zq3, Act.put, zq4, zq5, zq6])
        first
         | (refine tk hSG 6 (v := ?_) rfl (by kernel_rfl) (fun _ _ _ h => h) (by rfl) ?_ hHeld ?_; rotate_left; focus (intro w' hSw; obtain ⟨q0, q1, f0, f1, p0, p1⟩ := hmv.out _ hSw; go_simp; (try with_reducible rfl)))
         | refine tn hSG 6 rfl (by kernel_rfl) (fun _ _ _ h => h) (by rfl) hHeld ?_
        (try simp only [zq1, zq2, zq3, Act.put, zq4, zq5, zq6])
        first
         | (refine tk hSG 7 (v := ?_) rfl (by kernel_rfl) (fun _ _ _ h => h) (by rfl) ?_ hHeld ?_; rotate_left; focus (intro w' hSw; obtain ⟨q0, q1, f0, f1, p0, p1⟩ := hmv.out _ hSw; go_simp; (try with_reducible rfl)))
         | refine tn hSG 7 rfl (by kernel_rfl) (fun _ _ _ h => h) (by rfl) hHeld ?_
        (try simp only [zq1, zq2, zq3, Act.put, zq4, zq5, zq6])
        first
         | (refine tk hSG 8 (v := ?_) rfl (by kernel_rfl) (fun _ _ _ h => h) (by rfl) ?_ hHeld ?_; rotate_left; focus (intro w' hSw; obtain ⟨q0, q1, f0, f1, p0, p1⟩ := hmv.out _ hSw; go_simp; (try with_reducible rfl)))
         | refine tn hSG 8 rfl (by kernel_rfl) (fun _ _ _ h => h) (by rfl) hHeld ?_
        (try simp only [zq1, zq2, zq3, Act.put, zq4, zq5, zq6])
        first
         | (refine tk hSG 9 (v := ?_) rfl (by kernel_rfl) (fun _ _ _ h => h) (by rfl) ?_ hHeld ?_; rotate_left; focus (intro w' hSw; obtain ⟨q0, q1, f0, f1, p0, p1⟩ := hmv.out _ hSw; go_simp; (try with_reducible rfl)))
         | refine tn hSG 9 rfl (by kernel_rfl) (fun _ _ _ h => h) (by rfl) hHeld ?_
        (try simp only [zq1, zq2, zq3, Act.put, zq4, zq5, zq6])
        first
         | (refine tk hSG 10 (v := ?_) rfl (by kernel_rfl) (fun _ _ _ h => h) (by rfl) ?_ hHeld ?_; rotate_left; focus (intro w' hSw; obtain ⟨q0, q1, f0, f1, p0, p1⟩ := hmv.out _ hSw; go_simp; (try with_reducible rfl)))
         | refine tn hSG 10 rfl (by kernel_rfl) (fun _ _ _ h => h) (by rfl) hHeld ?_
        (try simp only [zq1, zq2, zq3, Act.put, zq4, zq5, zq6])
        refine wpAnyG_done (by kernel_rfl) (fun w6 hgD => ?_) _
        have hg6 : Gr w5 w6 := (grDrew w5).tr hgD
        clear hgD hSG hHeld
        clear hmv d0 d1 f0 f1 zd0 zd1 zf0 zf1
        have p0 := grCell hg6 p0; have p1 := grCell hg6 p1; have q0 := grCell hg6 q0; have q1 := grCell hg6 q1
        have hg10 := Lib.hid (Gr.tr hW.out (Gr.tr hg5.out hg6))
        have hA10 := Lib.hid (grBlk (Gr.tr hg5.out hg6) hA.out)
        have hB10 := Lib.hid (grBlk (Gr.tr hg5.out hg6) hB.out)
        obtain ⟨⟨d0, d1⟩, zd0, zd1⟩ := cells2 hA10.out
        obtain ⟨⟨f0, f1⟩, zf0, zf1⟩ := cells2 hB10.out
        clear hg6
        have hIx : Hid (val x < val aq → (∃ i, i < n.f.length ∧ x = rat xs i) ∧ ∀ i, i < k + 1 → val x ≤ val (rat xs i)) := Lib.hid (fun h => ⟨⟨k, hkf, HX.out.symm⟩, fun i hi => by
          by_cases e : i = k
          · rw [e, HX.out]; exact Rat.le_refl
          · have h2 := hI.out.2.2 i (by omega)
            grind⟩)
        have hIa : Hid (¬ val x < val aq → ∀ i, i < k + 1 → val aq ≤ val (rat xs i)) := Lib.hid (fun h i hi => by
          by_cases e : i = k
          · rw [e, HX.out]; grind
          · exact hI.out.2.2 i (by omega))
        by_cases h7 : z1 < 0
        · have hJ := Lib.hid (hIx.out (hcm.out.1 h7))
          have hnB : ¬ gy = PA := by have h1 := Hly.out.1; have h2 := HP.out; omega
          have hnC : ¬ PB = PA := by have h2 := HP.out; omega
          clear hIx hIa hcm
          by_cases h8 : u1 < 0
          · go_wp2
            go_roundg g9
            case rel => exact ⟨k + 1, x, y, by omega, by go_num, Lib.hid ⟨hJ.out.1, ⟨k, hkf, HY.out.symm⟩, hJ.out.2⟩, Lib.hid (below2 (below2 hg10.out (by have := HP.out; omega)) (by have := HP.out; omega)), Lib.hid (farS2 (by have := HP.out; omega) (res2 hA10.out).1), Lib.hid (res2 (farS2 (by have := HP.out; omega) hB10.out)).1⟩
            case measure => omega
          · go_wp2
            go_roundg g9
            case rel => exact ⟨k + 1, x, bq, by omega, by go_num, Lib.hid ⟨hJ.out.1, hI.out.2.1, hJ.out.2⟩, Lib.hid (below2 hg10.out (by have := HP.out; omega)), Lib.hid (res2 hA10.out).1, Lib.hid (farS2 (by have := HP.out; omega) hB10.out)⟩
            case measure => omega
        · have hJ := Lib.hid (hIa.out (fun h => h7 (hcm.out.2 h)))
          clear hIx hIa hcm
          by_cases h8 : u1 < 0
          · go_wp2
            go_roundg g9
            case rel => exact ⟨k + 1, aq, y, by omega, by go_num, Lib.hid ⟨hI.out.1, ⟨k, hkf, HY.out.symm⟩, hJ.out⟩, Lib.hid (below2 hg10.out (by have := HP.out; omega)), Lib.hid (farS2 (by have := HP.out; omega) hA10.out), Lib.hid (res2 hB10.out).1⟩
            case measure => omega
          · go_wp2
            go_roundg g9
            case rel => exact ⟨k + 1, aq, bq, by omega, by go_num, Lib.hid ⟨hI.out.1, hI.out.2.1, hJ.out⟩, hg10, hA10, hB10⟩
            case measure => omega
      · have hcv : Hid ((cmpM aq bq).1 ≤ 0 ∧ (cmpM aq bq).2 = 0) := Lib.hid (by
          obtain ⟨⟨i, hi, ei⟩, ⟨j, hj, ej⟩, h3⟩ := hI.out
          have hqa : qB aq = true := by rw [ei]; exact HQ.out.1 i hi
          have hqb : qB bq = true := by rw [ej]; exact HQ.out.2 j hj
          obtain ⟨c1, -, c3⟩ := cmp_val hqa hqb
          refine ⟨?_, c3⟩
          have h4 : val aq ≤ ratT ys j := HLe.out (val aq) (fun i hi => h3 i (by have := HL.out; omega)) j hj
          refine Classical.byContradiction fun hc => ?_
          have h5 := c1.1 (by omega)
          have h6 : val bq = ratT ys j := by rw [ej]; rfl
          rw [h6] at h5
          grind)
        have HC3 := Lib.hid (fun wx => RCmp_any aq bq wx)
        obtain ⟨z, hz⟩ : ∃ z, cmpM aq bq = z := ⟨_, rfl⟩
        rw [hz] at HC3 hcv
        obtain ⟨z1, z2⟩ := z
        obtain ⟨hz1, hz2⟩ : z1 ≤ 0 ∧ z2 = 0 := hcv.out
        subst hz2
        clear hz hcv hI hle hk
        have hgx := Lib.hid (Gr.tr (Gr.tr P1.out hg8.out) hW.out)
        obtain ⟨a0, a1, a2⟩ := HB.out wr hgx.out
        obtain ⟨⟨d0, d1⟩, -⟩ := cells2 hA.out
        obtain ⟨⟨f0, f1⟩, -⟩ := cells2 hB.out
        obtain ⟨gc, oc, hAc, hcc⟩ := (HN.out wr hgx.out).1.addr HC.out.1
        have hlc := HC.out.2.1
        have pl := hcc l (num n.c l) (by simp [num, hlc])
        clear hcc
        have HAc := Lib.hid hAc
        clear hAc
        go_upto_region 25 with (go_at_call 23; refine (HC3.out _).mono ?_; rintro e w11 ⟨rfl, hg11⟩)
        have a0 := grCell hg11 a0
        have a1 := grCell hg11 a1
        have a2 := grCell hg11 a2
        have pl := grCell hg11 pl
        have hg11 := Lib.hid hg11
        go_upto_region 26 with (go_at_call 26; refine (hLd.out _ _ _ (HN.out _ (Gr.tr hgx.out hg11.out)) (hQ1.out.gr (Gr.tr hW.out hg11.out))).mono ?_; intro e w12 hP; obtain ⟨hg12, q, he, hqq⟩ := hP; rw [HSq.out.1] at he; simp only [Option.isSome_some] at he; rw [hqq _ HSq.out.1] at he; subst he)
        have a0 := grCell hg12 a0
        have pl := grCell hg12 pl
        rw [HAc.out] at a0
        obtain ⟨W13, hW13⟩ : ∃ W13, w12.alloc (.cells #[.int .i64 sq.n, .int .i64 sq.d] 35 (0, 0)) = W13 := ⟨_, rfl⟩
        have G13 : Gr w12 W13 := by rw [← hW13]; exact grAlloc _ _
        have S13 : W13.heap[w12.heap.size]? = some (qb sq) := by rw [← hW13]; exact newBlk _ _ _ rfl
        rw [hW13]
        obtain ⟨⟨s0, s1⟩, -⟩ := cells2 S13
        have a0 := grCell G13 a0
        have pl := grCell G13 pl
        have hg13 := Lib.hid (Gr.tr hW.out (Gr.tr hg11.out (Gr.tr hg12 G13)))
        obtain ⟨SB, hSB⟩ : ∃ SB, w12.heap.size = SB := ⟨_, rfl⟩
        rw [hSB] at s0 s1 ⊢
        clear hW13 G13 S13 hSB hg12 a1 a2 d0 d1 f0 f1 hqq hg11 hA hB
        have eS : IntKind.i64.wrap (num n.c l * sq.d) = num n.c l * sq.d := HSd.out
        obtain ⟨b, hb⟩ : ∃ b : Bool, decide (sq.n < num n.c l * sq.d) = b := ⟨_, rfl⟩
        have hbd := Lib.hid hb
        cases b with
        | true =>
          have hlt9 : sq.n < num n.c l * sq.d := by simpa using hb
          have hsb := HRm.out (by simpa using hb)
          rw [hsb] at hSm
          clear hsb
          clear HRm HSq HSd hb
          go_upto_region 26 with fail
          refine wp_region_G (S := fun wq => Gr W13 wq) (by kernel_rfl) (grDrew _) (fun hHeld => ?_)
          have hSG : Hid (∀ wp wq : World, Gr W13 wp → Gr wp wq → Gr W13 wq) := Lib.hid (fun _ _ h k => h.tr k)
          have hmv := Lib.hid (fun (wq : World) (hq : Gr W13 wq) => And.intro (grCell hq s0) (And.intro (grCell hq s1) (And.intro (grCell hq a0) (grCell hq pl))))
          first
           | (refine tk hSG 0 (v := ?_) rfl (by kernel_rfl) (fun _ _ _ h => h) (by rfl) ?_ hHeld ?_; rotate_left; focus (intro w' hSw; obtain ⟨s0, s1, a0, pl⟩ := hmv.out _ hSw; go_simp; (try with_reducible rfl)))
           | refine tn hSG 0 rfl (by kernel_rfl) (fun _ _ _ h => h) (by rfl) hHeld ?_
          (try simp only [zq1, zq2, zq3, Act.put, zq4, zq5, zq6])
          first
           | (refine tk hSG 1 (v := ?_) rfl (by kernel_rfl) (fun _ _ _ h => h) (by rfl) ?_ hHeld ?_; rotate_left; focus (intro w' hSw; obtain ⟨s0, s1, a0, pl⟩ := hmv.out _ hSw; go_simp; (try with_reducible rfl)))
           | refine tn hSG 1 rfl (by kernel_rfl) (fun _ _ _ h => h) (by rfl) hHeld ?_
          (try simp only [zq1, zq2, zq3, Act.put, zq4, zq5, zq6])
          first
           | (refine tk hSG 2 (v := ?_) rfl (by kernel_rfl) (fun _ _ _ h => h) (by rfl) ?_ hHeld ?_; rotate_left; focus (intro w' hSw; obtain ⟨s0, s1, a0, pl⟩ := hmv.out _ hSw; go_simp; (try with_reducible rfl)))
           | refine tn hSG 2 rfl (by kernel_rfl) (fun _ _ _ h => h) (by rfl) hHeld ?_
          (try simp only [zq1, zq2, zq3, Act.put, zq4, zq5, zq6])
          first
           | (refine tk hSG 3 (v := ?_) rfl (by kernel_rfl) (fun _ _ _ h => h) (by rfl) ?_ hHeld ?_; rotate_left; focus (intro w' hSw; obtain ⟨s0, s1, a0, pl⟩ := hmv.out _ hSw; go_simp; (try with_reducible rfl)))
           | refine tn hSG 3 rfl (by kernel_rfl) (fun _ _ _ h => h) (by rfl) hHeld ?_
          (try simp only [zq1, zq2, zq3, Act.put, zq4, zq5, zq6])
          first
           | (refine tk hSG 4 (v := ?_) rfl (by kernel_rfl) (fun _ _ _ h => h) (by rfl) ?_ hHeld ?_; rotate_left; focus (intro w' hSw; obtain ⟨s0, s1, a0, pl⟩ := hmv.out _ hSw; go_simp; (try with_reducible rfl)))
           | refine tn hSG 4 rfl (by kernel_rfl) (fun _ _ _ h => h) (by rfl) hHeld ?_
          (try simp only [zq1, zq2, zq3, Act.put, zq4, zq5, zq6])
          first
           | (refine tk hSG 5 (v := ?_) rfl (by kernel_rfl) (fun _ _ _ h => h) (by rfl) ?_ hHeld ?_; rotate_left; focus (intro w' hSw; obtain ⟨s0, s1, a0, pl⟩ := hmv.out _ hSw; go_simp; (try with_reducible rfl)))
           | refine tn hSG 5 rfl (by kernel_rfl) (fun _ _ _ h => h) (by rfl) hHeld ?_
          (try simp only [zq1, zq2, zq3, Act.put, zq4, zq5, zq6])
          first
           | (refine tk hSG 6 (v := ?_) rfl (by kernel_rfl) (fun _ _ _ h => h) (by rfl) ?_ hHeld ?_; rotate_left; focus (intro w' hSw; obtain ⟨s0, s1, a0, pl⟩ := hmv.out _ hSw; go_simp; (try with_reducible rfl)))
           | refine tn hSG 6 rfl (by kernel_rfl) (fun _ _ _ h => h) (by rfl) hHeld ?_
          (try simp only [zq1, zq2, zq3, Act.put, zq4, zq5, zq6])
          first
           | (refine tk hSG 7 (v := ?_) rfl (by kernel_rfl) (fun _ _ _ h => h) (by rfl) ?_ hHeld ?_; rotate_left; focus (intro w' hSw; obtain ⟨s0, s1, a0, pl⟩ := hmv.out _ hSw; go_simp; (try with_reducible rfl)))
           | refine tn hSG 7 rfl (by kernel_rfl) (fun _ _ _ h => h) (by rfl) hHeld ?_
          (try simp only [zq1, zq2, zq3, Act.put, zq4, zq5, zq6])
          first
           | (refine tk hSG 8 (v := ?_) rfl (by kernel_rfl) (fun _ _ _ h => h) (by rfl) ?_ hHeld ?_; rotate_left; focus (intro w' hSw; obtain ⟨s0, s1, a0, pl⟩ := hmv.out _ hSw; go_simp; (try with_reducible rfl)))
           | refine tn hSG 8 rfl (by kernel_rfl) (fun _ _ _ h => h) (by rfl) hHeld ?_
          (try simp only [zq1, zq2, zq3, Act.put, zq4, zq5, zq6])
          first
           | (refine tk hSG 9 (v := ?_) rfl (by kernel_rfl) (fun _ _ _ h => h) (by rfl) ?_ hHeld ?_; rotate_left; focus (intro w' hSw; obtain ⟨s0, s1, a0, pl⟩ := hmv.out _ hSw; go_simp; (try with_reducible rfl)))
           | refine tn hSG 9 rfl (by kernel_rfl) (fun _ _ _ h => h) (by rfl) hHeld ?_
          (try simp only [zq1, zq2, zq3, Act.put, zq4, zq5, zq6])
          first
           | (refine tk hSG 10 (v := ?_) rfl (by kernel_rfl) (fun _ _ _ h => h) (by rfl) ?_ hHeld ?_; rotate_left; focus (intro w' hSw; obtain ⟨s0, s1, a0, pl⟩ := hmv.out _ hSw; go_simp; (try with_reducible rfl)))
           | refine tn hSG 10 rfl (by kernel_rfl) (fun _ _ _ h => h) (by rfl) hHeld ?_
          (try simp only [zq1, zq2, zq3, Act.put, zq4, zq5, zq6])
          first
           | (refine tk hSG 11 (v := ?_) rfl (by kernel_rfl) (fun _ _ _ h => h) (by rfl) ?_ hHeld ?_; rotate_left; focus (intro w' hSw; obtain ⟨s0, s1, a0, pl⟩ := hmv.out _ hSw; go_simp; (try with_reducible rfl)))
           | refine tn hSG 11 rfl (by kernel_rfl) (fun _ _ _ h => h) (by rfl) hHeld ?_
          (try simp only [zq1, zq2, zq3, Act.put, zq4, zq5, zq6])
          first
           | (refine tk hSG 12 (v := ?_) rfl (by kernel_rfl) (fun _ _ _ h => h) (by rfl) ?_ hHeld ?_; rotate_left; focus (intro w' hSw; obtain ⟨s0, s1, a0, pl⟩ := hmv.out _ hSw; go_simp; (try with_reducible rfl)))
           | refine tn hSG 12 rfl (by kernel_rfl) (fun _ _ _ h => h) (by rfl) hHeld ?_
          (try simp only [zq1, zq2, zq3, Act.put, zq4, zq5, zq6])
          first
           | (refine tk hSG 13 (v := ?_) rfl (by kernel_rfl) (fun _ _ _ h => h) (by rfl) ?_ hHeld ?_; rotate_left; focus (intro w' hSw; obtain ⟨s0, s1, a0, pl⟩ := hmv.out _ hSw; go_simp; (try with_reducible rfl)))
           | refine tn hSG 13 rfl (by kernel_rfl) (fun _ _ _ h => h) (by rfl) hHeld ?_
          (try simp only [zq1, zq2, zq3, Act.put, zq4, zq5, zq6])
          first
           | (refine tk hSG 14 (v := ?_) rfl (by kernel_rfl) (fun _ _ _ h => h) (by rfl) ?_ hHeld ?_; rotate_left; focus (intro w' hSw; obtain ⟨s0, s1, a0, pl⟩ := hmv.out _ hSw; go_simp; (try with_reducible rfl)))
           | refine tn hSG 14 rfl (by kernel_rfl) (fun _ _ _ h => h) (by rfl) hHeld ?_
          (try simp only [zq1, zq2, zq3, Act.put, zq4, zq5, zq6])
          refine wpAnyG_done (by kernel_rfl) (fun w14 hgD => ?_) _
          have hg14 : Gr W13 w14 := (grDrew W13).tr hgD
          clear hgD hSG hHeld
          clear hmv s0 s1 a0 pl eS
          have hgF := Lib.hid (Gr.tr hg13.out hg14)
          clear hg14
          go_wp2_with (go_at_call 14; refine (hSm.out _ _ _ _ _ (hQ1.out.gr hgF.out) (hQ2.out.gr hgF.out)).mono ?_; rintro e w15 ⟨rfl, hg15⟩; have hg15 := Lib.hid hg15)
          go_ret
          exact ⟨rfl, Gr.tr HG.out (Gr.tr P1.out (Gr.tr hg8.out (Gr.tr hgF.out hg15.out)))⟩
        | false =>
          have hlt9 : ¬ sq.n < num n.c l * sq.d := by simpa using hb
          clear HRm HSq HSd hb
          go_upto_region 26 with fail
          refine wp_region_G (S := fun wq => Gr W13 wq) (by kernel_rfl) (grDrew _) (fun hHeld => ?_)
          have hSG : Hid (∀ wp wq : World, Gr W13 wp → Gr wp wq → Gr W13 wq) := Lib.hid (fun _ _ h k => h.tr k)
          have hmv := Lib.hid (fun (wq : World) (hq : Gr W13 wq) => And.intro (grCell hq s0) (And.intro (grCell hq s1) (And.intro (grCell hq a0) (grCell hq pl))))
          first
           | (refine tk hSG 0 (v := ?_) rfl (by kernel_rfl) (fun _ _ _ h => h) (by rfl) ?_ hHeld ?_; rotate_left; focus (intro w' hSw; obtain ⟨s0, s1, a0, pl⟩ := hmv.out _ hSw; go_simp; (try with_reducible rfl)))
           | refine tn hSG 0 rfl (by kernel_rfl) (fun _ _ _ h => h) (by rfl) hHeld ?_
          (try simp only [zq1, zq2, zq3, Act.put, zq4, zq5, zq6])
          first
           | (refine tk hSG 1 (v := ?_) rfl (by kernel_rfl) (fun _ _ _ h => h) (by rfl) ?_ hHeld ?_; rotate_left; focus (intro w' hSw; obtain ⟨s0, s1, a0, pl⟩ := hmv.out _ hSw; go_simp; (try with_reducible rfl)))
           | refine tn hSG 1 rfl (by kernel_rfl) (fun _ _ _ h => h) (by rfl) hHeld ?_
          (try simp only [zq1, zq2, zq3, Act.put, zq4, zq5, zq6])
          first
           | (refine tk hSG 2 (v := ?_) rfl (by kernel_rfl) (fun _ _ _ h => h) (by rfl) ?_ hHeld ?_; rotate_left; focus (intro w' hSw; obtain ⟨s0, s1, a0, pl⟩ := hmv.out _ hSw; go_simp; (try with_reducible rfl)))
           | refine tn hSG 2 rfl (by kernel_rfl) (fun _ _ _ h => h) (by rfl) hHeld ?_
          (try simp only [zq1, zq2, zq3, Act.put, zq4, zq5, zq6])
          first
           | (refine tk hSG 3 (v := ?_) rfl (by kernel_rfl) (fun _ _ _ h => h) (by rfl) ?_ hHeld ?_; rotate_left; focus (intro w' hSw; obtain ⟨s0, s1, a0, pl⟩ := hmv.out _ hSw; go_simp; (try with_reducible rfl)))
           | refine tn hSG 3 rfl (by kernel_rfl) (fun _ _ _ h => h) (by rfl) hHeld ?_
          (try simp only [zq1, zq2, zq3, Act.put, zq4, zq5, zq6])
          first
           | (refine tk hSG 4 (v := ?_) rfl (by kernel_rfl) (fun _ _ _ h => h) (by rfl) ?_ hHeld ?_; rotate_left; focus (intro w' hSw; obtain ⟨s0, s1, a0, pl⟩ := hmv.out _ hSw; go_simp; (try with_reducible rfl)))
           | refine tn hSG 4 rfl (by kernel_rfl) (fun _ _ _ h => h) (by rfl) hHeld ?_
          (try simp only [zq1, zq2, zq3, Act.put, zq4, zq5, zq6])
          first
           | (refine tk hSG 5 (v := ?_) rfl (by kernel_rfl) (fun _ _ _ h => h) (by rfl) ?_ hHeld ?_; rotate_left; focus (intro w' hSw; obtain ⟨s0, s1, a0, pl⟩ := hmv.out _ hSw; go_simp; (try with_reducible rfl)))
           | refine tn hSG 5 rfl (by kernel_rfl) (fun _ _ _ h => h) (by rfl) hHeld ?_
          (try simp only [zq1, zq2, zq3, Act.put, zq4, zq5, zq6])
          first
           | (refine tk hSG 6 (v := ?_) rfl (by kernel_rfl) (fun _ _ _ h => h) (by rfl) ?_ hHeld ?_; rotate_left; focus (intro w' hSw; obtain ⟨s0, s1, a0, pl⟩ := hmv.out _ hSw; go_simp; (try with_reducible rfl)))
           | refine tn hSG 6 rfl (by kernel_rfl) (fun _ _ _ h => h) (by rfl) hHeld ?_
          (try simp only [zq1, zq2, zq3, Act.put, zq4, zq5, zq6])
          first
           | (refine tk hSG 7 (v := ?_) rfl (by kernel_rfl) (fun _ _ _ h => h) (by rfl) ?_ hHeld ?_; rotate_left; focus (intro w' hSw; obtain ⟨s0, s1, a0, pl⟩ := hmv.out _ hSw; go_simp; (try with_reducible rfl)))
           | refine tn hSG 7 rfl (by kernel_rfl) (fun _ _ _ h => h) (by rfl) hHeld ?_
          (try simp only [zq1, zq2, zq3, Act.put, zq4, zq5, zq6])
          first
           | (refine tk hSG 8 (v := ?_) rfl (by kernel_rfl) (fun _ _ _ h => h) (by rfl) ?_ hHeld ?_; rotate_left; focus (intro w' hSw; obtain ⟨s0, s1, a0, pl⟩ := hmv.out _ hSw; go_simp; (try with_reducible rfl)))
           | refine tn hSG 8 rfl (by kernel_rfl) (fun _ _ _ h => h) (by rfl) hHeld ?_
          (try simp only [zq1, zq2, zq3, Act.put, zq4, zq5, zq6])
          first
           | (refine tk hSG 9 (v := ?_) rfl (by kernel_rfl) (fun _ _ _ h => h) (by rfl) ?_ hHeld ?_; rotate_left; focus (intro w' hSw; obtain ⟨s0, s1, a0, pl⟩ := hmv.out _ hSw; go_simp; (try with_reducible rfl)))
           | refine tn hSG 9 rfl (by kernel_rfl) (fun _ _ _ h => h) (by rfl) hHeld ?_
          (try simp only [zq1, zq2, zq3, Act.put, zq4, zq5, zq6])
          first
           | (refine tk hSG 10 (v := ?_) rfl (by kernel_rfl) (fun _ _ _ h => h) (by rfl) ?_ hHeld ?_; rotate_left; focus (intro w' hSw; obtain ⟨s0, s1, a0, pl⟩ := hmv.out _ hSw; go_simp; (try with_reducible rfl)))
           | refine tn hSG 10 rfl (by kernel_rfl) (fun _ _ _ h => h) (by rfl) hHeld ?_
          (try simp only [zq1, zq2, zq3, Act.put, zq4, zq5, zq6])
          first
           | (refine tk hSG 11 (v := ?_) rfl (by kernel_rfl) (fun _ _ _ h => h) (by rfl) ?_ hHeld ?_; rotate_left; focus (intro w' hSw; obtain ⟨s0, s1, a0, pl⟩ := hmv.out _ hSw; go_simp; (try with_reducible rfl)))
           | refine tn hSG 11 rfl (by kernel_rfl) (fun _ _ _ h => h) (by rfl) hHeld ?_
          (try simp only [zq1, zq2, zq3, Act.put, zq4, zq5, zq6])
          first
           | (refine tk hSG 12 (v := ?_) rfl (by kernel_rfl) (fun _ _ _ h => h) (by rfl) ?_ hHeld ?_; rotate_left; focus (intro w' hSw; obtain ⟨s0, s1, a0, pl⟩ := hmv.out _ hSw; go_simp; (try with_reducible rfl)))
           | refine tn hSG 12 rfl (by kernel_rfl) (fun _ _ _ h => h) (by rfl) hHeld ?_
          (try simp only [zq1, zq2, zq3, Act.put, zq4, zq5, zq6])
          first
           | (refine tk hSG 13 (v := ?_) rfl (by kernel_rfl) (fun _ _ _ h => h) (by rfl) ?_ hHeld ?_; rotate_left; focus (intro w' hSw; obtain ⟨s0, s1, a0, pl⟩ := hmv.out _ hSw; go_simp; (try with_reducible rfl)))
           | refine tn hSG 13 rfl (by kernel_rfl) (fun _ _ _ h => h) (by rfl) hHeld ?_
          (try simp only [zq1, zq2, zq3, Act.put, zq4, zq5, zq6])
          first
           | (refine tk hSG 14 (v := ?_) rfl (by kernel_rfl) (fun _ _ _ h => h) (by rfl) ?_ hHeld ?_; rotate_left; focus (intro w' hSw; obtain ⟨s0, s1, a0, pl⟩ := hmv.out _ hSw; go_simp; (try with_reducible rfl)))
           | refine tn hSG 14 rfl (by kernel_rfl) (fun _ _ _ h => h) (by rfl) hHeld ?_
          (try simp only [zq1, zq2, zq3, Act.put, zq4, zq5, zq6])
          refine wpAnyG_done (by kernel_rfl) (fun w14 hgD => ?_) _
          have hg14 : Gr W13 w14 := (grDrew W13).tr hgD
          clear hgD hSG hHeld
          clear hmv s0 s1 a0 pl eS
          have hgF := Lib.hid (Gr.tr hg13.out hg14)
          clear hg14
          go_wp2
          go_ret
          exact ⟨rfl, Gr.tr HG.out (Gr.tr P1.out (Gr.tr hg8.out hgF.out))⟩
end Go.Proofs.Ytbjhdfakocfapaa
