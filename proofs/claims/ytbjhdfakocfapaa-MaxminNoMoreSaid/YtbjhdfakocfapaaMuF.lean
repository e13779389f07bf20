/- MaxminNoMore: the law as a contract. -/
import Derived.Test.YtbjhdfakocfapaaMuB
import Derived.Test.YtbjhdfakocfapaaMuD
import Derived.Test.YtbjhdfakocfapaaMuE
namespace Go.Proofs.Ytbjhdfakocfapaa
open Go.RowKit
set_option linter.unusedVariables false
set_option linter.unusedSimpArgs false
/-- the denominator of a letter -/
theorem den_of (b : Int) (h : 0 ≤ b ∧ b < 256) : ∃ r, b.tmod 60 = r ∧ 1 ≤ 1 + r ∧ 1 + r ≤ 60 := by
  refine ⟨b.tmod 60, rfl, ?_, ?_⟩
  · have := Int.tmod_nonneg 60 h.1; omega
  · have := Int.tmod_lt_of_pos b (show (0 : Int) < 60 by decide); omega
set_option maxHeartbeats 8000000 in
set_option maxRecDepth 100000 in
theorem nomore_any (n : Net) (a : NetA) (ps : List Int) (PA : Option Addr) (pm : Nat) (b : Int) (w : World) (hn : NetR w n a) (hs : n.c.length ≤ maxLen ∧ n.f.length ≤ maxLen ∧ n.l.length ≤ maxLen) (hrow : ∀ r ∈ n.f, r.length ≤ maxLen)
    (hp : O.UsR w ps PA) (hpl : ps.length ≤ maxLen) (hb : 0 ≤ b ∧ b < 256) :
    Calls Try.prog 6 #[nv n a, .slice PA ps.length pm, .int .u8 b] w (VV (.bool true) w) := by
  have hml : maxLen = 9223372036854775807 := rfl
  obtain ⟨W1, hW1⟩ : ∃ W1, W1 = w.alloc (netB n a) := ⟨_, rfl⟩
  have G1 : Gr w W1 := by rw [hW1]; exact grAlloc _ _
  have A1 : W1.heap[w.heap.size]? = some (netB n a) := by rw [hW1]; exact newBlk _ _ _ rfl
  obtain ⟨a0, a1, a2⟩ := cells3 A1
  have HFe := Lib.hid (fun wx (hg : Gr W1 wx) => RFew_any n a wx (hn.gr (Gr.tr G1 hg)))
  have HVa := Lib.hid (fun wx (hg : Gr W1 wx) => RValid13_any n a wx (hn.gr (Gr.tr G1 hg)) hrow)
  have HSh := Lib.hid (fun wx (hg : Gr W1 wx) => Share_any n a wx (hn.gr (Gr.tr G1 hg)) hs)
  have HN := Lib.hid (fun wx (hg : Gr W1 wx) => hn.gr (Gr.tr G1 hg))
  have HPo := Lib.hid (fun d (hd : 1 ≤ d ∧ d ≤ 60) (hv : validB n = true) wx (hg : Gr W1 wx) => possible_any n a ps PA pm d wx hv (hn.gr (Gr.tr G1 hg)) (hp.gr (Gr.tr G1 hg)) hpl hd)
  have HG := Lib.hid G1
  clear A1 hn hp hs hpl G1 hrow
  rcases hf : fewB n with _ | _
  · rw [hf] at HFe
    clear hf
    go_enter Try.func6, Try.ntmps6
    go_upto_region 1 with fail
    rw [← hW1]
    clear hW1
    go_wp2_with (first
      | (go_at_call 10; refine (head_any _).mono ?_; rintro e w2 ⟨rfl, hg2⟩; have a0 := grCell hg2 a0; have a1 := grCell hg2 a1; have a2 := grCell hg2 a2; have hg2 := Lib.hid hg2)
      | (go_at_call 11; refine (HFe.out _ hg2.out).mono ?_; rintro e w3 ⟨rfl, hg3⟩; have a0 := grCell hg3 a0; have a1 := grCell hg3 a1; have a2 := grCell hg3 a2; have hg3 := Lib.hid (Gr.tr hg2.out hg3)))
    go_ret
    exact ⟨rfl, Gr.tr HG.out hg3.out⟩
  rw [hf] at HFe
  rcases hv : validB n with _ | _
  · rw [hv] at HVa
    clear hv
    go_enter Try.func6, Try.ntmps6
    go_upto_region 1 with fail
    rw [← hW1]
    clear hW1
    go_wp2_with (first
      | (go_at_call 10; refine (head_any _).mono ?_; rintro e w2 ⟨rfl, hg2⟩; have a0 := grCell hg2 a0; have a1 := grCell hg2 a1; have a2 := grCell hg2 a2; have hg2 := Lib.hid hg2)
      | (go_at_call 11; refine (HFe.out _ hg2.out).mono ?_; rintro e w3 ⟨rfl, hg3⟩; have a0 := grCell hg3 a0; have a1 := grCell hg3 a1; have a2 := grCell hg3 a2; have hg3 := Lib.hid (Gr.tr hg2.out hg3))
      | (go_at_call 18; refine (HVa.out _ hg3.out).mono ?_; rintro e w4 ⟨rfl, hg4⟩; have a0 := grCell hg4 a0; have a1 := grCell hg4 a1; have a2 := grCell hg4 a2; have hg4 := Lib.hid (Gr.tr hg3.out hg4)))
    go_ret
    exact ⟨rfl, Gr.tr HG.out hg4.out⟩
  rw [hv] at HVa
  obtain ⟨r, hr, hd1, hd2⟩ := den_of b hb
  have HPo := Lib.hid (HPo.out (1 + r) ⟨hd1, hd2⟩ hv)
  have hS : Hid (∀ W e w', ShareP n W e w' → Gr W w' ∧ ∃ YA, QsR w' (shareM n) YA ∧ e = .returned (.tuple #[.slice YA (shareM n).length (shareM n).length, .int .i64 0])) := Lib.hid (fun W e w' h => share_ok hv h)
  obtain ⟨hfair, hxl, hxq, -⟩ := share_fair hv
  have hF8 : n.f.length ≤ 8 := (valid_parts hv).2.1
  have hnm := Lib.hid (fun ys (h : Poss n (1 + r) ys) i (hi : i < n.f.length) hlt => nomore_found hv hd1 h hi hlt)
  have hxq := Lib.hid hxq
  have eb : IntKind.i64.wrap b = b := IntWalk.i64_in _ (by omega)
  have er : IntKind.i64.wrap r = r := IntWalk.i64_in _ (by omega)
  obtain ⟨d, hde⟩ : ∃ d, 1 + r = d := ⟨_, rfl⟩
  have ed : IntKind.i64.wrap (1 + r) = d := by rw [hde]; exact IntWalk.i64_in _ (by omega)
  rw [hde] at HPo hnm hd1 hd2
  have HD := Lib.hid (And.intro hd1 hd2)
  have HL := Lib.hid (And.intro hxl hF8)
  clear hv hfair hxl hF8 hd1 hd2 hf hde hb
  generalize shareM n = xs at *
  go_enter Try.func6, Try.ntmps6
  go_upto_region 1 with fail
  rw [← hW1]
  clear hW1
  go_wp2_with (first
    | (go_at_call 10; refine (head_any _).mono ?_; rintro e w2 ⟨rfl, hg2⟩; have a0 := grCell hg2 a0; have a1 := grCell hg2 a1; have a2 := grCell hg2 a2; have hg2 := Lib.hid hg2)
    | (go_at_call 11; refine (HFe.out _ hg2.out).mono ?_; rintro e w3 ⟨rfl, hg3⟩; have a0 := grCell hg3 a0; have a1 := grCell hg3 a1; have a2 := grCell hg3 a2; have hg3 := Lib.hid (Gr.tr hg2.out hg3))
    | (go_at_call 18; refine (HVa.out _ hg3.out).mono ?_; rintro e w4 ⟨rfl, hg4⟩; have a0 := grCell hg4 a0; have a1 := grCell hg4 a1; have a2 := grCell hg4 a2; have hg4 := Lib.hid (Gr.tr hg3.out hg4))
    | (go_at_call 19; refine (HPo.out _ hg4.out).mono ?_; rintro e wp ⟨hgp, ys, OO, hOz, hPs, hO, rfl⟩; have a0 := grCell hgp a0; have a1 := grCell hgp a1; have a2 := grCell hgp a2; have hgp := Lib.hid (Gr.tr hg4.out hgp); have hPs := Lib.hid hPs; have hO := Lib.hid hO; have hyl := Lib.hid hPs.out.len; have tl : ((xs.length : Int) != (ys.length : Int)) = false := (by have h1 := hyl.out; have h2 := HL.out.1; simp; omega))
    | (go_at_call 12; refine (HSh.out _ hgp.out).mono ?_; intro e w5 hP; obtain ⟨hg5, YA, hQ, rfl⟩ := hS.out _ _ _ hP; clear hP; have hQ := Lib.hid hQ; have hO := Lib.hid (grBlk hg5 hO.out); have hg5 := Lib.hid (Gr.tr hgp.out hg5)))
  clear hS hg2 hg3 hg4 hgp a0 a1 a2 HSh HVa HFe HPo HN eb er ed
  go_loopg [7, 14] (xs.length) (fun gk u s wr => ∃ k : Nat, k + gk = xs.length ∧ u = .bool true ∧ s = .int .i64 k ∧ Hid (Gr w5 wr))
  case atStart => exact ⟨0, by omega, rfl, rfl, Lib.hid (Below.refl _ _)⟩
  case round =>
    obtain ⟨k, hk, rfl, rfl, hW⟩ := hrel
    have hle : xs.length ≤ 8 := by have := HL.out; omega
    have hD := HD.out
    by_cases hlt : k < xs.length
    · obtain ⟨g9, rfl⟩ : ∃ g, gk = g + 1 := ⟨gk - 1, by omega⟩
      obtain ⟨g, o, rfl, hcs⟩ := (hQ.out.gr hW.out).addr (by omega)
      obtain ⟨p0, p1⟩ := hcs k _ (rat_get hlt)
      have hky : k < ys.length := by have h1 := HL.out; have h2 := hyl.out; omega
      have y0 := iC_at (grBlk hW.out hO.out) hky
      have hq : IntKind.i64.wrap ((k : Int) + 1) = (k : Int) + 1 := IntWalk.i64_in _ (by omega)
      have hkf : k < n.f.length := by have h1 := HL.out; omega
      have hqk := hxq.out k hkf
      obtain ⟨b1, b2⟩ := cpd_bounds hqk hD (hPs.out.nn k)
      have HCm := Lib.hid (fun wx => compared_any (rat xs k) (num ys k) d wx b1 b2)
      obtain ⟨c, hc⟩ : ∃ c, (rat xs k).n * d - num ys k * (rat xs k).d = c := ⟨_, rfl⟩
      rw [hc] at HCm
      have hnk := Lib.hid (show c < 0 → found xs ys d k n.f.length = true from fun h => hnm.out ys hPs.out k hkf (by unfold cpd; rw [hc]; exact h))
      obtain ⟨x, hx⟩ : ∃ x, rat xs k = x := ⟨_, rfl⟩
      rw [hx] at p0 p1 HCm
      obtain ⟨y, hy⟩ : ∃ y, num ys k = y := ⟨_, rfl⟩
      rw [hy] at y0 HCm
      have HX := Lib.hid hx
      clear hcs b1 b2 hc hx hy hqk
      go_upto_region 14 with fail
      refine wp_region_G (S := fun wq => Gr wr wq) (by kernel_rfl) (grDrew _) (fun hHeld => ?_)
      have hSG : Hid (∀ wp wq : World, Gr wr wp → Gr wp wq → Gr wr wq) := Lib.hid (fun _ _ h k => h.tr k)
      have hmv := Lib.hid (fun (wq : World) (hq : Gr wr wq) => And.intro (grCell hq p0) (And.intro (grCell hq p1) (grCell hq y0)))
      first
       | (refine tk hSG 0 (v := ?_) rfl (by kernel_rfl) (fun _ _ _ h => h) (by rfl) ?_ hHeld ?_; rotate_left; focus (intro w' hSw; obtain ⟨p0, p1, y0⟩ := hmv.out _ hSw; go_simp; (try with_reducible rfl)))
       | refine tn hSG 0 rfl (by kernel_rfl) (fun _ _ _ h => h) (by rfl) hHeld ?_
      (try simp only [zq1, zq2, zq3, Act.put, zq4, zq5, zq6])
      first
       | (refine tk hSG 1 (v := ?_) rfl (by kernel_rfl) (fun _ _ _ h => h) (by rfl) ?_ hHeld ?_; rotate_left; focus (intro w' hSw; obtain ⟨p0, p1, y0⟩ := hmv.out _ hSw; go_simp; (try with_reducible rfl)))
       | refine tn hSG 1 rfl (by kernel_rfl) (fun _ _ _ h => h) (by rfl) hHeld ?_
      (try simp only [zq1, zq2, zq3, Act.put, zq4, zq5, zq6])
      first
       | (refine tk hSG 2 (v := ?_) rfl (by kernel_rfl) (fun _ _ _ h => h) (by rfl) ?_ hHeld ?_; rotate_left; focus (intro w' hSw; obtain ⟨p0, p1, y0⟩ := hmv.out _ hSw; go_simp; (try with_reducible rfl)))
       | refine tn hSG 2 rfl (by kernel_rfl) (fun _ _ _ h => h) (by rfl) hHeld ?_
      (try simp only [zq1, zq2, zq3, Act.put, zq4, zq5, zq6])
      first
       | (refine tk hSG 3 (v := ?_) rfl (by kernel_rfl) (fun _ _ _ h => h) (by rfl) ?_ hHeld ?_; rotate_left; focus (intro w' hSw; obtain ⟨p0, p1, y0⟩ := hmv.out _ hSw; go_simp; (try with_reducible rfl)))
       | refine tn hSG 3 rfl (by kernel_rfl) (fun _ _ _ h => h) (by rfl) hHeld ?_
      (try simp only [zq1, zq2, zq3, Act.put, zq4, zq5, zq6])
      first
       | (refine tk hSG 4 (v := ?_) rfl (by kernel_rfl) (fun _ _ _ h => h) (by rfl) ?_ hHeld ?_; rotate_left; focus (intro w' hSw; obtain ⟨p0, p1, y0⟩ := hmv.out _ hSw; go_simp; (try with_reducible rfl)))
       | refine tn hSG 4 rfl (by kernel_rfl) (fun _ _ _ h => h) (by rfl) hHeld ?_
      (try simp only [zq1, zq2, zq3, Act.put, zq4, zq5, zq6])
      first
       | (refine tk hSG 5 (v := ?_) rfl (by kernel_rfl) (fun _ _ _ h => h) (by rfl) ?_ hHeld ?_; rotate_left; focus (intro w' hSw; obtain ⟨p0, p1, y0⟩ := hmv.out _ hSw; go_simp; (try with_reducible rfl)))
       | refine tn hSG 5 rfl (by kernel_rfl) (fun _ _ _ h => h) (by rfl) hHeld ?_
      (try simp only [zq1, zq2, zq3, Act.put, zq4, zq5, zq6])
      first
       | (refine tk hSG 6 (v := ?_) rfl (by kernel_rfl) (fun _ _ _ h => h) (by rfl) ?_ hHeld ?_; rotate_left; focus (intro w' hSw; obtain ⟨p0, p1, y0⟩ := hmv.out _ hSw; go_simp; (try with_reducible rfl)))
       | refine tn hSG 6 rfl (by kernel_rfl) (fun _ _ _ h => h) (by rfl) hHeld ?_
      (try simp only [zq1, zq2, zq3, Act.put, zq4, zq5, zq6])
      first
       | (refine tk hSG 7 (v := ?_) rfl (by kernel_rfl) (fun _ _ _ h => h) (by rfl) ?_ hHeld ?_; rotate_left; focus (intro w' hSw; obtain ⟨p0, p1, y0⟩ := hmv.out _ hSw; go_simp; (try with_reducible rfl)))
       | refine tn hSG 7 rfl (by kernel_rfl) (fun _ _ _ h => h) (by rfl) hHeld ?_
      (try simp only [zq1, zq2, zq3, Act.put, zq4, zq5, zq6])
      first
       | (refine tk hSG 8 (v := ?_) rfl (by kernel_rfl) (fun _ _ _ h => h) (by rfl) ?_ hHeld ?_; rotate_left; focus (intro w' hSw; obtain ⟨p0, p1, y0⟩ := hmv.out _ hSw; go_simp; (try with_reducible rfl)))
       | refine tn hSG 8 rfl (by kernel_rfl) (fun _ _ _ h => h) (by rfl) hHeld ?_
      (try simp only [zq1, zq2, zq3, Act.put, zq4, zq5, zq6])
      refine tc hSG 9 (v := .int .i64 c) rfl (by kernel_rfl) (fun _ _ _ h => h) (by rfl) ?_ hHeld ?_
      focus (intro wz hSw K hK; obtain ⟨p0, p1, y0⟩ := hmv.out _ hSw; go_simp; go_at_call 25; refine (HCm.out _).mono ?_; rintro e w2 ⟨rfl, hb2⟩; first | exact hK.out _ hb2 | (have h9 := hK.out _ hb2; (try simp only [zq1, zq2, zq3, Act.put, zq4, zq5, zq6] at h9 ⊢); exact h9) | (have h9 := hK.out _ hb2; go_simp; exact h9))
      (try simp only [zq1, zq2, zq3, Act.put, zq4, zq5, zq6])
      first
       | (refine tk hSG 10 (v := ?_) rfl (by kernel_rfl) (fun _ _ _ h => h) (by rfl) ?_ hHeld ?_; rotate_left; focus (intro w' hSw; obtain ⟨p0, p1, y0⟩ := hmv.out _ hSw; go_simp; (try with_reducible rfl)))
       | refine tn hSG 10 rfl (by kernel_rfl) (fun _ _ _ h => h) (by rfl) hHeld ?_
      (try simp only [zq1, zq2, zq3, Act.put, zq4, zq5, zq6])
      refine wpAnyG_done (by kernel_rfl) (fun w9 hgD => ?_) _
      have hg9 : Gr wr w9 := (grDrew wr).tr hgD
      clear hgD hSG hHeld
      clear p0 p1 y0 hmv
      have hg9 := Lib.hid hg9
      by_cases h0 : 0 ≤ c
      · go_wp2
        go_roundg g9
        case rel => exact ⟨k + 1, by omega, rfl, by go_num, Lib.hid (Gr.tr hW.out hg9.out)⟩
        case measure => omega
      · have h1 : c < 0 := by omega
        have hfd := Lib.hid (hnk.out (by omega))
        have hGk := Lib.hid (Gr.tr hW.out hg9.out)
        have hkg := Lib.hid (And.intro hk hlt)
        clear hnk h0 hk HCm
        go_wp2
        go_loopg [15, 16] (xs.length) (fun gk u s wx => ∃ (j : Nat) (fb : Bool), j + gk = xs.length ∧ u = .bool fb ∧ s = .int .i64 j ∧ Hid (fb = found xs ys d k j) ∧ Hid (Gr w5 wx))
        case atStart => exact ⟨0, false, by omega, rfl, rfl, Lib.hid rfl, hGk⟩
        case round =>
          obtain ⟨j, fb, hj, rfl, rfl, hFb, hWx⟩ := hrel
          clear hGk
          by_cases hlj : j < xs.length
          · obtain ⟨g8, rfl⟩ : ∃ g, gk = g + 1 := ⟨gk - 1, by omega⟩
            obtain ⟨g2, o2, e22, hcs⟩ := (hQ.out.gr hWx.out).addr (by omega)
            simp only [Option.some.injEq, Addr.mk.injEq, and_true] at e22
            obtain ⟨rfl, rfl⟩ := e22
            obtain ⟨p0, p1⟩ := hcs k _ (rat_get hlt)
            obtain ⟨q0, q1⟩ := hcs j _ (rat_get hlj)
            have hjy : j < ys.length := by have h1 := HL.out; have h2 := hyl.out; omega
            have y0 := iC_at (grBlk hWx.out hO.out) hjy
            have hqj : IntKind.i64.wrap ((j : Int) + 1) = (j : Int) + 1 := IntWalk.i64_in _ (by omega)
            have hqq := hxq.out j (by have h1 := HL.out; omega)
            obtain ⟨b1, b2⟩ := cpd_bounds hqq hD (hPs.out.nn j)
            have HCm := Lib.hid (fun wx => compared_any (rat xs j) (num ys j) d wx b1 b2)
            have HRc := Lib.hid (fun wx => RCmp_any (rat xs j) (rat xs k) wx)
            have hFn := Lib.hid (found_succ xs ys d k j)
            obtain ⟨c, hc⟩ : ∃ c, (rat xs j).n * d - num ys j * (rat xs j).d = c := ⟨_, rfl⟩
            have hc2 : cpd (rat xs j) (num ys j) d = c := hc
            rw [hc] at HCm
            rw [hc2] at hFn
            obtain ⟨z, hz⟩ : ∃ z, cmpM (rat xs j) (rat xs k) = z := ⟨_, rfl⟩
            rw [hz] at HRc hFn
            obtain ⟨z1, z2⟩ := z
            obtain ⟨x, hx⟩ : ∃ x, rat xs k = x := ⟨_, rfl⟩
            obtain ⟨xj, hxj⟩ : ∃ x, rat xs j = x := ⟨_, rfl⟩
            rw [hx] at p0 p1 HRc
            rw [hxj] at q0 q1 HRc HCm
            obtain ⟨y, hy⟩ : ∃ y, num ys j = y := ⟨_, rfl⟩
            rw [hy] at y0 HCm
            simp only at hFn
            clear hcs b1 b2 hc hc2 hx hxj hy hqq hz
            go_upto_region 19 with fail
            refine wp_region_G (S := fun wq => Gr wr wq) (by kernel_rfl) (grDrew _) (fun hHeld => ?_)
            have hSG : Hid (∀ wp wq : World, Gr wr wp → Gr wp wq → Gr wr wq) := Lib.hid (fun _ _ h k => h.tr k)
            have hmv := Lib.hid (fun (wq : World) (hq : Gr wr wq) => And.intro (grCell hq p0) (And.intro (grCell hq p1) (And.intro (grCell hq q0) (And.intro (grCell hq q1) (grCell hq y0)))))
            first
             | (refine tk hSG 0 (v := ?_) rfl (by kernel_rfl) (fun _ _ _ h => h) (by rfl) ?_ hHeld ?_; rotate_left; focus (intro w' hSw; obtain ⟨p0, p1, q0, q1, y0⟩ := hmv.out _ hSw; go_simp; (try with_reducible rfl)))
             | refine tn hSG 0 rfl (by kernel_rfl) (fun _ _ _ h => h) (by rfl) hHeld ?_
            (try simp only [zq1, zq2, zq3, Act.put, zq4, zq5, zq6])
            first
             | (refine tk hSG 1 (v := ?_) rfl (by kernel_rfl) (fun _ _ _ h => h) (by rfl) ?_ hHeld ?_; rotate_left; focus (intro w' hSw; obtain ⟨p0, p1, q0, q1, y0⟩ := hmv.out _ hSw; go_simp; (try with_reducible rfl)))
             | refine tn hSG 1 rfl (by kernel_rfl) (fun _ _ _ h => h) (by rfl) hHeld ?_
            (try simp only [zq1, zq2, zq3, Act.put, zq4, zq5, zq6])
            first
             | (refine tk hSG 2 (v := ?_) rfl (by kernel_rfl) (fun _ _ _ h => h) (by rfl) ?_ hHeld ?_; rotate_left; focus (intro w' hSw; obtain ⟨p0, p1, q0, q1, y0⟩ := hmv.out _ hSw; go_simp; (try with_reducible rfl)))
             | refine tn hSG 2 rfl (by kernel_rfl) (fun _ _ _ h => h) (by rfl) hHeld ?_
            (try simp only [zq1, zq2, zq3, Act.put, zq4, zq5, zq6])
            first
             | (refine tk hSG 3 (v := ?_) rfl (by kernel_rfl) (fun _ _ _ h => h) (by rfl) ?_ hHeld ?_; rotate_left; focus (intro w' hSw; obtain ⟨p0, p1, q0, q1, y0⟩ := hmv.out _ hSw; go_simp; (try with_reducible rfl)))
             | refine tn hSG 3 rfl (by kernel_rfl) (fun _ _ _ h => h) (by rfl) hHeld ?_
            (try simp only [zq1, zq2, zq3, Act.put, zq4, zq5, zq6])
            first
             | (refine tk hSG 4 (v := ?_) rfl (by kernel_rfl) (fun _ _ _ h => h) (by rfl) ?_ hHeld ?_; rotate_left; focus (intro w' hSw; obtain ⟨p0, p1, q0, q1, y0⟩ := hmv.out _ hSw; go_simp; (try with_reducible rfl)))
             | refine tn hSG 4 rfl (by kernel_rfl) (fun _ _ _ h => h) (by rfl) hHeld ?_
            (try simp only [zq1, zq2, zq3, Act.put, zq4, zq5, zq6])
            first
             | (refine tk hSG 5 (v := ?_) rfl (by kernel_rfl) (fun _ _ _ h => h) (by rfl) ?_ hHeld ?_; rotate_left; focus (intro w' hSw; obtain ⟨p0, p1, q0, q1, y0⟩ := hmv.out _ hSw; go_simp; (try with_reducible rfl)))
             | refine tn hSG 5 rfl (by kernel_rfl) (fun _ _ _ h => h) (by rfl) hHeld ?_
            (try simp only [zq1, zq2, zq3, Act.put, zq4, zq5, zq6])
            first
             | (refine tk hSG 6 (v := ?_) rfl (by kernel_rfl) (fun _ _ _ h => h) (by rfl) ?_ hHeld ?_; rotate_left; focus (intro w' hSw; obtain ⟨p0, p1, q0, q1, y0⟩ := hmv.out _ hSw; go_simp; (try with_reducible rfl)))
             | refine tn hSG 6 rfl (by kernel_rfl) (fun _ _ _ h => h) (by rfl) hHeld ?_
            (try simp only [zq1, zq2, zq3, Act.put, zq4, zq5, zq6])
            first
             | (refine tk hSG 7 (v := ?_) rfl (by kernel_rfl) (fun _ _ _ h => h) (by rfl) ?_ hHeld ?_; rotate_left; focus (intro w' hSw; obtain ⟨p0, p1, q0, q1, y0⟩ := hmv.out _ hSw; go_simp; (try with_reducible rfl)))
             | refine tn hSG 7 rfl (by kernel_rfl) (fun _ _ _ h => h) (by rfl) hHeld ?_
            (try simp only [zq1, zq2, zq3, Act.put, zq4, zq5, zq6])
            refine tc hSG 8 (v := ir (z1, z2)) rfl (by kernel_rfl) (fun _ _ _ h => h) (by rfl) ?_ hHeld ?_
            focus (intro wz hSw K hK; obtain ⟨p0, p1, q0, q1, y0⟩ := hmv.out _ hSw; go_simp; go_at_call 23; refine (HRc.out _).mono ?_; rintro e w2 ⟨rfl, hb2⟩; first | exact hK.out _ hb2 | (have h9 := hK.out _ hb2; (try simp only [zq1, zq2, zq3, Act.put, zq4, zq5, zq6] at h9 ⊢); exact h9) | (have h9 := hK.out _ hb2; go_simp; exact h9))
            (try simp only [zq1, zq2, zq3, Act.put, zq4, zq5, zq6])
            first
             | (refine tk hSG 9 (v := ?_) rfl (by kernel_rfl) (fun _ _ _ h => h) (by rfl) ?_ hHeld ?_; rotate_left; focus (intro w' hSw; obtain ⟨p0, p1, q0, q1, y0⟩ := hmv.out _ hSw; go_simp; (try with_reducible rfl)))
             | refine tn hSG 9 rfl (by kernel_rfl) (fun _ _ _ h => h) (by rfl) hHeld ?_
            (try simp only [zq1, zq2, zq3, Act.put, zq4, zq5, zq6])
            first
             | (refine tk hSG 10 (v := ?_) rfl (by kernel_rfl) (fun _ _ _ h => h) (by rfl) ?_ hHeld ?_; rotate_left; focus (intro w' hSw; obtain ⟨p0, p1, q0, q1, y0⟩ := hmv.out _ hSw; go_simp; (try with_reducible rfl)))
             | refine tn hSG 10 rfl (by kernel_rfl) (fun _ _ _ h => h) (by rfl) hHeld ?_
            (try simp only [zq1, zq2, zq3, Act.put, zq4, zq5, zq6])
            first
             | (refine tk hSG 11 (v := ?_) rfl (by kernel_rfl) (fun _ _ _ h => h) (by rfl) ?_ hHeld ?_; rotate_left; focus (intro w' hSw; obtain ⟨p0, p1, q0, q1, y0⟩ := hmv.out _ hSw; go_simp; (try with_reducible rfl)))
             | refine tn hSG 11 rfl (by kernel_rfl) (fun _ _ _ h => h) (by rfl) hHeld ?_
            (try simp only [zq1, zq2, zq3, Act.put, zq4, zq5, zq6])
            first
             | (refine tk hSG 12 (v := ?_) rfl (by kernel_rfl) (fun _ _ _ h => h) (by rfl) ?_ hHeld ?_; rotate_left; focus (intro w' hSw; obtain ⟨p0, p1, q0, q1, y0⟩ := hmv.out _ hSw; go_simp; (try with_reducible rfl)))
             | refine tn hSG 12 rfl (by kernel_rfl) (fun _ _ _ h => h) (by rfl) hHeld ?_
            (try simp only [zq1, zq2, zq3, Act.put, zq4, zq5, zq6])
            first
             | (refine tk hSG 13 (v := ?_) rfl (by kernel_rfl) (fun _ _ _ h => h) (by rfl) ?_ hHeld ?_; rotate_left; focus (intro w' hSw; obtain ⟨p0, p1, q0, q1, y0⟩ := hmv.out _ hSw; go_simp; (try with_reducible rfl)))
             | refine tn hSG 13 rfl (by kernel_rfl) (fun _ _ _ h => h) (by rfl) hHeld ?_
            (try simp only [zq1, zq2, zq3, Act.put, zq4, zq5, zq6])
            refine wpAnyG_done (by kernel_rfl) (fun w8 hgD => ?_) _
            have hg8 : Gr wr w8 := (grDrew wr).tr hgD
            clear hgD hSG hHeld
            clear hmv
            have p0 := grCell hg8 p0; have p1 := grCell hg8 p1; have q0 := grCell hg8 q0; have q1 := grCell hg8 q1; have y0 := grCell hg8 y0
            have hg8 := Lib.hid hg8
            rw [← hFb.out] at hFn
            have HFn := hFn
            cases fb with
            | true =>
              have hN := Lib.hid (show true = found xs ys d k (j + 1) from by rw [HFn.out]; rfl)
              clear HFn hFn hFb
              go_upto_region 20 with fail
              refine wp_region_G (S := fun wq => Gr w8 wq) (by kernel_rfl) (grDrew _) (fun hHeld => ?_)
              have hSG : Hid (∀ wp wq : World, Gr w8 wp → Gr wp wq → Gr w8 wq) := Lib.hid (fun _ _ h k => h.tr k)
              have hmv := Lib.hid (fun (wq : World) (hq : Gr w8 wq) => And.intro (grCell hq q0) (And.intro (grCell hq q1) (grCell hq y0)))
              first
               | (refine tk hSG 0 (v := ?_) rfl (by kernel_rfl) (fun _ _ _ h => h) (by rfl) ?_ hHeld ?_; rotate_left; focus (intro w' hSw; obtain ⟨q0, q1, y0⟩ := hmv.out _ hSw; go_simp; (try with_reducible rfl)))
               | refine tn hSG 0 rfl (by kernel_rfl) (fun _ _ _ h => h) (by rfl) hHeld ?_
              (try simp only [zq1, zq2, zq3, Act.put, zq4, zq5, zq6])
              first
               | (refine tk hSG 1 (v := ?_) rfl (by kernel_rfl) (fun _ _ _ h => h) (by rfl) ?_ hHeld ?_; rotate_left; focus (intro w' hSw; obtain ⟨q0, q1, y0⟩ := hmv.out _ hSw; go_simp; (try with_reducible rfl)))
               | refine tn hSG 1 rfl (by kernel_rfl) (fun _ _ _ h => h) (by rfl) hHeld ?_
              (try simp only [zq1, zq2, zq3, Act.put, zq4, zq5, zq6])
              first
               | (refine tk hSG 2 (v := ?_) rfl (by kernel_rfl) (fun _ _ _ h => h) (by rfl) ?_ hHeld ?_; rotate_left; focus (intro w' hSw; obtain ⟨q0, q1, y0⟩ := hmv.out _ hSw; go_simp; (try with_reducible rfl)))
               | refine tn hSG 2 rfl (by kernel_rfl) (fun _ _ _ h => h) (by rfl) hHeld ?_
              (try simp only [zq1, zq2, zq3, Act.put, zq4, zq5, zq6])
              first
               | (refine tk hSG 3 (v := ?_) rfl (by kernel_rfl) (fun _ _ _ h => h) (by rfl) ?_ hHeld ?_; rotate_left; focus (intro w' hSw; obtain ⟨q0, q1, y0⟩ := hmv.out _ hSw; go_simp; (try with_reducible rfl)))
               | refine tn hSG 3 rfl (by kernel_rfl) (fun _ _ _ h => h) (by rfl) hHeld ?_
              (try simp only [zq1, zq2, zq3, Act.put, zq4, zq5, zq6])
              first
               | (refine tk hSG 4 (v := ?_) rfl (by kernel_rfl) (fun _ _ _ h => h) (by rfl) ?_ hHeld ?_; rotate_left; focus (intro w' hSw; obtain ⟨q0, q1, y0⟩ := hmv.out _ hSw; go_simp; (try with_reducible rfl)))
               | refine tn hSG 4 rfl (by kernel_rfl) (fun _ _ _ h => h) (by rfl) hHeld ?_
              (try simp only [zq1, zq2, zq3, Act.put, zq4, zq5, zq6])
              first
               | (refine tk hSG 5 (v := ?_) rfl (by kernel_rfl) (fun _ _ _ h => h) (by rfl) ?_ hHeld ?_; rotate_left; focus (intro w' hSw; obtain ⟨q0, q1, y0⟩ := hmv.out _ hSw; go_simp; (try with_reducible rfl)))
               | refine tn hSG 5 rfl (by kernel_rfl) (fun _ _ _ h => h) (by rfl) hHeld ?_
              (try simp only [zq1, zq2, zq3, Act.put, zq4, zq5, zq6])
              first
               | (refine tk hSG 6 (v := ?_) rfl (by kernel_rfl) (fun _ _ _ h => h) (by rfl) ?_ hHeld ?_; rotate_left; focus (intro w' hSw; obtain ⟨q0, q1, y0⟩ := hmv.out _ hSw; go_simp; (try with_reducible rfl)))
               | refine tn hSG 6 rfl (by kernel_rfl) (fun _ _ _ h => h) (by rfl) hHeld ?_
              (try simp only [zq1, zq2, zq3, Act.put, zq4, zq5, zq6])
              first
               | (refine tk hSG 7 (v := ?_) rfl (by kernel_rfl) (fun _ _ _ h => h) (by rfl) ?_ hHeld ?_; rotate_left; focus (intro w' hSw; obtain ⟨q0, q1, y0⟩ := hmv.out _ hSw; go_simp; (try with_reducible rfl)))
               | refine tn hSG 7 rfl (by kernel_rfl) (fun _ _ _ h => h) (by rfl) hHeld ?_
              (try simp only [zq1, zq2, zq3, Act.put, zq4, zq5, zq6])
              first
               | (refine tk hSG 8 (v := ?_) rfl (by kernel_rfl) (fun _ _ _ h => h) (by rfl) ?_ hHeld ?_; rotate_left; focus (intro w' hSw; obtain ⟨q0, q1, y0⟩ := hmv.out _ hSw; go_simp; (try with_reducible rfl)))
               | refine tn hSG 8 rfl (by kernel_rfl) (fun _ _ _ h => h) (by rfl) hHeld ?_
              (try simp only [zq1, zq2, zq3, Act.put, zq4, zq5, zq6])
              first
               | (refine tk hSG 9 (v := ?_) rfl (by kernel_rfl) (fun _ _ _ h => h) (by rfl) ?_ hHeld ?_; rotate_left; focus (intro w' hSw; obtain ⟨q0, q1, y0⟩ := hmv.out _ hSw; go_simp; (try with_reducible rfl)))
               | refine tn hSG 9 rfl (by kernel_rfl) (fun _ _ _ h => h) (by rfl) hHeld ?_
              (try simp only [zq1, zq2, zq3, Act.put, zq4, zq5, zq6])
              first
               | (refine tk hSG 10 (v := ?_) rfl (by kernel_rfl) (fun _ _ _ h => h) (by rfl) ?_ hHeld ?_; rotate_left; focus (intro w' hSw; obtain ⟨q0, q1, y0⟩ := hmv.out _ hSw; go_simp; (try with_reducible rfl)))
               | refine tn hSG 10 rfl (by kernel_rfl) (fun _ _ _ h => h) (by rfl) hHeld ?_
              (try simp only [zq1, zq2, zq3, Act.put, zq4, zq5, zq6])
              first
               | (refine tk hSG 11 (v := ?_) rfl (by kernel_rfl) (fun _ _ _ h => h) (by rfl) ?_ hHeld ?_; rotate_left; focus (intro w' hSw; obtain ⟨q0, q1, y0⟩ := hmv.out _ hSw; go_simp; (try with_reducible rfl)))
               | refine tn hSG 11 rfl (by kernel_rfl) (fun _ _ _ h => h) (by rfl) hHeld ?_
              (try simp only [zq1, zq2, zq3, Act.put, zq4, zq5, zq6])
              first
               | (refine tk hSG 12 (v := ?_) rfl (by kernel_rfl) (fun _ _ _ h => h) (by rfl) ?_ hHeld ?_; rotate_left; focus (intro w' hSw; obtain ⟨q0, q1, y0⟩ := hmv.out _ hSw; go_simp; (try with_reducible rfl)))
               | refine tn hSG 12 rfl (by kernel_rfl) (fun _ _ _ h => h) (by rfl) hHeld ?_
              (try simp only [zq1, zq2, zq3, Act.put, zq4, zq5, zq6])
              first
               | (refine tk hSG 13 (v := ?_) rfl (by kernel_rfl) (fun _ _ _ h => h) (by rfl) ?_ hHeld ?_; rotate_left; focus (intro w' hSw; obtain ⟨q0, q1, y0⟩ := hmv.out _ hSw; go_simp; (try with_reducible rfl)))
               | refine tn hSG 13 rfl (by kernel_rfl) (fun _ _ _ h => h) (by rfl) hHeld ?_
              (try simp only [zq1, zq2, zq3, Act.put, zq4, zq5, zq6])
              first
               | (refine tk hSG 14 (v := ?_) rfl (by kernel_rfl) (fun _ _ _ h => h) (by rfl) ?_ hHeld ?_; rotate_left; focus (intro w' hSw; obtain ⟨q0, q1, y0⟩ := hmv.out _ hSw; go_simp; (try with_reducible rfl)))
               | refine tn hSG 14 rfl (by kernel_rfl) (fun _ _ _ h => h) (by rfl) hHeld ?_
              (try simp only [zq1, zq2, zq3, Act.put, zq4, zq5, zq6])
              first
               | (refine tk hSG 15 (v := ?_) rfl (by kernel_rfl) (fun _ _ _ h => h) (by rfl) ?_ hHeld ?_; rotate_left; focus (intro w' hSw; obtain ⟨q0, q1, y0⟩ := hmv.out _ hSw; go_simp; (try with_reducible rfl)))
               | refine tn hSG 15 rfl (by kernel_rfl) (fun _ _ _ h => h) (by rfl) hHeld ?_
              (try simp only [zq1, zq2, zq3, Act.put, zq4, zq5, zq6])
              first
               | (refine tk hSG 16 (v := ?_) rfl (by kernel_rfl) (fun _ _ _ h => h) (by rfl) ?_ hHeld ?_; rotate_left; focus (intro w' hSw; obtain ⟨q0, q1, y0⟩ := hmv.out _ hSw; go_simp; (try with_reducible rfl)))
               | refine tn hSG 16 rfl (by kernel_rfl) (fun _ _ _ h => h) (by rfl) hHeld ?_
              (try simp only [zq1, zq2, zq3, Act.put, zq4, zq5, zq6])
              first
               | (refine tk hSG 17 (v := ?_) rfl (by kernel_rfl) (fun _ _ _ h => h) (by rfl) ?_ hHeld ?_; rotate_left; focus (intro w' hSw; obtain ⟨q0, q1, y0⟩ := hmv.out _ hSw; go_simp; (try with_reducible rfl)))
               | refine tn hSG 17 rfl (by kernel_rfl) (fun _ _ _ h => h) (by rfl) hHeld ?_
              (try simp only [zq1, zq2, zq3, Act.put, zq4, zq5, zq6])
              first
               | (refine tk hSG 18 (v := ?_) rfl (by kernel_rfl) (fun _ _ _ h => h) (by rfl) ?_ hHeld ?_; rotate_left; focus (intro w' hSw; obtain ⟨q0, q1, y0⟩ := hmv.out _ hSw; go_simp; (try with_reducible rfl)))
               | refine tn hSG 18 rfl (by kernel_rfl) (fun _ _ _ h => h) (by rfl) hHeld ?_
              (try simp only [zq1, zq2, zq3, Act.put, zq4, zq5, zq6])
              refine wpAnyG_done (by kernel_rfl) (fun w7 hgD => ?_) _
              have hg7 : Gr w8 w7 := (grDrew w8).tr hgD
              clear hgD hSG hHeld
              clear hmv q0 q1 y0 p0 p1
              have hg7 := Lib.hid hg7
              go_wp2
              go_roundg g8
              case rel => exact ⟨j + 1, true, by omega, rfl, by go_num, hN, Lib.hid (Gr.tr hWx.out (Gr.tr hg8.out hg7.out))⟩
              case measure => omega
            | false =>
              by_cases hz0 : z1 ≤ 0
              · have tz : decide (z1 ≤ (0 : Int)) = true := by simp; omega
                obtain ⟨v, hv⟩ : ∃ v, decide ((0 : Int) < c) = v := ⟨_, rfl⟩
                have hN := Lib.hid (show v = found xs ys d k (j + 1) from by rw [HFn.out, tz, hv]; simp)
                clear HFn hFn hFb
                go_upto_region 20 with fail
                refine wp_region_G (S := fun wq => Gr w8 wq) (by kernel_rfl) (grDrew _) (fun hHeld => ?_)
                have hSG : Hid (∀ wp wq : World, Gr w8 wp → Gr wp wq → Gr w8 wq) := Lib.hid (fun _ _ h k => h.tr k)
                have hmv := Lib.hid (fun (wq : World) (hq : Gr w8 wq) => And.intro (grCell hq q0) (And.intro (grCell hq q1) (grCell hq y0)))
                first
                 | (refine tk hSG 0 (v := ?_) rfl (by kernel_rfl) (fun _ _ _ h => h) (by rfl) ?_ hHeld ?_; rotate_left; focus (intro w' hSw; obtain ⟨q0, q1, y0⟩ := hmv.out _ hSw; go_simp; (try with_reducible rfl)))
                 | refine tn hSG 0 rfl (by kernel_rfl) (fun _ _ _ h => h) (by rfl) hHeld ?_
                (try simp only [zq1, zq2, zq3, Act.put, zq4, zq5, zq6])
                first
                 | (refine tk hSG 1 (v := ?_) rfl (by kernel_rfl) (fun _ _ _ h => h) (by rfl) ?_ hHeld ?_; rotate_left; focus (intro w' hSw; obtain ⟨q0, q1, y0⟩ := hmv.out _ hSw; go_simp; (try with_reducible rfl)))
                 | refine tn hSG 1 rfl (by kernel_rfl) (fun _ _ _ h => h) (by rfl) hHeld ?_
                (try simp only [zq1, zq2, zq3, Act.put, zq4, zq5, zq6])
                first
                 | (refine tk hSG 2 (v := ?_) rfl (by kernel_rfl) (fun _ _ _ h => h) (by rfl) ?_ hHeld ?_; rotate_left; focus (intro w' hSw; obtain ⟨q0, q1, y0⟩ := hmv.out _ hSw; go_simp; (try with_reducible rfl)))
                 | refine tn hSG 2 rfl (by kernel_rfl) (fun _ _ _ h => h) (by rfl) hHeld ?_
                (try simp only [zq1, zq2, zq3, Act.put, zq4, zq5, zq6])
                first
                 | (refine tk hSG 3 (v := ?_) rfl (by kernel_rfl) (fun _ _ _ h => h) (by rfl) ?_ hHeld ?_; rotate_left; focus (intro w' hSw; obtain ⟨q0, q1, y0⟩ := hmv.out _ hSw; go_simp; (try with_reducible rfl)))
                 | refine tn hSG 3 rfl (by kernel_rfl) (fun _ _ _ h => h) (by rfl) hHeld ?_
                (try simp only [zq1, zq2, zq3, Act.put, zq4, zq5, zq6])
                first
                 | (refine tk hSG 4 (v := ?_) rfl (by kernel_rfl) (fun _ _ _ h => h) (by rfl) ?_ hHeld ?_; rotate_left; focus (intro w' hSw; obtain ⟨q0, q1, y0⟩ := hmv.out _ hSw; go_simp; (try with_reducible rfl)))
                 | refine tn hSG 4 rfl (by kernel_rfl) (fun _ _ _ h => h) (by rfl) hHeld ?_
                (try simp only [zq1, zq2, zq3, Act.put, zq4, zq5, zq6])
                first
                 | (refine tk hSG 5 (v := ?_) rfl (by kernel_rfl) (fun _ _ _ h => h) (by rfl) ?_ hHeld ?_; rotate_left; focus (intro w' hSw; obtain ⟨q0, q1, y0⟩ := hmv.out _ hSw; go_simp; (try with_reducible rfl)))
                 | refine tn hSG 5 rfl (by kernel_rfl) (fun _ _ _ h => h) (by rfl) hHeld ?_
                (try simp only [zq1, zq2, zq3, Act.put, zq4, zq5, zq6])
                first
                 | (refine tk hSG 6 (v := ?_) rfl (by kernel_rfl) (fun _ _ _ h => h) (by rfl) ?_ hHeld ?_; rotate_left; focus (intro w' hSw; obtain ⟨q0, q1, y0⟩ := hmv.out _ hSw; go_simp; (try with_reducible rfl)))
                 | refine tn hSG 6 rfl (by kernel_rfl) (fun _ _ _ h => h) (by rfl) hHeld ?_
                (try simp only [zq1, zq2, zq3, Act.put, zq4, zq5, zq6])
                first
                 | (refine tk hSG 7 (v := ?_) rfl (by kernel_rfl) (fun _ _ _ h => h) (by rfl) ?_ hHeld ?_; rotate_left; focus (intro w' hSw; obtain ⟨q0, q1, y0⟩ := hmv.out _ hSw; go_simp; (try with_reducible rfl)))
                 | refine tn hSG 7 rfl (by kernel_rfl) (fun _ _ _ h => h) (by rfl) hHeld ?_
                (try simp only [zq1, zq2, zq3, Act.put, zq4, zq5, zq6])
                first
                 | (refine tk hSG 8 (v := ?_) rfl (by kernel_rfl) (fun _ _ _ h => h) (by rfl) ?_ hHeld ?_; rotate_left; focus (intro w' hSw; obtain ⟨q0, q1, y0⟩ := hmv.out _ hSw; go_simp; (try with_reducible rfl)))
                 | refine tn hSG 8 rfl (by kernel_rfl) (fun _ _ _ h => h) (by rfl) hHeld ?_
                (try simp only [zq1, zq2, zq3, Act.put, zq4, zq5, zq6])
                first
                 | (refine tk hSG 9 (v := ?_) rfl (by kernel_rfl) (fun _ _ _ h => h) (by rfl) ?_ hHeld ?_; rotate_left; focus (intro w' hSw; obtain ⟨q0, q1, y0⟩ := hmv.out _ hSw; go_simp; (try with_reducible rfl)))
                 | refine tn hSG 9 rfl (by kernel_rfl) (fun _ _ _ h => h) (by rfl) hHeld ?_
                (try simp only [zq1, zq2, zq3, Act.put, zq4, zq5, zq6])
                first
                 | (refine tk hSG 10 (v := ?_) rfl (by kernel_rfl) (fun _ _ _ h => h) (by rfl) ?_ hHeld ?_; rotate_left; focus (intro w' hSw; obtain ⟨q0, q1, y0⟩ := hmv.out _ hSw; go_simp; (try with_reducible rfl)))
                 | refine tn hSG 10 rfl (by kernel_rfl) (fun _ _ _ h => h) (by rfl) hHeld ?_
                (try simp only [zq1, zq2, zq3, Act.put, zq4, zq5, zq6])
                first
                 | (refine tk hSG 11 (v := ?_) rfl (by kernel_rfl) (fun _ _ _ h => h) (by rfl) ?_ hHeld ?_; rotate_left; focus (intro w' hSw; obtain ⟨q0, q1, y0⟩ := hmv.out _ hSw; go_simp; (try with_reducible rfl)))
                 | refine tn hSG 11 rfl (by kernel_rfl) (fun _ _ _ h => h) (by rfl) hHeld ?_
                (try simp only [zq1, zq2, zq3, Act.put, zq4, zq5, zq6])
                first
                 | (refine tk hSG 12 (v := ?_) rfl (by kernel_rfl) (fun _ _ _ h => h) (by rfl) ?_ hHeld ?_; rotate_left; focus (intro w' hSw; obtain ⟨q0, q1, y0⟩ := hmv.out _ hSw; go_simp; (try with_reducible rfl)))
                 | refine tn hSG 12 rfl (by kernel_rfl) (fun _ _ _ h => h) (by rfl) hHeld ?_
                (try simp only [zq1, zq2, zq3, Act.put, zq4, zq5, zq6])
                first
                 | (refine tk hSG 13 (v := ?_) rfl (by kernel_rfl) (fun _ _ _ h => h) (by rfl) ?_ hHeld ?_; rotate_left; focus (intro w' hSw; obtain ⟨q0, q1, y0⟩ := hmv.out _ hSw; go_simp; (try with_reducible rfl)))
                 | refine tn hSG 13 rfl (by kernel_rfl) (fun _ _ _ h => h) (by rfl) hHeld ?_
                (try simp only [zq1, zq2, zq3, Act.put, zq4, zq5, zq6])
                refine tc hSG 14 (v := .int .i64 c) rfl (by kernel_rfl) (fun _ _ _ h => h) (by rfl) ?_ hHeld ?_
                focus (intro wz hSw K hK; obtain ⟨q0, q1, y0⟩ := hmv.out _ hSw; go_simp; go_at_call 25; refine (HCm.out _).mono ?_; rintro e w2 ⟨rfl, hb2⟩; first | exact hK.out _ hb2 | (have h9 := hK.out _ hb2; (try simp only [zq1, zq2, zq3, Act.put, zq4, zq5, zq6] at h9 ⊢); exact h9) | (have h9 := hK.out _ hb2; go_simp; exact h9))
                (try simp only [zq1, zq2, zq3, Act.put, zq4, zq5, zq6])
                first
                 | (refine tk hSG 15 (v := ?_) rfl (by kernel_rfl) (fun _ _ _ h => h) (by rfl) ?_ hHeld ?_; rotate_left; focus (intro w' hSw; obtain ⟨q0, q1, y0⟩ := hmv.out _ hSw; go_simp; (try with_reducible rfl)))
                 | refine tn hSG 15 rfl (by kernel_rfl) (fun _ _ _ h => h) (by rfl) hHeld ?_
                (try simp only [zq1, zq2, zq3, Act.put, zq4, zq5, zq6])
                first
                 | (refine tk hSG 16 (v := ?_) rfl (by kernel_rfl) (fun _ _ _ h => h) (by rfl) ?_ hHeld ?_; rotate_left; focus (intro w' hSw; obtain ⟨q0, q1, y0⟩ := hmv.out _ hSw; go_simp; (try with_reducible rfl)))
                 | refine tn hSG 16 rfl (by kernel_rfl) (fun _ _ _ h => h) (by rfl) hHeld ?_
                (try simp only [zq1, zq2, zq3, Act.put, zq4, zq5, zq6])
                first
                 | (refine tk hSG 17 (v := ?_) rfl (by kernel_rfl) (fun _ _ _ h => h) (by rfl) ?_ hHeld ?_; rotate_left; focus (intro w' hSw; obtain ⟨q0, q1, y0⟩ := hmv.out _ hSw; go_simp; (try with_reducible rfl)))
                 | refine tn hSG 17 rfl (by kernel_rfl) (fun _ _ _ h => h) (by rfl) hHeld ?_
                (try simp only [zq1, zq2, zq3, Act.put, zq4, zq5, zq6])
                first
                 | (refine tk hSG 18 (v := ?_) rfl (by kernel_rfl) (fun _ _ _ h => h) (by rfl) ?_ hHeld ?_; rotate_left; focus (intro w' hSw; obtain ⟨q0, q1, y0⟩ := hmv.out _ hSw; go_simp; (try with_reducible rfl)))
                 | refine tn hSG 18 rfl (by kernel_rfl) (fun _ _ _ h => h) (by rfl) hHeld ?_
                (try simp only [zq1, zq2, zq3, Act.put, zq4, zq5, zq6])
                refine wpAnyG_done (by kernel_rfl) (fun w7 hgD => ?_) _
                have hg7 : Gr w8 w7 := (grDrew w8).tr hgD
                clear hgD hSG hHeld
                clear hmv q0 q1 y0 p0 p1
                have hg7 := Lib.hid hg7
                go_wp2
                go_roundg g8
                case rel => exact ⟨j + 1, v, by omega, rfl, by go_num, hN, Lib.hid (Gr.tr hWx.out (Gr.tr hg8.out hg7.out))⟩
                case measure => omega
              · have tz : decide (z1 ≤ (0 : Int)) = false := by simp; omega
                have hN := Lib.hid (show false = found xs ys d k (j + 1) from by rw [HFn.out, tz]; simp)
                clear HFn hFn hFb
                go_upto_region 20 with fail
                refine wp_region_G (S := fun wq => Gr w8 wq) (by kernel_rfl) (grDrew _) (fun hHeld => ?_)
                have hSG : Hid (∀ wp wq : World, Gr w8 wp → Gr wp wq → Gr w8 wq) := Lib.hid (fun _ _ h k => h.tr k)
                have hmv := Lib.hid (fun (wq : World) (hq : Gr w8 wq) => And.intro (grCell hq q0) (And.intro (grCell hq q1) (grCell hq y0)))
                first
                 | (refine tk hSG 0 (v := ?_) rfl (by kernel_rfl) (fun _ _ _ h => h) (by rfl) ?_ hHeld ?_; rotate_left; focus (intro w' hSw; obtain ⟨q0, q1, y0⟩ := hmv.out _ hSw; go_simp; (try with_reducible rfl)))
                 | refine tn hSG 0 rfl (by kernel_rfl) (fun _ _ _ h => h) (by rfl) hHeld ?_
                (try simp only [zq1, zq2, zq3, Act.put, zq4, zq5, zq6])
                first
                 | (refine tk hSG 1 (v := ?_) rfl (by kernel_rfl) (fun _ _ _ h => h) (by rfl) ?_ hHeld ?_; rotate_left; focus (intro w' hSw; obtain ⟨q0, q1, y0⟩ := hmv.out _ hSw; go_simp; (try with_reducible rfl)))
                 | refine tn hSG 1 rfl (by kernel_rfl) (fun _ _ _ h => h) (by rfl) hHeld ?_
                (try simp only [zq1, zq2, zq3, Act.put, zq4, zq5, zq6])
                first
                 | (refine tk hSG 2 (v := ?_) rfl (by kernel_rfl) (fun _ _ _ h => h) (by rfl) ?_ hHeld ?_; rotate_left; focus (intro w' hSw; obtain ⟨q0, q1, y0⟩ := hmv.out _ hSw; go_simp; (try with_reducible rfl)))
                 | refine tn hSG 2 rfl (by kernel_rfl) (fun _ _ _ h => h) (by rfl) hHeld ?_
                (try simp only [zq1, zq2, zq3, Act.put, zq4, zq5, zq6])
                first
                 | (refine tk hSG 3 (v := ?_) rfl (by kernel_rfl) (fun _ _ _ h => h) (by rfl) ?_ hHeld ?_; rotate_left; focus (intro w' hSw; obtain ⟨q0, q1, y0⟩ := hmv.out _ hSw; go_simp; (try with_reducible rfl)))
                 | refine tn hSG 3 rfl (by kernel_rfl) (fun _ _ _ h => h) (by rfl) hHeld ?_
                (try simp only [zq1, zq2, zq3, Act.put, zq4, zq5, zq6])
                first
                 | (refine tk hSG 4 (v := ?_) rfl (by kernel_rfl) (fun _ _ _ h => h) (by rfl) ?_ hHeld ?_; rotate_left; focus (intro w' hSw; obtain ⟨q0, q1, y0⟩ := hmv.out _ hSw; go_simp; (try with_reducible rfl)))
                 | refine tn hSG 4 rfl (by kernel_rfl) (fun _ _ _ h => h) (by rfl) hHeld ?_
                (try simp only [zq1, zq2, zq3, Act.put, zq4, zq5, zq6])
                first
                 | (refine tk hSG 5 (v := ?_) rfl (by kernel_rfl) (fun _ _ _ h => h) (by rfl) ?_ hHeld ?_; rotate_left; focus (intro w' hSw; obtain ⟨q0, q1, y0⟩ := hmv.out _ hSw; go_simp; (try with_reducible rfl)))
                 | refine tn hSG 5 rfl (by kernel_rfl) (fun _ _ _ h => h) (by rfl) hHeld ?_
                (try simp only [zq1, zq2, zq3, Act.put, zq4, zq5, zq6])
                first
                 | (refine tk hSG 6 (v := ?_) rfl (by kernel_rfl) (fun _ _ _ h => h) (by rfl) ?_ hHeld ?_; rotate_left; focus (intro w' hSw; obtain ⟨q0, q1, y0⟩ := hmv.out _ hSw; go_simp; (try with_reducible rfl)))
                 | refine tn hSG 6 rfl (by kernel_rfl) (fun _ _ _ h => h) (by rfl) hHeld ?_
                (try simp only [zq1, zq2, zq3, Act.put, zq4, zq5, zq6])
                first
                 | (refine tk hSG 7 (v := ?_) rfl (by kernel_rfl) (fun _ _ _ h => h) (by rfl) ?_ hHeld ?_; rotate_left; focus (intro w' hSw; obtain ⟨q0, q1, y0⟩ := hmv.out _ hSw; go_simp; (try with_reducible rfl)))
                 | refine tn hSG 7 rfl (by kernel_rfl) (fun _ _ _ h => h) (by rfl) hHeld ?_
                (try simp only [zq1, zq2, zq3, Act.put, zq4, zq5, zq6])
                first
                 | (refine tk hSG 8 (v := ?_) rfl (by kernel_rfl) (fun _ _ _ h => h) (by rfl) ?_ hHeld ?_; rotate_left; focus (intro w' hSw; obtain ⟨q0, q1, y0⟩ := hmv.out _ hSw; go_simp; (try with_reducible rfl)))
                 | refine tn hSG 8 rfl (by kernel_rfl) (fun _ _ _ h => h) (by rfl) hHeld ?_
                (try simp only [zq1, zq2, zq3, Act.put, zq4, zq5, zq6])
                first
                 | (refine tk hSG 9 (v := ?_) rfl (by kernel_rfl) (fun _ _ _ h => h) (by rfl) ?_ hHeld ?_; rotate_left; focus (intro w' hSw; obtain ⟨q0, q1, y0⟩ := hmv.out _ hSw; go_simp; (try with_reducible rfl)))
                 | refine tn hSG 9 rfl (by kernel_rfl) (fun _ _ _ h => h) (by rfl) hHeld ?_
                (try simp only [zq1, zq2, zq3, Act.put, zq4, zq5, zq6])
                first
                 | (refine tk hSG 10 (v := ?_) rfl (by kernel_rfl) (fun _ _ _ h => h) (by rfl) ?_ hHeld ?_; rotate_left; focus (intro w' hSw; obtain ⟨q0, q1, y0⟩ := hmv.out _ hSw; go_simp; (try with_reducible rfl)))
                 | refine tn hSG 10 rfl (by kernel_rfl) (fun _ _ _ h => h) (by rfl) hHeld ?_
                (try simp only [zq1, zq2, zq3, Act.put, zq4, zq5, zq6])
                first
                 | (refine tk hSG 11 (v := ?_) rfl (by kernel_rfl) (fun _ _ _ h => h) (by rfl) ?_ hHeld ?_; rotate_left; focus (intro w' hSw; obtain ⟨q0, q1, y0⟩ := hmv.out _ hSw; go_simp; (try with_reducible rfl)))
                 | refine tn hSG 11 rfl (by kernel_rfl) (fun _ _ _ h => h) (by rfl) hHeld ?_
                (try simp only [zq1, zq2, zq3, Act.put, zq4, zq5, zq6])
                first
                 | (refine tk hSG 12 (v := ?_) rfl (by kernel_rfl) (fun _ _ _ h => h) (by rfl) ?_ hHeld ?_; rotate_left; focus (intro w' hSw; obtain ⟨q0, q1, y0⟩ := hmv.out _ hSw; go_simp; (try with_reducible rfl)))
                 | refine tn hSG 12 rfl (by kernel_rfl) (fun _ _ _ h => h) (by rfl) hHeld ?_
                (try simp only [zq1, zq2, zq3, Act.put, zq4, zq5, zq6])
                first
                 | (refine tk hSG 13 (v := ?_) rfl (by kernel_rfl) (fun _ _ _ h => h) (by rfl) ?_ hHeld ?_; rotate_left; focus (intro w' hSw; obtain ⟨q0, q1, y0⟩ := hmv.out _ hSw; go_simp; (try with_reducible rfl)))
                 | refine tn hSG 13 rfl (by kernel_rfl) (fun _ _ _ h => h) (by rfl) hHeld ?_
                (try simp only [zq1, zq2, zq3, Act.put, zq4, zq5, zq6])
                first
                 | (refine tk hSG 14 (v := ?_) rfl (by kernel_rfl) (fun _ _ _ h => h) (by rfl) ?_ hHeld ?_; rotate_left; focus (intro w' hSw; obtain ⟨q0, q1, y0⟩ := hmv.out _ hSw; go_simp; (try with_reducible rfl)))
                 | refine tn hSG 14 rfl (by kernel_rfl) (fun _ _ _ h => h) (by rfl) hHeld ?_
                (try simp only [zq1, zq2, zq3, Act.put, zq4, zq5, zq6])
                first
                 | (refine tk hSG 15 (v := ?_) rfl (by kernel_rfl) (fun _ _ _ h => h) (by rfl) ?_ hHeld ?_; rotate_left; focus (intro w' hSw; obtain ⟨q0, q1, y0⟩ := hmv.out _ hSw; go_simp; (try with_reducible rfl)))
                 | refine tn hSG 15 rfl (by kernel_rfl) (fun _ _ _ h => h) (by rfl) hHeld ?_
                (try simp only [zq1, zq2, zq3, Act.put, zq4, zq5, zq6])
                first
                 | (refine tk hSG 16 (v := ?_) rfl (by kernel_rfl) (fun _ _ _ h => h) (by rfl) ?_ hHeld ?_; rotate_left; focus (intro w' hSw; obtain ⟨q0, q1, y0⟩ := hmv.out _ hSw; go_simp; (try with_reducible rfl)))
                 | refine tn hSG 16 rfl (by kernel_rfl) (fun _ _ _ h => h) (by rfl) hHeld ?_
                (try simp only [zq1, zq2, zq3, Act.put, zq4, zq5, zq6])
                first
                 | (refine tk hSG 17 (v := ?_) rfl (by kernel_rfl) (fun _ _ _ h => h) (by rfl) ?_ hHeld ?_; rotate_left; focus (intro w' hSw; obtain ⟨q0, q1, y0⟩ := hmv.out _ hSw; go_simp; (try with_reducible rfl)))
                 | refine tn hSG 17 rfl (by kernel_rfl) (fun _ _ _ h => h) (by rfl) hHeld ?_
                (try simp only [zq1, zq2, zq3, Act.put, zq4, zq5, zq6])
                first
                 | (refine tk hSG 18 (v := ?_) rfl (by kernel_rfl) (fun _ _ _ h => h) (by rfl) ?_ hHeld ?_; rotate_left; focus (intro w' hSw; obtain ⟨q0, q1, y0⟩ := hmv.out _ hSw; go_simp; (try with_reducible rfl)))
                 | refine tn hSG 18 rfl (by kernel_rfl) (fun _ _ _ h => h) (by rfl) hHeld ?_
                (try simp only [zq1, zq2, zq3, Act.put, zq4, zq5, zq6])
                refine wpAnyG_done (by kernel_rfl) (fun w7 hgD => ?_) _
                have hg7 : Gr w8 w7 := (grDrew w8).tr hgD
                clear hgD hSG hHeld
                clear hmv q0 q1 y0 p0 p1
                have hg7 := Lib.hid hg7
                go_wp2
                go_roundg g8
                case rel => exact ⟨j + 1, false, by omega, rfl, by go_num, hN, Lib.hid (Gr.tr hWx.out (Gr.tr hg8.out hg7.out))⟩
                case measure => omega
          · obtain rfl : fb = true := by
              have hje : j = n.f.length := by have h1 := HL.out; omega
              rw [hFb.out, hje]; exact hfd.out
            have hkk := hkg.out
            clear hFb
            go_wp2
            go_roundg g9
            case rel => exact ⟨k + 1, by omega, rfl, by go_num, hWx⟩
            case measure => omega
    · go_wp2
      go_ret
      exact ⟨rfl, Gr.tr HG.out (Gr.tr hg5.out hW.out)⟩
end Go.Proofs.Ytbjhdfakocfapaa
