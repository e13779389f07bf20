/- Texts of one proof: KzU. -/
import Derived.Test.YtamfgjinfcknfaaGreatDoorYp
set_option linter.unusedVariables false
set_option linter.unusedSimpArgs false
set_option maxRecDepth 100000
set_option maxHeartbeats 8000000
namespace Go.Proofs.YtamfgjinfcknfaaGreatDoor
open Go.RowKit
namespace K
open U (Ex St StsR VarsR Vr kbL)
open C (valPM v5 v5_val SomeB V1)
theorem CmpQ.cases {ls : List (List St)} {w : World} {e : Ending} {w' : World} (h : CmpQ true ls w e w') : (longB ls = true ∧ e = .returned (.tuple #[zeroCd, .int .i64 2]) ∧ Gr w w') ∨
  (longB ls = false ∧ (∃ h0 h1 h2 h3 h4 : Hd, e = .returned (.tuple #[.agg (cdA h0 h1 h2 h3 h4), .int .i64 0]) ∧ [h0.l, h1.l, h2.l, h3.l, h4.l] = ls.map (fun l => cL l 0) ∧ ∀ h ∈ [h0, h1, h2, h3, h4], InsR w' h.l h.A) ∧ Gr w w') := by
 obtain ⟨h | h | h, hg⟩ := h
 ·cases h.1
 ·exact .inl ⟨h.2.1, h.2.2, hg⟩
 ·exact .inr ⟨h.2.1, h.2.2, hg⟩
theorem u8_rg {n : Int} (h : (Lit.int .u8 n).wf = true) : 0 ≤ n ∧ n < 256 := by
 simp [Lit.wf, IntKind.min, IntKind.max, IntKind.signed, IntKind.bits] at h
 exact ⟨by omega, by omega⟩
theorem len_le {ls : List (List St)} {l : List St} (h : longB ls = false) (hl : l ∈ ls) : lnL l ≤ 4000 := by
 unfold longB at h
 rw [List.any_eq_false] at h
 have := h l hl
 simp at this
 omega
theorem pair_at {h0 h1 h2 h3 h4 g0 g1 g2 g3 g4 : Hd} {M : List (List In)} {k j : Nat} (hk : k < 5) (hj : j < 5) (hh : [h0.l, h1.l, h2.l, h3.l, h4.l] = M) (hg : [g0.l, g1.l, g2.l, g3.l, g4.l] = M.set k []) :
  ∃ a b : Hd, [h0, h1, h2, h3, h4][j]? = some a ∧ [g0, g1, g2, g3, g4][j]? = some b ∧ (j ≠ k → a.l = b.l) ∧ (j = k → b.l = []) ∧ M[j]? = some a.l := by
 have ha : ([h0, h1, h2, h3, h4].map (fun h => h.l)) = M := hh
 have hb : ([g0, g1, g2, g3, g4].map (fun h => h.l)) = M.set k [] := hg
 have la : [h0, h1, h2, h3, h4][j]? = some [h0, h1, h2, h3, h4][j] := List.getElem?_eq_getElem hj
 have lb : [g0, g1, g2, g3, g4][j]? = some [g0, g1, g2, g3, g4][j] := List.getElem?_eq_getElem hj
 generalize [h0, h1, h2, h3, h4][j] = a at la
 generalize [g0, g1, g2, g3, g4][j] = b at lb
 have ma : M[j]? = some a.l := by rw [← ha, List.getElem?_map, la]; rfl
 have mb : (M.set k [])[j]? = some b.l := by rw [← hb, List.getElem?_map, lb]; rfl
 refine ⟨a, b, la, lb, fun hne => ?_, fun he => ?_, ma⟩
 ·rw [List.getElem?_set_ne (fun e => hne e.symm), ma] at mb
  exact Option.some.inj mb
 ·subst he
  have hl : j < M.length := by rw [← ha]; simpa using hj
  rw [List.getElem?_set_self hl] at mb
  exact (Option.some.inj mb).symm
theorem CodeHandlers_any (x : ByteArray) (vs : List Vr) (VA : Option Addr) (vm : Nat) (o : U.On) (a : U.OnA) (wi pa u : Int) (w : World) (hu : 0 ≤ u ∧ u < 256) (hP : LaidW w) (hw : 8 < w.heap.size) (hL : U.LaidW w) (hLO : LaidO w) (hE : LaidE w)
  (hV : VarsR w vs VA) (hlen : vs.length ≤ maxLen) (hO : U.OnR w o a) (hkb : ∀ l ∈ o.list, kbL l) (hx : x.size ≤ maxLen) (hv : ∀ v ∈ vs, v.x.size ≤ maxLen) :
  Calls Tryz.prog 5 #[U.pgv x VA vs.length vm o a wi pa, .int .u8 u] w (GG (.bool true) w) := by
 obtain ⟨W1, hW1⟩ : ∃ W1, W1 = w.alloc (.cells (U.pgArr x VA vs.length vm o a wi pa) 26) := ⟨_, rfl⟩
 have HG1 := Lib.hid (show Gr w W1 by rw [hW1]; exact grAlloc _ _)
 have HP1 := Lib.hid (show W1.heap[w.heap.size]? = some (.cells (U.pgArr x VA vs.length vm o a wi pa) 26 (0, 0)) by rw [hW1]; exact nBlk _ _ _ rfl)
 have HD := Lib.hid (fun (wx : World) (hg : Gr w wx) => head_any wx (hP.below hg hw) (Nat.lt_of_lt_of_le hw hg.size) (hL.below hg) (hLO.gr hg) (hE.gr hg))
 have HF := Lib.hid (fun (wx : World) (hg : Gr w wx) => C.RFew_any x vs VA vm o a wi pa wx (hV.below hg) hlen (hO.below hg) hkb)
 have HV := Lib.hid (fun (wx : World) (hg : Gr w wx) => C.R5Valid_any x vs VA vm o a wi pa wx (hV.below hg) hlen (hO.below hg) hx hv)
 obtain ⟨k, hk, hk5⟩ : ∃ k : Nat, u % 5 = k ∧ k < 5 := ⟨(u % 5).toNat, by omega, by omega⟩
 have HC := Lib.hid (fun (wx : World) (hg : Gr w wx) => Compile_any x vs VA vm o a wi pa wx (hP.below hg hw) (Nat.lt_of_lt_of_le hw hg.size) (hL.below hg) (hV.below hg) (hO.below hg) hx hv (hLO.gr hg))
 have HQ := Lib.hid (fun (wx : World) (hg : Gr w wx) => Compile_any x vs VA vm (onK o k) (anK a k) wi pa wx (hP.below hg hw) (Nat.lt_of_lt_of_le hw hg.size) (hL.below hg) (hV.below hg) (onR_K (hO.below hg) hk5) hx hv (hLO.gr hg))
 obtain ⟨V, hVV⟩ : ∃ V, v5 nm5 x vs o.list wi pa = V := ⟨_, rfl⟩
 rw [hVV] at HV
 clear hP hw hL hLO hE hV hO hkb hx hv
 go_enter Tryz.func5, Tryz.ntmps5
 go_upto_region 1 with fail
 rw [← hW1]
 clear hW1
 go_upto_region 2 with (go_at_call 6; refine (HD.out _ HG1.out).mono ?_; rintro e w2 ⟨rfl, hg2⟩; have HP2 := Lib.hid (grBlk hg2 HP1.out); have HG2 := Lib.hid (HG1.out.tr hg2); clear hg2)
 obtain ⟨p0, p1, p2, p3, p4, p5, p6, p7, p8⟩ := U.cells9 HP2.out
 go_wp2_with fail
 refine (HF.out _ HG2.out).mono ?_
 rintro e w3 ⟨⟨b, rfl⟩, hg3⟩
 have HP3 := Lib.hid (grBlk hg3 HP2.out)
 have HG3 := Lib.hid (HG2.out.tr hg3)
 clear hg3 p0 p1 p2 p3 p4 p5 p6 p7 p8
 obtain ⟨p0, p1, p2, p3, p4, p5, p6, p7, p8⟩ := U.cells9 HP3.out
 cases b with
 | false =>
  go_wp2_with fail
  go_ret
  exact ⟨rfl, HG3.out⟩
 | true =>
  cases V with
  | false =>
   go_wp2_with (go_at_call 9; refine (HV.out _ HG3.out).mono ?_; rintro e w4 ⟨rfl, hg4⟩; have HG4 := Lib.hid (HG3.out.tr hg4); clear hg4)
   go_ret
   exact ⟨rfl, HG4.out⟩
  | true =>
   have hval := v5_val (fun y hy => nm5_name hy) hVV
   have hval2 := val_on (on2 := (onK o k).list) hval (onK_mem hk5)
   rw [hval] at HC
   rw [hval2] at HQ
   clear hval hval2 hVV
   go_upto_region 5 with (go_at_call 9; refine (HV.out _ HG3.out).mono ?_; rintro e w4 ⟨rfl, hg4⟩; have HP4 := Lib.hid (grBlk hg4 HP3.out); have HG4 := Lib.hid (HG3.out.tr hg4); clear hg4 p0 p1 p2 p3 p4 p5 p6 p7 p8; obtain ⟨p0, p1, p2, p3, p4, p5, p6, p7, p8⟩ := U.cells9 HP4.out)
   have hb4 := blkLt HP4.out
   go_upto_region 6 with fail
   obtain ⟨W5, hW5⟩ : ∃ W5, W5 = w4.alloc (.cells (U.pgArr x VA vs.length vm o a wi pa) 26) := ⟨_, rfl⟩
   show Code.wp _ _ _ _ (w4.alloc (.cells (U.pgArr x VA vs.length vm o a wi pa) 26))
   rw [← hW5]
   have hg5 := Lib.hid (show Gr w4 W5 by rw [hW5]; exact grAlloc _ _)
   have HX5 := Lib.hid (show W5.heap[w4.heap.size]? = some (.cells (U.pgArr x VA vs.length vm o a wi pa) 26 (0, 0)) by rw [hW5]; exact nBlk _ _ _ rfl)
   have HP5 := Lib.hid (grBlk hg5.out HP4.out)
   have HG5 := Lib.hid (HG4.out.tr hg5.out)
   obtain ⟨qb, hqb⟩ : ∃ qb, w4.heap.size = qb := ⟨_, rfl⟩
   rw [hqb] at HX5 hb4
   rw [hqb]
   obtain ⟨ck, hck⟩ : ∃ ck, W5.cell? ⟨qb, 2 + k, none⟩ = some ck := by
    rw [cell_of_row _ _ (2 + k) _ _ (0, 0) HX5.out]
    exact ⟨_, Array.getElem?_eq_getElem (by simp; omega)⟩
   have dk := frz HX5.out (2 + k)
   have HX6 := heap_setCell_same W5 qb (2 + k) _ _ nilS HX5.out
   rw [pg_set hk5] at HX6
   have HX6 := Lib.hid HX6
   have HP6 := Lib.hid ((heap_setCell_other W5 ⟨qb, 2 + k, none⟩ w.heap.size nilS (by simp only; omega)).trans HP5.out)
   have HG6 := Lib.hid (show Gr w (W5.setCell ⟨qb, 2 + k, none⟩ nilS) from belK (i := 2 + k) (u := nilS) HG5.out (show w.heap.size ≤ qb by omega))
   clear hW5 hqb HP1 HP2 HP3 HP4 p0 p1 p2 p3 p4 p5 p6 p7 p8 HD HF HV
   go_upto_region 7 with fail
   generalize W5.setCell ⟨qb, 2 + k, none⟩ nilS = W6 at *
   clear hck dk
   obtain ⟨p0, p1, p2, p3, p4, p5, p6, p7, p8⟩ := U.cells9 HP6.out
   go_wp2_with fail
   refine (HC.out _ HG6.out).mono ?_
   rintro e w7 hC7
   rcases hC7.cases with ⟨hlg, rfl, hg7⟩ | ⟨hlg, ⟨h0, h1, h2, h3, h4, rfl, hls, hRs⟩, hg7⟩
   ·have HX7 := Lib.hid (grBlk hg7 HX6.out)
    have HG7 := Lib.hid (HG6.out.tr hg7)
    clear hg7 p0 p1 p2 p3 p4 p5 p6 p7 p8
    obtain ⟨p0, p1, p2, p3, p4, p5, p6, p7, p8⟩ := U.cells9 HX7.out
    have hq7 := blkLt HX7.out
    go_wp2_with fail
    refine (HQ.out _ (HG7.out.tr (grAlloc _ _))).mono ?_
    rintro e w8 hC8
    rcases hC8.cases with ⟨-, rfl, hg8⟩ | ⟨-, ⟨g0, g1, g2, g3, g4, rfl, -, -⟩, hg8⟩
    ·have HG8 := Lib.hid ((HG7.out.tr (grAlloc _ _)).tr hg8)
     clear hg8
     go_wp2_with fail
     go_ret
     exact ⟨rfl, HG8.out.tr (grAlloc _ _)⟩
    ·have HG8 := Lib.hid ((HG7.out.tr (grAlloc _ _)).tr hg8)
     clear hg8
     go_wp2_with fail
     go_ret
     exact ⟨rfl, HG8.out.tr (grAlloc _ _)⟩
   ·have HX7 := Lib.hid (grBlk hg7 HX6.out)
    have HG7 := Lib.hid (HG6.out.tr hg7)
    clear p0 p1 p2 p3 p4 p5 p6 p7 p8
    obtain ⟨WA, hWA⟩ : ∃ WA, WA = w7.alloc (.cells #[.slice h0.A h0.l.length h0.c, .slice h1.A h1.l.length h1.c, .slice h2.A h2.l.length h2.c, .slice h3.A h3.l.length h3.c, .slice h4.A h4.l.length h4.c] 32) := ⟨_, rfl⟩
    have hgA := Lib.hid (show Gr w7 WA by rw [hWA]; exact grAlloc _ _)
    have HA := Lib.hid (show WA.heap[w7.heap.size]? = some (.cells (cdA h0 h1 h2 h3 h4) 32 (0, 0)) by rw [hWA]; exact nBlk _ _ _ rfl)
    have HXA := Lib.hid (grBlk hgA.out HX7.out)
    have HGA := Lib.hid (HG7.out.tr hgA.out)
    have HRA := Lib.hid (fun h hh => (hRs h hh).gr hgA.out)
    have hlsH := Lib.hid hls
    have hlk := longK hk5 hlg
    have hzs := Lib.hid (fun (l : List St) (hl : l ∈ o.list) => len_le hlg hl)
    clear hg7 hRs hls hC7
    go_upto_region 8 with fail
    rw [← hWA]
    clear hWA
    obtain ⟨p0, p1, p2, p3, p4, p5, p6, p7, p8⟩ := U.cells9 HXA.out
    go_wp2_with fail
    refine (HQ.out _ HGA.out).mono ?_
    rintro e w8 hC8
    rcases hC8.cases with ⟨hl2, -, -⟩ | ⟨-, ⟨g0, g1, g2, g3, g4, rfl, hms, hSs⟩, hg8⟩
    ·rw [hlk] at hl2; cases hl2
    rw [codeK hk5] at hms
    obtain ⟨WB, hWB⟩ : ∃ WB, WB = w8.alloc (.cells #[.slice g0.A g0.l.length g0.c, .slice g1.A g1.l.length g1.c, .slice g2.A g2.l.length g2.c, .slice g3.A g3.l.length g3.c, .slice g4.A g4.l.length g4.c] 32) := ⟨_, rfl⟩
    have hgB := Lib.hid (show Gr w8 WB by rw [hWB]; exact grAlloc _ _)
    have HB := Lib.hid (show WB.heap[w8.heap.size]? = some (.cells (cdA g0 g1 g2 g3 g4) 32 (0, 0)) by rw [hWB]; exact nBlk _ _ _ rfl)
    have HAB := Lib.hid (grBlk (hg8.tr hgB.out) HA.out)
    have HGB := Lib.hid ((HGA.out.tr hg8).tr hgB.out)
    have HRB := Lib.hid (fun h hh => (HRA.out h hh).gr (hg8.tr hgB.out))
    have HSB := Lib.hid (fun h hh => (hSs h hh).gr hgB.out)
    have hpair := Lib.hid (fun (j : Nat) (hj : j < 5) => pair_at hk5 hj hlsH.out hms)
    clear hg8 hms hSs hC8 HRA HA HXA hlk
    go_upto_region 9 with fail
    rw [← hWB]
    clear hWB p0 p1 p2 p3 p4 p5 p6 p7 p8
    obtain ⟨ab, hab⟩ : ∃ ab, w7.heap.size = ab := ⟨_, rfl⟩
    obtain ⟨bb, hbb⟩ : ∃ bb, w8.heap.size = bb := ⟨_, rfl⟩
    rw [hab, hbb]
    rw [hab] at HAB
    rw [hbb] at HB
    clear hab hbb
    have hg0 := Lib.hid (Below.refl WB.heap.size WB)
    go_upto_region 11 with fail
    go_wp2_with fail
    go_loopg [43] 5 (fun gk i wr => ∃ j : Nat, j + gk = 5 ∧ i = .int .i64 j ∧ Hid (Gr WB wr))
    case atStart => exact ⟨0, rfl, rfl, hg0⟩
    case round =>
     obtain ⟨j, hj, rfl, hG⟩ := hrel
     have HAr := Lib.hid (grBlk hG.out HAB.out)
     have HBr := Lib.hid (grBlk hG.out HB.out)
     by_cases hlt : j < 5
     ·obtain ⟨gq, rfl⟩ : ∃ g, gk = g + 1 := ⟨gk - 1, by omega⟩
      obtain ⟨ha, hb, la, lb, hne, -, hMj⟩ := hpair.out j hlt
      have cx : wr.cell? ⟨ab, j, none⟩ = some (hdV ha) := cdAt HAr.out la
      have cy : wr.cell? ⟨bb, j, none⟩ = some (hdV hb) := cdAt HBr.out lb
      have RA := Lib.hid ((HRB.out _ (List.mem_of_getElem? la)).gr hG.out)
      have RB := Lib.hid ((HSB.out _ (List.mem_of_getElem? lb)).gr hG.out)
      obtain ⟨l1, A1, c1⟩ := ha
      obtain ⟨l2, A2, c2⟩ := hb
      have cx : wr.cell? ⟨ab, j, none⟩ = some (.slice A1 l1.length c1) := cx
      have cy : wr.cell? ⟨bb, j, none⟩ = some (.slice A2 l2.length c2) := cy
      have hl1 : Hid (l1.length ≤ 100000) := Lib.hid (by
       rw [List.getElem?_map, Option.map_eq_some_iff] at hMj
       obtain ⟨y, hy, e⟩ := hMj
       have e : cL y 0 = l1 := e
       have := hzs.out y (List.mem_of_getElem? hy)
       rw [← e, cL_len]
       omega)
      have t9 := Lib.hid (show decide ((j : Int) < 5) = true from decide_eq_true (by omega))
      clear la lb hMj
      by_cases hjk : j = k
      ·have t0 : ((j : Int) != (k : Int)) = false := by subst hjk; simp
       have t1 : ((j : Int) == (k : Int)) = true := by subst hjk; simp
       clear hne hjk
       go_upto_region 14 with fail
       go_cut [60] (fun v wx => v = .bool false ∧ Hid (Gr wr wx))
       case first =>
        refine wp_region_G (S := fun wq => Gr wr wq) (by kernel_rfl) (grDrew _) (fun hHeld => ?_)
        have hSG : Hid (∀ wp wq : World, Gr wr wp → Gr wp wq → Gr wr wq) := Lib.hid (fun _ _ h k => h.tr k)
        have hmv := Lib.hid (fun (wq : World) (hq : Gr wr wq) => And.intro (grCell hq cx) (grCell hq cy))
        first
         | (refine tk hSG 0 (v := ?_) rfl (by kernel_rfl) (fun _ _ _ h => h) (by rfl) ?_ hHeld ?_; rotate_left; focus (intro w' hSw; obtain ⟨cx, cy⟩ := hmv.out _ hSw; go_simp; (try with_reducible rfl)))
         | refine tn hSG 0 rfl (by kernel_rfl) (fun _ _ _ h => h) (by rfl) hHeld ?_
        (try simp only [zq1, zq2, zq3, Act.put, zq4, zq5, zq6])
        first
         | (refine tk hSG 1 (v := ?_) rfl (by kernel_rfl) (fun _ _ _ h => h) (by rfl) ?_ hHeld ?_; rotate_left; focus (intro w' hSw; obtain ⟨cx, cy⟩ := hmv.out _ hSw; go_simp; (try with_reducible rfl)))
         | refine tn hSG 1 rfl (by kernel_rfl) (fun _ _ _ h => h) (by rfl) hHeld ?_
        (try simp only [zq1, zq2, zq3, Act.put, zq4, zq5, zq6])
        first
         | (refine tk hSG 2 (v := ?_) rfl (by kernel_rfl) (fun _ _ _ h => h) (by rfl) ?_ hHeld ?_; rotate_left; focus (intro w' hSw; obtain ⟨cx, cy⟩ := hmv.out _ hSw; go_simp; (try with_reducible rfl)))
         | refine tn hSG 2 rfl (by kernel_rfl) (fun _ _ _ h => h) (by rfl) hHeld ?_
        (try simp only [zq1, zq2, zq3, Act.put, zq4, zq5, zq6])
        first
         | (refine tk hSG 3 (v := ?_) rfl (by kernel_rfl) (fun _ _ _ h => h) (by rfl) ?_ hHeld ?_; rotate_left; focus (intro w' hSw; obtain ⟨cx, cy⟩ := hmv.out _ hSw; go_simp; (try with_reducible rfl)))
         | refine tn hSG 3 rfl (by kernel_rfl) (fun _ _ _ h => h) (by rfl) hHeld ?_
        (try simp only [zq1, zq2, zq3, Act.put, zq4, zq5, zq6])
        first
         | (refine tk hSG 4 (v := ?_) rfl (by kernel_rfl) (fun _ _ _ h => h) (by rfl) ?_ hHeld ?_; rotate_left; focus (intro w' hSw; obtain ⟨cx, cy⟩ := hmv.out _ hSw; go_simp; (try with_reducible rfl)))
         | refine tn hSG 4 rfl (by kernel_rfl) (fun _ _ _ h => h) (by rfl) hHeld ?_
        (try simp only [zq1, zq2, zq3, Act.put, zq4, zq5, zq6])
        first
         | (refine tk hSG 5 (v := ?_) rfl (by kernel_rfl) (fun _ _ _ h => h) (by rfl) ?_ hHeld ?_; rotate_left; focus (intro w' hSw; obtain ⟨cx, cy⟩ := hmv.out _ hSw; go_simp; (try with_reducible rfl)))
         | refine tn hSG 5 rfl (by kernel_rfl) (fun _ _ _ h => h) (by rfl) hHeld ?_
        (try simp only [zq1, zq2, zq3, Act.put, zq4, zq5, zq6])
        first
         | (refine tk hSG 6 (v := ?_) rfl (by kernel_rfl) (fun _ _ _ h => h) (by rfl) ?_ hHeld ?_; rotate_left; focus (intro w' hSw; obtain ⟨cx, cy⟩ := hmv.out _ hSw; go_simp; (try with_reducible rfl)))
         | refine tn hSG 6 rfl (by kernel_rfl) (fun _ _ _ h => h) (by rfl) hHeld ?_
        (try simp only [zq1, zq2, zq3, Act.put, zq4, zq5, zq6])
        first
         | (refine tk hSG 7 (v := ?_) rfl (by kernel_rfl) (fun _ _ _ h => h) (by rfl) ?_ hHeld ?_; rotate_left; focus (intro w' hSw; obtain ⟨cx, cy⟩ := hmv.out _ hSw; go_simp; (try with_reducible rfl)))
         | refine tn hSG 7 rfl (by kernel_rfl) (fun _ _ _ h => h) (by rfl) hHeld ?_
        (try simp only [zq1, zq2, zq3, Act.put, zq4, zq5, zq6])
        first
         | (refine tk hSG 8 (v := ?_) rfl (by kernel_rfl) (fun _ _ _ h => h) (by rfl) ?_ hHeld ?_; rotate_left; focus (intro w' hSw; obtain ⟨cx, cy⟩ := hmv.out _ hSw; go_simp; (try with_reducible rfl)))
         | refine tn hSG 8 rfl (by kernel_rfl) (fun _ _ _ h => h) (by rfl) hHeld ?_
        (try simp only [zq1, zq2, zq3, Act.put, zq4, zq5, zq6])
        first
         | (refine tk hSG 9 (v := ?_) rfl (by kernel_rfl) (fun _ _ _ h => h) (by rfl) ?_ hHeld ?_; rotate_left; focus (intro w' hSw; obtain ⟨cx, cy⟩ := hmv.out _ hSw; go_simp; (try with_reducible rfl)))
         | refine tn hSG 9 rfl (by kernel_rfl) (fun _ _ _ h => h) (by rfl) hHeld ?_
        (try simp only [zq1, zq2, zq3, Act.put, zq4, zq5, zq6])
        first
         | (refine tk hSG 10 (v := ?_) rfl (by kernel_rfl) (fun _ _ _ h => h) (by rfl) ?_ hHeld ?_; rotate_left; focus (intro w' hSw; obtain ⟨cx, cy⟩ := hmv.out _ hSw; go_simp; (try with_reducible rfl)))
         | refine tn hSG 10 rfl (by kernel_rfl) (fun _ _ _ h => h) (by rfl) hHeld ?_
        (try simp only [zq1, zq2, zq3, Act.put, zq4, zq5, zq6])
        first
         | (refine tk hSG 11 (v := ?_) rfl (by kernel_rfl) (fun _ _ _ h => h) (by rfl) ?_ hHeld ?_; rotate_left; focus (intro w' hSw; obtain ⟨cx, cy⟩ := hmv.out _ hSw; go_simp; (try with_reducible rfl)))
         | refine tn hSG 11 rfl (by kernel_rfl) (fun _ _ _ h => h) (by rfl) hHeld ?_
        (try simp only [zq1, zq2, zq3, Act.put, zq4, zq5, zq6])
        first
         | (refine tk hSG 12 (v := ?_) rfl (by kernel_rfl) (fun _ _ _ h => h) (by rfl) ?_ hHeld ?_; rotate_left; focus (intro w' hSw; obtain ⟨cx, cy⟩ := hmv.out _ hSw; go_simp; (try with_reducible rfl)))
         | refine tn hSG 12 rfl (by kernel_rfl) (fun _ _ _ h => h) (by rfl) hHeld ?_
        (try simp only [zq1, zq2, zq3, Act.put, zq4, zq5, zq6])
        first
         | (refine tk hSG 13 (v := ?_) rfl (by kernel_rfl) (fun _ _ _ h => h) (by rfl) ?_ hHeld ?_; rotate_left; focus (intro w' hSw; obtain ⟨cx, cy⟩ := hmv.out _ hSw; go_simp; (try with_reducible rfl)))
         | refine tn hSG 13 rfl (by kernel_rfl) (fun _ _ _ h => h) (by rfl) hHeld ?_
        (try simp only [zq1, zq2, zq3, Act.put, zq4, zq5, zq6])
        first
         | (refine tk hSG 14 (v := ?_) rfl (by kernel_rfl) (fun _ _ _ h => h) (by rfl) ?_ hHeld ?_; rotate_left; focus (intro w' hSw; obtain ⟨cx, cy⟩ := hmv.out _ hSw; go_simp; (try with_reducible rfl)))
         | refine tn hSG 14 rfl (by kernel_rfl) (fun _ _ _ h => h) (by rfl) hHeld ?_
        (try simp only [zq1, zq2, zq3, Act.put, zq4, zq5, zq6])
        refine wpAnyG_done (by kernel_rfl) (fun w9 hgD => ?_) _
        have hg9 : Gr wr w9 := (grDrew wr).tr hgD
        clear hgD hSG hHeld
        go_wp2
        go_meet
        exact ⟨rfl, Lib.hid hg9⟩
       case rest =>
        obtain ⟨rfl, hg9⟩ := hcut
        have hGn := Lib.hid (hG.out.tr hg9.out)
        go_wp2
        go_roundg gq
        case measure => omega
        case rel => exact ⟨j + 1, by omega, by go_num, hGn⟩
      ·have t0 : ((j : Int) != (k : Int)) = true := by rw [bne_iff_ne]; omega
       have t1 : ((j : Int) == (k : Int)) = false := by rw [beq_eq_false_iff_ne]; omega
       obtain rfl : l1 = l2 := hne hjk
       clear hne hjk
       go_upto_region 14 with fail
       go_cut [60] (fun v wx => v = .bool false ∧ Hid (Gr wr wx))
       case first =>
        refine wp_region_G (S := fun wq => Gr wr wq) (by kernel_rfl) (grDrew _) (fun hHeld => ?_)
        have hSG : Hid (∀ wp wq : World, Gr wr wp → Gr wp wq → Gr wr wq) := Lib.hid (fun _ _ h k => h.tr k)
        have hmv := Lib.hid (fun (wq : World) (hq : Gr wr wq) => And.intro (grCell hq cx) (grCell hq cy))
        first
         | (refine tk hSG 0 (v := ?_) rfl (by kernel_rfl) (fun _ _ _ h => h) (by rfl) ?_ hHeld ?_; rotate_left; focus (intro w' hSw; obtain ⟨cx, cy⟩ := hmv.out _ hSw; go_simp; (try with_reducible rfl)))
         | refine tn hSG 0 rfl (by kernel_rfl) (fun _ _ _ h => h) (by rfl) hHeld ?_
        (try simp only [zq1, zq2, zq3, Act.put, zq4, zq5, zq6])
        first
         | (refine tk hSG 1 (v := ?_) rfl (by kernel_rfl) (fun _ _ _ h => h) (by rfl) ?_ hHeld ?_; rotate_left; focus (intro w' hSw; obtain ⟨cx, cy⟩ := hmv.out _ hSw; go_simp; (try with_reducible rfl)))
         | refine tn hSG 1 rfl (by kernel_rfl) (fun _ _ _ h => h) (by rfl) hHeld ?_
        (try simp only [zq1, zq2, zq3, Act.put, zq4, zq5, zq6])
        first
         | (refine tk hSG 2 (v := ?_) rfl (by kernel_rfl) (fun _ _ _ h => h) (by rfl) ?_ hHeld ?_; rotate_left; focus (intro w' hSw; obtain ⟨cx, cy⟩ := hmv.out _ hSw; go_simp; (try with_reducible rfl)))
         | refine tn hSG 2 rfl (by kernel_rfl) (fun _ _ _ h => h) (by rfl) hHeld ?_
        (try simp only [zq1, zq2, zq3, Act.put, zq4, zq5, zq6])
        first
         | (refine tk hSG 3 (v := ?_) rfl (by kernel_rfl) (fun _ _ _ h => h) (by rfl) ?_ hHeld ?_; rotate_left; focus (intro w' hSw; obtain ⟨cx, cy⟩ := hmv.out _ hSw; go_simp; (try with_reducible rfl)))
         | refine tn hSG 3 rfl (by kernel_rfl) (fun _ _ _ h => h) (by rfl) hHeld ?_
        (try simp only [zq1, zq2, zq3, Act.put, zq4, zq5, zq6])
        first
         | (refine tk hSG 4 (v := ?_) rfl (by kernel_rfl) (fun _ _ _ h => h) (by rfl) ?_ hHeld ?_; rotate_left; focus (intro w' hSw; obtain ⟨cx, cy⟩ := hmv.out _ hSw; go_simp; (try with_reducible rfl)))
         | refine tn hSG 4 rfl (by kernel_rfl) (fun _ _ _ h => h) (by rfl) hHeld ?_
        (try simp only [zq1, zq2, zq3, Act.put, zq4, zq5, zq6])
        first
         | (refine tk hSG 5 (v := ?_) rfl (by kernel_rfl) (fun _ _ _ h => h) (by rfl) ?_ hHeld ?_; rotate_left; focus (intro w' hSw; obtain ⟨cx, cy⟩ := hmv.out _ hSw; go_simp; (try with_reducible rfl)))
         | refine tn hSG 5 rfl (by kernel_rfl) (fun _ _ _ h => h) (by rfl) hHeld ?_
        (try simp only [zq1, zq2, zq3, Act.put, zq4, zq5, zq6])
        refine tk hSG 6 (v := .pointer (some ⟨ab, j, none⟩)) rfl (by kernel_rfl) (fun _ _ _ h => h) (by rfl) ?_ hHeld ?_
        focus (intro w' hSw; obtain ⟨cx, cy⟩ := hmv.out _ hSw; go_simp)
        (try simp only [zq1, zq2, zq3, Act.put, zq4, zq5, zq6])
        first
         | (refine tk hSG 7 (v := ?_) rfl (by kernel_rfl) (fun _ _ _ h => h) (by rfl) ?_ hHeld ?_; rotate_left; focus (intro w' hSw; obtain ⟨cx, cy⟩ := hmv.out _ hSw; go_simp; (try with_reducible rfl)))
         | refine tn hSG 7 rfl (by kernel_rfl) (fun _ _ _ h => h) (by rfl) hHeld ?_
        (try simp only [zq1, zq2, zq3, Act.put, zq4, zq5, zq6])
        first
         | (refine tk hSG 8 (v := ?_) rfl (by kernel_rfl) (fun _ _ _ h => h) (by rfl) ?_ hHeld ?_; rotate_left; focus (intro w' hSw; obtain ⟨cx, cy⟩ := hmv.out _ hSw; go_simp; (try with_reducible rfl)))
         | refine tn hSG 8 rfl (by kernel_rfl) (fun _ _ _ h => h) (by rfl) hHeld ?_
        (try simp only [zq1, zq2, zq3, Act.put, zq4, zq5, zq6])
        first
         | (refine tk hSG 9 (v := ?_) rfl (by kernel_rfl) (fun _ _ _ h => h) (by rfl) ?_ hHeld ?_; rotate_left; focus (intro w' hSw; obtain ⟨cx, cy⟩ := hmv.out _ hSw; go_simp; (try with_reducible rfl)))
         | refine tn hSG 9 rfl (by kernel_rfl) (fun _ _ _ h => h) (by rfl) hHeld ?_
        (try simp only [zq1, zq2, zq3, Act.put, zq4, zq5, zq6])
        refine tk hSG 10 (v := .pointer (some ⟨bb, j, none⟩)) rfl (by kernel_rfl) (fun _ _ _ h => h) (by rfl) ?_ hHeld ?_
        focus (intro w' hSw; obtain ⟨cx, cy⟩ := hmv.out _ hSw; go_simp)
        (try simp only [zq1, zq2, zq3, Act.put, zq4, zq5, zq6])
        first
         | (refine tk hSG 11 (v := ?_) rfl (by kernel_rfl) (fun _ _ _ h => h) (by rfl) ?_ hHeld ?_; rotate_left; focus (intro w' hSw; obtain ⟨cx, cy⟩ := hmv.out _ hSw; go_simp; (try with_reducible rfl)))
         | refine tn hSG 11 rfl (by kernel_rfl) (fun _ _ _ h => h) (by rfl) hHeld ?_
        (try simp only [zq1, zq2, zq3, Act.put, zq4, zq5, zq6])
        refine tc hSG 12 (v := .bool true) rfl (by kernel_rfl) (fun _ _ _ h => h) (by rfl) ?_ hHeld ?_
        focus (intro wz hSw K hK; obtain ⟨cx, cy⟩ := hmv.out _ hSw; go_simp; go_at_call 13; refine (SameInstrs_any l1 l1 A1 A2 c1 c2 _ (RA.out.gr hSw) (RB.out.gr hSw) hl1.out).mono ?_; rintro e w2 ⟨he, hb2⟩; rw [sameL_iff.2 rfl] at he; subst he; simp only [t9.out] at hK; first | exact hK.out _ hb2 | (have h9 := hK.out _ hb2; (try simp only [zq1, zq2, zq3, Act.put, zq4, zq5, zq6] at h9 ⊢); exact h9) | (have h9 := hK.out _ hb2; go_simp; exact h9))
        (try simp only [zq1, zq2, zq3, Act.put, zq4, zq5, zq6])
        first
         | (refine tk hSG 13 (v := ?_) rfl (by kernel_rfl) (fun _ _ _ h => h) (by rfl) ?_ hHeld ?_; rotate_left; focus (intro w' hSw; obtain ⟨cx, cy⟩ := hmv.out _ hSw; go_simp; (try with_reducible rfl)))
         | refine tn hSG 13 rfl (by kernel_rfl) (fun _ _ _ h => h) (by rfl) hHeld ?_
        (try simp only [zq1, zq2, zq3, Act.put, zq4, zq5, zq6])
        first
         | (refine tk hSG 14 (v := ?_) rfl (by kernel_rfl) (fun _ _ _ h => h) (by rfl) ?_ hHeld ?_; rotate_left; focus (intro w' hSw; obtain ⟨cx, cy⟩ := hmv.out _ hSw; go_simp; (try with_reducible rfl)))
         | refine tn hSG 14 rfl (by kernel_rfl) (fun _ _ _ h => h) (by rfl) hHeld ?_
        (try simp only [zq1, zq2, zq3, Act.put, zq4, zq5, zq6])
        refine wpAnyG_done (by kernel_rfl) (fun w9 hgD => ?_) _
        have hg9 : Gr wr w9 := (grDrew wr).tr hgD
        clear hgD hSG hHeld
        go_wp2
        go_meet
        exact ⟨rfl, Lib.hid hg9⟩
       case rest =>
        obtain ⟨rfl, hg9⟩ := hcut
        have hGn := Lib.hid (hG.out.tr hg9.out)
        go_wp2
        go_roundg gq
        case measure => omega
        case rel => exact ⟨j + 1, by omega, by go_num, hGn⟩
     ·obtain rfl : gk = 0 := by omega
      obtain rfl : j = 5 := by omega
      obtain ⟨ha, hb, la, lb, -, hz, -⟩ := hpair.out k hk5
      have cy : wr.cell? ⟨bb, k, none⟩ = some (hdV hb) := cdAt HBr.out lb
      obtain ⟨l2, A2, c2⟩ := hb
      obtain rfl : l2 = [] := hz rfl
      have cy : wr.cell? ⟨bb, k, none⟩ = some (.slice A2 0 c2) := cy
      clear la lb hz
      go_wp2
      go_ret
      exact ⟨rfl, HGB.out.tr hG.out⟩
end K
end Go.Proofs.YtamfgjinfcknfaaGreatDoor
