/- Texts of one proof: KzZ. -/
import Derived.Test.YtamfgjinfcknfaaGreatDoorYq
import Derived.Test.YtamfgjinfcknfaaGreatDoorYj
set_option linter.unusedVariables false
set_option linter.unusedSimpArgs false
set_option maxRecDepth 100000
set_option maxHeartbeats 8000000
namespace Go.Proofs.YtamfgjinfcknfaaGreatDoor
open Go.RowKit
namespace K
open U (Ex St StsR VarsR Vr kbL)
open C (valPM v5 v5_val SomeB V1)
def anyL (ls : List (List St)) : Bool := ls.any (fun l => decide (4000 < lnL l))
theorem anyL_snoc (ls : List (List St)) (l : List St) : anyL (ls ++ [l]) = (anyL ls || decide (4000 < lnL l)) := by simp [anyL]
theorem CodeSize_any (x : ByteArray) (vs : List Vr) (VA : Option Addr) (vm : Nat) (o : U.On) (a : U.OnA) (wi pa : Int) (w : World) (hP : LaidW w) (hw : 8 < w.heap.size) (hL : U.LaidW w) (hLO : LaidO w) (hE : LaidE w)
  (hV : VarsR w vs VA) (hlen : vs.length ≤ maxLen) (hO : U.OnR w o a) (hkb : ∀ l ∈ o.list, kbL l) (hx : x.size ≤ maxLen) (hv : ∀ v ∈ vs, v.x.size ≤ maxLen) :
  Calls Tryz.prog 4 #[U.pgv x VA vs.length vm o a wi pa] w (GG (.bool true) w) := by
 obtain ⟨W1, hW1⟩ : ∃ W1, W1 = w.alloc (.cells (U.pgArr x VA vs.length vm o a wi pa) 26) := ⟨_, rfl⟩
 have HG1 := Lib.hid (show Gr w W1 by rw [hW1]; exact grAlloc _ _)
 have HP1 := Lib.hid (show W1.heap[w.heap.size]? = some (.cells (U.pgArr x VA vs.length vm o a wi pa) 26 (0, 0)) by rw [hW1]; exact nBlk _ _ _ rfl)
 have HD := Lib.hid (fun (wx : World) (hg : Gr w wx) => head_any wx (hP.below hg hw) (Nat.lt_of_lt_of_le hw hg.size) (hL.below hg) (hLO.gr hg) (hE.gr hg))
 have HF := Lib.hid (fun (wx : World) (hg : Gr w wx) => C.RFew_any x vs VA vm o a wi pa wx (hV.below hg) hlen (hO.below hg) hkb)
 have HV := Lib.hid (fun (wx : World) (hg : Gr w wx) => C.R5Valid_any x vs VA vm o a wi pa wx (hV.below hg) hlen (hO.below hg) hx hv)
 have HC := Lib.hid (fun (wx : World) (hg : Gr w wx) => Compile_any x vs VA vm o a wi pa wx (hP.below hg hw) (Nat.lt_of_lt_of_le hw hg.size) (hL.below hg) (hV.below hg) (hO.below hg) hx hv (hLO.gr hg))
 have HO := Lib.hid hO
 obtain ⟨V, hVV⟩ : ∃ V, v5 nm5 x vs o.list wi pa = V := ⟨_, rfl⟩
 rw [hVV] at HV
 clear hP hw hL hLO hE hV hO hkb hx hv
 go_enter Tryz.func4, Tryz.ntmps4
 go_upto_region 1 with fail
 rw [← hW1]
 clear hW1
 go_upto_region 2 with (go_at_call 6; refine (HD.out _ HG1.out).mono ?_; rintro e w2 ⟨rfl, hg2⟩; have HP2 := Lib.hid (grBlk hg2 HP1.out); have HG2 := Lib.hid (HG1.out.tr hg2); clear hg2)
 obtain ⟨p0, p1, p2, p3, p4, p5, p6, p7, p8⟩ := U.cells9 HP2.out
 go_wp2_with fail
 refine (HF.out _ HG2.out).mono ?_
 rintro e w3 ⟨⟨b, rfl⟩, hg3⟩
 have HP3 := Lib.hid (grBlk hg3 HP2.out)
 have HG3 := Lib.hid (HG2.out.tr hg3)
 clear hg3 p0 p1 p2 p3 p4 p5 p6 p7 p8
 obtain ⟨p0, p1, p2, p3, p4, p5, p6, p7, p8⟩ := U.cells9 HP3.out
 cases b with
 | false =>
  go_wp2_with fail
  go_ret
  exact ⟨rfl, HG3.out⟩
 | true =>
  cases V with
  | false =>
   go_wp2_with (go_at_call 9; refine (HV.out _ HG3.out).mono ?_; rintro e w4 ⟨rfl, hg4⟩; have HG4 := Lib.hid (HG3.out.tr hg4); clear hg4)
   go_ret
   exact ⟨rfl, HG4.out⟩
  | true =>
   have hval := v5_val (fun y hy => nm5_name hy) hVV
   rw [hval] at HC
   have hfo := Lib.hid (valPM_fo hval)
   have hz0 := Lib.hid (valPM_op hval)
   clear hval hVV
   go_upto_region 4 with (go_at_call 9; refine (HV.out _ HG3.out).mono ?_; rintro e w4 ⟨rfl, hg4⟩; have HP4 := Lib.hid (grBlk hg4 HP3.out); have HG4 := Lib.hid (HG3.out.tr hg4); clear hg4 p0 p1 p2 p3 p4 p5 p6 p7 p8; obtain ⟨p0, p1, p2, p3, p4, p5, p6, p7, p8⟩ := U.cells9 HP4.out)
   clear HP1 HP2 HP3 HD HF HV HG1 HG2 HG3
   go_wp2_with fail
   refine (HC.out _ HG4.out).mono ?_
   rintro e w7 hC7
   clear HC
   rcases hC7.cases with ⟨hlg, rfl, hg7⟩ | ⟨hlg, ⟨h0, h1, h2, h3, h4, rfl, hls, hRs⟩, hg7⟩
   ·have HP7 := Lib.hid (grBlk hg7 HP4.out)
    have HG7 := Lib.hid (HG4.out.tr hg7)
    clear p0 p1 p2 p3 p4 p5 p6 p7 p8 hC7
    obtain ⟨WA, hWA⟩ : ∃ WA, WA = w7.alloc (.cells #[nilS, nilS, nilS, nilS, nilS] 32) := ⟨_, rfl⟩
    have hgA := Lib.hid (show Gr w7 WA by rw [hWA]; exact grAlloc _ _)
    have HPA := Lib.hid (grBlk hgA.out HP7.out)
    have HGA := Lib.hid (HG7.out.tr hgA.out)
    have hlgH := Lib.hid (show anyL o.list = true from hlg)
    clear hg7 hlg
    go_upto_region 5 with fail
    rw [← hWA]
    clear hWA HP4 HP7
    obtain ⟨p0, p1, p2, p3, p4, p5, p6, p7, p8⟩ := U.cells9 HPA.out
    obtain ⟨ab, hab⟩ : ∃ ab, w7.heap.size = ab := ⟨_, rfl⟩
    rw [hab]
    clear hab
    have hg0 := Lib.hid (Below.refl WA.heap.size WA)
    go_wp2_with fail
    go_loopg [6, 27] 5 (fun gk v6 i wr => ∃ (j : Nat) (L : Bool), j + gk = 5 ∧ i = .int .i64 j ∧ v6 = .bool L ∧ Hid (anyL (o.list.take j) = L) ∧ Hid (Gr WA wr))
    case atStart => exact ⟨0, false, rfl, rfl, rfl, Lib.hid rfl, hg0⟩
    case round =>
     obtain ⟨j, L, hj, rfl, rfl, hLj, hG⟩ := hrel
     by_cases hlt : j < 5
     ·obtain ⟨gq, rfl⟩ : ∃ g, gk = g + 1 := ⟨gk - 1, by omega⟩
      obtain ⟨l, A, m, hlk, hix, hSt⟩ := on_pick o a j hlt
      have hmem := List.mem_of_getElem? hlk
      have hzl := hz0.out l hmem
      have hsz := Lib.hid (fun (wx : World) (hg : Gr WA wx) => size_any vs.length l wx A m ((hSt w HO.out).below (HGA.out.tr hg)) (hfo.out l hmem) (by omega))
      obtain ⟨n, hn⟩ : ∃ n, lnL l = n := ⟨_, rfl⟩
      simp only [hn] at hsz
      have htk : o.list.take (j + 1) = o.list.take j ++ [l] := by rw [List.take_add_one, hlk]; rfl
      obtain ⟨B, hB⟩ : ∃ B : Bool, decide (4000 < (n : Int)) = B := ⟨_, rfl⟩
      have hLn : Hid (anyL (o.list.take (j + 1)) = (L || B)) := Lib.hid (by
       rw [htk, anyL_snoc, hLj.out, hn, ← hB]
       congr 1
       exact decide_eq_decide.2 (by omega))
      clear hlk hmem hSt hzl hn htk
      go_upto_region 10 with (go_at_call 12; refine (hsz.out _ hG.out).mono ?_; rintro e w9 ⟨rfl, hg9⟩; have hG9 := Lib.hid (hG.out.tr hg9); clear hg9)
      cases L with
      | true =>
       go_wp2
       go_roundg gq
       case measure => omega
       case rel => exact ⟨j + 1, true, by omega, by go_num, rfl, hLn, hG9⟩
      | false =>
       cases B with
       | true =>
        go_wp2
        go_roundg gq
        case measure => omega
        case rel => exact ⟨j + 1, true, by omega, by go_num, rfl, hLn, hG9⟩
       | false =>
        go_wp2
        go_roundg gq
        case measure => omega
        case rel => exact ⟨j + 1, false, by omega, by go_num, rfl, hLn, hG9⟩
     ·obtain rfl : gk = 0 := by omega
      obtain rfl : j = 5 := by omega
      obtain rfl : true = L := by have h := hLj.out; rw [show o.list.take 5 = o.list from rfl, hlgH.out] at h; exact h
      go_wp2
      go_ret
      exact ⟨rfl, HGA.out.tr hG.out⟩
   ·have HP7 := Lib.hid (grBlk hg7 HP4.out)
    have HG7 := Lib.hid (HG4.out.tr hg7)
    clear p0 p1 p2 p3 p4 p5 p6 p7 p8 hC7
    obtain ⟨WA, hWA⟩ : ∃ WA, WA = w7.alloc (.cells #[.slice h0.A h0.l.length h0.c, .slice h1.A h1.l.length h1.c, .slice h2.A h2.l.length h2.c, .slice h3.A h3.l.length h3.c, .slice h4.A h4.l.length h4.c] 32) := ⟨_, rfl⟩
    have hgA := Lib.hid (show Gr w7 WA by rw [hWA]; exact grAlloc _ _)
    have HPA := Lib.hid (grBlk hgA.out HP7.out)
    have HGA := Lib.hid (HG7.out.tr hgA.out)
    have HA := Lib.hid (show WA.heap[w7.heap.size]? = some (.cells (cdA h0 h1 h2 h3 h4) 32 (0, 0)) by rw [hWA]; exact nBlk _ _ _ rfl)
    have hlsH := Lib.hid hls
    clear hls hRs
    have hlgH := Lib.hid (show anyL o.list = false from hlg)
    clear hg7 hlg
    go_upto_region 5 with fail
    rw [← hWA]
    clear hWA HP4 HP7
    obtain ⟨p0, p1, p2, p3, p4, p5, p6, p7, p8⟩ := U.cells9 HPA.out
    obtain ⟨ab, hab⟩ : ∃ ab, w7.heap.size = ab := ⟨_, rfl⟩
    rw [hab]
    rw [hab] at HA
    clear hab
    have hg0 := Lib.hid (Below.refl WA.heap.size WA)
    go_wp2_with fail
    go_loopg [6, 27] 5 (fun gk v6 i wr => ∃ (j : Nat) (L : Bool), j + gk = 5 ∧ i = .int .i64 j ∧ v6 = .bool L ∧ Hid (anyL (o.list.take j) = L) ∧ Hid (Gr WA wr))
    case atStart => exact ⟨0, false, rfl, rfl, rfl, Lib.hid rfl, hg0⟩
    case round =>
     obtain ⟨j, L, hj, rfl, rfl, hLj, hG⟩ := hrel
     by_cases hlt : j < 5
     ·obtain ⟨gq, rfl⟩ : ∃ g, gk = g + 1 := ⟨gk - 1, by omega⟩
      obtain ⟨l, A, m, hlk, hix, hSt⟩ := on_pick o a j hlt
      have hmem := List.mem_of_getElem? hlk
      have hzl := hz0.out l hmem
      have hsz := Lib.hid (fun (wx : World) (hg : Gr WA wx) => size_any vs.length l wx A m ((hSt w HO.out).below (HGA.out.tr hg)) (hfo.out l hmem) (by omega))
      obtain ⟨n, hn⟩ : ∃ n, lnL l = n := ⟨_, rfl⟩
      simp only [hn] at hsz
      have htk : o.list.take (j + 1) = o.list.take j ++ [l] := by rw [List.take_add_one, hlk]; rfl
      obtain ⟨B, hB⟩ : ∃ B : Bool, decide (4000 < (n : Int)) = B := ⟨_, rfl⟩
      have hLn : Hid (anyL (o.list.take (j + 1)) = (L || B)) := Lib.hid (by
       rw [htk, anyL_snoc, hLj.out, hn, ← hB]
       congr 1
       exact decide_eq_decide.2 (by omega))
      have HAr := Lib.hid (fun (wx : World) (hg : Gr WA wx) => grBlk hg HA.out)
      obtain ⟨hc, hcl, hcc⟩ : ∃ hc : Hd, [h0, h1, h2, h3, h4][j]? = some hc ∧ hc.l.length = n := by
       refine ⟨[h0, h1, h2, h3, h4][j], List.getElem?_eq_getElem hlt, ?_⟩
       have ha : ([h0, h1, h2, h3, h4].map (fun h => h.l)) = o.list.map (fun l => cL l 0) := hlsH.out
       have hb := congrArg (fun (q : List (List In)) => q[j]?) ha
       simp only [List.getElem?_map, hlk, List.getElem?_eq_getElem (show j < [h0, h1, h2, h3, h4].length from hlt), Option.map_some, Option.some.injEq] at hb
       rw [hb, cL_len, hn]
      have hcy := Lib.hid (fun (wx : World) (hg : Gr WA wx) => (show wx.cell? ⟨ab, j, none⟩ = some (.slice hc.A n hc.c) by
       have h : wx.cell? ⟨ab, j, none⟩ = some (.slice hc.A hc.l.length hc.c) := cdAt (HAr.out wx hg) hcl
       rw [hcc] at h
       exact h))
      have tq : ((n : Int) != (n : Int)) = false := by simp
      have tq2 : ((n : Int) == (n : Int)) = true := by simp
      clear hcl hcc HAr
      clear hlk hmem hSt hzl hn htk
      go_upto_region 10 with (go_at_call 12; refine (hsz.out _ hG.out).mono ?_; rintro e w9 ⟨rfl, hg9⟩; have hG9 := Lib.hid (hG.out.tr hg9); clear hg9)
      have cy := hcy.out _ hG9.out
      cases L with
      | true =>
       go_wp2
       go_roundg gq
       case measure => omega
       case rel => exact ⟨j + 1, true, by omega, by go_num, rfl, hLn, hG9⟩
      | false =>
       cases B with
       | true =>
        go_wp2
        go_roundg gq
        case measure => omega
        case rel => exact ⟨j + 1, true, by omega, by go_num, rfl, hLn, hG9⟩
       | false =>
        go_wp2
        go_roundg gq
        case measure => omega
        case rel => exact ⟨j + 1, false, by omega, by go_num, rfl, hLn, hG9⟩
     ·obtain rfl : gk = 0 := by omega
      obtain rfl : j = 5 := by omega
      obtain rfl : false = L := by have h := hLj.out; rw [show o.list.take 5 = o.list from rfl, hlgH.out] at h; exact h
      go_wp2
      go_ret
      exact ⟨rfl, HGA.out.tr hG.out⟩
end K
end Go.Proofs.YtamfgjinfcknfaaGreatDoor
