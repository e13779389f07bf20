/- Texts of one proof: KzH, KxA, KzI. -/
import Derived.Test.YtljknappbnoikaaGreatDoorZg
import Derived.Test.YtljknappbnoikaaGreatDoorZk
import Derived.Test.YtljknappbnoikaaGreatDoorZy
import Derived.Deep.AppendLies
set_option linter.unusedVariables false
set_option linter.unusedSimpArgs false
set_option maxRecDepth 100000
set_option maxHeartbeats 8000000
namespace Go.Proofs.YtljknappbnoikaaGreatDoor
open Go.RowKit
namespace K
open U (Ex St szK KidsE ev eArr StsR sv sArr)
abbrev nilS : Value := .slice none 0 0
abbrev zeroCd : Value := .agg #[nilS, nilS, nilS, nilS, nilS]
def longB (ls : List (List St)) : Bool := ls.any (fun l => decide (4000 < lnL l))
def CmpQ (v : Bool) (ls : List (List St)) (w : World) (e : Ending) (w' : World) : Prop :=
 ((v = false ∧ e = .returned (.tuple #[zeroCd, .int .i64 1])) ∨ (v = true ∧ longB ls = true ∧ e = .returned (.tuple #[zeroCd, .int .i64 2])) ∨
  (v = true ∧ longB ls = false ∧ ∃ h0 h1 h2 h3 h4 : Hd, e = .returned (.tuple #[.agg (cdA h0 h1 h2 h3 h4), .int .i64 0]) ∧ [h0.l, h1.l, h2.l, h3.l, h4.l] = ls.map (fun l => cL l 0) ∧ ∀ h ∈ [h0, h1, h2, h3, h4], InsR w' h.l h.A)) ∧ Gr w w'
def vals (hs : List Hd) : List Value := hs.map (fun h => hdV h) ++ List.replicate (5 - hs.length) nilS
theorem vals_snoc {hs : List Hd} {h : Hd} (hl : hs.length < 5) : (vals hs).set hs.length (hdV h) = vals (hs ++ [h]) := by
 obtain ⟨n, hn⟩ : ∃ n, 5 - hs.length = n + 1 := ⟨5 - hs.length - 1, by omega⟩
 unfold vals
 rw [hn, List.replicate_succ, List.length_append, List.length_singleton, show 5 - (hs.length + 1) = n by omega]
 rw [show (hs.map (fun h => hdV h) ++ nilS :: List.replicate n nilS).set hs.length (hdV h) = (hs.map (fun h => hdV h) ++ nilS :: List.replicate n nilS).set (hs.map (fun h => hdV h)).length (hdV h) by rw [List.length_map]]
 simp
theorem vals_at {hs : List Hd} (hl : hs.length < 5) : (vals hs)[hs.length]? = some nilS := by
 obtain ⟨n, hn⟩ : ∃ n, 5 - hs.length = n + 1 := ⟨5 - hs.length - 1, by omega⟩
 unfold vals
 rw [hn, List.replicate_succ]
 rw [List.getElem?_append_right (by simp)]
 simp
theorem on_pick (o : U.On) (a : U.OnA) (k : Nat) (hk : k < 5) : ∃ (l : List St) (A : Option Addr) (m : Nat), o.list[k]? = some l ∧ (∀ wx : World, (Instr.index 24 (.agg #[.slice a.a0 o.l0.length a.m0, .slice a.a1 o.l1.length a.m1, .slice a.a2 o.l2.length a.m2, .slice a.a3 o.l3.length a.m3, .slice a.a4 o.l4.length a.m4]) (.int .i64 k)).run Tryz.prog wx = .ok (.slice A l.length m) wx) ∧ (∀ w, U.OnR w o a → StsR w l A) := by
 have hix := U.ix5 (.slice a.a0 o.l0.length a.m0) (.slice a.a1 o.l1.length a.m1) (.slice a.a2 o.l2.length a.m2) (.slice a.a3 o.l3.length a.m3) (.slice a.a4 o.l4.length a.m4)
 match k, hk with
 | 0, _ => exact ⟨o.l0, a.a0, a.m0, rfl, fun w => (hix w).1, fun w h => h.r0⟩
 | 1, _ => exact ⟨o.l1, a.a1, a.m1, rfl, fun w => (hix w).2.1, fun w h => h.r1⟩
 | 2, _ => exact ⟨o.l2, a.a2, a.m2, rfl, fun w => (hix w).2.2.1, fun w h => h.r2⟩
 | 3, _ => exact ⟨o.l3, a.a3, a.m3, rfl, fun w => (hix w).2.2.2.1, fun w h => h.r3⟩
 | 4, _ => exact ⟨o.l4, a.a4, a.m4, rfl, fun w => (hix w).2.2.2.2, fun w h => h.r4⟩
theorem set5 {w0 w : World} {b : Nat} {u0 u1 u2 u3 u4 v0 v1 v2 v3 v4 : Value} {T : TypeId} (hg : Gr w0 w) (hb : w0.heap.size ≤ b) (h : w.heap[b]? = some (.cells #[u0, u1, u2, u3, u4] T (0, 0))) :
  (((((w.setCell ⟨b, 0, none⟩ v0).setCell ⟨b, 1, none⟩ v1).setCell ⟨b, 2, none⟩ v2).setCell ⟨b, 3, none⟩ v3).setCell ⟨b, 4, none⟩ v4).heap[b]? = some (.cells #[v0, v1, v2, v3, v4] T (0, 0)) ∧
  Gr w0 (((((w.setCell ⟨b, 0, none⟩ v0).setCell ⟨b, 1, none⟩ v1).setCell ⟨b, 2, none⟩ v2).setCell ⟨b, 3, none⟩ v3).setCell ⟨b, 4, none⟩ v4) := by
 refine ⟨?_, belK (belK (belK (belK (belK hg hb) hb) hb) hb) hb⟩
 have g0 := heap_setCell_same w b 0 _ _ v0 h
 have g1 := heap_setCell_same _ b 1 _ _ v1 g0
 have g2 := heap_setCell_same _ b 2 _ _ v2 g1
 have g3 := heap_setCell_same _ b 3 _ _ v3 g2
 have g4 := heap_setCell_same _ b 4 _ _ v4 g3
 rw [g4]
 rfl
theorem Compile_any (x : ByteArray) (vs : List U.Vr) (VA : Option Addr) (vm : Nat) (o : U.On) (a : U.OnA) (wi pa : Int) (w : World) (hP : LaidW w) (hw : 8 < w.heap.size) (hL : U.LaidW w) (hV : U.VarsR w vs VA) (hO : U.OnR w o a) (hx : x.size ≤ maxLen) (hv : ∀ v ∈ vs, v.x.size ≤ maxLen) (hLO : LaidO w) :
  Calls Tryz.prog 8 #[U.pgv x VA vs.length vm o a wi pa] w (CmpQ (C.valPM x vs o.list wi pa) o.list w) := by
 obtain ⟨W2, hW2⟩ : ∃ W2, W2 = (w.alloc (.cells (U.pgArr x VA vs.length vm o a wi pa) 26)).alloc (.cells #[nilS, nilS, nilS, nilS, nilS] 30) := ⟨_, rfl⟩
 have hg2 := Lib.hid (show Gr w W2 by rw [hW2]; exact (grAlloc _ _).tr (grAlloc _ _))
 have hp2 := Lib.hid (show W2.heap[w.heap.size]? = some (.cells (U.pgArr x VA vs.length vm o a wi pa) 26 (0, 0)) by rw [hW2]; exact grBlk (grAlloc _ _) (nBlk _ _ _ rfl))
 have hr2 := Lib.hid (show W2.heap[w.heap.size + 1]? = some (.cells #[nilS, nilS, nilS, nilS, nilS] 30 (0, 0)) by rw [hW2]; exact nBlk _ _ _ (by simp))
 have hVl := Lib.hid (C.CValid_any x vs VA vm o a wi pa W2 (hP.below hg2.out hw) (Nat.lt_of_lt_of_le hw hg2.out.size) (hL.below hg2.out) (hV.below hg2.out) (hO.below hg2.out) hx hv)
 have hop := Lib.hid (valPM_op (x := x) (vs := vs) (on := o.list) (wi := wi) (pa := pa))
 have HO := Lib.hid hO
 have HLO := Lib.hid hLO
 obtain ⟨p0, p1, p2, p3, p4, p5, p6, p7, p8⟩ := U.cells9 hp2.out
 obtain ⟨V, hVV⟩ : ∃ V, C.valPM x vs o.list wi pa = V := ⟨_, rfl⟩
 rw [hVV] at hVl hop
 rw [hVV]
 have hset := Lib.hid (fun (w3 : World) (u0 u1 u2 u3 u4 v0 v1 v2 v3 v4 : Value) (hg : Gr w w3) (h : w3.heap[w.heap.size + 1]? = some (.cells #[u0, u1, u2, u3, u4] 30 (0, 0))) => set5 (v0 := v0) (v1 := v1) (v2 := v2) (v3 := v3) (v4 := v4) hg (Nat.le_succ w.heap.size) h)
 clear hP hw hL hV hO hx hv hLO hVV
 cases V with
 | false =>
  go_enter Tryz.func8, Tryz.ntmps8
  go_upto_region 1 with fail
  rw [← hW2]
  clear hW2
  go_wp2_with (go_at_call 18; refine hVl.out.mono ?_; rintro e w3 ⟨rfl, hb3⟩; have hr3 := Lib.hid (grBlk hb3 hr2.out); have hg3 := Lib.hid (hg2.out.tr hb3); clear hb3; obtain ⟨r0, r1, r2, r3, r4⟩ := cells5k hr3.out; have d0 := frz hr3.out 0; have d1 := frz hr3.out 1; have d2 := frz hr3.out 2; have d3 := frz hr3.out 3; have d4 := frz hr3.out 4)
  obtain ⟨hk, hq⟩ := hset.out w3 nilS nilS nilS nilS nilS nilS nilS nilS nilS nilS hg3.out hr3.out
  generalize ((((w3.setCell ⟨w.heap.size + 1, 0, none⟩ nilS).setCell ⟨w.heap.size + 1, 1, none⟩ nilS).setCell ⟨w.heap.size + 1, 2, none⟩ nilS).setCell ⟨w.heap.size + 1, 3, none⟩ nilS).setCell ⟨w.heap.size + 1, 4, none⟩ nilS = W9 at *
  have hk := Lib.hid hk
  have hq := Lib.hid hq
  clear r0 r1 r2 r3 r4 d0 d1 d2 d3 d4 p0 p1 p2 p3 p4 p5 p6 p7 p8
  obtain ⟨r0, r1, r2, r3, r4⟩ := cells5k hk.out
  exact bodyPost_ret (v := .tuple #[zeroCd, .int .i64 1]) (by simp [results, Tryz.results8, go_sem, r0, r1, r2, r3, r4]) rfl ⟨.inl ⟨rfl, rfl⟩, hq.out⟩
 | true =>
  have hop2 := Lib.hid (hop.out rfl)
  clear hop
  go_enter Tryz.func8, Tryz.ntmps8
  go_upto_region 1 with fail
  rw [← hW2]
  clear hW2
  go_upto_region 3 with (go_at_call 18; refine hVl.out.mono ?_; rintro e w3 ⟨rfl, hb3⟩; have hr3 := Lib.hid (grBlk hb3 hr2.out); have hp3 := Lib.hid (grBlk hb3 hp2.out); have hg3 := Lib.hid (hg2.out.tr hb3); clear hb3)
  obtain ⟨W4, hW4⟩ : ∃ W4, W4 = w3.alloc (.cells #[nilS, nilS, nilS, nilS, nilS] 30) := ⟨_, rfl⟩
  have hg34 := Lib.hid (show Gr w3 W4 by rw [hW4]; exact grAlloc _ _)
  have hc4 := Lib.hid (show W4.heap[w3.heap.size]? = some (.cells (vals []).toArray 30 (0, 0)) by rw [hW4]; exact nBlk _ _ _ rfl)
  have hr4 := Lib.hid (grBlk hg34.out hr3.out)
  have hp4 := Lib.hid (grBlk hg34.out hp3.out)
  have hg4 := Lib.hid (hg3.out.tr hg34.out)
  have hrb := blkLt hr3.out
  obtain ⟨cb, hcb⟩ : ∃ cb, w3.heap.size = cb := ⟨_, rfl⟩
  rw [hcb] at hc4 hrb
  go_upto_region 4 with fail
  rw [← hW4]
  clear hW4 p0 p1 p2 p3 p4 p5 p6 p7 p8 hr2 hp2 hr3 hp3 hg2 hg3 hVl hcb
  obtain ⟨p0, p1, p2, p3, p4, p5, p6, p7, p8⟩ := U.cells9 hp4.out
  go_wp2_with fail
  go_loopg [14] 5 (fun gk i wr => ∃ (k : Nat) (hs : List Hd), k + gk = 5 ∧ i = .int .i64 k ∧ Hid (hs.length = k) ∧ Hid (wr.heap[cb]? = some (.cells (vals hs).toArray 30 (0, 0))) ∧ Hid (wr.heap[w.heap.size + 1]? = some (.cells #[nilS, nilS, nilS, nilS, nilS] 30 (0, 0))) ∧ Hid (Gr w wr) ∧ Hid (hs.map (fun h => h.l) = (o.list.take k).map (fun l => cL l 0)) ∧ Hid (∀ h ∈ hs, InsR wr h.l h.A ∧ ∀ ad, h.A = some ad → cb < ad.block) ∧ Hid (∀ l ∈ o.list.take k, lnL l ≤ 4000))
  case atStart => exact ⟨0, [], rfl, rfl, Lib.hid rfl, hc4, hr4, hg4, Lib.hid (by simp), Lib.hid (fun h hh => by cases hh), Lib.hid (fun l hl => by simp at hl)⟩
  case round =>
   obtain ⟨k, hs, hk, rfl, hl, hc, hr, hg, hm, hI, hn⟩ := hrel
   clear hc4 hr4 hg4 hp4 p0 p1 p2 p3 p4 p5 p6 p7 p8
   by_cases hlt : k < 5
   ·obtain ⟨gq, rfl⟩ : ∃ g, gk = g + 1 := ⟨gk - 1, by omega⟩
    obtain ⟨l, A, m, hlk, hix, hSt⟩ := on_pick o a k hlt
    have hmem := List.mem_of_getElem? hlk
    obtain ⟨hol, hz⟩ := hop2.out l hmem
    obtain ⟨W5, hW5⟩ : ∃ W5, W5 = wr.alloc (.cells #[nilS] 49) := ⟨_, rfl⟩
    have hg5 := Lib.hid (show Gr wr W5 by rw [hW5]; exact grAlloc _ _)
    have hO5 : Hid (WrO W5 wr.heap.size nilS []) := Lib.hid ⟨by rw [hW5]; exact nBlk _ _ _ rfl, World.ownsRow_nil _ _ _ _⟩
    have hst := Lib.hid (stmts_any l wr W5 wr.heap.size nilS [] A m hg5.out (Nat.le_refl _) hO5.out ((hSt w HO.out).below hg.out) hol (HLO.out.gr hg.out) (by simp; omega))
    have hnx := Lib.hid (cL_len l 0)
    have hcbl := blkLt hc.out
    have htk : o.list.take (k + 1) = o.list.take k ++ [l] := by rw [List.take_add_one, hlk]; rfl
    have hv5 := vals_at (hs := hs) (by rw [hl.out]; exact hlt)
    rw [hl.out] at hv5
    generalize hqq : cL l 0 = q at *
    simp only [List.nil_append, List.length_nil, hqq] at hst
    have hqH := Lib.hid hqq
    have hHO2 := Lib.hid (fun (w6 : World) (v6 : Value) (hO6 : WrO w6 wr.heap.size v6 q) (hT6 : WrT wr.heap.size W5 nilS w6 v6) => hT6.base hO5.out hg5.out (Nat.le_refl _))
    clear hSt hol hmem hqq
    by_cases hlong : 4000 < lnL l
    ·have hlg : longB o.list = true := List.any_eq_true.2 ⟨l, List.mem_of_getElem? hlk, decide_eq_true hlong⟩
     have hlgH := Lib.hid hlg
     have tl : decide ((4000 : Int) < (q.length : Int)) = true := decide_eq_true (by have := hnx.out; omega)
     go_upto_region 7 with fail
     go_upto_region 8 with fail
     rw [← hW5]
     clear hW5
     go_upto_region 9 with (go_at_call 19; refine hst.out.mono ?_; rintro e w6 ⟨rfl, v6, hO6, hT6⟩; have hg6 := Lib.hid (hHO2.out w6 v6 hO6 hT6); obtain ⟨A6, c6, hv6, hR6, hA6⟩ := own_ins hO6.2 rfl; subst hv6; have hO6 := Lib.hid hO6; have hR6 := Lib.hid hR6; have hA6 := Lib.hid hA6)
     have f0 := cells1k hO6.out.1
     have hr6 := Lib.hid (grBlk hg6.out hr.out)
     have hc6 := Lib.hid (grBlk hg6.out hc.out)
     obtain ⟨r0, r1, r2, r3, r4⟩ := cells5k hr6.out
     have d0 := frz hr6.out 0
     have d1 := frz hr6.out 1
     have d2 := frz hr6.out 2
     have d3 := frz hr6.out 3
     have d4 := frz hr6.out 4
     go_wp2
     obtain ⟨hk9, hq9⟩ := hset.out w6 nilS nilS nilS nilS nilS nilS nilS nilS nilS nilS (hg.out.tr hg6.out) hr6.out
     generalize ((((w6.setCell ⟨w.heap.size + 1, 0, none⟩ nilS).setCell ⟨w.heap.size + 1, 1, none⟩ nilS).setCell ⟨w.heap.size + 1, 2, none⟩ nilS).setCell ⟨w.heap.size + 1, 3, none⟩ nilS).setCell ⟨w.heap.size + 1, 4, none⟩ nilS = W9 at *
     have hk9 := Lib.hid hk9
     have hq9 := Lib.hid hq9
     clear r0 r1 r2 r3 r4 d0 d1 d2 d3 d4
     obtain ⟨r0, r1, r2, r3, r4⟩ := cells5k hk9.out
     exact bodyPost_ret (v := .tuple #[zeroCd, .int .i64 2]) (by simp [results, Tryz.results8, go_sem, r0, r1, r2, r3, r4]) rfl ⟨.inr (.inl ⟨rfl, hlgH.out, rfl⟩), hq9.out⟩
    ·have tl : decide ((4000 : Int) < (q.length : Int)) = false := decide_eq_false (by have := hnx.out; omega)
     have hlong := Lib.hid hlong
     go_upto_region 7 with fail
     go_upto_region 8 with fail
     rw [← hW5]
     clear hW5
     go_upto_region 9 with (go_at_call 19; refine hst.out.mono ?_; rintro e w6 ⟨rfl, v6, hO6, hT6⟩; have hg6 := Lib.hid (hHO2.out w6 v6 hO6 hT6); obtain ⟨A6, c6, hv6, hR6, hA6⟩ := own_ins hO6.2 rfl; subst hv6; have hO6 := Lib.hid hO6; have hR6 := Lib.hid hR6; have hA6 := Lib.hid hA6)
     have f0 := cells1k hO6.out.1
     have hr6 := Lib.hid (grBlk hg6.out hr.out)
     have hc6 := Lib.hid (grBlk hg6.out hc.out)
     have hcl := hc6.out
     have ck : w6.cell? ⟨cb, k, none⟩ = some nilS := (cell_of_row _ _ k _ _ (0, 0) hcl).trans (by rw [List.getElem?_toArray]; exact hv5)
     have dk := frz hcl k
     have hc7 := heap_setCell_same w6 cb k _ _ (.slice A6 q.length c6) hcl
     rw [List.setIfInBounds_toArray] at hc7
     have hvs := vals_snoc (hs := hs) (h := ⟨q, A6, c6⟩) (by rw [hl.out]; exact hlt)
     rw [hl.out] at hvs
     have hc7 := Lib.hid (show (w6.setCell ⟨cb, k, none⟩ (.slice A6 q.length c6)).heap[cb]? = some (.cells (vals (hs ++ [⟨q, A6, c6⟩])).toArray 30 (0, 0)) by rw [← hvs]; exact hc7)
     have hr7 := Lib.hid ((heap_setCell_other w6 ⟨cb, k, none⟩ (w.heap.size + 1) (.slice A6 q.length c6) (by simp only; omega)).trans hr6.out)
     have hg7 := Lib.hid (belK (i := k) (u := .slice A6 q.length c6) (hg.out.tr hg6.out) (show w.heap.size ≤ cb by omega))
     have hI7 : Hid (∀ h ∈ hs ++ [(⟨q, A6, c6⟩ : Hd)], InsR (w6.setCell ⟨cb, k, none⟩ (.slice A6 q.length c6)) h.l h.A ∧ ∀ ad, h.A = some ad → cb < ad.block) := Lib.hid (fun h hh => by
      rcases List.mem_append.1 hh with hh | hh
      ·exact ⟨insSet ((hI.out h hh).1.gr hg6.out) (fun ad had => by have := (hI.out h hh).2 ad had; omega), (hI.out h hh).2⟩
      ·obtain rfl := List.mem_singleton.1 hh
       have hne : ∀ ad, A6 = some ad → cb < ad.block := fun ad had => by have := hA6.out ad had; omega
       exact ⟨insSet hR6.out (fun ad had => by have := hne ad had; omega), hne⟩)
     have hm7 : Hid ((hs ++ [(⟨q, A6, c6⟩ : Hd)]).map (fun h => h.l) = (o.list.take (k + 1)).map (fun l => cL l 0)) := Lib.hid (by rw [htk, List.map_append, List.map_append, hm.out, List.map_singleton, List.map_singleton, hqH.out])
     have hn7 : Hid (∀ l ∈ o.list.take (k + 1), lnL l ≤ 4000) := Lib.hid (fun y hy => by
      rw [htk] at hy
      rcases List.mem_append.1 hy with hy | hy
      ·exact hn.out y hy
      ·obtain rfl := List.mem_singleton.1 hy
       omega)
     have hl7 : Hid ((hs ++ [(⟨q, A6, c6⟩ : Hd)]).length = k + 1) := Lib.hid (by rw [List.length_append, hl.out]; rfl)
     clear hcl hvs hv5 htk hlk
     go_wp2
     go_roundg gq
     case measure => omega
     case rel => exact ⟨k + 1, hs ++ [⟨q, A6, c6⟩], by omega, by go_num, hl7, hc7, hr7, hg7, hm7, hI7, hn7⟩
   ·obtain rfl : gk = 0 := by omega
    obtain rfl : k = 5 := by omega
    have hlg : Hid (longB o.list = false) := Lib.hid (by
     rw [Bool.eq_false_iff]
     intro h
     obtain ⟨y, hy, hz⟩ := List.any_eq_true.1 h
     have := hn.out y hy
     have := of_decide_eq_true hz
     omega)
    obtain ⟨h0, h1, h2, h3, h4, rfl⟩ : ∃ h0 h1 h2 h3 h4 : Hd, hs = [h0, h1, h2, h3, h4] := by
     have := hl.out
     match hs, this with
     | [h0, h1, h2, h3, h4], _ => exact ⟨h0, h1, h2, h3, h4, rfl⟩
    obtain ⟨q0, q1, q2, q3, q4⟩ := cells5k (show wr.heap[cb]? = some (.cells (cdA h0 h1 h2 h3 h4) 30 (0, 0)) from hc.out)
    obtain ⟨r0, r1, r2, r3, r4⟩ := cells5k hr.out
    have d0 := frz hr.out 0
    have d1 := frz hr.out 1
    have d2 := frz hr.out 2
    have d3 := frz hr.out 3
    have d4 := frz hr.out 4
    obtain ⟨hk9, hq9⟩ := hset.out wr nilS nilS nilS nilS nilS (hdV h0) (hdV h1) (hdV h2) (hdV h3) (hdV h4) hg.out hr.out
    have hk9 := Lib.hid hk9
    have hq9 := Lib.hid hq9
    have hIf : Hid (∀ h ∈ [h0, h1, h2, h3, h4], InsR (((((wr.setCell ⟨w.heap.size + 1, 0, none⟩ (hdV h0)).setCell ⟨w.heap.size + 1, 1, none⟩ (hdV h1)).setCell ⟨w.heap.size + 1, 2, none⟩ (hdV h2)).setCell ⟨w.heap.size + 1, 3, none⟩ (hdV h3)).setCell ⟨w.heap.size + 1, 4, none⟩ (hdV h4)) h.l h.A) := Lib.hid (fun h hh => by
     have h1 := (hI.out h hh).1
     have h2 : ∀ ad, h.A = some ad → ad.block ≠ w.heap.size + 1 := fun ad had => by have := (hI.out h hh).2 ad had; omega
     exact insSet (insSet (insSet (insSet (insSet h1 h2) h2) h2) h2) h2)
    have hmf := Lib.hid (show [h0.l, h1.l, h2.l, h3.l, h4.l] = o.list.map (fun l => cL l 0) from hm.out)
    go_wp2
    generalize ((((wr.setCell ⟨w.heap.size + 1, 0, none⟩ (.slice h0.A h0.l.length h0.c)).setCell ⟨w.heap.size + 1, 1, none⟩ (.slice h1.A h1.l.length h1.c)).setCell ⟨w.heap.size + 1, 2, none⟩ (.slice h2.A h2.l.length h2.c)).setCell ⟨w.heap.size + 1, 3, none⟩ (.slice h3.A h3.l.length h3.c)).setCell ⟨w.heap.size + 1, 4, none⟩ (.slice h4.A h4.l.length h4.c) = W9 at *
    clear r0 r1 r2 r3 r4 d0 d1 d2 d3 d4
    obtain ⟨r0, r1, r2, r3, r4⟩ := cells5k hk9.out
    exact bodyPost_ret (v := .tuple #[.agg (cdA h0 h1 h2 h3 h4), .int .i64 0]) (by simp [results, Tryz.results8, go_sem, r0, r1, r2, r3, r4]) rfl ⟨.inr (.inr ⟨rfl, hlg.out, h0, h1, h2, h3, h4, rfl, hmf.out, hIf.out⟩), hq9.out⟩
end K
end Go.Proofs.YtljknappbnoikaaGreatDoor
namespace Go.Proofs.YtljknappbnoikaaGreatDoor
open Go.RowKit
namespace K
open U (Ex St)
theorem at_app {α : Type _} {a b : List α} {j : Nat} {u : α} (h : (a ++ b)[j]? = some u) : a[j]? = some u ∨ (a.length ≤ j ∧ b[j - a.length]? = some u) := by
 rcases Nat.lt_or_ge j a.length with q | q
 ·rw [List.getElem?_append_left q] at h; exact .inl h
 ·rw [List.getElem?_append_right q] at h; exact .inr ⟨q, h⟩
theorem app_l {α : Type _} {a b : List α} {j : Nat} {u : α} (h : a[j]? = some u) : (a ++ b)[j]? = some u := by
 have q := (List.getElem?_eq_some_iff.1 h).1
 rw [List.getElem?_append_left q]; exact h
theorem app_r {α : Type _} {a b : List α} {j : Nat} {u : α} (h : b[j]? = some u) : (a ++ b)[a.length + j]? = some u := by
 rw [List.getElem?_append_right (by omega), show a.length + j - a.length = j by omega]; exact h
theorem kidsE_gr {w w' : World} {ks : List Ex} {A : Option Addr} (h : U.KidsE w ks A) (hg : Gr w w') : U.KidsE w' ks A := h.keep hg.block _ _
theorem StsR.row {w : World} : ∀ (l : List St) (A : Option Addr), U.StsR w l A → ∃ cs : List Value, cs.length = l.length * 13 ∧ (∀ u ∈ cs, u.oneCell' = true) ∧
  (∀ g o, A = some ⟨g, o, none⟩ → ∀ j u, cs[j]? = some u → w.cell? ⟨g, o + j, none⟩ = some u) ∧
  (∀ w' g' o', Gr w w' → (∀ j u, cs[j]? = some u → w'.cell? ⟨g', o' + j, none⟩ = some u) → U.StsR w' l (some ⟨g', o', none⟩))
 | [], A, h => ⟨[], rfl, (fun u hu => by cases hu), (fun g o _ j u hu => by simp at hu), (fun w' g' o' _ _ => by unfold U.StsR; trivial)⟩
 | t :: ts, A, h => by
  unfold U.StsR at h
  obtain ⟨g, o, rfl, h1, h2⟩ := h
  obtain ⟨cs, k1, k2, k3, k4⟩ := StsR.row ts _ h2
  obtain ⟨A, c, B, d, T, m, E, n, hat, hA, hB, hT, hE, n1, n2⟩ := h1.cells
  obtain ⟨q0, q1, q2, q3, q4, q5, q6, q7, q8, q9, q10, q11, q12⟩ := hat
  refine ⟨(U.sArr t A c B d T m E n).toList ++ cs, by simp only [List.length_append, k1, List.length_cons]; simp; omega, ?_, ?_, ?_⟩
  ·intro u hu
   rcases List.mem_append.1 hu with hu | hu
   ·simp only [List.mem_cons, List.not_mem_nil, or_false] at hu
    rcases hu with rfl | rfl | rfl | rfl | rfl | rfl | rfl | rfl | rfl | rfl | rfl | rfl | rfl <;> rfl
   ·exact k2 u hu
  ·intro g' o' e j u hu
   cases e
   rcases at_app hu with hu | ⟨hj, hu⟩
   ·match j, hu with
    | 0, hu => cases hu; exact q0
    | 1, hu => cases hu; exact q1
    | 2, hu => cases hu; exact q2
    | 3, hu => cases hu; exact q3
    | 4, hu => cases hu; exact q4
    | 5, hu => cases hu; exact q5
    | 6, hu => cases hu; exact q6
    | 7, hu => cases hu; exact q7
    | 8, hu => cases hu; exact q8
    | 9, hu => cases hu; exact q9
    | 10, hu => cases hu; exact q10
    | 11, hu => cases hu; exact q11
    | 12, hu => cases hu; exact q12
    | (j + 13), hu => simp at hu
   ·have := k3 g (o + 13) rfl _ _ hu
    simp at hj this
    rw [show o + 13 + (j - 13) = o + j by omega] at this
    exact this
  ·intro w' g' o' hg hc
   have hc1 : ∀ j u, (U.sArr t A c B d T m E n).toList[j]? = some u → w'.cell? ⟨g', o' + j, none⟩ = some u := fun j u hu => hc j u (app_l hu)
   unfold U.StsR
   refine ⟨g', o', rfl, ?_, k4 w' g' (o' + 13) hg fun j u hu => ?_⟩
   ·have hat : U.StAt w' t g' o' A c B d T m E n := ⟨hc1 0 _ rfl, hc1 1 _ rfl, hc1 2 _ rfl, hc1 3 _ rfl, hc1 4 _ rfl, hc1 5 _ rfl, hc1 6 _ rfl, hc1 7 _ rfl, hc1 8 _ rfl, hc1 9 _ rfl, hc1 10 _ rfl, hc1 11 _ rfl, hc1 12 _ rfl⟩
    obtain ⟨tk, tv, tr, ta, tb, tth, tel⟩ := t
    unfold U.StR
    exact ⟨A, c, B, d, T, m, E, n, hat, kidsE_gr hA hg, kidsE_gr hB hg, hT.below hg, hE.below hg, n1, n2⟩
   ·have := hc _ u (app_r (a := (U.sArr t A c B d T m E n).toList) hu)
    rw [show o' + 13 + j = o' + ((U.sArr t A c B d T m E n).toList.length + j) by simp; omega]
    exact this
theorem StsR.join {w : World} {a b : List St} {ca cb : List Value} (ha : ca.length = a.length * 13) (hA : ∀ w' g' o', Gr w w' → (∀ j u, ca[j]? = some u → w'.cell? ⟨g', o' + j, none⟩ = some u) → U.StsR w' a (some ⟨g', o', none⟩))
  (hB : ∀ w' g' o', Gr w w' → (∀ j u, cb[j]? = some u → w'.cell? ⟨g', o' + j, none⟩ = some u) → U.StsR w' b (some ⟨g', o', none⟩)) :
  ∀ w' g' o', Gr w w' → (∀ j u, (ca ++ cb)[j]? = some u → w'.cell? ⟨g', o' + j, none⟩ = some u) → U.StsR w' (a ++ b) (some ⟨g', o', none⟩) := by
 intro w' g' o' hg hc
 have h1 := hA w' g' o' hg fun j u hu => hc j u (app_l hu)
 have h2 := hB w' g' (o' + ca.length) hg fun j u hu => by
  have := hc _ u (app_r (a := ca) hu)
  rw [show o' + ca.length + j = o' + (ca.length + j) by omega]; exact this
 rw [ha] at h2
 clear hA hB hc
 induction a generalizing o' ca with
 | nil => simpa using h2
 | cons t ts ih =>
  unfold U.StsR at h1
  obtain ⟨g1, o1, e, r1, r2⟩ := h1
  cases e
  rw [List.cons_append]
  unfold U.StsR
  refine ⟨g', o', rfl, r1, ?_⟩
  exact ih (ca := ca.drop 13) (by simp only [List.length_drop, ha, List.length_cons]; omega) _ r2 (by rw [List.length_cons, show o' + (ts.length + 1) * 13 = o' + 13 + ts.length * 13 by omega] at h2; exact h2)
end K
end Go.Proofs.YtljknappbnoikaaGreatDoor
namespace Go.Proofs.YtljknappbnoikaaGreatDoor
open Go.RowKit
namespace K
def eqI (x y : In) : Bool := decide (x.op = y.op) && (decide (x.n = y.n) && decide (x.r = y.r))
def sameL : List In → List In → Bool
 | [], [] => true
 | x :: xs, y :: ys => eqI x y && sameL xs ys
 | _, _ => false
theorem eqI_iff {x y : In} : eqI x y = true ↔ x = y := by
 cases x; cases y; simp [eqI]
theorem sameL_iff : ∀ {a b : List In}, sameL a b = true ↔ a = b
 | [], [] => by simp [sameL]
 | x :: xs, y :: ys => by rw [sameL, Bool.and_eq_true, eqI_iff, sameL_iff, List.cons.injEq]
 | [], y :: ys => by simp [sameL]
 | x :: xs, [] => by simp [sameL]
theorem sameL_len : ∀ {a b : List In}, a.length ≠ b.length → sameL a b = false := fun h => by
 rw [Bool.eq_false_iff]
 intro e
 exact h (by rw [sameL_iff.1 e])
theorem run_in_eq (s t : In) (w : World) : (Op.equalIn 10000 41 (.agg #[.int .i64 s.op, .int .i64 s.n, .int .i64 s.r]) (.agg #[.int .i64 t.op, .int .i64 t.n, .int .i64 t.r])).run Tryz.prog w = .ok (eqI s t) w := by
 have hk : Tryz.prog.plainKey 3 = true := by kernel_rfl
 have he : ∀ x y : Int, (Op.equalIn 9999 3 (.int .i64 x) (.int .i64 y)).run Tryz.prog w = .ok (x == y) w := fun x y => run_equalIn_int w 9998 3 .i64 .i64 x y Tryz.underlying3
 have hp : ∀ x y z : Value, (part 3 #[x, y, z] 0).run Tryz.prog w = .ok x w ∧ (part 3 #[x, y, z] 1).run Tryz.prog w = .ok y w ∧ (part 3 #[x, y, z] 2).run Tryz.prog w = .ok z w :=
  fun x y z => ⟨run_part_plain w hk rfl, run_part_plain w hk rfl, run_part_plain w hk rfl⟩
 rw [show (10000 : Nat) = 9999 + 1 from rfl, run_equalIn_struct w 9999 _ _ _ (by kernel_rfl) (by kernel_rfl)]
 simp only [Program.fieldsOf, Tryz.underlying41]
 obtain ⟨a, b, c⟩ := s
 obtain ⟨a', b', c'⟩ := t
 have h0 := (hp (.int .i64 a) (.int .i64 b) (.int .i64 c))
 have h1 := (hp (.int .i64 a') (.int .i64 b') (.int .i64 c'))
 by_cases ea : a = a'
 ·subst ea
  by_cases eb : b = b'
  ·subst eb
   by_cases ec : c = c'
   ·subst ec
    simp [Op.eqFields, Sem.run_bind, h0, h1, he, eqI]
   ·simp [Op.eqFields, Sem.run_bind, h0, h1, he, ec, eqI]
  ·simp [Op.eqFields, Sem.run_bind, h0, h1, he, eb, eqI]
 ·simp [Op.eqFields, Sem.run_bind, h0, h1, he, ea, eqI]
theorem SameInstrs_any (a b : List In) (A B : Option Addr) (c d : Nat) (w : World) (ha : InsR w a A) (hb : InsR w b B) (hlen : a.length ≤ 100000) :
  Calls Tryz.prog 15 #[.slice A a.length c, .slice B b.length d] w (GG (.bool (sameL a b)) w) := by
 by_cases hl : a.length = b.length
 case neg =>
  rw [sameL_len hl]
  have t1 : ((a.length : Int) != (b.length : Int)) = true := by rw [bne_iff_ne]; omega
  have t2 : ((a.length : Int) == (b.length : Int)) = false := by rw [beq_eq_false_iff_ne]; omega
  clear hl ha hb
  go_enter Tryz.func15, Tryz.ntmps15
  go_wp2
  go_ret
  exact ⟨rfl, Below.refl _ _⟩
 case pos =>
  obtain ⟨R, hR⟩ : ∃ R, sameL a b = R := ⟨_, rfl⟩
  rw [hR]
  have hR0 := Lib.hid (show sameL (a.drop 0) (b.drop 0) = R from hR)
  have HA := Lib.hid ha
  have HB := Lib.hid hb
  have hq := run_in_eq
  have hlH := Lib.hid hl
  obtain ⟨n, hn⟩ : ∃ n, a.length = n := ⟨_, rfl⟩
  obtain ⟨m, hm⟩ : ∃ m, b.length = m := ⟨_, rfl⟩
  have hnm : n = m := by omega
  subst hnm
  have hnH := Lib.hid hn
  have hmH := Lib.hid hm
  rw [hn] at hlen
  rw [hn, hm]
  have hg0 := Lib.hid (Below.refl w.heap.size w)
  clear hR hl ha hb hn hm
  go_enter Tryz.func15, Tryz.ntmps15
  go_wp2_with fail
  go_loopg [5] n (fun gk i wr => ∃ k : Nat, k + gk = n ∧ i = .int .i64 k ∧ Hid (sameL (a.drop k) (b.drop k) = R) ∧ Hid (Gr w wr))
  case atStart => exact ⟨0, by omega, rfl, hR0, hg0⟩
  case round =>
   obtain ⟨k, hk, rfl, hE, hG⟩ := hrel
   clear hR0 hg0
   by_cases hlt : k < n
   ·obtain ⟨gq, rfl⟩ : ∃ g, gk = g + 1 := ⟨gk - 1, by omega⟩
    have hka : k < a.length := by have := hnH.out; omega
    have hkb : k < b.length := by have := hmH.out; omega
    obtain ⟨ga, oa, rfl, hat⟩ := (HA.out.gr hG.out).addr (by omega)
    obtain ⟨gb, ob, rfl, hbt⟩ := (HB.out.gr hG.out).addr (by omega)
    have hx := List.getElem?_eq_getElem hka
    have hy := List.getElem?_eq_getElem hkb
    have hE1 := hE.out
    rw [List.drop_eq_getElem_cons hka, List.drop_eq_getElem_cons hkb, sameL] at hE1
    generalize a[k] = x at *
    generalize b[k] = y at *
    obtain ⟨e0, e1, e2⟩ := hat k x hx
    obtain ⟨f0, f1, f2⟩ := hbt k y hy
    have e0 : wr.drew.cell? ⟨ga, oa + k * 3, none⟩ = some (.int .i64 x.op) := e0
    have e1 : wr.drew.cell? ⟨ga, oa + k * 3 + 1, none⟩ = some (.int .i64 x.n) := e1
    have e2 : wr.drew.cell? ⟨ga, oa + k * 3 + 2, none⟩ = some (.int .i64 x.r) := e2
    have f0 : wr.drew.cell? ⟨gb, ob + k * 3, none⟩ = some (.int .i64 y.op) := f0
    have f1 : wr.drew.cell? ⟨gb, ob + k * 3 + 1, none⟩ = some (.int .i64 y.n) := f1
    have f2 : wr.drew.cell? ⟨gb, ob + k * 3 + 2, none⟩ = some (.int .i64 y.r) := f2
    have hG1 := Lib.hid (hG.out.tr (grDrew wr))
    clear hat hbt hx hy hka hkb hE hG
    rcases hxy : eqI x y with _ | _
    ·obtain rfl : false = R := by simpa [hxy] using hE1
     have hq1 : ∀ wx : World, (Op.equalIn 10000 41 (.agg #[.int .i64 x.op, .int .i64 x.n, .int .i64 x.r]) (.agg #[.int .i64 y.op, .int .i64 y.n, .int .i64 y.r])).run Tryz.prog wx = .ok false wx := fun wx => by rw [hq, hxy]
     clear hq hE1 hxy
     go_upto_region 6 with fail
     go_region
     go_wp2
     go_ret
     exact ⟨rfl, hG1.out⟩
    ·have hE2 := Lib.hid (show sameL (a.drop (k + 1)) (b.drop (k + 1)) = R by simpa [hxy] using hE1)
     have hq1 : ∀ wx : World, (Op.equalIn 10000 41 (.agg #[.int .i64 x.op, .int .i64 x.n, .int .i64 x.r]) (.agg #[.int .i64 y.op, .int .i64 y.n, .int .i64 y.r])).run Tryz.prog wx = .ok true wx := fun wx => by rw [hq, hxy]
     clear hq hE1 hxy
     go_upto_region 6 with fail
     go_region
     go_wp2
     go_roundg gq
     case measure => omega
     case rel => exact ⟨k + 1, by omega, by go_num, hE2, hG1⟩
   ·obtain rfl : gk = 0 := by omega
    have hGe := hE.out
    rw [List.drop_eq_nil_of_le (by have := hnH.out; omega), List.drop_eq_nil_of_le (by have := hmH.out; omega)] at hGe
    obtain rfl : true = R := hGe
    have hkl2 : decide ((k : Int) < (n : Int)) = false := by simp; omega
    go_wp2
    go_ret
    exact ⟨rfl, hG.out⟩
end K
end Go.Proofs.YtljknappbnoikaaGreatDoor
