/- Texts of one proof: KzG, KzW, KzH, KzN. -/
import Derived.Test.YtamfgjinfcknfaaGreatDoorZw
import Derived.Test.YtamfgjinfcknfaaGreatDoorZn
import Derived.Test.YtamfgjinfcknfaaGreatDoorYh
import Derived.Test.YtamfgjinfcknfaaGreatDoorZa
import Derived.Test.YtamfgjinfcknfaaGreatDoorZr
set_option linter.unusedVariables false
set_option linter.unusedSimpArgs false
set_option maxRecDepth 100000
set_option maxHeartbeats 8000000
namespace Go.Proofs.YtamfgjinfcknfaaGreatDoor
open Go.RowKit
namespace K
open U (Ex St szK KidsE ev eArr StsR sv sArr)
theorem stmts_step (ss : List St) (ih : ∀ x ∈ ss, StmtsC x.th ∧ StmtsC x.el) : StmtsC ss := by
 intro W0 w B v l A m hg hB hO hR hop hL hlen
 have hmf : ∀ (fn : Fn) (first cap : Array Value) (w : World), (Instr.makeFunc fn first cap).run Tryz.prog w = .ok (.func fn first cap) w := fun _ _ _ _ => rfl
 obtain ⟨R, hRR⟩ : ∃ R, l ++ cL ss l.length = R := ⟨_, rfl⟩
 rw [hRR]
 have hc0 := Lib.hid (show l ++ cL (ss.drop 0) l.length = R by simpa using hRR)
 have hl0 := Lib.hid (show l.length + lnL (ss.drop 0) ≤ 50000 by simpa using hlen)
 have hT0 := Lib.hid (WrT.refl B w v)
 have hGW : Hid (∀ (wr : World) (vr : Value), WrT B w v wr vr → Gr W0 wr) := Lib.hid (fun wr vr h => h.base hO hg hB)
 have hO0 := Lib.hid hO
 have HR := Lib.hid hR
 have HL := Lib.hid hL
 have IH := Lib.hid ih
 have HO := Lib.hid hop
 have hBH := Lib.hid hB
 have hsl := cL_length_le ss
 clear hg hB hO hR hop hL ih hRR
 go_enter Tryz.func17, Tryz.ntmps17
 go_wp2_with fail
 go_loopg [9] (ss.length) (fun gk i wr => ∃ (k : Nat) (vr : Value) (lr : List In), k + gk = ss.length ∧ i = .int .i64 k ∧ Hid (WrO wr B vr lr) ∧ Hid (WrT B w v wr vr) ∧ Hid (lr ++ cL (ss.drop k) lr.length = R) ∧ Hid (lr.length + lnL (ss.drop k) ≤ 50000))
 case atStart => exact ⟨0, v, l, by omega, rfl, hO0, hT0, hc0, hl0⟩
 case round =>
  obtain ⟨k, vr, lr, hk, rfl, hO, hT, hc, hl⟩ := hrel
  clear hO0 hT0 hc0 hl0
  by_cases hlt : k < ss.length
  ·obtain ⟨gq, rfl⟩ : ∃ g, gk = g + 1 := ⟨gk - 1, by omega⟩
   have hGr := Lib.hid (hGW.out _ _ hT.out)
   obtain ⟨ga, oa, rfl⟩ := HR.out.addr (by omega)
   have hx := HR.out.get _ _ _ k _ (List.getElem?_eq_getElem hlt)
   have hmem : ss[k] ∈ ss := List.getElem_mem hlt
   have hcx := hc.out
   have hlx := hl.out
   rw [cL_drop hlt, ← List.append_assoc] at hcx
   rw [lnL_drop hlt] at hlx
   have hi := IH.out _ hmem
   have hox := OpL_get HO.out _ hmem
   generalize ss[k] = x at *
   obtain ⟨A, c, Bk, d, T, m2, E, n2, hat, hKa, hKb, hTh, hEl, hlth, hlel⟩ := hx.cells
   obtain ⟨e0, e1, e2, e3, e4, e5, e6, e7, e8, e9, ea, eb, ec⟩ := hat
   have e0 := grCell hGr.out e0
   have e1 := grCell hGr.out e1
   have e2 := grCell hGr.out e2
   have e3 := grCell hGr.out e3
   have e4 := grCell hGr.out e4
   have e5 := grCell hGr.out e5
   have e6 := grCell hGr.out e6
   have e7 := grCell hGr.out e7
   have e8 := grCell hGr.out e8
   have e9 := grCell hGr.out e9
   have ea := grCell hGr.out ea
   have eb := grCell hGr.out eb
   have ec := grCell hGr.out ec
   obtain ⟨W5, hW5⟩ : ∃ W5, W5 = wr.alloc (.cells (sArr x A c Bk d T m2 E n2) 65) := ⟨_, rfl⟩
   have hg5 := Lib.hid (show Gr wr W5 by rw [hW5]; exact grAlloc _ _)
   have hb5 := Lib.hid (show W5.heap[wr.heap.size]? = some (.cells (sArr x A c Bk d T m2 E n2) 65 (0, 0)) by rw [hW5]; exact nBlk _ _ _ rfl)
   have hT5 := Lib.hid (hT.out.trans (WrT.of_gr hg5.out))
   have hcl : (lr ++ cS x lr.length).length = lr.length + lnS x := by rw [List.length_append, cS_len]
   have hcx := Lib.hid (show (lr ++ cS x lr.length) ++ cL (ss.drop (k + 1)) (lr ++ cS x lr.length).length = R by rw [hcl]; exact hcx)
   have hlx2 := Lib.hid (show (lr ++ cS x lr.length).length + lnL (ss.drop (k + 1)) ≤ 50000 by rw [hcl]; omega)
   by_cases hk2 : x.kind = 2
   ·have hq := Lib.hid (choice_any W0 W5 B vr lr x A c Bk d T m2 E n2 (hGr.out.tr hg5.out) hBH.out (hO.out.gr hg5.out) hKa hKb hTh hEl hox hk2 HL.out (by omega) hi.1 hi.2)
    have hkb : (x.kind == 2) = true := by rw [beq_iff_eq]; exact hk2
    clear hi hox hmem hc hl hO hT hlx hcl hKa hKb hTh hEl hlth hlel hk2 hx
    go_upto_region 4 with fail
    rw [← hW5]
    clear hW5 e0 e1 e2 e3 e4 e5 e6 e7 e8 e9 ea eb ec
    obtain ⟨y0, y1, y2, y3, y4, y5, y6, y7, y8, y9, ya, yb, yc⟩ := U.cells13 hb5.out
    go_wp2_with (go_at_call 36; refine hq.out.mono ?_; rintro e w8 ⟨rfl, v8, hO8, hT8⟩; have hO8 := Lib.hid hO8; have hT8 := Lib.hid (hT5.out.trans hT8))
    go_roundg gq
    case measure => omega
    case rel => exact ⟨k + 1, v8, lr ++ cS x lr.length, by omega, by go_num, hO8, hT8, hcx, hlx2⟩
   ·have hq := Lib.hid (assignment_any W0 W5 B vr lr x A c Bk d T m2 E n2 (hGr.out.tr hg5.out) hBH.out (hO.out.gr hg5.out) hKa (OpS_of hox).1 HL.out (by have := lnS_no hk2; omega))
    rw [← cS_no hk2 lr.length] at hq
    have hkb : (x.kind == 2) = false := by rw [beq_eq_false_iff_ne]; exact hk2
    clear hi hox hmem hc hl hO hT hlx hcl hKa hKb hTh hEl hlth hlel hk2 hx
    go_upto_region 4 with fail
    rw [← hW5]
    clear hW5 e0 e1 e2 e3 e4 e5 e6 e7 e8 e9 ea eb ec
    obtain ⟨y0, y1, y2, y3, y4, y5, y6, y7, y8, y9, ya, yb, yc⟩ := U.cells13 hb5.out
    go_wp2_with (go_at_call 35; refine hq.out.mono ?_; rintro e w8 ⟨rfl, v8, hO8, hT8⟩; have hO8 := Lib.hid hO8; have hT8 := Lib.hid (hT5.out.trans hT8))
    go_roundg gq
    case measure => omega
    case rel => exact ⟨k + 1, v8, lr ++ cS x lr.length, by omega, by go_num, hO8, hT8, hcx, hlx2⟩
  ·obtain rfl : gk = 0 := by omega
   obtain rfl : lr = R := by have := hc.out; rw [List.drop_eq_nil_of_le (by omega), cL, List.append_nil] at this; exact this
   have hkl : decide ((k : Int) < (ss.length : Int)) = false := by simp; omega
   go_wp2
   exact ⟨rfl, .tuple #[], by simp [results, Tryz.results17, go_sem], rfl, vr, hO.out, hT.out⟩
mutual
theorem stmts_sub : ∀ x : St, StmtsC x.th ∧ StmtsC x.el
 | .mk _ _ _ _ _ th el => ⟨stmts_step th (stmts_all th), stmts_step el (stmts_all el)⟩
theorem stmts_all : ∀ (l : List St), ∀ x ∈ l, StmtsC x.th ∧ StmtsC x.el
 | [], x, hx => by cases hx
 | y :: ys, x, hx => by
  rcases List.mem_cons.1 hx with h | h
  ·rw [h]; exact stmts_sub y
  ·exact stmts_all ys x h
end
theorem stmts_any (ss : List St) : StmtsC ss := stmts_step ss (stmts_all ss)
end K
end Go.Proofs.YtamfgjinfcknfaaGreatDoor
namespace Go.Proofs.YtamfgjinfcknfaaGreatDoor
namespace K
open U (Ex St szK)
theorem chk_all {s : List U.Pw} : ∀ {ls : List (List St)} {k : Nat}, (U.chkL s ls k).2 = 0 → ∀ l ∈ ls, U.handM s l = 0
 | [], _, _, l, hl => by cases hl
 | x :: xs, k, h, l, hl => by
  rw [U.chkL] at h
  split at h
  ·rename_i g
   rcases List.mem_cons.1 hl with rfl | hl
   ·exact g
   ·exact chk_all h l hl
  ·rename_i g
   exact absurd h g
theorem check_op {us : List Int} {on : List (List St)} (h : (U.checkM us on).2 = 0) : ∀ l ∈ on, OpL l ∧ lnL l ≤ 12200 := by
 unfold U.checkM at h
 rcases hs : U.scopeM us with _ | s
 ·rw [hs] at h; cases h
 ·rw [hs] at h
  simp only at h
  intro l hm
  exact hand_op (chk_all h l hm)
theorem valPM_op {x : ByteArray} {vs : List U.Vr} {on : List (List St)} {wi pa : Int} (h : C.valPM x vs on wi pa = true) : ∀ l ∈ on, OpL l ∧ lnL l ≤ 12200 := by
 unfold C.valPM at h
 rw [Bool.and_eq_true, decide_eq_true_eq] at h
 exact check_op h.1
end K
end Go.Proofs.YtamfgjinfcknfaaGreatDoor
namespace Go.Proofs.YtamfgjinfcknfaaGreatDoor
open Go.RowKit
namespace K
open U (Ex St szK KidsE ev eArr StsR sv sArr)
abbrev nilS : Value := .slice none 0 0
abbrev zeroCd : Value := .agg #[nilS, nilS, nilS, nilS, nilS]
def longB (ls : List (List St)) : Bool := ls.any (fun l => decide (4000 < lnL l))
def CmpQ (v : Bool) (ls : List (List St)) (w : World) (e : Ending) (w' : World) : Prop :=
 ((v = false ∧ e = .returned (.tuple #[zeroCd, .int .i64 1])) ∨ (v = true ∧ longB ls = true ∧ e = .returned (.tuple #[zeroCd, .int .i64 2])) ∨
  (v = true ∧ longB ls = false ∧ ∃ h0 h1 h2 h3 h4 : Hd, e = .returned (.tuple #[.agg (cdA h0 h1 h2 h3 h4), .int .i64 0]) ∧ [h0.l, h1.l, h2.l, h3.l, h4.l] = ls.map (fun l => cL l 0) ∧ ∀ h ∈ [h0, h1, h2, h3, h4], InsR w' h.l h.A)) ∧ Gr w w'
def vals (hs : List Hd) : List Value := hs.map (fun h => hdV h) ++ List.replicate (5 - hs.length) nilS
theorem vals_snoc {hs : List Hd} {h : Hd} (hl : hs.length < 5) : (vals hs).set hs.length (hdV h) = vals (hs ++ [h]) := by
 obtain ⟨n, hn⟩ : ∃ n, 5 - hs.length = n + 1 := ⟨5 - hs.length - 1, by omega⟩
 unfold vals
 rw [hn, List.replicate_succ, List.length_append, List.length_singleton, show 5 - (hs.length + 1) = n by omega]
 rw [show (hs.map (fun h => hdV h) ++ nilS :: List.replicate n nilS).set hs.length (hdV h) = (hs.map (fun h => hdV h) ++ nilS :: List.replicate n nilS).set (hs.map (fun h => hdV h)).length (hdV h) by rw [List.length_map]]
 simp
theorem vals_at {hs : List Hd} (hl : hs.length < 5) : (vals hs)[hs.length]? = some nilS := by
 obtain ⟨n, hn⟩ : ∃ n, 5 - hs.length = n + 1 := ⟨5 - hs.length - 1, by omega⟩
 unfold vals
 rw [hn, List.replicate_succ]
 rw [List.getElem?_append_right (by simp)]
 simp
theorem on_pick (o : U.On) (a : U.OnA) (k : Nat) (hk : k < 5) : ∃ (l : List St) (A : Option Addr) (m : Nat), o.list[k]? = some l ∧ (∀ wx : World, (Instr.index 24 (.agg #[.slice a.a0 o.l0.length a.m0, .slice a.a1 o.l1.length a.m1, .slice a.a2 o.l2.length a.m2, .slice a.a3 o.l3.length a.m3, .slice a.a4 o.l4.length a.m4]) (.int .i64 k)).run Tryz.prog wx = .ok (.slice A l.length m) wx) ∧ (∀ w, U.OnR w o a → StsR w l A) := by
 have hix := U.ix5 (.slice a.a0 o.l0.length a.m0) (.slice a.a1 o.l1.length a.m1) (.slice a.a2 o.l2.length a.m2) (.slice a.a3 o.l3.length a.m3) (.slice a.a4 o.l4.length a.m4)
 match k, hk with
 | 0, _ => exact ⟨o.l0, a.a0, a.m0, rfl, fun w => (hix w).1, fun w h => h.r0⟩
 | 1, _ => exact ⟨o.l1, a.a1, a.m1, rfl, fun w => (hix w).2.1, fun w h => h.r1⟩
 | 2, _ => exact ⟨o.l2, a.a2, a.m2, rfl, fun w => (hix w).2.2.1, fun w h => h.r2⟩
 | 3, _ => exact ⟨o.l3, a.a3, a.m3, rfl, fun w => (hix w).2.2.2.1, fun w h => h.r3⟩
 | 4, _ => exact ⟨o.l4, a.a4, a.m4, rfl, fun w => (hix w).2.2.2.2, fun w h => h.r4⟩
theorem set5 {w0 w : World} {b : Nat} {u0 u1 u2 u3 u4 v0 v1 v2 v3 v4 : Value} {T : TypeId} (hg : Gr w0 w) (hb : w0.heap.size ≤ b) (h : w.heap[b]? = some (.cells #[u0, u1, u2, u3, u4] T (0, 0))) :
  (((((w.setCell ⟨b, 0, none⟩ v0).setCell ⟨b, 1, none⟩ v1).setCell ⟨b, 2, none⟩ v2).setCell ⟨b, 3, none⟩ v3).setCell ⟨b, 4, none⟩ v4).heap[b]? = some (.cells #[v0, v1, v2, v3, v4] T (0, 0)) ∧
  Gr w0 (((((w.setCell ⟨b, 0, none⟩ v0).setCell ⟨b, 1, none⟩ v1).setCell ⟨b, 2, none⟩ v2).setCell ⟨b, 3, none⟩ v3).setCell ⟨b, 4, none⟩ v4) := by
 refine ⟨?_, belK (belK (belK (belK (belK hg hb) hb) hb) hb) hb⟩
 have g0 := heap_setCell_same w b 0 _ _ v0 h
 have g1 := heap_setCell_same _ b 1 _ _ v1 g0
 have g2 := heap_setCell_same _ b 2 _ _ v2 g1
 have g3 := heap_setCell_same _ b 3 _ _ v3 g2
 have g4 := heap_setCell_same _ b 4 _ _ v4 g3
 rw [g4]
 rfl
theorem Compile_any (x : ByteArray) (vs : List U.Vr) (VA : Option Addr) (vm : Nat) (o : U.On) (a : U.OnA) (wi pa : Int) (w : World) (hP : LaidW w) (hw : 8 < w.heap.size) (hL : U.LaidW w) (hV : U.VarsR w vs VA) (hO : U.OnR w o a) (hx : x.size ≤ maxLen) (hv : ∀ v ∈ vs, v.x.size ≤ maxLen) (hLO : LaidO w) :
  Calls Tryz.prog 8 #[U.pgv x VA vs.length vm o a wi pa] w (CmpQ (C.valPM x vs o.list wi pa) o.list w) := by
 obtain ⟨W2, hW2⟩ : ∃ W2, W2 = (w.alloc (.cells (U.pgArr x VA vs.length vm o a wi pa) 26)).alloc (.cells #[nilS, nilS, nilS, nilS, nilS] 32) := ⟨_, rfl⟩
 have hg2 := Lib.hid (show Gr w W2 by rw [hW2]; exact (grAlloc _ _).tr (grAlloc _ _))
 have hp2 := Lib.hid (show W2.heap[w.heap.size]? = some (.cells (U.pgArr x VA vs.length vm o a wi pa) 26 (0, 0)) by rw [hW2]; exact grBlk (grAlloc _ _) (nBlk _ _ _ rfl))
 have hr2 := Lib.hid (show W2.heap[w.heap.size + 1]? = some (.cells #[nilS, nilS, nilS, nilS, nilS] 32 (0, 0)) by rw [hW2]; exact nBlk _ _ _ (by simp))
 have hVl := Lib.hid (C.CValid_any x vs VA vm o a wi pa W2 (hP.below hg2.out hw) (Nat.lt_of_lt_of_le hw hg2.out.size) (hL.below hg2.out) (hV.below hg2.out) (hO.below hg2.out) hx hv)
 have hop := Lib.hid (valPM_op (x := x) (vs := vs) (on := o.list) (wi := wi) (pa := pa))
 have HO := Lib.hid hO
 have HLO := Lib.hid hLO
 obtain ⟨p0, p1, p2, p3, p4, p5, p6, p7, p8⟩ := U.cells9 hp2.out
 obtain ⟨V, hVV⟩ : ∃ V, C.valPM x vs o.list wi pa = V := ⟨_, rfl⟩
 rw [hVV] at hVl hop
 rw [hVV]
 have hset := Lib.hid (fun (w3 : World) (u0 u1 u2 u3 u4 v0 v1 v2 v3 v4 : Value) (hg : Gr w w3) (h : w3.heap[w.heap.size + 1]? = some (.cells #[u0, u1, u2, u3, u4] 32 (0, 0))) => set5 (v0 := v0) (v1 := v1) (v2 := v2) (v3 := v3) (v4 := v4) hg (Nat.le_succ w.heap.size) h)
 clear hP hw hL hV hO hx hv hLO hVV
 cases V with
 | false =>
  go_enter Tryz.func8, Tryz.ntmps8
  go_upto_region 1 with fail
  rw [← hW2]
  clear hW2
  go_wp2_with (go_at_call 16; refine hVl.out.mono ?_; rintro e w3 ⟨rfl, hb3⟩; have hr3 := Lib.hid (grBlk hb3 hr2.out); have hg3 := Lib.hid (hg2.out.tr hb3); clear hb3; obtain ⟨r0, r1, r2, r3, r4⟩ := cells5k hr3.out; have d0 := frz hr3.out 0; have d1 := frz hr3.out 1; have d2 := frz hr3.out 2; have d3 := frz hr3.out 3; have d4 := frz hr3.out 4)
  obtain ⟨hk, hq⟩ := hset.out w3 nilS nilS nilS nilS nilS nilS nilS nilS nilS nilS hg3.out hr3.out
  generalize ((((w3.setCell ⟨w.heap.size + 1, 0, none⟩ nilS).setCell ⟨w.heap.size + 1, 1, none⟩ nilS).setCell ⟨w.heap.size + 1, 2, none⟩ nilS).setCell ⟨w.heap.size + 1, 3, none⟩ nilS).setCell ⟨w.heap.size + 1, 4, none⟩ nilS = W9 at *
  have hk := Lib.hid hk
  have hq := Lib.hid hq
  clear r0 r1 r2 r3 r4 d0 d1 d2 d3 d4 p0 p1 p2 p3 p4 p5 p6 p7 p8
  obtain ⟨r0, r1, r2, r3, r4⟩ := cells5k hk.out
  exact bodyPost_ret (v := .tuple #[zeroCd, .int .i64 1]) (by simp [results, Tryz.results8, go_sem, r0, r1, r2, r3, r4]) rfl ⟨.inl ⟨rfl, rfl⟩, hq.out⟩
 | true =>
  have hop2 := Lib.hid (hop.out rfl)
  clear hop
  go_enter Tryz.func8, Tryz.ntmps8
  go_upto_region 1 with fail
  rw [← hW2]
  clear hW2
  go_upto_region 3 with (go_at_call 16; refine hVl.out.mono ?_; rintro e w3 ⟨rfl, hb3⟩; have hr3 := Lib.hid (grBlk hb3 hr2.out); have hp3 := Lib.hid (grBlk hb3 hp2.out); have hg3 := Lib.hid (hg2.out.tr hb3); clear hb3)
  obtain ⟨W4, hW4⟩ : ∃ W4, W4 = w3.alloc (.cells #[nilS, nilS, nilS, nilS, nilS] 32) := ⟨_, rfl⟩
  have hg34 := Lib.hid (show Gr w3 W4 by rw [hW4]; exact grAlloc _ _)
  have hc4 := Lib.hid (show W4.heap[w3.heap.size]? = some (.cells (vals []).toArray 32 (0, 0)) by rw [hW4]; exact nBlk _ _ _ rfl)
  have hr4 := Lib.hid (grBlk hg34.out hr3.out)
  have hp4 := Lib.hid (grBlk hg34.out hp3.out)
  have hg4 := Lib.hid (hg3.out.tr hg34.out)
  have hrb := blkLt hr3.out
  obtain ⟨cb, hcb⟩ : ∃ cb, w3.heap.size = cb := ⟨_, rfl⟩
  rw [hcb] at hc4 hrb
  go_upto_region 4 with fail
  rw [← hW4]
  clear hW4 p0 p1 p2 p3 p4 p5 p6 p7 p8 hr2 hp2 hr3 hp3 hg2 hg3 hVl hcb
  obtain ⟨p0, p1, p2, p3, p4, p5, p6, p7, p8⟩ := U.cells9 hp4.out
  go_wp2_with fail
  go_loopg [14] 5 (fun gk i wr => ∃ (k : Nat) (hs : List Hd), k + gk = 5 ∧ i = .int .i64 k ∧ Hid (hs.length = k) ∧ Hid (wr.heap[cb]? = some (.cells (vals hs).toArray 32 (0, 0))) ∧ Hid (wr.heap[w.heap.size + 1]? = some (.cells #[nilS, nilS, nilS, nilS, nilS] 32 (0, 0))) ∧ Hid (Gr w wr) ∧ Hid (hs.map (fun h => h.l) = (o.list.take k).map (fun l => cL l 0)) ∧ Hid (∀ h ∈ hs, InsR wr h.l h.A ∧ ∀ ad, h.A = some ad → cb < ad.block) ∧ Hid (∀ l ∈ o.list.take k, lnL l ≤ 4000))
  case atStart => exact ⟨0, [], rfl, rfl, Lib.hid rfl, hc4, hr4, hg4, Lib.hid (by simp), Lib.hid (fun h hh => by cases hh), Lib.hid (fun l hl => by simp at hl)⟩
  case round =>
   obtain ⟨k, hs, hk, rfl, hl, hc, hr, hg, hm, hI, hn⟩ := hrel
   clear hc4 hr4 hg4 hp4 p0 p1 p2 p3 p4 p5 p6 p7 p8
   by_cases hlt : k < 5
   ·obtain ⟨gq, rfl⟩ : ∃ g, gk = g + 1 := ⟨gk - 1, by omega⟩
    obtain ⟨l, A, m, hlk, hix, hSt⟩ := on_pick o a k hlt
    have hmem := List.mem_of_getElem? hlk
    obtain ⟨hol, hz⟩ := hop2.out l hmem
    obtain ⟨W5, hW5⟩ : ∃ W5, W5 = wr.alloc (.cells #[nilS] 48) := ⟨_, rfl⟩
    have hg5 := Lib.hid (show Gr wr W5 by rw [hW5]; exact grAlloc _ _)
    have hO5 : Hid (WrO W5 wr.heap.size nilS []) := Lib.hid ⟨by rw [hW5]; exact nBlk _ _ _ rfl, World.ownsRow_nil _ _ _ _⟩
    have hst := Lib.hid (stmts_any l wr W5 wr.heap.size nilS [] A m hg5.out (Nat.le_refl _) hO5.out ((hSt w HO.out).below hg.out) hol (HLO.out.gr hg.out) (by simp; omega))
    have hnx := Lib.hid (cL_len l 0)
    have hcbl := blkLt hc.out
    have htk : o.list.take (k + 1) = o.list.take k ++ [l] := by rw [List.take_add_one, hlk]; rfl
    have hv5 := vals_at (hs := hs) (by rw [hl.out]; exact hlt)
    rw [hl.out] at hv5
    generalize hqq : cL l 0 = q at *
    simp only [List.nil_append, List.length_nil, hqq] at hst
    have hqH := Lib.hid hqq
    have hHO2 := Lib.hid (fun (w6 : World) (v6 : Value) (hO6 : WrO w6 wr.heap.size v6 q) (hT6 : WrT wr.heap.size W5 nilS w6 v6) => hT6.base hO5.out hg5.out (Nat.le_refl _))
    clear hSt hol hmem hqq
    by_cases hlong : 4000 < lnL l
    ·have hlg : longB o.list = true := List.any_eq_true.2 ⟨l, List.mem_of_getElem? hlk, decide_eq_true hlong⟩
     have hlgH := Lib.hid hlg
     have tl : decide ((4000 : Int) < (q.length : Int)) = true := decide_eq_true (by have := hnx.out; omega)
     go_upto_region 7 with fail
     go_upto_region 8 with fail
     rw [← hW5]
     clear hW5
     go_upto_region 9 with (go_at_call 17; refine hst.out.mono ?_; rintro e w6 ⟨rfl, v6, hO6, hT6⟩; have hg6 := Lib.hid (hHO2.out w6 v6 hO6 hT6); obtain ⟨A6, c6, hv6, hR6, hA6⟩ := own_ins hO6.2 rfl; subst hv6; have hO6 := Lib.hid hO6; have hR6 := Lib.hid hR6; have hA6 := Lib.hid hA6)
     have f0 := cells1k hO6.out.1
     have hr6 := Lib.hid (grBlk hg6.out hr.out)
     have hc6 := Lib.hid (grBlk hg6.out hc.out)
     obtain ⟨r0, r1, r2, r3, r4⟩ := cells5k hr6.out
     have d0 := frz hr6.out 0
     have d1 := frz hr6.out 1
     have d2 := frz hr6.out 2
     have d3 := frz hr6.out 3
     have d4 := frz hr6.out 4
     go_wp2
     obtain ⟨hk9, hq9⟩ := hset.out w6 nilS nilS nilS nilS nilS nilS nilS nilS nilS nilS (hg.out.tr hg6.out) hr6.out
     generalize ((((w6.setCell ⟨w.heap.size + 1, 0, none⟩ nilS).setCell ⟨w.heap.size + 1, 1, none⟩ nilS).setCell ⟨w.heap.size + 1, 2, none⟩ nilS).setCell ⟨w.heap.size + 1, 3, none⟩ nilS).setCell ⟨w.heap.size + 1, 4, none⟩ nilS = W9 at *
     have hk9 := Lib.hid hk9
     have hq9 := Lib.hid hq9
     clear r0 r1 r2 r3 r4 d0 d1 d2 d3 d4
     obtain ⟨r0, r1, r2, r3, r4⟩ := cells5k hk9.out
     exact bodyPost_ret (v := .tuple #[zeroCd, .int .i64 2]) (by simp [results, Tryz.results8, go_sem, r0, r1, r2, r3, r4]) rfl ⟨.inr (.inl ⟨rfl, hlgH.out, rfl⟩), hq9.out⟩
    ·have tl : decide ((4000 : Int) < (q.length : Int)) = false := decide_eq_false (by have := hnx.out; omega)
     have hlong := Lib.hid hlong
     go_upto_region 7 with fail
     go_upto_region 8 with fail
     rw [← hW5]
     clear hW5
     go_upto_region 9 with (go_at_call 17; refine hst.out.mono ?_; rintro e w6 ⟨rfl, v6, hO6, hT6⟩; have hg6 := Lib.hid (hHO2.out w6 v6 hO6 hT6); obtain ⟨A6, c6, hv6, hR6, hA6⟩ := own_ins hO6.2 rfl; subst hv6; have hO6 := Lib.hid hO6; have hR6 := Lib.hid hR6; have hA6 := Lib.hid hA6)
     have f0 := cells1k hO6.out.1
     have hr6 := Lib.hid (grBlk hg6.out hr.out)
     have hc6 := Lib.hid (grBlk hg6.out hc.out)
     have hcl := hc6.out
     have ck : w6.cell? ⟨cb, k, none⟩ = some nilS := (cell_of_row _ _ k _ _ (0, 0) hcl).trans (by rw [List.getElem?_toArray]; exact hv5)
     have dk := frz hcl k
     have hc7 := heap_setCell_same w6 cb k _ _ (.slice A6 q.length c6) hcl
     rw [List.setIfInBounds_toArray] at hc7
     have hvs := vals_snoc (hs := hs) (h := ⟨q, A6, c6⟩) (by rw [hl.out]; exact hlt)
     rw [hl.out] at hvs
     have hc7 := Lib.hid (show (w6.setCell ⟨cb, k, none⟩ (.slice A6 q.length c6)).heap[cb]? = some (.cells (vals (hs ++ [⟨q, A6, c6⟩])).toArray 32 (0, 0)) by rw [← hvs]; exact hc7)
     have hr7 := Lib.hid ((heap_setCell_other w6 ⟨cb, k, none⟩ (w.heap.size + 1) (.slice A6 q.length c6) (by simp only; omega)).trans hr6.out)
     have hg7 := Lib.hid (belK (i := k) (u := .slice A6 q.length c6) (hg.out.tr hg6.out) (show w.heap.size ≤ cb by omega))
     have hI7 : Hid (∀ h ∈ hs ++ [(⟨q, A6, c6⟩ : Hd)], InsR (w6.setCell ⟨cb, k, none⟩ (.slice A6 q.length c6)) h.l h.A ∧ ∀ ad, h.A = some ad → cb < ad.block) := Lib.hid (fun h hh => by
      rcases List.mem_append.1 hh with hh | hh
      ·exact ⟨insSet ((hI.out h hh).1.gr hg6.out) (fun ad had => by have := (hI.out h hh).2 ad had; omega), (hI.out h hh).2⟩
      ·obtain rfl := List.mem_singleton.1 hh
       have hne : ∀ ad, A6 = some ad → cb < ad.block := fun ad had => by have := hA6.out ad had; omega
       exact ⟨insSet hR6.out (fun ad had => by have := hne ad had; omega), hne⟩)
     have hm7 : Hid ((hs ++ [(⟨q, A6, c6⟩ : Hd)]).map (fun h => h.l) = (o.list.take (k + 1)).map (fun l => cL l 0)) := Lib.hid (by rw [htk, List.map_append, List.map_append, hm.out, List.map_singleton, List.map_singleton, hqH.out])
     have hn7 : Hid (∀ l ∈ o.list.take (k + 1), lnL l ≤ 4000) := Lib.hid (fun y hy => by
      rw [htk] at hy
      rcases List.mem_append.1 hy with hy | hy
      ·exact hn.out y hy
      ·obtain rfl := List.mem_singleton.1 hy
       omega)
     have hl7 : Hid ((hs ++ [(⟨q, A6, c6⟩ : Hd)]).length = k + 1) := Lib.hid (by rw [List.length_append, hl.out]; rfl)
     clear hcl hvs hv5 htk hlk
     go_wp2
     go_roundg gq
     case measure => omega
     case rel => exact ⟨k + 1, hs ++ [⟨q, A6, c6⟩], by omega, by go_num, hl7, hc7, hr7, hg7, hm7, hI7, hn7⟩
   ·obtain rfl : gk = 0 := by omega
    obtain rfl : k = 5 := by omega
    have hlg : Hid (longB o.list = false) := Lib.hid (by
     rw [Bool.eq_false_iff]
     intro h
     obtain ⟨y, hy, hz⟩ := List.any_eq_true.1 h
     have := hn.out y hy
     have := of_decide_eq_true hz
     omega)
    obtain ⟨h0, h1, h2, h3, h4, rfl⟩ : ∃ h0 h1 h2 h3 h4 : Hd, hs = [h0, h1, h2, h3, h4] := by
     have := hl.out
     match hs, this with
     | [h0, h1, h2, h3, h4], _ => exact ⟨h0, h1, h2, h3, h4, rfl⟩
    obtain ⟨q0, q1, q2, q3, q4⟩ := cells5k (show wr.heap[cb]? = some (.cells (cdA h0 h1 h2 h3 h4) 32 (0, 0)) from hc.out)
    obtain ⟨r0, r1, r2, r3, r4⟩ := cells5k hr.out
    have d0 := frz hr.out 0
    have d1 := frz hr.out 1
    have d2 := frz hr.out 2
    have d3 := frz hr.out 3
    have d4 := frz hr.out 4
    obtain ⟨hk9, hq9⟩ := hset.out wr nilS nilS nilS nilS nilS (hdV h0) (hdV h1) (hdV h2) (hdV h3) (hdV h4) hg.out hr.out
    have hk9 := Lib.hid hk9
    have hq9 := Lib.hid hq9
    have hIf : Hid (∀ h ∈ [h0, h1, h2, h3, h4], InsR (((((wr.setCell ⟨w.heap.size + 1, 0, none⟩ (hdV h0)).setCell ⟨w.heap.size + 1, 1, none⟩ (hdV h1)).setCell ⟨w.heap.size + 1, 2, none⟩ (hdV h2)).setCell ⟨w.heap.size + 1, 3, none⟩ (hdV h3)).setCell ⟨w.heap.size + 1, 4, none⟩ (hdV h4)) h.l h.A) := Lib.hid (fun h hh => by
     have h1 := (hI.out h hh).1
     have h2 : ∀ ad, h.A = some ad → ad.block ≠ w.heap.size + 1 := fun ad had => by have := (hI.out h hh).2 ad had; omega
     exact insSet (insSet (insSet (insSet (insSet h1 h2) h2) h2) h2) h2)
    have hmf := Lib.hid (show [h0.l, h1.l, h2.l, h3.l, h4.l] = o.list.map (fun l => cL l 0) from hm.out)
    go_wp2
    generalize ((((wr.setCell ⟨w.heap.size + 1, 0, none⟩ (.slice h0.A h0.l.length h0.c)).setCell ⟨w.heap.size + 1, 1, none⟩ (.slice h1.A h1.l.length h1.c)).setCell ⟨w.heap.size + 1, 2, none⟩ (.slice h2.A h2.l.length h2.c)).setCell ⟨w.heap.size + 1, 3, none⟩ (.slice h3.A h3.l.length h3.c)).setCell ⟨w.heap.size + 1, 4, none⟩ (.slice h4.A h4.l.length h4.c) = W9 at *
    clear r0 r1 r2 r3 r4 d0 d1 d2 d3 d4
    obtain ⟨r0, r1, r2, r3, r4⟩ := cells5k hk9.out
    exact bodyPost_ret (v := .tuple #[.agg (cdA h0 h1 h2 h3 h4), .int .i64 0]) (by simp [results, Tryz.results8, go_sem, r0, r1, r2, r3, r4]) rfl ⟨.inr (.inr ⟨rfl, hlg.out, h0, h1, h2, h3, h4, rfl, hmf.out, hIf.out⟩), hq9.out⟩
end K
end Go.Proofs.YtamfgjinfcknfaaGreatDoor
namespace Go.Proofs.YtamfgjinfcknfaaGreatDoor
namespace K
open U (Ex St szK formB)
mutual
def FoX (n : Nat) : Ex → Prop
 | .mk op m u ks => U.formB n op m u ks.length = true ∧ FoK n ks
def FoK (n : Nat) : List Ex → Prop
 | [] => True
 | k :: ks => FoX n k ∧ FoK n ks
end
mutual
def FoS (n : Nat) : St → Prop
 | .mk k v r a b th el => FoX n a ∧ a.size ≤ 60 ∧ ((k = 1 ∧ 0 ≤ v ∧ v < n) ∨ (k = 2 ∧ (1 ≤ r ∧ r ≤ 6) ∧ FoX n b ∧ b.size ≤ 60 ∧ FoL n th ∧ FoL n el))
def FoL (n : Nat) : List St → Prop
 | [] => True
 | x :: xs => FoS n x ∧ FoL n xs
end
open U (Pw inf infK nodeP stM stsM handM szS szL) in
mutual
theorem inf_fo {s : List Pw} : ∀ (t : Ex) {q : Pw}, inf s t = .ok q → FoX s.length t
 | .mk op n u ks, q, h => by
  rw [U.inf] at h
  rcases hk : infK s ks with e | ps
  ·rw [hk] at h; cases h
  ·rw [hk] at h
   simp only at h
   rw [FoX]
   have h2 := infK_fo ks hk
   have h3 := U.infK_len hk
   unfold U.nodeP at h
   split at h
   ·rename_i g
    rw [h3] at g
    exact ⟨g, h2⟩
   ·cases h
theorem infK_fo {s : List Pw} : ∀ (ks : List Ex) {ps : List Pw}, infK s ks = .ok ps → FoK s.length ks
 | [], ps, h => by rw [FoK]; trivial
 | k :: ks, ps, h => by
  rw [U.infK] at h
  rw [FoK]
  rcases hk : inf s k with e | p
  ·rw [hk] at h; cases h
  ·rw [hk] at h
   simp only at h
   rcases hks : infK s ks with e | qs
   ·rw [hks] at h; cases h
   ·exact ⟨inf_fo k hk, infK_fo ks hks⟩
end
open U (Pw inf infK nodeP stM stsM handM szS szL) in
mutual
theorem st_fo {s : List Pw} : ∀ x : St, stM s x = 0 → szS x → FoS s.length x
 | .mk k v r a b th el, h, hz => by
  rw [U.stM] at h
  rw [U.szS] at hz
  rw [FoS]
  by_cases h1 : k = 1
  ·rw [if_pos h1] at h
   unfold U.assignM at h
   split at h
   ·rename_i g
    simp only [U.btw, Bool.and_eq_true, decide_eq_true_eq] at g
    rcases ha : inf s a with e | p
    ·rw [ha] at h
     have := U.inf_err a ha
     simp only at h
     omega
    ·exact ⟨inf_fo a ha, hz.1, .inl ⟨h1, g.1, by omega⟩⟩
   ·cases h
  ·rw [if_neg h1] at h
   split at h
   ·rename_i h2
    split at h
    ·rename_i g
     simp only [U.btw, Bool.and_eq_true, decide_eq_true_eq] at g
     split at h
     ·rename_i hc
      unfold U.cmpM at hc
      rcases ha : inf s a with e | p
      ·rw [ha] at hc
       have := U.inf_err a ha
       simp only at hc
       omega
      rw [ha] at hc
      simp only at hc
      rcases hb : inf s b with e | q
      ·rw [hb] at hc
       have := U.inf_err b hb
       simp only at hc
       omega
      obtain ⟨z1, z2, z3⟩ := hz.2 h2
      split at h
      ·rename_i gt
       exact ⟨inf_fo a ha, hz.1, .inr ⟨h2, g, inf_fo b hb, z1, sts_fo th gt z2, sts_fo el h z3⟩⟩
      ·rename_i gt
       exact absurd h gt
     ·rename_i gc
      exact absurd h gc
    ·cases h
   ·cases h
theorem sts_fo {s : List Pw} : ∀ l : List St, stsM s l = 0 → szL l → FoL s.length l
 | [], _, _ => by rw [FoL]; trivial
 | x :: xs, h, hz => by
  rw [U.stsM] at h
  rw [U.szL] at hz
  rw [FoL]
  split at h
  ·rename_i g
   exact ⟨st_fo x g hz.1, sts_fo xs h hz.2⟩
  ·rename_i g
   exact absurd h g
end
theorem hand_fo {s : List U.Pw} {l : List St} (h : U.handM s l = 0) : FoL s.length l := by
 unfold U.handM at h
 split at h
 ·rename_i g
  exact sts_fo l h (U.evL_sz l 100 g)
 ·cases h
theorem valPM_fo {x : ByteArray} {vs : List U.Vr} {on : List (List St)} {wi pa : Int} (h : C.valPM x vs on wi pa = true) : ∀ l ∈ on, FoL vs.length l := by
 unfold C.valPM at h
 rw [Bool.and_eq_true, decide_eq_true_eq] at h
 have h := h.1
 unfold U.checkM at h
 rcases hs : U.scopeM (vs.map (·.u)) with _ | s
 ·rw [hs] at h; cases h
 ·rw [hs] at h
  simp only at h
  have hl : s.length = vs.length := by
   unfold U.scopeM at hs
   split at hs
   ·cases hs; simp
   ·cases hs
  intro l hm
  rw [← hl]
  exact hand_fo (chk_all h l hm)
end K
end Go.Proofs.YtamfgjinfcknfaaGreatDoor
