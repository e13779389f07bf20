/- Texts of one proof: KzF. -/
import Derived.Test.YtamfgjinfcknfaaGreatDoorZv
import Derived.Test.YtamfgjinfcknfaaGreatDoorZq
set_option linter.unusedVariables false
set_option linter.unusedSimpArgs false
set_option maxRecDepth 100000
set_option maxHeartbeats 8000000
namespace Go.Proofs.YtamfgjinfcknfaaGreatDoor
open Go.RowKit
namespace K
open U (Ex St szK KidsE ev eArr StsR sv sArr)
def StmtsC (ss : List St) : Prop := ∀ (W0 w : World) (B : Nat) (v : Value) (l : List In) (A : Option Addr) (m : Nat), Gr W0 w → W0.heap.size ≤ B → WrO w B v l → StsR W0 ss A → OpL ss → LaidO W0 → l.length + lnL ss ≤ 50000 →
 Calls Tryz.prog 17 #[.pointer (some ⟨B, 0, none⟩), .slice A ss.length m] w (WrP w B v (l ++ cL ss l.length))
theorem assignment_any (W0 w : World) (B : Nat) (v : Value) (l : List In) (x : St) (A : Option Addr) (c : Nat) (Bk : Option Addr) (d : Nat) (T : Option Addr) (m : Nat) (E : Option Addr) (n : Nat) (hg : Gr W0 w) (hB : W0.heap.size ≤ B) (hO : WrO w B v l) (hK : KidsE W0 x.a.kids A) (hop : OpX x.a) (hL : LaidO W0) (hlen : l.length + x.a.size + 1 ≤ 50000) :
  Calls Tryz.prog 35 #[.pointer (some ⟨B, 0, none⟩), sv x A c Bk d T m E n] w (WrP w B v (l ++ (cE x.a ++ [⟨11, x.var, 0⟩]))) := by
 obtain ⟨W1, hW1⟩ : ∃ W1, W1 = w.alloc (.cells (sArr x A c Bk d T m E n) 65) := ⟨_, rfl⟩
 have hg1 := Lib.hid (show Gr w W1 by rw [hW1]; exact grAlloc _ _)
 have hb1 := Lib.hid (show W1.heap[w.heap.size]? = some (.cells (sArr x A c Bk d T m E n) 65 (0, 0)) by rw [hW1]; exact nBlk _ _ _ rfl)
 have hq := Lib.hid (expr_any x.a W0 W1 B v l A c (hg.tr hg1.out) hB (hO.gr hg1.out) hK hop hL (by omega))
 have hT1 := Lib.hid (WrT.of_gr (B := B) (v := v) hg1.out)
 have hov : Hid (v.ownBlock ≠ some w.heap.size) := Lib.hid (fun e => by have := (hO.own_lt e).2; omega)
 have hBw := hO.lt
 have hl2 := Lib.hid (show (l ++ cE x.a).length ≤ 100000 by rw [List.length_append, cE_len]; omega)
 have hap := Lib.hid (List.append_assoc l (cE x.a) [⟨11, x.var, 0⟩])
 rw [← hap.out]
 obtain ⟨y0, y1, y2, y3, y4, y5, y6, y7, y8, y9, ya, yb, yc⟩ := U.cells13 hb1.out
 clear hg hO hK hop hL hlen
 go_enter Tryz.func35, Tryz.ntmps35
 go_upto_region 1 with fail
 rw [← hW1]
 clear hW1
 go_wp2_with (first
  | (go_at_call 55; refine hq.out.mono ?_; rintro e w8 ⟨rfl, v8, hO8, hT8⟩; have hO8 := Lib.hid hO8; have hb8 := Lib.hid (hT8.keep hb1.out (by omega) hov.out); have hT8 := Lib.hid (hT1.out.trans hT8); clear y0 y1 y2 y3 y4 y5 y6 y7 y8 y9 ya yb yc; obtain ⟨y0, y1, y2, y3, y4, y5, y6, y7, y8, y9, ya, yb, yc⟩ := U.cells13 hb8.out)
  | (go_at_call 56; refine (put_any _ B v8 (l ++ cE x.a) ⟨11, x.var, 0⟩ hO8.out hl2.out).mono ?_; rintro e w9 ⟨rfl, v9, hO9, hT9⟩; have hO9 := Lib.hid hO9; have hT9 := Lib.hid (hT8.out.trans hT9)))
 exact ⟨rfl, .tuple #[], by simp [results, Tryz.results35, go_sem], rfl, v9, hO9.out, hT9.out⟩
theorem choice_any (W0 w : World) (B : Nat) (v : Value) (l : List In) (x : St) (A : Option Addr) (c : Nat) (Bk : Option Addr) (d : Nat) (T : Option Addr) (m : Nat) (E : Option Addr) (n : Nat) (hg : Gr W0 w) (hB : W0.heap.size ≤ B) (hO : WrO w B v l) (hKa : KidsE W0 x.a.kids A) (hKb : KidsE W0 x.b.kids Bk) (hTh : StsR W0 x.th T) (hEl : StsR W0 x.el E)
  (hop : OpS x) (hk : x.kind = 2) (hL : LaidO W0) (hlen : l.length + lnS x ≤ 50000) (ihT : StmtsC x.th) (ihE : StmtsC x.el) :
  Calls Tryz.prog 36 #[.pointer (some ⟨B, 0, none⟩), sv x A c Bk d T m E n] w (WrP w B v (l ++ cS x l.length)) := by
 obtain ⟨hopa, hop2⟩ := OpS_of hop
 obtain ⟨hopb, hopt, hope⟩ := hop2 hk
 have hln := lnS_if hk
 obtain ⟨R, hR⟩ : ∃ R, l ++ cS x l.length = R := ⟨_, rfl⟩
 obtain ⟨L1, hL1⟩ : ∃ L1, L1 = l ++ cE x.a := ⟨_, rfl⟩
 obtain ⟨P, hP⟩ : ∃ P, P = L1 ++ cE x.b := ⟨_, rfl⟩
 obtain ⟨L3, hL3⟩ : ∃ L3, L3 = P ++ [⟨12, 0, x.rel⟩] := ⟨_, rfl⟩
 obtain ⟨L4, hL4⟩ : ∃ L4, L4 = L3 ++ cL x.th L3.length := ⟨_, rfl⟩
 have n1 : L1.length = l.length + x.a.size := by rw [hL1, List.length_append, cE_len]
 have nP : P.length = l.length + x.a.size + x.b.size := by rw [hP, List.length_append, cE_len, n1]
 have n3 : L3.length = l.length + x.a.size + x.b.size + 1 := by rw [hL3, List.length_append, nP]; rfl
 have n4 : L4.length = l.length + x.a.size + x.b.size + 1 + lnL x.th := by rw [hL4, List.length_append, cL_len, n3]
 obtain ⟨W1, hW1⟩ : ∃ W1, W1 = w.alloc (.cells (sArr x A c Bk d T m E n) 65) := ⟨_, rfl⟩
 have hgr1 := Lib.hid (show Gr w W1 by rw [hW1]; exact grAlloc _ _)
 have hb1 := Lib.hid (show W1.heap[w.heap.size]? = some (.cells (sArr x A c Bk d T m E n) 65 (0, 0)) by rw [hW1]; exact nBlk _ _ _ rfl)
 have hg1 := Lib.hid (hg.tr hgr1.out)
 have hO1 := Lib.hid (hO.gr hgr1.out)
 have hT1 := Lib.hid (WrT.of_gr (B := B) (v := v) hgr1.out)
 have hv1 : Hid (v.ownBlock ≠ some w.heap.size) := Lib.hid (fun e => by have := (hO.own_lt e).2; omega)
 have hBw := hO.lt
 have hBH := Lib.hid hB
 have HA := Lib.hid (fun (wx : World) (vx : Value) (hgx : Gr W0 wx) (hox : WrO wx B vx l) => expr_any x.a W0 wx B vx l A c hgx hB hox hKa hopa hL (by omega))
 have HB := Lib.hid (fun (wx : World) (vx : Value) (hgx : Gr W0 wx) (hox : WrO wx B vx L1) => expr_any x.b W0 wx B vx L1 Bk d hgx hB hox hKb hopb hL (by omega))
 have HP := Lib.hid (fun (wx : World) (vx : Value) (hox : WrO wx B vx P) => putForward_any wx B vx P ⟨12, 0, x.rel⟩ hox (by omega))
 have HT := Lib.hid (fun (wx : World) (vx : Value) (hgx : Gr W0 wx) (hox : WrO wx B vx L3) => ihT W0 wx B vx L3 T m hgx hB hox hTh hopt hL (by omega))
 rw [← hL1] at HA
 rw [← hP] at HB
 have hX3 := Lib.hid hL3
 rw [← hL4] at HT
 have hX1 := Lib.hid hL1
 rw [hR]
 obtain ⟨y0, y1, y2, y3, y4, y5, y6, y7, y8, y9, ya, yb, yc⟩ := U.cells13 hb1.out
 by_cases he : x.el.length = 0
 ·obtain ⟨g1, g2, g3⟩ := choice_no (l := l) (P := P) (L3 := L3) (L4 := L4) hk he (by rw [hP, hL1]) hL3 hL4
  rw [hR] at g3
  have hte : decide (0 < x.el.length) = false := decide_eq_false (by omega)
  have hAr := Lib.hid (fun (wx : World) (vx : Value) (b c : Nat) (hox : WrO wx B vx L4) (hf : FwR wx B b c P.length) => arrive_any wx B vx L4 b c P.length _ hox hf g1 (by omega))
  simp only [g3] at hAr
  clear hP hL3 hL4 hg hB hO hKa hKb hTh hEl hop hopa hop2 hopb hopt hope hL hlen ihT ihE hln hk hR g1 g2 g3 n1 nP n3 n4 hL1 he
  go_enter Tryz.func36, Tryz.ntmps36
  go_upto_region 1 with fail
  rw [← hW1]
  clear hW1
  go_upto_region 2 with (go_at_call 55; refine (HA.out _ _ hg1.out hO1.out).mono ?_; rintro e w2 ⟨rfl, v2, hO2, hT2⟩; have hO2 := Lib.hid hO2; have hb2 := Lib.hid (hT2.keep hb1.out (by omega) hv1.out); have hv2 := Lib.hid (hT2.not_own (blkLt hb1.out) hv1.out); have hg2 := Lib.hid (hT2.base hO1.out hg1.out hBH.out); have hT2 := Lib.hid (hT1.out.trans hT2); clear y0 y1 y2 y3 y4 y5 y6 y7 y8 y9 ya yb yc; obtain ⟨y0, y1, y2, y3, y4, y5, y6, y7, y8, y9, ya, yb, yc⟩ := U.cells13 hb2.out)
  go_upto_region 3 with (go_at_call 55; refine (HB.out _ _ hg2.out hO2.out).mono ?_; rintro e w3 ⟨rfl, v3, hO3, hT3⟩; have hO3 := Lib.hid hO3; have hb3 := Lib.hid (hT3.keep hb2.out (by omega) hv2.out); have hv3 := Lib.hid (hT3.not_own (blkLt hb2.out) hv2.out); have hg3 := Lib.hid (hT3.base hO2.out hg2.out hBH.out); have hT3 := Lib.hid (hT2.out.trans hT3); clear y0 y1 y2 y3 y4 y5 y6 y7 y8 y9 ya yb yc; obtain ⟨y0, y1, y2, y3, y4, y5, y6, y7, y8, y9, ya, yb, yc⟩ := U.cells13 hb3.out)
  go_upto_region 4 with (go_at_call 57; refine (HP.out _ _ hO3.out).mono ?_; rintro e w4 ⟨b, c, v4, rfl, hf4, hO4, hT4, hbl, hcl, hvb, hvc⟩; rw [← hX3.out] at hO4; have hO4 := Lib.hid hO4; have hb4 := Lib.hid (hT4.keep hb3.out (by omega) hv3.out); have hv4 := Lib.hid (hT4.not_own (blkLt hb3.out) hv3.out); have hg4 := Lib.hid (hT4.base hO3.out hg3.out hBH.out); have hT4 := Lib.hid (hT3.out.trans hT4); clear y0 y1 y2 y3 y4 y5 y6 y7 y8 y9 ya yb yc; obtain ⟨y0, y1, y2, y3, y4, y5, y6, y7, y8, y9, ya, yb, yc⟩ := U.cells13 hb4.out; have hf4 := Lib.hid hf4; have hvb := Lib.hid hvb; have hvc := Lib.hid hvc; have hBb := Lib.hid (show B < b ∧ B < c by have := hO3.out.lt; omega))
  go_upto_region 5 with (go_at_call 17; refine (HT.out _ _ hg4.out hO4.out).mono ?_; rintro e w5 ⟨rfl, v5, hO5, hT5⟩; have hO5 := Lib.hid hO5; have hb5 := Lib.hid (hT5.keep hb4.out (by omega) hv4.out); have hv5 := Lib.hid (hT5.not_own (blkLt hb4.out) hv4.out); have hf5 := Lib.hid (FwR.keep hf4.out hT5 hBb.out ⟨hvb.out, hvc.out⟩); have hvb5 := Lib.hid (hT5.not_own (blkLt hf4.out.1) hvb.out); have hvc5 := Lib.hid (hT5.not_own (blkLt hf4.out.2) hvc.out); have hg5 := Lib.hid (hT5.base hO4.out hg4.out hBH.out); have hT5 := Lib.hid (hT4.out.trans hT5); clear y0 y1 y2 y3 y4 y5 y6 y7 y8 y9 ya yb yc; obtain ⟨y0, y1, y2, y3, y4, y5, y6, y7, y8, y9, ya, yb, yc⟩ := U.cells13 hb5.out)
  go_upto_region 10 with fail
  have hTx := hT5
  go_wp2_with (go_at_call 72; refine (hAr.out _ _ _ _ hO5.out hf5.out).mono ?_; rintro e w9 ⟨rfl, v9, hO9, hT9⟩; have hO9 := Lib.hid hO9; have hT9 := Lib.hid hT9)
  exact ⟨rfl, .tuple #[], by simp [results, Tryz.results36, go_sem], rfl, v9, hO9.out, hTx.out.trans hT9.out⟩
 ·obtain ⟨L5, hL5⟩ : ∃ L5, L5 = L4 ++ [⟨13, 0, 0⟩] := ⟨_, rfl⟩
  obtain ⟨L6, hL6⟩ : ∃ L6, L6 = L5.set P.length ⟨12, L5.length, x.rel⟩ := ⟨_, rfl⟩
  obtain ⟨L7, hL7⟩ : ∃ L7, L7 = L6 ++ cL x.el L6.length := ⟨_, rfl⟩
  obtain ⟨g1, g2, g3, g4, g5⟩ := choice_else (l := l) (P := P) (L3 := L3) (L4 := L4) (L5 := L5) (L6 := L6) (L7 := L7) hk he (by rw [hP, hL1]) hL3 hL4 hL5 hL6 hL7
  rw [hR] at g4
  rw [if_neg he] at hln
  have hte : decide (0 < x.el.length) = true := decide_eq_true (by omega)
  have n5 : L5.length = L4.length + 1 := by rw [hL5, List.length_append]; rfl
  have HJ := Lib.hid (fun (wx : World) (vx : Value) (hox : WrO wx B vx L4) => putForward_any wx B vx L4 ⟨13, 0, 0⟩ hox (by omega))
  have hX5 := Lib.hid hL5
  have hAr := Lib.hid (fun (wx : World) (vx : Value) (b c : Nat) (hox : WrO wx B vx L5) (hf : FwR wx B b c P.length) => arrive_any wx B vx L5 b c P.length _ hox hf g1 (by omega))
  simp only [← hL6] at hAr
  have HE := Lib.hid (fun (wx : World) (vx : Value) (hgx : Gr W0 wx) (hox : WrO wx B vx L6) => ihE W0 wx B vx L6 E n hgx hB hox hEl hope hL (by omega))
  rw [← hL7] at HE
  have hAs := Lib.hid (fun (wx : World) (vx : Value) (b c : Nat) (hox : WrO wx B vx L7) (hf : FwR wx B b c L4.length) => arrive_any wx B vx L7 b c L4.length _ hox hf g2 (by omega))
  simp only [g4] at hAs
  clear hP hL3 hL4 hg hB hO hKa hKb hTh hEl hop hopa hop2 hopb hopt hope hL hlen ihT ihE hln hk hR g1 g2 g3 g4 g5 n1 nP n3 n4 hL1 he hL5 hL6 hL7 n5
  go_enter Tryz.func36, Tryz.ntmps36
  go_upto_region 1 with fail
  rw [← hW1]
  clear hW1
  go_upto_region 2 with (go_at_call 55; refine (HA.out _ _ hg1.out hO1.out).mono ?_; rintro e w2 ⟨rfl, v2, hO2, hT2⟩; have hO2 := Lib.hid hO2; have hb2 := Lib.hid (hT2.keep hb1.out (by omega) hv1.out); have hv2 := Lib.hid (hT2.not_own (blkLt hb1.out) hv1.out); have hg2 := Lib.hid (hT2.base hO1.out hg1.out hBH.out); have hT2 := Lib.hid (hT1.out.trans hT2); clear y0 y1 y2 y3 y4 y5 y6 y7 y8 y9 ya yb yc; obtain ⟨y0, y1, y2, y3, y4, y5, y6, y7, y8, y9, ya, yb, yc⟩ := U.cells13 hb2.out)
  go_upto_region 3 with (go_at_call 55; refine (HB.out _ _ hg2.out hO2.out).mono ?_; rintro e w3 ⟨rfl, v3, hO3, hT3⟩; have hO3 := Lib.hid hO3; have hb3 := Lib.hid (hT3.keep hb2.out (by omega) hv2.out); have hv3 := Lib.hid (hT3.not_own (blkLt hb2.out) hv2.out); have hg3 := Lib.hid (hT3.base hO2.out hg2.out hBH.out); have hT3 := Lib.hid (hT2.out.trans hT3); clear y0 y1 y2 y3 y4 y5 y6 y7 y8 y9 ya yb yc; obtain ⟨y0, y1, y2, y3, y4, y5, y6, y7, y8, y9, ya, yb, yc⟩ := U.cells13 hb3.out)
  go_upto_region 4 with (go_at_call 57; refine (HP.out _ _ hO3.out).mono ?_; rintro e w4 ⟨b, c, v4, rfl, hf4, hO4, hT4, hbl, hcl, hvb, hvc⟩; rw [← hX3.out] at hO4; have hO4 := Lib.hid hO4; have hb4 := Lib.hid (hT4.keep hb3.out (by omega) hv3.out); have hv4 := Lib.hid (hT4.not_own (blkLt hb3.out) hv3.out); have hg4 := Lib.hid (hT4.base hO3.out hg3.out hBH.out); have hT4 := Lib.hid (hT3.out.trans hT4); clear y0 y1 y2 y3 y4 y5 y6 y7 y8 y9 ya yb yc; obtain ⟨y0, y1, y2, y3, y4, y5, y6, y7, y8, y9, ya, yb, yc⟩ := U.cells13 hb4.out; have hf4 := Lib.hid hf4; have hvb := Lib.hid hvb; have hvc := Lib.hid hvc; have hBb := Lib.hid (show B < b ∧ B < c by have := hO3.out.lt; omega))
  go_upto_region 5 with (go_at_call 17; refine (HT.out _ _ hg4.out hO4.out).mono ?_; rintro e w5 ⟨rfl, v5, hO5, hT5⟩; have hO5 := Lib.hid hO5; have hb5 := Lib.hid (hT5.keep hb4.out (by omega) hv4.out); have hv5 := Lib.hid (hT5.not_own (blkLt hb4.out) hv4.out); have hf5 := Lib.hid (FwR.keep hf4.out hT5 hBb.out ⟨hvb.out, hvc.out⟩); have hvb5 := Lib.hid (hT5.not_own (blkLt hf4.out.1) hvb.out); have hvc5 := Lib.hid (hT5.not_own (blkLt hf4.out.2) hvc.out); have hg5 := Lib.hid (hT5.base hO4.out hg4.out hBH.out); have hT5 := Lib.hid (hT4.out.trans hT5); clear y0 y1 y2 y3 y4 y5 y6 y7 y8 y9 ya yb yc; obtain ⟨y0, y1, y2, y3, y4, y5, y6, y7, y8, y9, ya, yb, yc⟩ := U.cells13 hb5.out)
  go_upto_region 6 with fail
  go_upto_region 7 with (go_at_call 57; refine (HJ.out _ _ hO5.out).mono ?_; rintro e w6 ⟨b2, c2, v6, rfl, hq6, hO6, hT6, hbl2, hcl2, hwb, hwc⟩; rw [← hX5.out] at hO6; have hO6 := Lib.hid hO6; have hb6 := Lib.hid (hT6.keep hb5.out (by omega) hv5.out); have hv6 := Lib.hid (hT6.not_own (blkLt hb5.out) hv5.out); have hf6 := Lib.hid (FwR.keep hf5.out hT6 hBb.out ⟨hvb5.out, hvc5.out⟩); have hvb6 := Lib.hid (hT6.not_own (blkLt hf5.out.1) hvb5.out); have hvc6 := Lib.hid (hT6.not_own (blkLt hf5.out.2) hvc5.out); have hg6 := Lib.hid (hT6.base hO5.out hg5.out hBH.out); have hT6 := Lib.hid (hT5.out.trans hT6); clear y0 y1 y2 y3 y4 y5 y6 y7 y8 y9 ya yb yc; obtain ⟨y0, y1, y2, y3, y4, y5, y6, y7, y8, y9, ya, yb, yc⟩ := U.cells13 hb6.out; have hq6 := Lib.hid hq6; have hwb := Lib.hid hwb; have hwc := Lib.hid hwc; have hBq := Lib.hid (show B < b2 ∧ B < c2 by have := hO5.out.lt; omega))
  go_upto_region 8 with (go_at_call 72; refine (hAr.out _ _ _ _ hO6.out hf6.out).mono ?_; rintro e w7 ⟨rfl, v7, hO7, hT7⟩; have hO7 := Lib.hid hO7; have hb7 := Lib.hid (hT7.keep hb6.out (by omega) hv6.out); have hv7 := Lib.hid (hT7.not_own (blkLt hb6.out) hv6.out); have hf7 := Lib.hid (FwR.keep hq6.out hT7 hBq.out ⟨hwb.out, hwc.out⟩); have hvb7 := Lib.hid (hT7.not_own (blkLt hq6.out.1) hwb.out); have hvc7 := Lib.hid (hT7.not_own (blkLt hq6.out.2) hwc.out); have hg7 := Lib.hid (hT7.base hO6.out hg6.out hBH.out); have hT7 := Lib.hid (hT6.out.trans hT7); clear y0 y1 y2 y3 y4 y5 y6 y7 y8 y9 ya yb yc; obtain ⟨y0, y1, y2, y3, y4, y5, y6, y7, y8, y9, ya, yb, yc⟩ := U.cells13 hb7.out)
  go_upto_region 9 with (go_at_call 17; refine (HE.out _ _ hg7.out hO7.out).mono ?_; rintro e w8 ⟨rfl, v8, hO8, hT8⟩; have hO8 := Lib.hid hO8; have hb8 := Lib.hid (hT8.keep hb7.out (by omega) hv7.out); have hv8 := Lib.hid (hT8.not_own (blkLt hb7.out) hv7.out); have hf8 := Lib.hid (FwR.keep hf7.out hT8 hBq.out ⟨hvb7.out, hvc7.out⟩); have hvb8 := Lib.hid (hT8.not_own (blkLt hf7.out.1) hvb7.out); have hvc8 := Lib.hid (hT8.not_own (blkLt hf7.out.2) hvc7.out); have hg8 := Lib.hid (hT8.base hO7.out hg7.out hBH.out); have hT8 := Lib.hid (hT7.out.trans hT8); clear y0 y1 y2 y3 y4 y5 y6 y7 y8 y9 ya yb yc; obtain ⟨y0, y1, y2, y3, y4, y5, y6, y7, y8, y9, ya, yb, yc⟩ := U.cells13 hb8.out)
  go_upto_region 10 with fail
  have hTx := hT8
  go_wp2_with (go_at_call 72; refine (hAs.out _ _ _ _ hO8.out hf8.out).mono ?_; rintro e w9 ⟨rfl, v9, hO9, hT9⟩; have hO9 := Lib.hid hO9; have hT9 := Lib.hid hT9)
  exact ⟨rfl, .tuple #[], by simp [results, Tryz.results36, go_sem], rfl, v9, hO9.out, hTx.out.trans hT9.out⟩
end K
end Go.Proofs.YtamfgjinfcknfaaGreatDoor
