/- Texts of one proof: KzF, KzG, LxA, LxB. -/
import Derived.Test.YtfmjbfpjkilpcaaGreatDoorZi
import Derived.Test.YtfmjbfpjkilpcaaGreatDoorRows
import Derived.WalkKit
import Derived.LoopTactic
import Derived.Outline
import Derived.Deep.QuietTactic
import Derived.BigQuiet
import Derived.Lib.Hide
import Derived.Below
import Derived.Lib.LaidTab
set_option linter.unusedVariables false
set_option linter.unusedSimpArgs false
set_option maxRecDepth 100000
set_option maxHeartbeats 8000000
namespace Go.Proofs.YtfmjbfpjkilpcaaGreatDoor
open Go.RowKit
namespace K
open U (Ex St szK KidsE ev eArr StsR sv sArr)
def StmtsC (ss : List St) : Prop := ∀ (W0 w : World) (B : Nat) (v : Value) (l : List In) (A : Option Addr) (m : Nat), Gr W0 w → W0.heap.size ≤ B → WrO w B v l → StsR W0 ss A → OpL ss → LaidO W0 → l.length + lnL ss ≤ 50000 →
 Calls Tryz.prog 16 #[.pointer (some ⟨B, 0, none⟩), .slice A ss.length m] w (WrP w B v (l ++ cL ss l.length))
theorem assignment_any (W0 w : World) (B : Nat) (v : Value) (l : List In) (x : St) (A : Option Addr) (c : Nat) (Bk : Option Addr) (d : Nat) (T : Option Addr) (m : Nat) (E : Option Addr) (n : Nat) (hg : Gr W0 w) (hB : W0.heap.size ≤ B) (hO : WrO w B v l) (hK : KidsE W0 x.a.kids A) (hop : OpX x.a) (hL : LaidO W0) (hlen : l.length + x.a.size + 1 ≤ 50000) :
  Calls Tryz.prog 27 #[.pointer (some ⟨B, 0, none⟩), sv x A c Bk d T m E n] w (WrP w B v (l ++ (cE x.a ++ [⟨11, x.var, 0⟩]))) := by
 obtain ⟨W1, hW1⟩ : ∃ W1, W1 = w.alloc (.cells (sArr x A c Bk d T m E n) 63) := ⟨_, rfl⟩
 have hg1 := Lib.hid (show Gr w W1 by rw [hW1]; exact grAlloc _ _)
 have hb1 := Lib.hid (show W1.heap[w.heap.size]? = some (.cells (sArr x A c Bk d T m E n) 63 (0, 0)) by rw [hW1]; exact nBlk _ _ _ rfl)
 have hq := Lib.hid (expr_any x.a W0 W1 B v l A c (hg.tr hg1.out) hB (hO.gr hg1.out) hK hop hL (by omega))
 have hT1 := Lib.hid (WrT.of_gr (B := B) (v := v) hg1.out)
 have hov : Hid (v.ownBlock ≠ some w.heap.size) := Lib.hid (fun e => by have := (hO.own_lt e).2; omega)
 have hBw := hO.lt
 have hl2 := Lib.hid (show (l ++ cE x.a).length ≤ 100000 by rw [List.length_append, cE_len]; omega)
 have hap := Lib.hid (List.append_assoc l (cE x.a) [⟨11, x.var, 0⟩])
 rw [← hap.out]
 obtain ⟨y0, y1, y2, y3, y4, y5, y6, y7, y8, y9, ya, yb, yc⟩ := U.cells13 hb1.out
 clear hg hO hK hop hL hlen
 go_enter Tryz.func27, Tryz.ntmps27
 go_upto_region 1 with fail
 rw [← hW1]
 clear hW1
 go_wp2_with (first
  | (go_at_call 36; refine hq.out.mono ?_; rintro e w8 ⟨rfl, v8, hO8, hT8⟩; have hO8 := Lib.hid hO8; have hb8 := Lib.hid (hT8.keep hb1.out (by omega) hov.out); have hT8 := Lib.hid (hT1.out.trans hT8); clear y0 y1 y2 y3 y4 y5 y6 y7 y8 y9 ya yb yc; obtain ⟨y0, y1, y2, y3, y4, y5, y6, y7, y8, y9, ya, yb, yc⟩ := U.cells13 hb8.out)
  | (go_at_call 37; refine (put_any _ B v8 (l ++ cE x.a) ⟨11, x.var, 0⟩ hO8.out hl2.out).mono ?_; rintro e w9 ⟨rfl, v9, hO9, hT9⟩; have hO9 := Lib.hid hO9; have hT9 := Lib.hid (hT8.out.trans hT9)))
 exact ⟨rfl, .tuple #[], by simp [results, Tryz.results27, go_sem], rfl, v9, hO9.out, hT9.out⟩
theorem choice_any (W0 w : World) (B : Nat) (v : Value) (l : List In) (x : St) (A : Option Addr) (c : Nat) (Bk : Option Addr) (d : Nat) (T : Option Addr) (m : Nat) (E : Option Addr) (n : Nat) (hg : Gr W0 w) (hB : W0.heap.size ≤ B) (hO : WrO w B v l) (hKa : KidsE W0 x.a.kids A) (hKb : KidsE W0 x.b.kids Bk) (hTh : StsR W0 x.th T) (hEl : StsR W0 x.el E)
  (hop : OpS x) (hk : x.kind = 2) (hL : LaidO W0) (hlen : l.length + lnS x ≤ 50000) (ihT : StmtsC x.th) (ihE : StmtsC x.el) :
  Calls Tryz.prog 28 #[.pointer (some ⟨B, 0, none⟩), sv x A c Bk d T m E n] w (WrP w B v (l ++ cS x l.length)) := by
 obtain ⟨hopa, hop2⟩ := OpS_of hop
 obtain ⟨hopb, hopt, hope⟩ := hop2 hk
 have hln := lnS_if hk
 obtain ⟨R, hR⟩ : ∃ R, l ++ cS x l.length = R := ⟨_, rfl⟩
 obtain ⟨L1, hL1⟩ : ∃ L1, L1 = l ++ cE x.a := ⟨_, rfl⟩
 obtain ⟨P, hP⟩ : ∃ P, P = L1 ++ cE x.b := ⟨_, rfl⟩
 obtain ⟨L3, hL3⟩ : ∃ L3, L3 = P ++ [⟨12, 0, x.rel⟩] := ⟨_, rfl⟩
 obtain ⟨L4, hL4⟩ : ∃ L4, L4 = L3 ++ cL x.th L3.length := ⟨_, rfl⟩
 have n1 : L1.length = l.length + x.a.size := by rw [hL1, List.length_append, cE_len]
 have nP : P.length = l.length + x.a.size + x.b.size := by rw [hP, List.length_append, cE_len, n1]
 have n3 : L3.length = l.length + x.a.size + x.b.size + 1 := by rw [hL3, List.length_append, nP]; rfl
 have n4 : L4.length = l.length + x.a.size + x.b.size + 1 + lnL x.th := by rw [hL4, List.length_append, cL_len, n3]
 obtain ⟨W1, hW1⟩ : ∃ W1, W1 = w.alloc (.cells (sArr x A c Bk d T m E n) 63) := ⟨_, rfl⟩
 have hgr1 := Lib.hid (show Gr w W1 by rw [hW1]; exact grAlloc _ _)
 have hb1 := Lib.hid (show W1.heap[w.heap.size]? = some (.cells (sArr x A c Bk d T m E n) 63 (0, 0)) by rw [hW1]; exact nBlk _ _ _ rfl)
 have hg1 := Lib.hid (hg.tr hgr1.out)
 have hO1 := Lib.hid (hO.gr hgr1.out)
 have hT1 := Lib.hid (WrT.of_gr (B := B) (v := v) hgr1.out)
 have hv1 : Hid (v.ownBlock ≠ some w.heap.size) := Lib.hid (fun e => by have := (hO.own_lt e).2; omega)
 have hBw := hO.lt
 have hBH := Lib.hid hB
 have HA := Lib.hid (fun (wx : World) (vx : Value) (hgx : Gr W0 wx) (hox : WrO wx B vx l) => expr_any x.a W0 wx B vx l A c hgx hB hox hKa hopa hL (by omega))
 have HB := Lib.hid (fun (wx : World) (vx : Value) (hgx : Gr W0 wx) (hox : WrO wx B vx L1) => expr_any x.b W0 wx B vx L1 Bk d hgx hB hox hKb hopb hL (by omega))
 have HP := Lib.hid (fun (wx : World) (vx : Value) (hox : WrO wx B vx P) => putForward_any wx B vx P ⟨12, 0, x.rel⟩ hox (by omega))
 have HT := Lib.hid (fun (wx : World) (vx : Value) (hgx : Gr W0 wx) (hox : WrO wx B vx L3) => ihT W0 wx B vx L3 T m hgx hB hox hTh hopt hL (by omega))
 rw [← hL1] at HA
 rw [← hP] at HB
 have hX3 := Lib.hid hL3
 rw [← hL4] at HT
 have hX1 := Lib.hid hL1
 rw [hR]
 obtain ⟨y0, y1, y2, y3, y4, y5, y6, y7, y8, y9, ya, yb, yc⟩ := U.cells13 hb1.out
 by_cases he : x.el.length = 0
 ·obtain ⟨g1, g2, g3⟩ := choice_no (l := l) (P := P) (L3 := L3) (L4 := L4) hk he (by rw [hP, hL1]) hL3 hL4
  rw [hR] at g3
  have hte : decide (0 < x.el.length) = false := decide_eq_false (by omega)
  have hAr := Lib.hid (fun (wx : World) (vx : Value) (b c : Nat) (hox : WrO wx B vx L4) (hf : FwR wx B b c P.length) => arrive_any wx B vx L4 b c P.length _ hox hf g1 (by omega))
  simp only [g3] at hAr
  clear hP hL3 hL4 hg hB hO hKa hKb hTh hEl hop hopa hop2 hopb hopt hope hL hlen ihT ihE hln hk hR g1 g2 g3 n1 nP n3 n4 hL1 he
  go_enter Tryz.func28, Tryz.ntmps28
  go_upto_region 1 with fail
  rw [← hW1]
  clear hW1
  go_upto_region 2 with (go_at_call 36; refine (HA.out _ _ hg1.out hO1.out).mono ?_; rintro e w2 ⟨rfl, v2, hO2, hT2⟩; have hO2 := Lib.hid hO2; have hb2 := Lib.hid (hT2.keep hb1.out (by omega) hv1.out); have hv2 := Lib.hid (hT2.not_own (blkLt hb1.out) hv1.out); have hg2 := Lib.hid (hT2.base hO1.out hg1.out hBH.out); have hT2 := Lib.hid (hT1.out.trans hT2); clear y0 y1 y2 y3 y4 y5 y6 y7 y8 y9 ya yb yc; obtain ⟨y0, y1, y2, y3, y4, y5, y6, y7, y8, y9, ya, yb, yc⟩ := U.cells13 hb2.out)
  go_upto_region 3 with (go_at_call 36; refine (HB.out _ _ hg2.out hO2.out).mono ?_; rintro e w3 ⟨rfl, v3, hO3, hT3⟩; have hO3 := Lib.hid hO3; have hb3 := Lib.hid (hT3.keep hb2.out (by omega) hv2.out); have hv3 := Lib.hid (hT3.not_own (blkLt hb2.out) hv2.out); have hg3 := Lib.hid (hT3.base hO2.out hg2.out hBH.out); have hT3 := Lib.hid (hT2.out.trans hT3); clear y0 y1 y2 y3 y4 y5 y6 y7 y8 y9 ya yb yc; obtain ⟨y0, y1, y2, y3, y4, y5, y6, y7, y8, y9, ya, yb, yc⟩ := U.cells13 hb3.out)
  go_upto_region 4 with (go_at_call 38; refine (HP.out _ _ hO3.out).mono ?_; rintro e w4 ⟨b, c, v4, rfl, hf4, hO4, hT4, hbl, hcl, hvb, hvc⟩; rw [← hX3.out] at hO4; have hO4 := Lib.hid hO4; have hb4 := Lib.hid (hT4.keep hb3.out (by omega) hv3.out); have hv4 := Lib.hid (hT4.not_own (blkLt hb3.out) hv3.out); have hg4 := Lib.hid (hT4.base hO3.out hg3.out hBH.out); have hT4 := Lib.hid (hT3.out.trans hT4); clear y0 y1 y2 y3 y4 y5 y6 y7 y8 y9 ya yb yc; obtain ⟨y0, y1, y2, y3, y4, y5, y6, y7, y8, y9, ya, yb, yc⟩ := U.cells13 hb4.out; have hf4 := Lib.hid hf4; have hvb := Lib.hid hvb; have hvc := Lib.hid hvc; have hBb := Lib.hid (show B < b ∧ B < c by have := hO3.out.lt; omega))
  go_upto_region 5 with (go_at_call 16; refine (HT.out _ _ hg4.out hO4.out).mono ?_; rintro e w5 ⟨rfl, v5, hO5, hT5⟩; have hO5 := Lib.hid hO5; have hb5 := Lib.hid (hT5.keep hb4.out (by omega) hv4.out); have hv5 := Lib.hid (hT5.not_own (blkLt hb4.out) hv4.out); have hf5 := Lib.hid (FwR.keep hf4.out hT5 hBb.out ⟨hvb.out, hvc.out⟩); have hvb5 := Lib.hid (hT5.not_own (blkLt hf4.out.1) hvb.out); have hvc5 := Lib.hid (hT5.not_own (blkLt hf4.out.2) hvc.out); have hg5 := Lib.hid (hT5.base hO4.out hg4.out hBH.out); have hT5 := Lib.hid (hT4.out.trans hT5); clear y0 y1 y2 y3 y4 y5 y6 y7 y8 y9 ya yb yc; obtain ⟨y0, y1, y2, y3, y4, y5, y6, y7, y8, y9, ya, yb, yc⟩ := U.cells13 hb5.out)
  go_upto_region 10 with fail
  have hTx := hT5
  go_wp2_with (go_at_call 50; refine (hAr.out _ _ _ _ hO5.out hf5.out).mono ?_; rintro e w9 ⟨rfl, v9, hO9, hT9⟩; have hO9 := Lib.hid hO9; have hT9 := Lib.hid hT9)
  exact ⟨rfl, .tuple #[], by simp [results, Tryz.results28, go_sem], rfl, v9, hO9.out, hTx.out.trans hT9.out⟩
 ·obtain ⟨L5, hL5⟩ : ∃ L5, L5 = L4 ++ [⟨13, 0, 0⟩] := ⟨_, rfl⟩
  obtain ⟨L6, hL6⟩ : ∃ L6, L6 = L5.set P.length ⟨12, L5.length, x.rel⟩ := ⟨_, rfl⟩
  obtain ⟨L7, hL7⟩ : ∃ L7, L7 = L6 ++ cL x.el L6.length := ⟨_, rfl⟩
  obtain ⟨g1, g2, g3, g4, g5⟩ := choice_else (l := l) (P := P) (L3 := L3) (L4 := L4) (L5 := L5) (L6 := L6) (L7 := L7) hk he (by rw [hP, hL1]) hL3 hL4 hL5 hL6 hL7
  rw [hR] at g4
  rw [if_neg he] at hln
  have hte : decide (0 < x.el.length) = true := decide_eq_true (by omega)
  have n5 : L5.length = L4.length + 1 := by rw [hL5, List.length_append]; rfl
  have HJ := Lib.hid (fun (wx : World) (vx : Value) (hox : WrO wx B vx L4) => putForward_any wx B vx L4 ⟨13, 0, 0⟩ hox (by omega))
  have hX5 := Lib.hid hL5
  have hAr := Lib.hid (fun (wx : World) (vx : Value) (b c : Nat) (hox : WrO wx B vx L5) (hf : FwR wx B b c P.length) => arrive_any wx B vx L5 b c P.length _ hox hf g1 (by omega))
  simp only [← hL6] at hAr
  have HE := Lib.hid (fun (wx : World) (vx : Value) (hgx : Gr W0 wx) (hox : WrO wx B vx L6) => ihE W0 wx B vx L6 E n hgx hB hox hEl hope hL (by omega))
  rw [← hL7] at HE
  have hAs := Lib.hid (fun (wx : World) (vx : Value) (b c : Nat) (hox : WrO wx B vx L7) (hf : FwR wx B b c L4.length) => arrive_any wx B vx L7 b c L4.length _ hox hf g2 (by omega))
  simp only [g4] at hAs
  clear hP hL3 hL4 hg hB hO hKa hKb hTh hEl hop hopa hop2 hopb hopt hope hL hlen ihT ihE hln hk hR g1 g2 g3 g4 g5 n1 nP n3 n4 hL1 he hL5 hL6 hL7 n5
  go_enter Tryz.func28, Tryz.ntmps28
  go_upto_region 1 with fail
  rw [← hW1]
  clear hW1
  go_upto_region 2 with (go_at_call 36; refine (HA.out _ _ hg1.out hO1.out).mono ?_; rintro e w2 ⟨rfl, v2, hO2, hT2⟩; have hO2 := Lib.hid hO2; have hb2 := Lib.hid (hT2.keep hb1.out (by omega) hv1.out); have hv2 := Lib.hid (hT2.not_own (blkLt hb1.out) hv1.out); have hg2 := Lib.hid (hT2.base hO1.out hg1.out hBH.out); have hT2 := Lib.hid (hT1.out.trans hT2); clear y0 y1 y2 y3 y4 y5 y6 y7 y8 y9 ya yb yc; obtain ⟨y0, y1, y2, y3, y4, y5, y6, y7, y8, y9, ya, yb, yc⟩ := U.cells13 hb2.out)
  go_upto_region 3 with (go_at_call 36; refine (HB.out _ _ hg2.out hO2.out).mono ?_; rintro e w3 ⟨rfl, v3, hO3, hT3⟩; have hO3 := Lib.hid hO3; have hb3 := Lib.hid (hT3.keep hb2.out (by omega) hv2.out); have hv3 := Lib.hid (hT3.not_own (blkLt hb2.out) hv2.out); have hg3 := Lib.hid (hT3.base hO2.out hg2.out hBH.out); have hT3 := Lib.hid (hT2.out.trans hT3); clear y0 y1 y2 y3 y4 y5 y6 y7 y8 y9 ya yb yc; obtain ⟨y0, y1, y2, y3, y4, y5, y6, y7, y8, y9, ya, yb, yc⟩ := U.cells13 hb3.out)
  go_upto_region 4 with (go_at_call 38; refine (HP.out _ _ hO3.out).mono ?_; rintro e w4 ⟨b, c, v4, rfl, hf4, hO4, hT4, hbl, hcl, hvb, hvc⟩; rw [← hX3.out] at hO4; have hO4 := Lib.hid hO4; have hb4 := Lib.hid (hT4.keep hb3.out (by omega) hv3.out); have hv4 := Lib.hid (hT4.not_own (blkLt hb3.out) hv3.out); have hg4 := Lib.hid (hT4.base hO3.out hg3.out hBH.out); have hT4 := Lib.hid (hT3.out.trans hT4); clear y0 y1 y2 y3 y4 y5 y6 y7 y8 y9 ya yb yc; obtain ⟨y0, y1, y2, y3, y4, y5, y6, y7, y8, y9, ya, yb, yc⟩ := U.cells13 hb4.out; have hf4 := Lib.hid hf4; have hvb := Lib.hid hvb; have hvc := Lib.hid hvc; have hBb := Lib.hid (show B < b ∧ B < c by have := hO3.out.lt; omega))
  go_upto_region 5 with (go_at_call 16; refine (HT.out _ _ hg4.out hO4.out).mono ?_; rintro e w5 ⟨rfl, v5, hO5, hT5⟩; have hO5 := Lib.hid hO5; have hb5 := Lib.hid (hT5.keep hb4.out (by omega) hv4.out); have hv5 := Lib.hid (hT5.not_own (blkLt hb4.out) hv4.out); have hf5 := Lib.hid (FwR.keep hf4.out hT5 hBb.out ⟨hvb.out, hvc.out⟩); have hvb5 := Lib.hid (hT5.not_own (blkLt hf4.out.1) hvb.out); have hvc5 := Lib.hid (hT5.not_own (blkLt hf4.out.2) hvc.out); have hg5 := Lib.hid (hT5.base hO4.out hg4.out hBH.out); have hT5 := Lib.hid (hT4.out.trans hT5); clear y0 y1 y2 y3 y4 y5 y6 y7 y8 y9 ya yb yc; obtain ⟨y0, y1, y2, y3, y4, y5, y6, y7, y8, y9, ya, yb, yc⟩ := U.cells13 hb5.out)
  go_upto_region 6 with fail
  go_upto_region 7 with (go_at_call 38; refine (HJ.out _ _ hO5.out).mono ?_; rintro e w6 ⟨b2, c2, v6, rfl, hq6, hO6, hT6, hbl2, hcl2, hwb, hwc⟩; rw [← hX5.out] at hO6; have hO6 := Lib.hid hO6; have hb6 := Lib.hid (hT6.keep hb5.out (by omega) hv5.out); have hv6 := Lib.hid (hT6.not_own (blkLt hb5.out) hv5.out); have hf6 := Lib.hid (FwR.keep hf5.out hT6 hBb.out ⟨hvb5.out, hvc5.out⟩); have hvb6 := Lib.hid (hT6.not_own (blkLt hf5.out.1) hvb5.out); have hvc6 := Lib.hid (hT6.not_own (blkLt hf5.out.2) hvc5.out); have hg6 := Lib.hid (hT6.base hO5.out hg5.out hBH.out); have hT6 := Lib.hid (hT5.out.trans hT6); clear y0 y1 y2 y3 y4 y5 y6 y7 y8 y9 ya yb yc; obtain ⟨y0, y1, y2, y3, y4, y5, y6, y7, y8, y9, ya, yb, yc⟩ := U.cells13 hb6.out; have hq6 := Lib.hid hq6; have hwb := Lib.hid hwb; have hwc := Lib.hid hwc; have hBq := Lib.hid (show B < b2 ∧ B < c2 by have := hO5.out.lt; omega))
  go_upto_region 8 with (go_at_call 50; refine (hAr.out _ _ _ _ hO6.out hf6.out).mono ?_; rintro e w7 ⟨rfl, v7, hO7, hT7⟩; have hO7 := Lib.hid hO7; have hb7 := Lib.hid (hT7.keep hb6.out (by omega) hv6.out); have hv7 := Lib.hid (hT7.not_own (blkLt hb6.out) hv6.out); have hf7 := Lib.hid (FwR.keep hq6.out hT7 hBq.out ⟨hwb.out, hwc.out⟩); have hvb7 := Lib.hid (hT7.not_own (blkLt hq6.out.1) hwb.out); have hvc7 := Lib.hid (hT7.not_own (blkLt hq6.out.2) hwc.out); have hg7 := Lib.hid (hT7.base hO6.out hg6.out hBH.out); have hT7 := Lib.hid (hT6.out.trans hT7); clear y0 y1 y2 y3 y4 y5 y6 y7 y8 y9 ya yb yc; obtain ⟨y0, y1, y2, y3, y4, y5, y6, y7, y8, y9, ya, yb, yc⟩ := U.cells13 hb7.out)
  go_upto_region 9 with (go_at_call 16; refine (HE.out _ _ hg7.out hO7.out).mono ?_; rintro e w8 ⟨rfl, v8, hO8, hT8⟩; have hO8 := Lib.hid hO8; have hb8 := Lib.hid (hT8.keep hb7.out (by omega) hv7.out); have hv8 := Lib.hid (hT8.not_own (blkLt hb7.out) hv7.out); have hf8 := Lib.hid (FwR.keep hf7.out hT8 hBq.out ⟨hvb7.out, hvc7.out⟩); have hvb8 := Lib.hid (hT8.not_own (blkLt hf7.out.1) hvb7.out); have hvc8 := Lib.hid (hT8.not_own (blkLt hf7.out.2) hvc7.out); have hg8 := Lib.hid (hT8.base hO7.out hg7.out hBH.out); have hT8 := Lib.hid (hT7.out.trans hT8); clear y0 y1 y2 y3 y4 y5 y6 y7 y8 y9 ya yb yc; obtain ⟨y0, y1, y2, y3, y4, y5, y6, y7, y8, y9, ya, yb, yc⟩ := U.cells13 hb8.out)
  go_upto_region 10 with fail
  have hTx := hT8
  go_wp2_with (go_at_call 50; refine (hAs.out _ _ _ _ hO8.out hf8.out).mono ?_; rintro e w9 ⟨rfl, v9, hO9, hT9⟩; have hO9 := Lib.hid hO9; have hT9 := Lib.hid hT9)
  exact ⟨rfl, .tuple #[], by simp [results, Tryz.results28, go_sem], rfl, v9, hO9.out, hTx.out.trans hT9.out⟩
end K
end Go.Proofs.YtfmjbfpjkilpcaaGreatDoor
namespace Go.Proofs.YtfmjbfpjkilpcaaGreatDoor
open Go.RowKit
namespace K
open U (Ex St szK KidsE ev eArr StsR sv sArr)
theorem stmts_step (ss : List St) (ih : ∀ x ∈ ss, StmtsC x.th ∧ StmtsC x.el) : StmtsC ss := by
 intro W0 w B v l A m hg hB hO hR hop hL hlen
 have hmf : ∀ (fn : Fn) (first cap : Array Value) (w : World), (Instr.makeFunc fn first cap).run Tryz.prog w = .ok (.func fn first cap) w := fun _ _ _ _ => rfl
 obtain ⟨R, hRR⟩ : ∃ R, l ++ cL ss l.length = R := ⟨_, rfl⟩
 rw [hRR]
 have hc0 := Lib.hid (show l ++ cL (ss.drop 0) l.length = R by simpa using hRR)
 have hl0 := Lib.hid (show l.length + lnL (ss.drop 0) ≤ 50000 by simpa using hlen)
 have hT0 := Lib.hid (WrT.refl B w v)
 have hGW : Hid (∀ (wr : World) (vr : Value), WrT B w v wr vr → Gr W0 wr) := Lib.hid (fun wr vr h => h.base hO hg hB)
 have hO0 := Lib.hid hO
 have HR := Lib.hid hR
 have HL := Lib.hid hL
 have IH := Lib.hid ih
 have HO := Lib.hid hop
 have hBH := Lib.hid hB
 have hsl := cL_length_le ss
 clear hg hB hO hR hop hL ih hRR
 go_enter Tryz.func16, Tryz.ntmps16
 go_wp2_with fail
 go_loopg [9] (ss.length) (fun gk i wr => ∃ (k : Nat) (vr : Value) (lr : List In), k + gk = ss.length ∧ i = .int .i64 k ∧ Hid (WrO wr B vr lr) ∧ Hid (WrT B w v wr vr) ∧ Hid (lr ++ cL (ss.drop k) lr.length = R) ∧ Hid (lr.length + lnL (ss.drop k) ≤ 50000))
 case atStart => exact ⟨0, v, l, by omega, rfl, hO0, hT0, hc0, hl0⟩
 case round =>
  obtain ⟨k, vr, lr, hk, rfl, hO, hT, hc, hl⟩ := hrel
  clear hO0 hT0 hc0 hl0
  by_cases hlt : k < ss.length
  ·obtain ⟨gq, rfl⟩ : ∃ g, gk = g + 1 := ⟨gk - 1, by omega⟩
   have hGr := Lib.hid (hGW.out _ _ hT.out)
   obtain ⟨ga, oa, rfl⟩ := HR.out.addr (by omega)
   have hx := HR.out.get _ _ _ k _ (List.getElem?_eq_getElem hlt)
   have hmem : ss[k] ∈ ss := List.getElem_mem hlt
   have hcx := hc.out
   have hlx := hl.out
   rw [cL_drop hlt, ← List.append_assoc] at hcx
   rw [lnL_drop hlt] at hlx
   have hi := IH.out _ hmem
   have hox := OpL_get HO.out _ hmem
   generalize ss[k] = x at *
   obtain ⟨A, c, Bk, d, T, m2, E, n2, hat, hKa, hKb, hTh, hEl, hlth, hlel⟩ := hx.cells
   obtain ⟨e0, e1, e2, e3, e4, e5, e6, e7, e8, e9, ea, eb, ec⟩ := hat
   have e0 := grCell hGr.out e0
   have e1 := grCell hGr.out e1
   have e2 := grCell hGr.out e2
   have e3 := grCell hGr.out e3
   have e4 := grCell hGr.out e4
   have e5 := grCell hGr.out e5
   have e6 := grCell hGr.out e6
   have e7 := grCell hGr.out e7
   have e8 := grCell hGr.out e8
   have e9 := grCell hGr.out e9
   have ea := grCell hGr.out ea
   have eb := grCell hGr.out eb
   have ec := grCell hGr.out ec
   obtain ⟨W5, hW5⟩ : ∃ W5, W5 = wr.alloc (.cells (sArr x A c Bk d T m2 E n2) 63) := ⟨_, rfl⟩
   have hg5 := Lib.hid (show Gr wr W5 by rw [hW5]; exact grAlloc _ _)
   have hb5 := Lib.hid (show W5.heap[wr.heap.size]? = some (.cells (sArr x A c Bk d T m2 E n2) 63 (0, 0)) by rw [hW5]; exact nBlk _ _ _ rfl)
   have hT5 := Lib.hid (hT.out.trans (WrT.of_gr hg5.out))
   have hcl : (lr ++ cS x lr.length).length = lr.length + lnS x := by rw [List.length_append, cS_len]
   have hcx := Lib.hid (show (lr ++ cS x lr.length) ++ cL (ss.drop (k + 1)) (lr ++ cS x lr.length).length = R by rw [hcl]; exact hcx)
   have hlx2 := Lib.hid (show (lr ++ cS x lr.length).length + lnL (ss.drop (k + 1)) ≤ 50000 by rw [hcl]; omega)
   by_cases hk2 : x.kind = 2
   ·have hq := Lib.hid (choice_any W0 W5 B vr lr x A c Bk d T m2 E n2 (hGr.out.tr hg5.out) hBH.out (hO.out.gr hg5.out) hKa hKb hTh hEl hox hk2 HL.out (by omega) hi.1 hi.2)
    have hkb : (x.kind == 2) = true := by rw [beq_iff_eq]; exact hk2
    clear hi hox hmem hc hl hO hT hlx hcl hKa hKb hTh hEl hlth hlel hk2 hx
    go_upto_region 4 with fail
    rw [← hW5]
    clear hW5 e0 e1 e2 e3 e4 e5 e6 e7 e8 e9 ea eb ec
    obtain ⟨y0, y1, y2, y3, y4, y5, y6, y7, y8, y9, ya, yb, yc⟩ := U.cells13 hb5.out
    go_wp2_with (go_at_call 28; refine hq.out.mono ?_; rintro e w8 ⟨rfl, v8, hO8, hT8⟩; have hO8 := Lib.hid hO8; have hT8 := Lib.hid (hT5.out.trans hT8))
    go_roundg gq
    case measure => omega
    case rel => exact ⟨k + 1, v8, lr ++ cS x lr.length, by omega, by go_num, hO8, hT8, hcx, hlx2⟩
   ·have hq := Lib.hid (assignment_any W0 W5 B vr lr x A c Bk d T m2 E n2 (hGr.out.tr hg5.out) hBH.out (hO.out.gr hg5.out) hKa (OpS_of hox).1 HL.out (by have := lnS_no hk2; omega))
    rw [← cS_no hk2 lr.length] at hq
    have hkb : (x.kind == 2) = false := by rw [beq_eq_false_iff_ne]; exact hk2
    clear hi hox hmem hc hl hO hT hlx hcl hKa hKb hTh hEl hlth hlel hk2 hx
    go_upto_region 4 with fail
    rw [← hW5]
    clear hW5 e0 e1 e2 e3 e4 e5 e6 e7 e8 e9 ea eb ec
    obtain ⟨y0, y1, y2, y3, y4, y5, y6, y7, y8, y9, ya, yb, yc⟩ := U.cells13 hb5.out
    go_wp2_with (go_at_call 27; refine hq.out.mono ?_; rintro e w8 ⟨rfl, v8, hO8, hT8⟩; have hO8 := Lib.hid hO8; have hT8 := Lib.hid (hT5.out.trans hT8))
    go_roundg gq
    case measure => omega
    case rel => exact ⟨k + 1, v8, lr ++ cS x lr.length, by omega, by go_num, hO8, hT8, hcx, hlx2⟩
  ·obtain rfl : gk = 0 := by omega
   obtain rfl : lr = R := by have := hc.out; rw [List.drop_eq_nil_of_le (by omega), cL, List.append_nil] at this; exact this
   have hkl : decide ((k : Int) < (ss.length : Int)) = false := by simp; omega
   go_wp2
   exact ⟨rfl, .tuple #[], by simp [results, Tryz.results16, go_sem], rfl, vr, hO.out, hT.out⟩
mutual
theorem stmts_sub : ∀ x : St, StmtsC x.th ∧ StmtsC x.el
 | .mk _ _ _ _ _ th el => ⟨stmts_step th (stmts_all th), stmts_step el (stmts_all el)⟩
theorem stmts_all : ∀ (l : List St), ∀ x ∈ l, StmtsC x.th ∧ StmtsC x.el
 | [], x, hx => by cases hx
 | y :: ys, x, hx => by
  rcases List.mem_cons.1 hx with h | h
  ·rw [h]; exact stmts_sub y
  ·exact stmts_all ys x h
end
theorem stmts_any (ss : List St) : StmtsC ss := stmts_step ss (stmts_all ss)
end K
end Go.Proofs.YtfmjbfpjkilpcaaGreatDoor
namespace Go.Proofs.YtfmjbfpjkilpcaaGreatDoor
open Go.RowKit
def clsTab : List Int := [0, 0, 0, 0, 0, 0, 0, 0, 0, 1, 2, 0, 0, 0, 0, 0, 0, 0, 0, 0, 0, 0, 0, 0, 0, 0, 0, 0, 0, 0, 0, 0, 1, 9, 0, 3, 0, 0, 0, 0, 7, 7, 7, 7, 7, 7, 0, 7, 5, 5, 5, 5, 5, 5, 5, 5, 5, 5, 0, 7, 8, 8, 8, 0, 0, 0, 0, 0, 0, 0, 0, 0, 0, 0, 0, 0, 0, 0, 0, 0, 0, 0, 0, 0, 0, 0, 0, 0, 0, 0, 0, 0, 0, 0, 0, 6, 0, 4, 4, 4, 4, 4, 4, 4, 4, 4, 4, 4, 4, 4, 4, 4, 4, 4, 4, 4, 4, 4, 4, 4, 4, 4, 4, 7, 0, 7, 0, 0]
def cls (n : Nat) : Nat := (clsTab.getD n 0).toNat
def Tab (w : World) : Prop := ∀ i, i < 128 → w.cell? ⟨4, i, none⟩ = some (.int .u8 (cls i))
theorem Tab.cell {w : World} (h : Tab w) (i : Nat) (hi : i < 128) : w.cell? ⟨4, i, none⟩ = some (.int .u8 (cls i)) := h i hi
theorem classOf_any (n : Nat) (w : World) (hT : Tab w) (hn : n < 256) :
  Calls Tryz.prog 108 #[.int .u8 n] w fun e w' => e = .returned (.int .u8 (cls n)) ∧ w = w' := by
 by_cases h : n < 128
 ·have hc := hT.cell n h
  clear hT
  go_enter Tryz.func108, Tryz.ntmps108
  go_wp2
  go_ret
  exact ⟨rfl, rfl⟩
 ·have hz : cls n = 0 := by unfold cls; rw [List.getD_eq_getElem?_getD, List.getElem?_eq_none (by simp [clsTab]; omega)]; rfl
  rw [hz]
  clear hT hz
  go_enter Tryz.func108, Tryz.ntmps108
  go_wp2
  go_ret
  exact ⟨rfl, rfl⟩
theorem clo_feed (n : Nat) (w : World) (_hn : n < 256) :
  Calls Tryz.prog 110 #[.int .u8 n] w fun e w' => e = .returned (.bool ((n : Int) != 2)) ∧ w = w' := by
 go_enter Tryz.func110, Tryz.ntmps110
 go_wp2
 go_ret
 exact ⟨rfl, rfl⟩
theorem clo_digit (n : Nat) (w : World) (_hn : n < 256) :
  Calls Tryz.prog 121 #[.int .u8 n] w fun e w' => e = .returned (.bool ((n : Int) == 5)) ∧ w = w' := by
 go_enter Tryz.func121, Tryz.ntmps121
 go_wp2
 go_ret
 exact ⟨rfl, rfl⟩
def nameB (n : Nat) : Bool := decide (n = 4) || decide (n = 5) || decide (n = 6)
theorem clo_name (n : Nat) (w : World) (_hn : n < 256) :
  Calls Tryz.prog 120 #[.int .u8 n] w fun e w' => e = .returned (.bool (nameB n)) ∧ w = w' := by
 by_cases h4 : n = 4
 ·subst h4
  go_enter Tryz.func120, Tryz.ntmps120
  go_wp2
  go_ret
  exact ⟨rfl, rfl⟩
 by_cases h5 : n = 5
 ·subst h5
  go_enter Tryz.func120, Tryz.ntmps120
  go_wp2
  go_ret
  exact ⟨rfl, rfl⟩
 have e4 : ((n : Int) == 4) = false := by simp; omega
 have e5 : ((n : Int) == 5) = false := by simp; omega
 have hr : nameB n = ((n : Int) == 6) := by simp only [nameB, h4, h5, decide_false, Bool.false_or]; rw [Bool.eq_iff_iff]; simp; omega
 rw [hr]
 clear h4 h5 hr
 go_enter Tryz.func120, Tryz.ntmps120
 go_wp2
 go_ret
 exact ⟨rfl, rfl⟩
def runLen (p : Nat → Bool) : List UInt8 → Nat
 | [] => 0
 | b :: r => if p (cls b.toNat) then runLen p r + 1 else 0
theorem runLen_le (p : Nat → Bool) (l : List UInt8) : runLen p l ≤ l.length := by
 induction l with
 | nil => exact Nat.le_refl _
 | cons b r ih => simp only [runLen, List.length_cons]; split <;> omega
theorem runLen_yes (p : Nat → Bool) (l : List UInt8) (k : Nat) (hk : k < l.length) (hp : p (cls l[k].toNat) = true) : runLen p (l.drop k) = runLen p (l.drop (k + 1)) + 1 := by
 rw [List.drop_eq_getElem_cons hk]
 simp [runLen, hp]
theorem runLen_no (p : Nat → Bool) (l : List UInt8) (k : Nat) (hk : k < l.length) (hp : p (cls l[k].toNat) = false) : runLen p (l.drop k) = 0 := by
 rw [List.drop_eq_getElem_cons hk]
 simp [runLen, hp]
theorem runLen_end (p : Nat → Bool) (l : List UInt8) (k : Nat) (hk : l.length ≤ k) : runLen p (l.drop k) = 0 := by
 rw [List.drop_eq_nil_of_le hk]; rfl
theorem byte_lt (b : UInt8) : b.toNat < 256 := b.toNat_lt
theorem cls_lt (n : Nat) : cls n < 256 := by
 by_cases h : n < 128
 ·have : ∀ n, n < 128 → cls n < 256 := by decide
  exact this n h
 ·unfold cls; rw [List.getD_eq_getElem?_getD, List.getElem?_eq_none (by simp [clsTab]; omega)]; decide
theorem ret_int {k : IntKind} {a b : Int} (h : a = b) : Ending.returned (.int k a) = .returned (.int k b) := by rw [h]
theorem end_feed (s : ByteArray) (at0 : Nat) (w : World) (hT : Tab w) (hat : at0 ≤ s.size) (hs : s.size ≤ maxLen) :
  Calls Tryz.prog 109 #[.string s, .int .i64 at0, .func (.func 110) #[] #[]] w fun e w' => e = .returned (.int .i64 ((at0 + runLen (fun n => (n : Int) != 2) (s.data.toList.drop at0) : Nat) : Int)) ∧ w = w' := by
 unfold maxLen at hs
 go_enter Tryz.func109, Tryz.ntmps109
 go_wp2
 go_loop [1] (fun i => ∃ k : Nat, at0 ≤ k ∧ k ≤ s.size ∧ i = .int .i64 k ∧ Hid (k + runLen (fun n => (n : Int) != 2) (s.data.toList.drop k) = at0 + runLen (fun n => (n : Int) != 2) (s.data.toList.drop at0))) (fun i => s.size - (intOf i).toNat)
 case atStart => exact ⟨at0, Nat.le_refl _, hat, rfl, rfl⟩
 case round =>
  obtain ⟨k, hk0, hk, rfl, hr⟩ := hrel
  by_cases hlt : k < s.size
  ·have hb := byte_lt s[k]
   have hc := cls_lt s[k].toNat
   cases hp : (fun n => (n : Int) != 2) (cls s[k].toNat)
   ·have hq := Lib.hid (runLen_no (fun n => (n : Int) != 2) s.data.toList k (by simpa using hlt) hp)
    have hp' := Lib.hid hp
    clear hp
    go_wp2_with fail
    refine (classOf_any _ _ hT hb).mono ?_
    rintro e w' ⟨rfl, rfl⟩
    go_wp2_with fail
    refine (clo_feed _ _ hc).mono ?_
    have hp2 := hp'.out
    rw [hp2]
    clear hp2
    rintro e w' ⟨rfl, rfl⟩
    go_wp2
    go_ret
    exact ⟨ret_int (by have h1 := hr.out; have h2 := hq.out; omega), rfl⟩
   ·have hq := Lib.hid (runLen_yes (fun n => (n : Int) != 2) s.data.toList k (by simpa using hlt) hp)
    have hp' := Lib.hid hp
    clear hp
    go_wp2_with fail
    refine (classOf_any _ _ hT hb).mono ?_
    rintro e w' ⟨rfl, rfl⟩
    go_wp2_with fail
    refine (clo_feed _ _ hc).mono ?_
    have hp2 := hp'.out
    rw [hp2]
    clear hp2
    rintro e w' ⟨rfl, rfl⟩
    go_wp2
    go_round
    case rel => exact ⟨k + 1, by omega, by omega, by go_num, by have h1 := hr.out; have h2 := hq.out; show _ = _; omega⟩
    case measure => simp [intOf]; omega
  ·have hq := Lib.hid (runLen_end (fun n => (n : Int) != 2) s.data.toList k (by simp; omega))
   go_wp2
   go_ret
   exact ⟨ret_int (by have h1 := hr.out; have h2 := hq.out; omega), rfl⟩
theorem end_digit (s : ByteArray) (at0 : Nat) (w : World) (hT : Tab w) (hat : at0 ≤ s.size) (hs : s.size ≤ maxLen) :
  Calls Tryz.prog 109 #[.string s, .int .i64 at0, .func (.func 121) #[] #[]] w fun e w' => e = .returned (.int .i64 ((at0 + runLen (fun n => (n : Int) == 5) (s.data.toList.drop at0) : Nat) : Int)) ∧ w = w' := by
 unfold maxLen at hs
 go_enter Tryz.func109, Tryz.ntmps109
 go_wp2
 go_loop [1] (fun i => ∃ k : Nat, at0 ≤ k ∧ k ≤ s.size ∧ i = .int .i64 k ∧ Hid (k + runLen (fun n => (n : Int) == 5) (s.data.toList.drop k) = at0 + runLen (fun n => (n : Int) == 5) (s.data.toList.drop at0))) (fun i => s.size - (intOf i).toNat)
 case atStart => exact ⟨at0, Nat.le_refl _, hat, rfl, rfl⟩
 case round =>
  obtain ⟨k, hk0, hk, rfl, hr⟩ := hrel
  by_cases hlt : k < s.size
  ·have hb := byte_lt s[k]
   have hc := cls_lt s[k].toNat
   cases hp : (fun n => (n : Int) == 5) (cls s[k].toNat)
   ·have hq := Lib.hid (runLen_no (fun n => (n : Int) == 5) s.data.toList k (by simpa using hlt) hp)
    have hp' := Lib.hid hp
    clear hp
    go_wp2_with fail
    refine (classOf_any _ _ hT hb).mono ?_
    rintro e w' ⟨rfl, rfl⟩
    go_wp2_with fail
    refine (clo_digit _ _ hc).mono ?_
    have hp2 := hp'.out
    rw [hp2]
    clear hp2
    rintro e w' ⟨rfl, rfl⟩
    go_wp2
    go_ret
    exact ⟨ret_int (by have h1 := hr.out; have h2 := hq.out; omega), rfl⟩
   ·have hq := Lib.hid (runLen_yes (fun n => (n : Int) == 5) s.data.toList k (by simpa using hlt) hp)
    have hp' := Lib.hid hp
    clear hp
    go_wp2_with fail
    refine (classOf_any _ _ hT hb).mono ?_
    rintro e w' ⟨rfl, rfl⟩
    go_wp2_with fail
    refine (clo_digit _ _ hc).mono ?_
    have hp2 := hp'.out
    rw [hp2]
    clear hp2
    rintro e w' ⟨rfl, rfl⟩
    go_wp2
    go_round
    case rel => exact ⟨k + 1, by omega, by omega, by go_num, by have h1 := hr.out; have h2 := hq.out; show _ = _; omega⟩
    case measure => simp [intOf]; omega
  ·have hq := Lib.hid (runLen_end (fun n => (n : Int) == 5) s.data.toList k (by simp; omega))
   go_wp2
   go_ret
   exact ⟨ret_int (by have h1 := hr.out; have h2 := hq.out; omega), rfl⟩
theorem end_name (s : ByteArray) (at0 : Nat) (w : World) (hT : Tab w) (hat : at0 ≤ s.size) (hs : s.size ≤ maxLen) :
  Calls Tryz.prog 109 #[.string s, .int .i64 at0, .func (.func 120) #[] #[]] w fun e w' => e = .returned (.int .i64 ((at0 + runLen nameB (s.data.toList.drop at0) : Nat) : Int)) ∧ w = w' := by
 unfold maxLen at hs
 go_enter Tryz.func109, Tryz.ntmps109
 go_wp2
 go_loop [1] (fun i => ∃ k : Nat, at0 ≤ k ∧ k ≤ s.size ∧ i = .int .i64 k ∧ Hid (k + runLen nameB (s.data.toList.drop k) = at0 + runLen nameB (s.data.toList.drop at0))) (fun i => s.size - (intOf i).toNat)
 case atStart => exact ⟨at0, Nat.le_refl _, hat, rfl, rfl⟩
 case round =>
  obtain ⟨k, hk0, hk, rfl, hr⟩ := hrel
  by_cases hlt : k < s.size
  ·have hb := byte_lt s[k]
   have hc := cls_lt s[k].toNat
   cases hp : nameB (cls s[k].toNat)
   ·have hq := Lib.hid (runLen_no nameB s.data.toList k (by simpa using hlt) hp)
    have hp' := Lib.hid hp
    clear hp
    go_wp2_with fail
    refine (classOf_any _ _ hT hb).mono ?_
    rintro e w' ⟨rfl, rfl⟩
    go_wp2_with fail
    refine (clo_name _ _ hc).mono ?_
    have hp2 := hp'.out
    rw [hp2]
    clear hp2
    rintro e w' ⟨rfl, rfl⟩
    go_wp2
    go_ret
    exact ⟨ret_int (by have h1 := hr.out; have h2 := hq.out; omega), rfl⟩
   ·have hq := Lib.hid (runLen_yes nameB s.data.toList k (by simpa using hlt) hp)
    have hp' := Lib.hid hp
    clear hp
    go_wp2_with fail
    refine (classOf_any _ _ hT hb).mono ?_
    rintro e w' ⟨rfl, rfl⟩
    go_wp2_with fail
    refine (clo_name _ _ hc).mono ?_
    have hp2 := hp'.out
    rw [hp2]
    clear hp2
    rintro e w' ⟨rfl, rfl⟩
    go_wp2
    go_round
    case rel => exact ⟨k + 1, by omega, by omega, by go_num, by have h1 := hr.out; have h2 := hq.out; show _ = _; omega⟩
    case measure => simp [intOf]; omega
  ·have hq := Lib.hid (runLen_end nameB s.data.toList k (by simp; omega))
   go_wp2
   go_ret
   exact ⟨ret_int (by have h1 := hr.out; have h2 := hq.out; omega), rfl⟩
end Go.Proofs.YtfmjbfpjkilpcaaGreatDoor
namespace Go.Proofs.YtfmjbfpjkilpcaaGreatDoor
open Go.RowKit
def gapLen (c : Bool) : List UInt8 → Nat
 | [] => 0
 | b :: r => if ((b == 35 || c) && b != 10) = false ∧ b ≠ 32 ∧ b ≠ 9 ∧ b ≠ 10 then 0 else gapLen ((b == 35 || c) && b != 10) r + 1
theorem gapLen_le (l : List UInt8) : ∀ c, gapLen c l ≤ l.length := by
 induction l with
 | nil => intro c; exact Nat.le_refl _
 | cons b r ih => intro c; simp only [gapLen, List.length_cons]; split <;> have := ih ((b == 35 || c) && b != 10) <;> omega
theorem cls_1 (b : UInt8) : cls b.toNat = 1 ↔ b = 9 ∨ b = 32 := by
 have h : ∀ n, n < 256 → (cls n = 1 ↔ n = 9 ∨ n = 32) := by decide +kernel
 rw [h _ b.toNat_lt, ← UInt8.toNat_inj, ← UInt8.toNat_inj]; rfl
theorem cls_2 (b : UInt8) : cls b.toNat = 2 ↔ b = 10 := by
 have h : ∀ n, n < 256 → (cls n = 2 ↔ n = 10) := by decide +kernel
 rw [h _ b.toNat_lt, ← UInt8.toNat_inj]; rfl
theorem cls_3 (b : UInt8) : cls b.toNat = 3 ↔ b = 35 := by
 have h : ∀ n, n < 256 → (cls n = 3 ↔ n = 35) := by decide +kernel
 rw [h _ b.toNat_lt, ← UInt8.toNat_inj]; rfl
theorem gapLen_comment (l : List UInt8) : gapLen true l = runLen (fun n => (n : Int) != 2) l + gapLen false (l.drop (runLen (fun n => (n : Int) != 2) l)) := by
 induction l with
 | nil => rfl
 | cons b r ih =>
  by_cases h : b = 10
  ·subst h
   have e : runLen (fun n => (n : Int) != 2) (10 :: r) = 0 := rfl
   rw [e]
   simp [gapLen]
  ·have h2 : ¬ cls b.toNat = 2 := fun hh => h ((cls_2 b).1 hh)
   have e : runLen (fun n => (n : Int) != 2) (b :: r) = runLen (fun n => (n : Int) != 2) r + 1 := by
    simp only [runLen]; rw [if_pos]; simp; omega
   rw [e]
   simp only [gapLen, List.drop_succ_cons]
   have hb : ((b == 35 || true) && b != 10) = true := by simp [h]
   rw [hb, if_neg (by simp), ih]
   omega
theorem gapLen_blank (l : List UInt8) (k : Nat) (hk : k < l.length) (h : cls l[k].toNat = 1 ∨ cls l[k].toNat = 2) : gapLen false (l.drop k) = gapLen false (l.drop (k + 1)) + 1 := by
 rw [List.drop_eq_getElem_cons hk]
 rw [cls_1, cls_2] at h
 simp only [gapLen]
 rcases h with (h | h) | h <;> simp [h]
theorem gapLen_sharp (l : List UInt8) (k : Nat) (hk : k < l.length) (h : cls l[k].toNat = 3) :
  gapLen false (l.drop k) = runLen (fun n => (n : Int) != 2) (l.drop k) + gapLen false (l.drop (k + runLen (fun n => (n : Int) != 2) (l.drop k))) := by
 rw [← List.drop_drop, List.drop_eq_getElem_cons hk]
 rw [cls_3] at h
 have e : runLen (fun n => (n : Int) != 2) (l[k] :: l.drop (k + 1)) = runLen (fun n => (n : Int) != 2) (l.drop (k + 1)) + 1 := by
  simp only [runLen]; rw [if_pos]; rw [h]; rfl
 rw [e]
 simp only [gapLen, List.drop_succ_cons]
 rw [h]
 have hb : (((35 : UInt8) == 35 || false) && (35 : UInt8) != 10) = true := rfl
 rw [hb, if_neg (by simp), gapLen_comment]
 omega
theorem gapLen_other (l : List UInt8) (k : Nat) (hk : k < l.length) (h1 : cls l[k].toNat ≠ 1) (h2 : cls l[k].toNat ≠ 2) (h3 : cls l[k].toNat ≠ 3) : gapLen false (l.drop k) = 0 := by
 rw [List.drop_eq_getElem_cons hk]
 rw [Ne, cls_1] at h1
 rw [Ne, cls_2] at h2
 rw [Ne, cls_3] at h3
 simp only [gapLen]
 rw [if_pos]
 simp_all
theorem gapLen_end (l : List UInt8) (k : Nat) (hk : l.length ≤ k) : gapLen false (l.drop k) = 0 := by
 rw [List.drop_eq_nil_of_le hk]; rfl
theorem gapEnd_any (s : ByteArray) (at0 : Nat) (w : World) (hT : Tab w) (hat : at0 ≤ s.size) (hs : s.size ≤ maxLen) :
  Calls Tryz.prog 97 #[.string s, .int .i64 at0] w fun e w' => e = .returned (.int .i64 ((at0 + gapLen false (s.data.toList.drop at0) : Nat) : Int)) ∧ w = w' := by
 have hsl := Lib.hid hs
 unfold maxLen at hs
 go_enter Tryz.func97, Tryz.ntmps97
 go_wp2
 go_loop [1] (fun i => ∃ k : Nat, at0 ≤ k ∧ k ≤ s.size ∧ i = .int .i64 k ∧ Hid (k + gapLen false (s.data.toList.drop k) = at0 + gapLen false (s.data.toList.drop at0))) (fun i => s.size - (intOf i).toNat)
 case atStart => exact ⟨at0, Nat.le_refl _, hat, rfl, rfl⟩
 case round =>
  obtain ⟨k, hk0, hk, rfl, hr⟩ := hrel
  by_cases hlt : k < s.size
  ·have hb := byte_lt s[k]
   have hkl : k < s.data.toList.length := by simpa using hlt
   by_cases h1 : cls s[k].toNat = 1
   ·have hq := Lib.hid (gapLen_blank s.data.toList k hkl (Or.inl h1))
    have H := Lib.hid h1
    clear h1
    go_wp2_with fail
    refine (classOf_any _ _ hT hb).mono ?_
    rw [H.out]
    rintro e w' ⟨rfl, rfl⟩
    go_wp2
    go_round
    case rel => exact ⟨k + 1, by omega, by omega, by go_num, by have h1 := hr.out; have h2 := hq.out; show _ = _; omega⟩
    case measure => simp [intOf]; omega
   by_cases h2 : cls s[k].toNat = 2
   ·have hq := Lib.hid (gapLen_blank s.data.toList k hkl (Or.inr h2))
    have H := Lib.hid h2
    clear h1 h2
    go_wp2_with fail
    refine (classOf_any _ _ hT hb).mono ?_
    rw [H.out]
    rintro e w' ⟨rfl, rfl⟩
    go_wp2
    go_round
    case rel => exact ⟨k + 1, by omega, by omega, by go_num, by have h1 := hr.out; have h2 := hq.out; show _ = _; omega⟩
    case measure => simp [intOf]; omega
   by_cases h3 : cls s[k].toNat = 3
   ·have hq := Lib.hid (gapLen_sharp s.data.toList k hkl h3)
    have H := Lib.hid h3
    have hpos : 0 < runLen (fun n => (n : Int) != 2) (s.data.toList.drop k) := by
     rw [runLen_yes _ _ _ hkl (by rw [show s.data.toList[k] = s[k] from rfl, h3]; rfl)]; omega
    have hle := runLen_le (fun n => (n : Int) != 2) (s.data.toList.drop k)
    rw [List.length_drop] at hle
    have hle2 : runLen (fun n => (n : Int) != 2) (s.data.toList.drop k) ≤ s.size - k := by simpa using hle
    clear h1 h2 h3 hle
    go_wp2_with fail
    refine (classOf_any _ _ hT hb).mono ?_
    rw [H.out]
    rintro e w' ⟨rfl, rfl⟩
    go_wp2_with fail
    refine (end_feed _ _ _ hT hk hsl.out).mono ?_
    rintro e w' ⟨rfl, rfl⟩
    go_wp2
    go_round
    case rel => exact ⟨k + runLen (fun n => (n : Int) != 2) (s.data.toList.drop k), by omega, by omega, by go_num, by have h1 := hr.out; have h2 := hq.out; show _ = _; omega⟩
    case measure => simp [intOf]; omega
   ·have hq := Lib.hid (gapLen_other s.data.toList k hkl h1 h2 h3)
    have e1 : ((cls s[k].toNat : Int) == 1) = false := by simp; omega
    have e2 : ((cls s[k].toNat : Int) == 2) = false := by simp; omega
    have e3 : ((cls s[k].toNat : Int) == 3) = false := by simp; omega
    clear h1 h2 h3
    go_wp2_with fail
    refine (classOf_any _ _ hT hb).mono ?_
    rintro e w' ⟨rfl, rfl⟩
    go_wp2
    go_ret
    exact ⟨ret_int (by have h1 := hr.out; have h2 := hq.out; omega), rfl⟩
  ·have hq := Lib.hid (gapLen_end s.data.toList k (by simp; omega))
   go_wp2
   go_ret
   exact ⟨ret_int (by have h1 := hr.out; have h2 := hq.out; omega), rfl⟩
end Go.Proofs.YtfmjbfpjkilpcaaGreatDoor
