/- Texts of one proof: KzE. -/
import Derived.Test.YtamfgjinfcknfaaGreatDoorZs
set_option linter.unusedVariables false
set_option linter.unusedSimpArgs false
set_option maxRecDepth 100000
set_option maxHeartbeats 8000000
namespace Go.Proofs.YtamfgjinfcknfaaGreatDoor
open Go.RowKit
namespace K
open U (Ex St szK KidsE ev eArr)
def LaidO (w : World) : Prop := ∀ k : Nat, 1 ≤ k → k ≤ 10 → w.cell? ⟨2, k, none⟩ = some (.int .i64 k)
theorem LaidO.gr {w w' : World} (h : LaidO w) (hg : Gr w w') : LaidO w' := fun k h1 h2 => grCell hg (h k h1 h2)
theorem cells4k {w : World} {b : Nat} {v0 v1 v2 v3 : Value} {T : TypeId} (h : w.heap[b]? = some (.cells #[v0, v1, v2, v3] T (0, 0))) : w.cell? ⟨b, 0, none⟩ = some v0 ∧ w.cell? ⟨b, 1, none⟩ = some v1 ∧ w.cell? ⟨b, 2, none⟩ = some v2 ∧ w.cell? ⟨b, 3, none⟩ = some v3 := by
 have e : ∀ j, w.cell? ⟨b, j, none⟩ = (#[v0, v1, v2, v3] : Array Value)[j]? := fun j => cell_of_row _ _ j _ _ (0, 0) h
 exact ⟨e 0, e 1, e 2, e 3⟩
theorem KidsE.gr {w w' : World} {l : List Ex} {A : Option Addr} (h : KidsE w l A) (hg : Gr w w') : KidsE w' l A := U.KidsE.below h hg
def ExprC (t : Ex) : Prop := ∀ (W0 w : World) (B : Nat) (v : Value) (l : List In) (A : Option Addr) (c : Nat), Gr W0 w → W0.heap.size ≤ B → WrO w B v l → KidsE W0 t.kids A → OpX t → LaidO W0 → l.length + t.size ≤ 50000 →
 Calls Tryz.prog 55 #[.pointer (some ⟨B, 0, none⟩), ev t A c] w (WrP w B v (l ++ cE t))
theorem szK_ge : ∀ l : List Ex, l.length ≤ szK l
 | [] => Nat.zero_le _
 | x :: xs => by have := szK_ge xs; have := U.Ex.size_pos x; rw [szK, List.length_cons]; omega
theorem expr_step (t : Ex) (ih : ∀ k ∈ t.kids, ExprC k) : ExprC t := by
 intro W0 w B v l A c hg hB hO hK hop hL hlen
 obtain ⟨op, n, u, ks⟩ := t
 obtain ⟨ho1, ho2, hok⟩ := OpX_of hop
 simp only [Ex.kids, Ex.op] at hK ih ho1 ho2 hok
 rw [Ex.size] at hlen
 have hkl := szK_ge ks
 obtain ⟨W1, hW1⟩ : ∃ W1, W1 = w.alloc (.cells #[.int .i64 op, .int .i64 n, .int .i64 u, .slice A ks.length (ks.length + c)] 63) := ⟨_, rfl⟩
 have hg1 := Lib.hid (show Gr w W1 by rw [hW1]; exact grAlloc _ _)
 have hb1 := Lib.hid (show W1.heap[w.heap.size]? = some (.cells #[.int .i64 op, .int .i64 n, .int .i64 u, .slice A ks.length (ks.length + c)] 63 (0, 0)) by rw [hW1]; exact nBlk _ _ _ rfl)
 obtain ⟨y0, y1, y2, y3⟩ := cells4k hb1.out
 have hO1 := Lib.hid (hO.gr hg1.out)
 have hT1 := Lib.hid (WrT.of_gr (B := B) (v := v) hg1.out)
 have hBw := hO.lt
 have hov : Hid (v.ownBlock ≠ some w.heap.size) := Lib.hid (fun e => by have := (hO.own_lt e).2; omega)
 have hG := Lib.hid hg
 have hGW : Hid (∀ (wr : World) (vr : Value), WrT B w v wr vr → Gr W0 wr) := Lib.hid (fun wr vr h => h.base hO hg hB)
 have HK := Lib.hid hK
 have HL := Lib.hid hL
 have IH := Lib.hid ih
 have HO := Lib.hid hok
 have hcE := Lib.hid (show l ++ cK (ks.drop 0) = l ++ cK ks by simp)
 have hBH := Lib.hid hB
 obtain ⟨R, hR⟩ : ∃ R, l ++ cK ks = R := ⟨_, rfl⟩
 obtain ⟨m, hm⟩ : ∃ m : Int, (if ks.length = 0 then n else 0) = m := ⟨_, rfl⟩
 have hmH := Lib.hid hm
 have hfin : Hid (l ++ cE (.mk op n u ks) = R ++ [⟨op, m, 0⟩]) := Lib.hid (by rw [cE, hm, ← hR, List.append_assoc])
 have hRl : Hid (R.length ≤ 50000) := Lib.hid (by rw [← hR, List.length_append, cK_len]; omega)
 rw [hfin.out]
 show Calls Tryz.prog 55 #[.pointer (some ⟨B, 0, none⟩), .agg #[.int .i64 op, .int .i64 n, .int .i64 u, .slice A ks.length (ks.length + c)]] w _
 rw [hR] at hcE
 have hlH := Lib.hid (show l.length + szK (ks.drop 0) ≤ 50000 by simp; omega)
 clear hg hB hO hK hop hL ih hok hR hfin hm
 go_enter Tryz.func55, Tryz.ntmps55
 go_upto_region 1 with fail
 rw [← hW1]
 clear hW1
 go_wp2_with fail
 go_loopg [10] (ks.length) (fun gk i wr => ∃ (k : Nat) (vr : Value) (lr : List In), k + gk = ks.length ∧ i = .int .i64 k ∧ Hid (WrO wr B vr lr) ∧ Hid (WrT B w v wr vr) ∧ Hid (wr.heap[w.heap.size]? = some (.cells #[.int .i64 op, .int .i64 n, .int .i64 u, .slice A ks.length (ks.length + c)] 63 (0, 0))) ∧ Hid (vr.ownBlock ≠ some w.heap.size) ∧ Hid (lr ++ cK (ks.drop k) = R) ∧ Hid (lr.length + szK (ks.drop k) ≤ 50000))
 case atStart => exact ⟨0, v, l, by omega, rfl, hO1, hT1, hb1, hov, hcE, hlH⟩
 case round =>
  obtain ⟨k, vr, lr, hk, rfl, hO, hT, hb, hv, hc, hl⟩ := hrel
  clear hO1 hT1 hb1 hov hcE hlH y0 y1 y2 y3
  obtain ⟨y0, y1, y2, y3⟩ := cells4k hb.out
  by_cases hlt : k < ks.length
  ·obtain ⟨gq, rfl⟩ : ∃ g, gk = g + 1 := ⟨gk - 1, by omega⟩
   have hGr := Lib.hid (hGW.out _ _ hT.out)
   obtain ⟨ga, oa, rfl⟩ := U.KidsE.addr HK.out (by omega)
   obtain ⟨A1, c1, ⟨e0, e1, e2, e3⟩, hl1, hK1⟩ := (U.KidsE.get _ _ _ HK.out k _ (List.getElem?_eq_getElem hlt)).cells
   have hmem : ks[k] ∈ ks := List.getElem_mem hlt
   have hcx := hc.out
   have hlx := hl.out
   rw [cK_drop hlt, ← List.append_assoc] at hcx
   rw [szK_drop hlt] at hlx
   have hi := IH.out _ hmem
   have hox := OpK_get HO.out _ hmem
   generalize ks[k] = x at *
   obtain ⟨W2, hW2⟩ : ∃ W2, W2 = wr.alloc (.cells (eArr x A1 c1) 63) := ⟨_, rfl⟩
   have hg2 := Lib.hid (show Gr wr W2 by rw [hW2]; exact grAlloc _ _)
   have hb2 := Lib.hid (show W2.heap[wr.heap.size]? = some (.cells (eArr x A1 c1) 63 (0, 0)) by rw [hW2]; exact nBlk _ _ _ rfl)
   have hq := Lib.hid (hi W0 W2 B vr lr A1 c1 (hGr.out.tr hg2.out) hBH.out (hO.out.gr hg2.out) hK1 hox HL.out (by omega))
   have hT2 := Lib.hid (hT.out.trans (WrT.of_gr hg2.out))
   have e0 := grCell hGr.out e0
   have e1 := grCell hGr.out e1
   have e2 := grCell hGr.out e2
   have e3 := grCell hGr.out e3
   have hcx := Lib.hid hcx
   have hlx := Lib.hid (show (lr ++ cE x).length + szK (ks.drop (k + 1)) ≤ 50000 by rw [List.length_append, cE_len]; omega)
   have hb := Lib.hid (grBlk hg2.out hb.out)
   clear hi hox hmem hK1 hl1 hc hl hO hT
   go_upto_region 4 with fail
   rw [← hW2]
   clear hW2
   obtain ⟨q0, q1, q2, q3⟩ := cells4k hb2.out
   clear e0 e1 e2 e3 y0 y1 y2 y3
   go_wp2_with (go_at_call 55; refine hq.out.mono ?_; rintro e w8 ⟨rfl, v8, hO8, hT8⟩; have hO8 := Lib.hid hO8; have hb8 := Lib.hid (hT8.keep hb.out (by omega) hv.out); have hv8 := Lib.hid (hT8.not_own (blkLt hb.out) hv.out); have hT8 := Lib.hid (hT2.out.trans hT8))
   go_roundg gq
   case measure => omega
   case rel => exact ⟨k + 1, v8, lr ++ cE x, by omega, by go_num, hO8, hT8, hb8, hv8, hcx, hlx⟩
  ·obtain rfl : gk = 0 := by omega
   obtain rfl : lr = R := by have := hc.out; rw [List.drop_eq_nil_of_le (by omega), cK, List.append_nil] at this; exact this
   have hkl : decide ((k : Int) < (ks.length : Int)) = false := by simp; omega
   have hGr := Lib.hid (hGW.out _ _ hT.out)
   obtain ⟨on, hon⟩ : ∃ on : Nat, op = on := ⟨op.toNat, by omega⟩
   subst hon
   have ho := grCell hGr.out (HL.out on (by omega) (by omega))
   have hi1 : (0 : Int) ≤ (on : Int) := by omega
   have hi2 : (on : Int) < 11 := by omega
   obtain ⟨W3, hW3⟩ : ∃ W3, W3 = wr.alloc (.cells #[.int .i64 on, .int .i64 0, .int .i64 0] 43) := ⟨_, rfl⟩
   have hg3 := Lib.hid (show Gr wr W3 by rw [hW3]; exact grAlloc _ _)
   have hb3 := Lib.hid (show W3.heap[wr.heap.size]? = some (.cells #[.int .i64 on, .int .i64 0, .int .i64 0] 43 (0, 0)) by rw [hW3]; exact nBlk _ _ _ rfl)
   have hwl := blkLt hb.out
   by_cases h0 : ks.length = 0
   ·obtain rfl : n = m := by have := hmH.out; rw [if_pos h0] at this; exact this
    have hkb : ((ks.length : Int) == 0) = true := by rw [beq_iff_eq]; omega
    obtain ⟨W4, hW4⟩ : ∃ W4, W4 = wr.alloc (.cells #[.int .i64 on, .int .i64 n, .int .i64 0] 43) := ⟨_, rfl⟩
    have hg4 := Lib.hid (show Gr wr W4 by rw [hW4]; exact grAlloc _ _)
    have hb4 := Lib.hid (show W4.heap[wr.heap.size]? = some (.cells #[.int .i64 on, .int .i64 n, .int .i64 0] 43 (0, 0)) by rw [hW4]; exact nBlk _ _ _ rfl)
    have hp := Lib.hid (put_any W4 B vr lr ⟨on, n, 0⟩ (hO.out.gr hg4.out) (by have := hRl.out; omega))
    have hT4 := Lib.hid (hT.out.trans (WrT.of_gr hg4.out))
    obtain ⟨z0, z1, z2⟩ := cells3k hb4.out
    clear hg3 hb3 hW3
    go_upto_region 9 with fail
    rw [← hW4]
    clear hW4
    go_wp2_with (go_at_call 56; refine hp.out.mono ?_; rintro e w8 ⟨rfl, v8, hO8, hT8⟩; have hO8 := Lib.hid hO8; have hT8 := Lib.hid (hT4.out.trans hT8))
    exact ⟨rfl, .tuple #[], by simp [results, Tryz.results55, go_sem], rfl, v8, hO8.out, hT8.out⟩
   ·obtain rfl : 0 = m := by have := hmH.out; rw [if_neg h0] at this; exact this
    have hkb : ((ks.length : Int) == 0) = false := by rw [beq_eq_false_iff_ne]; omega
    have hp := Lib.hid (put_any W3 B vr lr ⟨on, 0, 0⟩ (hO.out.gr hg3.out) (by have := hRl.out; omega))
    have hT3 := Lib.hid (hT.out.trans (WrT.of_gr hg3.out))
    obtain ⟨z0, z1, z2⟩ := cells3k hb3.out
    go_upto_region 7 with fail
    rw [← hW3]
    clear hW3
    have y3 := grCell hg3.out y3
    go_wp2_with (go_at_call 56; refine hp.out.mono ?_; rintro e w8 ⟨rfl, v8, hO8, hT8⟩; have hO8 := Lib.hid hO8; have hT8 := Lib.hid (hT3.out.trans hT8))
    exact ⟨rfl, .tuple #[], by simp [results, Tryz.results55, go_sem], rfl, v8, hO8.out, hT8.out⟩
mutual
theorem expr_any : ∀ t : Ex, ExprC t
 | .mk op n u ks => expr_step _ (expr_all ks)
theorem expr_all : ∀ (l : List Ex), ∀ k ∈ l, ExprC k
 | [], k, hk => by cases hk
 | y :: ys, k, hk => by
  rcases List.mem_cons.1 hk with h | h
  ·rw [h]; exact expr_any y
  ·exact expr_all ys k h
end
end K
end Go.Proofs.YtamfgjinfcknfaaGreatDoor
