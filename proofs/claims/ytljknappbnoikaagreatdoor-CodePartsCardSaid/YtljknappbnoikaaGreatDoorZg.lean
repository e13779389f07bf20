/- Texts of one proof: UxK, KzF, KzG. -/
import Derived.Test.YtljknappbnoikaaGreatDoorZd
import Derived.Test.YtljknappbnoikaaGreatDoorZf
set_option linter.unusedVariables false
set_option linter.unusedSimpArgs false
set_option maxRecDepth 100000
set_option maxHeartbeats 8000000
namespace Go.Proofs.YtljknappbnoikaaGreatDoor.U
open Go.RowKit
theorem cells13 {w : World} {b : Nat} {v0 v1 v2 v3 v4 v5 v6 v7 v8 v9 v10 v11 v12 : Value} {T : TypeId} (h : w.heap[b]? = some (.cells #[v0, v1, v2, v3, v4, v5, v6, v7, v8, v9, v10, v11, v12] T (0, 0))) :
  w.cell? ⟨b, 0, none⟩ = some v0 ∧ w.cell? ⟨b, 1, none⟩ = some v1 ∧ w.cell? ⟨b, 2, none⟩ = some v2 ∧ w.cell? ⟨b, 3, none⟩ = some v3 ∧ w.cell? ⟨b, 4, none⟩ = some v4 ∧ w.cell? ⟨b, 5, none⟩ = some v5 ∧ w.cell? ⟨b, 6, none⟩ = some v6 ∧
  w.cell? ⟨b, 7, none⟩ = some v7 ∧ w.cell? ⟨b, 8, none⟩ = some v8 ∧ w.cell? ⟨b, 9, none⟩ = some v9 ∧ w.cell? ⟨b, 10, none⟩ = some v10 ∧ w.cell? ⟨b, 11, none⟩ = some v11 ∧ w.cell? ⟨b, 12, none⟩ = some v12 := by
 have e : ∀ j, w.cell? ⟨b, j, none⟩ = (#[v0, v1, v2, v3, v4, v5, v6, v7, v8, v9, v10, v11, v12] : Array Value)[j]? := fun j => cell_of_row _ _ j _ _ (0, 0) h
 exact ⟨e 0, e 1, e 2, e 3, e 4, e 5, e 6, e 7, e 8, e 9, e 10, e 11, e 12⟩
theorem cell1 {w : World} {b : Nat} {v : Value} {T : TypeId} (h : w.heap[b]? = some (.cells #[v] T (0, 0))) : w.cell? ⟨b, 0, none⟩ = some v ∧ w.frozen? ⟨b, 0, none⟩ = false :=
 ⟨by rw [cell_of_row _ _ 0 _ _ (0, 0) h]; rfl, by simp [World.frozen?, h]⟩
theorem set1 {w : World} {b : Nat} {v u : Value} {T : TypeId} (h : w.heap[b]? = some (.cells #[v] T (0, 0))) : (w.setCell ⟨b, 0, none⟩ u).heap[b]? = some (.cells #[u] T (0, 0)) := by
 rw [heap_setCell_same _ _ _ _ _ _ h]; rfl
def LeftP (L : Nat) (r : Bool × Int) (w : World) (e : Ending) (w' : World) : Prop := e = .returned (.bool r.1) ∧ w'.heap[L]? = some (.cells #[.int .i64 r.2] 3 (0, 0)) ∧ KpL L w w'
theorem clo_any (x : St) (A B T E : Option Addr) (c d m n L : Nat) (left : Int) (hl0 : 0 ≤ left) (hl1 : left ≤ 100) (W0 w : World) (hb0 : Below W0.heap.size W0 w) (hLW : W0.heap.size ≤ L) (hLb : w.heap[L]? = some (.cells #[.int .i64 left] 3 (0, 0)))
  (hA : KidsE W0 x.a.kids A) (hB : KidsE W0 x.b.kids B) : Calls Tryz.prog 85 #[sv x A c B d T m E n, .pointer (some ⟨L, 0, none⟩)] w (LeftP L (okS x.kind x.a x.b (left - 1), left - 1) w) := by
 have HA := Lib.hid (fun wx (h : Below W0.heap.size W0 wx) => isLong_any x.a wx A c (hA.below h))
 have HB := Lib.hid (fun wx (h : Below W0.heap.size W0 wx) => isLong_any x.b wx B d (hB.below h))
 have hxL := blkLt hLb
 have q0 : IntKind.i64.wrap (left - 1) = left - 1 := IntWalk.i64_in _ (by omega)
 have hW1 : Hid (Below W0.heap.size W0 ((w.setCell ⟨L, 0, none⟩ (.int .i64 (left - 1))).alloc (.cells (sArr x A c B d T m E n) 69))) := Lib.hid ((belowSet hb0 hLW).alloc (by simpa using hb0.size) _)
 have hK1 : Hid (KpL L w ((w.setCell ⟨L, 0, none⟩ (.int .i64 (left - 1))).alloc (.cells (sArr x A c B d T m E n) 69))) := Lib.hid (((KpL.refl L w).set _).alloc _)
 have hL1 : Hid (((w.setCell ⟨L, 0, none⟩ (.int .i64 (left - 1))).alloc (.cells (sArr x A c B d T m E n) 69)).heap[L]? = some (.cells #[.int .i64 (left - 1)] 3 (0, 0))) := Lib.hid ((Below.heap_alloc _ _ _ (by simpa using hxL)).trans (set1 hLb))
 have hS1 : Hid (((w.setCell ⟨L, 0, none⟩ (.int .i64 (left - 1))).alloc (.cells (sArr x A c B d T m E n) 69)).heap[w.heap.size]? = some (.cells (sArr x A c B d T m E n) 69 (0, 0))) := Lib.hid (newBlk _ _ _ (by simp))
 obtain ⟨l0, l1⟩ := cell1 hLb
 unfold okS
 generalize hla : decide (60 < x.a.size) = la at *
 generalize hlb : decide (60 < x.b.size) = lb at *
 have hcell := (cell1 hL1.out).1
 have hxs := blkLt hS1.out
 have hxl := blkLt hL1.out
 obtain ⟨s0, s1, s2, s3, s4, s5, s6, s7, s8, s9, s10, s11, s12⟩ := cells13 hS1.out
 clear hA hB hLb hb0 hla hlb s1 s2 s11 s12
 go_enter Tryz.func85, Tryz.ntmps85
 go_wp2_with (go_at_call 86; first
  | (refine (HA.out _ hW1.out).mono ?_; rintro e w1 ⟨rfl, hb1⟩; have hW2 := Lib.hid (hW1.out.trans (hb1.mono hW1.out.size)); have hK2 := Lib.hid (hK1.out.trans (Below.kpl hb1)); have hL2 := Lib.hid ((hb1.block _ hxl).trans hL1.out); have hS2 := Lib.hid ((hb1.block _ hxs).trans hS1.out); clear hb1 s0 s3 s4 s5 s6 s7 s8 s9 s10; obtain ⟨s0, s1, s2, s3, s4, s5, s6, s7, s8, s9, s10, s11, s12⟩ := cells13 hS2.out; clear s1 s2 s11 s12; have hxs2 := blkLt hS2.out; have hxl2 := blkLt hL2.out)
  | (refine (HB.out _ hW2.out).mono ?_; rintro e w2 ⟨rfl, hb2⟩; have hK3 := Lib.hid (hK2.out.trans (Below.kpl hb2)); have hL3 := Lib.hid ((hb2.block _ hxl2).trans hL2.out); clear hb2))
 all_goals
  go_ret
  refine ⟨?_, by first | exact hL3.out | exact hL2.out | exact hL1.out, by first | exact hK3.out | exact hK2.out | exact hK1.out⟩
  simp [*]
 all_goals
  intro h9
  omega
theorem evS_eq (x : St) (n : Int) : evS x n = if okS x.kind x.a x.b (n - 1) = true then (if x.kind = 2 then (match evL x.th (n - 1) with | (true, m) => evL x.el m | (false, m) => (false, m)) else (true, n - 1)) else (false, n - 1) := by
 cases x
 rw [evS]
 rfl
theorem LeftP.mk' {L : Nat} {r : Bool × Int} {b : Bool} {z : Int} {w w' : World} (hr : (b, z) = r) (h : w'.heap[L]? = some (.cells #[.int .i64 z] 3 (0, 0))) (hk : KpL L w w') : LeftP L r w (.returned (.bool b)) w' := by
 subst hr
 exact ⟨rfl, h, hk⟩
def EvC (l : List St) : Prop := ∀ (W0 w : World) (A : Option Addr) (m L : Nat) (left : Int), 0 ≤ left → left ≤ 100 → Below W0.heap.size W0 w → W0.heap.size ≤ L → w.heap[L]? = some (.cells #[.int .i64 left] 3 (0, 0)) → StsR W0 l A → l.length ≤ maxLen →
 Calls Tryz.prog 84 #[.slice A l.length m, .func (.func 85) #[] #[.pointer (some ⟨L, 0, none⟩)]] w (LeftP L (evL l left) w)
theorem every_step (l : List St) (ih : ∀ x ∈ l, EvC x.th ∧ EvC x.el) : EvC l := by
 intro W0 w A m L left hl0 hl1 hb0 hLW hLb hR hlen
 obtain ⟨r, hr⟩ : ∃ r, evL l left = r := ⟨_, rfl⟩
 rw [hr]
 have HR := Lib.hid hr
 have IH := Lib.hid ih
 have HS := Lib.hid hR
 have HB0 := Lib.hid hb0
 have HL0 := Lib.hid hLb
 have hxL := blkLt hLb
 have hsz := hb0.size
 clear hr ih hR hLb hb0
 unfold maxLen at hlen
 go_enter Tryz.func84, Tryz.ntmps84
 go_wp2_with fail
 go_loopg [9] (l.length) (fun gk i wr => ∃ (k : Nat) (lv : Int), k + gk = l.length ∧ i = .int .i64 k ∧ 0 ≤ lv ∧ lv ≤ 100 ∧ Hid (evL (l.drop k) lv = r) ∧ Hid (wr.heap[L]? = some (.cells #[.int .i64 lv] 3 (0, 0))) ∧ Hid (KpL L w wr))
 case atStart => exact ⟨0, left, by omega, rfl, hl0, hl1, HR, HL0, Lib.hid (KpL.refl _ _)⟩
 case round =>
  obtain ⟨k, lv, hk, rfl, hv0, hv1, hE, hLb, hK⟩ := hrel
  have hxl := blkLt hLb.out
  by_cases hlt : k < l.length
  ·obtain ⟨g, rfl⟩ : ∃ g, gk = g + 1 := ⟨gk - 1, by omega⟩
   have hBr := KpL.below HB0.out hK.out hsz hLW
   have hSr := HS.out.below hBr
   obtain ⟨ga, oa, rfl⟩ := hSr.addr (by omega)
   have hS0 := (HS.out.get _ _ _ k _ (List.getElem?_eq_getElem hlt)).cells
   have hmem : l[k] ∈ l := List.getElem_mem hlt
   have hI := IH.out _ hmem
   have hE1 := hE.out
   rw [List.drop_eq_getElem_cons hlt, evL] at hE1
   clear hmem hE hSr
   generalize l[k] = x at *
   obtain ⟨A1, c1, B1, d1, T1, m1, E1, n1, hat0, hKa, hKb, hTh, hEl0, hlt1, hlt2⟩ := hS0
   have hat := hat0.keep (hBr.block ga (World.block_lt_of_cell? _ _ hat0.1))
   obtain ⟨s0, s1, s2, s3, s4, s5, s6, s7, s8, s9, s10, s11, s12⟩ := hat
   have hB1 : Hid (Below W0.heap.size W0 (wr.alloc (.cells (sArr x A1 c1 B1 d1 T1 m1 E1 n1) 69))) := Lib.hid (hBr.alloc hBr.size _)
   have hK1 : Hid (KpL L w (wr.alloc (.cells (sArr x A1 c1 B1 d1 T1 m1 E1 n1) 69))) := Lib.hid (hK.out.alloc _)
   have hL1 := (Below.heap_alloc wr (.cells (sArr x A1 c1 B1 d1 T1 m1 E1 n1) 69) L hxl).trans hLb.out
   have hX1 : Hid ((wr.alloc (.cells (sArr x A1 c1 B1 d1 T1 m1 E1 n1) 69)).heap[wr.heap.size]? = some (.cells (sArr x A1 c1 B1 d1 T1 m1 E1 n1) 69 (0, 0))) := Lib.hid (newBlk _ _ _ rfl)
   have hxX := blkLt hX1.out
   have hne : wr.heap.size ≠ L := by omega
   have HC := Lib.hid (clo_any x A1 B1 T1 E1 c1 d1 m1 n1 L lv hv0 hv1 W0 (wr.alloc (.cells (sArr x A1 c1 B1 d1 T1 m1 E1 n1) 69)) hB1.out hLW hL1 hKa hKb)
   have hTH := Lib.hid hTh
   have hEL := Lib.hid hEl0
   have hT := Lib.hid hI.1
   have hEl := Lib.hid hI.2
   rw [evS_eq] at hE1
   clear hat0 hKa hKb hTh hEl0 hBr hI hL1
   cases hok : okS x.kind x.a x.b (lv - 1) with
   | false =>
    rw [hok] at HC hE1
    have hF : Hid ((false, lv - 1) = r) := Lib.hid (by simpa using hE1)
    clear hok hE1
    go_wp2_with (go_at_call 85; refine HC.out.mono ?_; rintro e w1 ⟨rfl, hL2, hK2⟩; have hL2 := Lib.hid hL2; have hKw2 := Lib.hid (hK1.out.trans hK2); have hB2 := Lib.hid (KpL.below hB1.out hK2 hB1.out.size hLW); have hX2 := Lib.hid ((hK2.block _ hxX hne).trans hX1.out); obtain ⟨x0, x1, x2, x3, x4, x5, x6, x7, x8, x9, x10, x11, x12⟩ := cells13 hX2.out; have hxX2 := blkLt hX2.out; have hxL2 := blkLt hL2.out; clear hK2 x1 x2 x3 x4 x5 x6 x7 x8 x9 x10 s0 s1 s2 s3 s4 s5 s6 s7 s8 s9 s10 s11 s12)
    go_ret
    exact LeftP.mk' hF.out hL2.out hKw2.out
   | true =>
    rw [hok] at HC
    have hlv : 0 ≤ lv - 1 := by simp [okS] at hok; omega
    rw [hok, if_pos rfl] at hE1
    clear hok
    by_cases hkd : x.kind = 2
    ·rw [if_pos hkd] at hE1
     have HKD := Lib.hid hkd
     clear hkd
     rcases hev : evL x.th (lv - 1) with ⟨b1, m2⟩
     have hrange := evL_range x.th (lv - 1) hlv
     rw [hev] at hE1 hrange
     have hev := Lib.hid hev
     cases b1 with
     | false =>
      have hF : Hid ((false, m2) = r) := hE1
      clear hE1
      go_wp2_with (first
       | (go_at_call 85; refine HC.out.mono ?_; rintro e w1 ⟨rfl, hL2, hK2⟩; have hL2 := Lib.hid hL2; have hKw2 := Lib.hid (hK1.out.trans hK2); have hB2 := Lib.hid (KpL.below hB1.out hK2 hB1.out.size hLW); have hX2 := Lib.hid ((hK2.block _ hxX hne).trans hX1.out); obtain ⟨x0, x1, x2, x3, x4, x5, x6, x7, x8, x9, x10, x11, x12⟩ := cells13 hX2.out; rw [HKD.out] at x0; have hxX2 := blkLt hX2.out; have hxL2 := blkLt hL2.out; clear hK2 x1 x2 x3 x4 x5 x6 x7 x8 x9 x10 s0 s1 s2 s3 s4 s5 s6 s7 s8 s9 s10 s11 s12)
       | (go_at_call_of 84 (Value.slice T1 x.th.length m1); refine (hT.out W0 w1 T1 m1 L (lv - 1) hlv (by omega) hB2.out hLW hL2.out hTH.out hlt1).mono ?_; rw [hev.out]; rintro e w2 ⟨rfl, hL3, hK3⟩; have hL3 := Lib.hid hL3; have hKw3 := Lib.hid (hKw2.out.trans hK3); have hB3 := Lib.hid (KpL.below hB2.out hK3 hB2.out.size hLW); have hX3 := Lib.hid ((hK3.block _ hxX2 hne).trans hX2.out); clear x0 x11 x12; obtain ⟨x0, x1, x2, x3, x4, x5, x6, x7, x8, x9, x10, x11, x12⟩ := cells13 hX3.out; rw [HKD.out] at x0; have hxX3 := blkLt hX3.out; have hxL3 := blkLt hL3.out; clear hK3 x1 x2 x3 x4 x5 x6 x7 x8 x9 x10))
      go_ret
      exact LeftP.mk' hF.out hL3.out hKw3.out
     | true =>
      have hm0 : 0 ≤ m2 := hrange.2.2 rfl
      have hm1 : m2 ≤ 100 := by have := hrange.2.1; simp only at this; omega
      rcases hev2 : evL x.el m2 with ⟨b2, m3⟩
      have hrange2 := evL_range x.el m2 hm0
      simp only at hE1
      rw [hev2] at hE1 hrange2
      have hev2 := Lib.hid hev2
      cases b2 with
      | false =>
       have hF : Hid ((false, m3) = r) := hE1
       clear hE1 hrange hrange2
       go_wp2_with (first
        | (go_at_call 85; refine HC.out.mono ?_; rintro e w1 ⟨rfl, hL2, hK2⟩; have hL2 := Lib.hid hL2; have hKw2 := Lib.hid (hK1.out.trans hK2); have hB2 := Lib.hid (KpL.below hB1.out hK2 hB1.out.size hLW); have hX2 := Lib.hid ((hK2.block _ hxX hne).trans hX1.out); obtain ⟨x0, x1, x2, x3, x4, x5, x6, x7, x8, x9, x10, x11, x12⟩ := cells13 hX2.out; rw [HKD.out] at x0; have hxX2 := blkLt hX2.out; have hxL2 := blkLt hL2.out; clear hK2 x1 x2 x3 x4 x5 x6 x7 x8 x9 x10 s0 s1 s2 s3 s4 s5 s6 s7 s8 s9 s10 s11 s12)
        | (go_at_call_of 84 (Value.slice T1 x.th.length m1); refine (hT.out W0 w1 T1 m1 L (lv - 1) hlv (by omega) hB2.out hLW hL2.out hTH.out hlt1).mono ?_; rw [hev.out]; rintro e w2 ⟨rfl, hL3, hK3⟩; have hL3 := Lib.hid hL3; have hKw3 := Lib.hid (hKw2.out.trans hK3); have hB3 := Lib.hid (KpL.below hB2.out hK3 hB2.out.size hLW); have hX3 := Lib.hid ((hK3.block _ hxX2 hne).trans hX2.out); clear x0 x11 x12; obtain ⟨x0, x1, x2, x3, x4, x5, x6, x7, x8, x9, x10, x11, x12⟩ := cells13 hX3.out; rw [HKD.out] at x0; have hxX3 := blkLt hX3.out; have hxL3 := blkLt hL3.out; clear hK3 x1 x2 x3 x4 x5 x6 x7 x8 x9 x10)
        | (go_at_call_of 84 (Value.slice E1 x.el.length n1); refine (hEl.out W0 w2 E1 n1 L m2 hm0 hm1 hB3.out hLW hL3.out hEL.out hlt2).mono ?_; rw [hev2.out]; rintro e w3 ⟨rfl, hL4, hK4⟩; have hL4 := Lib.hid hL4; have hKw4 := Lib.hid (hKw3.out.trans hK4); clear hK4))
       go_ret
       exact LeftP.mk' hF.out hL4.out hKw4.out
      | true =>
       have hm2 : 0 ≤ m3 := hrange2.2.2 rfl
       have hm3 : m3 ≤ 100 := by have := hrange2.2.1; simp only at this; omega
       have hG : Hid (evL (l.drop (k + 1)) m3 = r) := hE1
       clear hE1 hrange hrange2
       go_wp2_with (first
        | (go_at_call 85; refine HC.out.mono ?_; rintro e w1 ⟨rfl, hL2, hK2⟩; have hL2 := Lib.hid hL2; have hKw2 := Lib.hid (hK1.out.trans hK2); have hB2 := Lib.hid (KpL.below hB1.out hK2 hB1.out.size hLW); have hX2 := Lib.hid ((hK2.block _ hxX hne).trans hX1.out); obtain ⟨x0, x1, x2, x3, x4, x5, x6, x7, x8, x9, x10, x11, x12⟩ := cells13 hX2.out; rw [HKD.out] at x0; have hxX2 := blkLt hX2.out; have hxL2 := blkLt hL2.out; clear hK2 x1 x2 x3 x4 x5 x6 x7 x8 x9 x10 s0 s1 s2 s3 s4 s5 s6 s7 s8 s9 s10 s11 s12)
        | (go_at_call_of 84 (Value.slice T1 x.th.length m1); refine (hT.out W0 w1 T1 m1 L (lv - 1) hlv (by omega) hB2.out hLW hL2.out hTH.out hlt1).mono ?_; rw [hev.out]; rintro e w2 ⟨rfl, hL3, hK3⟩; have hL3 := Lib.hid hL3; have hKw3 := Lib.hid (hKw2.out.trans hK3); have hB3 := Lib.hid (KpL.below hB2.out hK3 hB2.out.size hLW); have hX3 := Lib.hid ((hK3.block _ hxX2 hne).trans hX2.out); clear x0 x11 x12; obtain ⟨x0, x1, x2, x3, x4, x5, x6, x7, x8, x9, x10, x11, x12⟩ := cells13 hX3.out; rw [HKD.out] at x0; have hxX3 := blkLt hX3.out; have hxL3 := blkLt hL3.out; clear hK3 x1 x2 x3 x4 x5 x6 x7 x8 x9 x10)
        | (go_at_call_of 84 (Value.slice E1 x.el.length n1); refine (hEl.out W0 w2 E1 n1 L m2 hm0 hm1 hB3.out hLW hL3.out hEL.out hlt2).mono ?_; rw [hev2.out]; rintro e w3 ⟨rfl, hL4, hK4⟩; have hL4 := Lib.hid hL4; have hKw4 := Lib.hid (hKw3.out.trans hK4); clear hK4))
       go_roundg g
       case measure => omega
       case rel => exact ⟨k + 1, m3, by omega, by go_num, hm2, hm3, hG, hL4, hKw4⟩
    ·rw [if_neg hkd] at hE1
     have hG : Hid (evL (l.drop (k + 1)) (lv - 1) = r) := hE1
     clear hE1
     go_wp2_with (go_at_call 85; refine HC.out.mono ?_; rintro e w1 ⟨rfl, hL2, hK2⟩; have hL2 := Lib.hid hL2; have hKw2 := Lib.hid (hK1.out.trans hK2); have hB2 := Lib.hid (KpL.below hB1.out hK2 hB1.out.size hLW); have hX2 := Lib.hid ((hK2.block _ hxX hne).trans hX1.out); obtain ⟨x0, x1, x2, x3, x4, x5, x6, x7, x8, x9, x10, x11, x12⟩ := cells13 hX2.out; have hxX2 := blkLt hX2.out; have hxL2 := blkLt hL2.out; clear hK2 x1 x2 x3 x4 x5 x6 x7 x8 x9 x10 s0 s1 s2 s3 s4 s5 s6 s7 s8 s9 s10 s11 s12)
     go_roundg g
     case measure => omega
     case rel => exact ⟨k + 1, lv - 1, by omega, by go_num, hlv, by omega, hG, hL2, hKw2⟩
  ·have hF : Hid ((true, lv) = r) := Lib.hid (by have := hE.out; rw [List.drop_eq_nil_of_le (by omega), evL] at this; exact this)
   clear hE
   go_wp2_with fail
   go_ret
   exact LeftP.mk' hF.out hLb.out hK.out
mutual
theorem every_any : ∀ x : St, EvC x.th ∧ EvC x.el
 | .mk k v r a b th el => ⟨every_step th (every_all th), every_step el (every_all el)⟩
theorem every_all : ∀ l : List St, ∀ x ∈ l, EvC x.th ∧ EvC x.el
 | [], x, h => by cases h
 | y :: ys, x, h => by
  rcases List.mem_cons.1 h with h | h
  ·rw [h]; exact every_any y
  ·exact every_all ys x h
end
end Go.Proofs.YtljknappbnoikaaGreatDoor.U
namespace Go.Proofs.YtljknappbnoikaaGreatDoor
open Go.RowKit
namespace K
open U (Ex St szK KidsE ev eArr StsR sv sArr)
def StmtsC (ss : List St) : Prop := ∀ (W0 w : World) (B : Nat) (v : Value) (l : List In) (A : Option Addr) (m : Nat), Gr W0 w → W0.heap.size ≤ B → WrO w B v l → StsR W0 ss A → OpL ss → LaidO W0 → l.length + lnL ss ≤ 50000 →
 Calls Tryz.prog 19 #[.pointer (some ⟨B, 0, none⟩), .slice A ss.length m] w (WrP w B v (l ++ cL ss l.length))
theorem assignment_any (W0 w : World) (B : Nat) (v : Value) (l : List In) (x : St) (A : Option Addr) (c : Nat) (Bk : Option Addr) (d : Nat) (T : Option Addr) (m : Nat) (E : Option Addr) (n : Nat) (hg : Gr W0 w) (hB : W0.heap.size ≤ B) (hO : WrO w B v l) (hK : KidsE W0 x.a.kids A) (hop : OpX x.a) (hL : LaidO W0) (hlen : l.length + x.a.size + 1 ≤ 50000) :
  Calls Tryz.prog 38 #[.pointer (some ⟨B, 0, none⟩), sv x A c Bk d T m E n] w (WrP w B v (l ++ (cE x.a ++ [⟨11, x.var, 0⟩]))) := by
 obtain ⟨W1, hW1⟩ : ∃ W1, W1 = w.alloc (.cells (sArr x A c Bk d T m E n) 69) := ⟨_, rfl⟩
 have hg1 := Lib.hid (show Gr w W1 by rw [hW1]; exact grAlloc _ _)
 have hb1 := Lib.hid (show W1.heap[w.heap.size]? = some (.cells (sArr x A c Bk d T m E n) 69 (0, 0)) by rw [hW1]; exact nBlk _ _ _ rfl)
 have hq := Lib.hid (expr_any x.a W0 W1 B v l A c (hg.tr hg1.out) hB (hO.gr hg1.out) hK hop hL (by omega))
 have hT1 := Lib.hid (WrT.of_gr (B := B) (v := v) hg1.out)
 have hov : Hid (v.ownBlock ≠ some w.heap.size) := Lib.hid (fun e => by have := (hO.own_lt e).2; omega)
 have hBw := hO.lt
 have hl2 := Lib.hid (show (l ++ cE x.a).length ≤ 100000 by rw [List.length_append, cE_len]; omega)
 have hap := Lib.hid (List.append_assoc l (cE x.a) [⟨11, x.var, 0⟩])
 rw [← hap.out]
 obtain ⟨y0, y1, y2, y3, y4, y5, y6, y7, y8, y9, ya, yb, yc⟩ := U.cells13 hb1.out
 clear hg hO hK hop hL hlen
 go_enter Tryz.func38, Tryz.ntmps38
 go_upto_region 1 with fail
 rw [← hW1]
 clear hW1
 go_wp2_with (first
  | (go_at_call 61; refine hq.out.mono ?_; rintro e w8 ⟨rfl, v8, hO8, hT8⟩; have hO8 := Lib.hid hO8; have hb8 := Lib.hid (hT8.keep hb1.out (by omega) hov.out); have hT8 := Lib.hid (hT1.out.trans hT8); clear y0 y1 y2 y3 y4 y5 y6 y7 y8 y9 ya yb yc; obtain ⟨y0, y1, y2, y3, y4, y5, y6, y7, y8, y9, ya, yb, yc⟩ := U.cells13 hb8.out)
  | (go_at_call 62; refine (put_any _ B v8 (l ++ cE x.a) ⟨11, x.var, 0⟩ hO8.out hl2.out).mono ?_; rintro e w9 ⟨rfl, v9, hO9, hT9⟩; have hO9 := Lib.hid hO9; have hT9 := Lib.hid (hT8.out.trans hT9)))
 exact ⟨rfl, .tuple #[], by simp [results, Tryz.results38, go_sem], rfl, v9, hO9.out, hT9.out⟩
theorem choice_any (W0 w : World) (B : Nat) (v : Value) (l : List In) (x : St) (A : Option Addr) (c : Nat) (Bk : Option Addr) (d : Nat) (T : Option Addr) (m : Nat) (E : Option Addr) (n : Nat) (hg : Gr W0 w) (hB : W0.heap.size ≤ B) (hO : WrO w B v l) (hKa : KidsE W0 x.a.kids A) (hKb : KidsE W0 x.b.kids Bk) (hTh : StsR W0 x.th T) (hEl : StsR W0 x.el E)
  (hop : OpS x) (hk : x.kind = 2) (hL : LaidO W0) (hlen : l.length + lnS x ≤ 50000) (ihT : StmtsC x.th) (ihE : StmtsC x.el) :
  Calls Tryz.prog 39 #[.pointer (some ⟨B, 0, none⟩), sv x A c Bk d T m E n] w (WrP w B v (l ++ cS x l.length)) := by
 obtain ⟨hopa, hop2⟩ := OpS_of hop
 obtain ⟨hopb, hopt, hope⟩ := hop2 hk
 have hln := lnS_if hk
 obtain ⟨R, hR⟩ : ∃ R, l ++ cS x l.length = R := ⟨_, rfl⟩
 obtain ⟨L1, hL1⟩ : ∃ L1, L1 = l ++ cE x.a := ⟨_, rfl⟩
 obtain ⟨P, hP⟩ : ∃ P, P = L1 ++ cE x.b := ⟨_, rfl⟩
 obtain ⟨L3, hL3⟩ : ∃ L3, L3 = P ++ [⟨12, 0, x.rel⟩] := ⟨_, rfl⟩
 obtain ⟨L4, hL4⟩ : ∃ L4, L4 = L3 ++ cL x.th L3.length := ⟨_, rfl⟩
 have n1 : L1.length = l.length + x.a.size := by rw [hL1, List.length_append, cE_len]
 have nP : P.length = l.length + x.a.size + x.b.size := by rw [hP, List.length_append, cE_len, n1]
 have n3 : L3.length = l.length + x.a.size + x.b.size + 1 := by rw [hL3, List.length_append, nP]; rfl
 have n4 : L4.length = l.length + x.a.size + x.b.size + 1 + lnL x.th := by rw [hL4, List.length_append, cL_len, n3]
 obtain ⟨W1, hW1⟩ : ∃ W1, W1 = w.alloc (.cells (sArr x A c Bk d T m E n) 69) := ⟨_, rfl⟩
 have hgr1 := Lib.hid (show Gr w W1 by rw [hW1]; exact grAlloc _ _)
 have hb1 := Lib.hid (show W1.heap[w.heap.size]? = some (.cells (sArr x A c Bk d T m E n) 69 (0, 0)) by rw [hW1]; exact nBlk _ _ _ rfl)
 have hg1 := Lib.hid (hg.tr hgr1.out)
 have hO1 := Lib.hid (hO.gr hgr1.out)
 have hT1 := Lib.hid (WrT.of_gr (B := B) (v := v) hgr1.out)
 have hv1 : Hid (v.ownBlock ≠ some w.heap.size) := Lib.hid (fun e => by have := (hO.own_lt e).2; omega)
 have hBw := hO.lt
 have hBH := Lib.hid hB
 have HA := Lib.hid (fun (wx : World) (vx : Value) (hgx : Gr W0 wx) (hox : WrO wx B vx l) => expr_any x.a W0 wx B vx l A c hgx hB hox hKa hopa hL (by omega))
 have HB := Lib.hid (fun (wx : World) (vx : Value) (hgx : Gr W0 wx) (hox : WrO wx B vx L1) => expr_any x.b W0 wx B vx L1 Bk d hgx hB hox hKb hopb hL (by omega))
 have HP := Lib.hid (fun (wx : World) (vx : Value) (hox : WrO wx B vx P) => putForward_any wx B vx P ⟨12, 0, x.rel⟩ hox (by omega))
 have HT := Lib.hid (fun (wx : World) (vx : Value) (hgx : Gr W0 wx) (hox : WrO wx B vx L3) => ihT W0 wx B vx L3 T m hgx hB hox hTh hopt hL (by omega))
 rw [← hL1] at HA
 rw [← hP] at HB
 have hX3 := Lib.hid hL3
 rw [← hL4] at HT
 have hX1 := Lib.hid hL1
 rw [hR]
 obtain ⟨y0, y1, y2, y3, y4, y5, y6, y7, y8, y9, ya, yb, yc⟩ := U.cells13 hb1.out
 by_cases he : x.el.length = 0
 ·obtain ⟨g1, g2, g3⟩ := choice_no (l := l) (P := P) (L3 := L3) (L4 := L4) hk he (by rw [hP, hL1]) hL3 hL4
  rw [hR] at g3
  have hte : decide (0 < x.el.length) = false := decide_eq_false (by omega)
  have hAr := Lib.hid (fun (wx : World) (vx : Value) (b c : Nat) (hox : WrO wx B vx L4) (hf : FwR wx B b c P.length) => arrive_any wx B vx L4 b c P.length _ hox hf g1 (by omega))
  simp only [g3] at hAr
  clear hP hL3 hL4 hg hB hO hKa hKb hTh hEl hop hopa hop2 hopb hopt hope hL hlen ihT ihE hln hk hR g1 g2 g3 n1 nP n3 n4 hL1 he
  go_enter Tryz.func39, Tryz.ntmps39
  go_upto_region 1 with fail
  rw [← hW1]
  clear hW1
  go_upto_region 2 with (go_at_call 61; refine (HA.out _ _ hg1.out hO1.out).mono ?_; rintro e w2 ⟨rfl, v2, hO2, hT2⟩; have hO2 := Lib.hid hO2; have hb2 := Lib.hid (hT2.keep hb1.out (by omega) hv1.out); have hv2 := Lib.hid (hT2.not_own (blkLt hb1.out) hv1.out); have hg2 := Lib.hid (hT2.base hO1.out hg1.out hBH.out); have hT2 := Lib.hid (hT1.out.trans hT2); clear y0 y1 y2 y3 y4 y5 y6 y7 y8 y9 ya yb yc; obtain ⟨y0, y1, y2, y3, y4, y5, y6, y7, y8, y9, ya, yb, yc⟩ := U.cells13 hb2.out)
  go_upto_region 3 with (go_at_call 61; refine (HB.out _ _ hg2.out hO2.out).mono ?_; rintro e w3 ⟨rfl, v3, hO3, hT3⟩; have hO3 := Lib.hid hO3; have hb3 := Lib.hid (hT3.keep hb2.out (by omega) hv2.out); have hv3 := Lib.hid (hT3.not_own (blkLt hb2.out) hv2.out); have hg3 := Lib.hid (hT3.base hO2.out hg2.out hBH.out); have hT3 := Lib.hid (hT2.out.trans hT3); clear y0 y1 y2 y3 y4 y5 y6 y7 y8 y9 ya yb yc; obtain ⟨y0, y1, y2, y3, y4, y5, y6, y7, y8, y9, ya, yb, yc⟩ := U.cells13 hb3.out)
  go_upto_region 4 with (go_at_call 63; refine (HP.out _ _ hO3.out).mono ?_; rintro e w4 ⟨b, c, v4, rfl, hf4, hO4, hT4, hbl, hcl, hvb, hvc⟩; rw [← hX3.out] at hO4; have hO4 := Lib.hid hO4; have hb4 := Lib.hid (hT4.keep hb3.out (by omega) hv3.out); have hv4 := Lib.hid (hT4.not_own (blkLt hb3.out) hv3.out); have hg4 := Lib.hid (hT4.base hO3.out hg3.out hBH.out); have hT4 := Lib.hid (hT3.out.trans hT4); clear y0 y1 y2 y3 y4 y5 y6 y7 y8 y9 ya yb yc; obtain ⟨y0, y1, y2, y3, y4, y5, y6, y7, y8, y9, ya, yb, yc⟩ := U.cells13 hb4.out; have hf4 := Lib.hid hf4; have hvb := Lib.hid hvb; have hvc := Lib.hid hvc; have hBb := Lib.hid (show B < b ∧ B < c by have := hO3.out.lt; omega))
  go_upto_region 5 with (go_at_call 19; refine (HT.out _ _ hg4.out hO4.out).mono ?_; rintro e w5 ⟨rfl, v5, hO5, hT5⟩; have hO5 := Lib.hid hO5; have hb5 := Lib.hid (hT5.keep hb4.out (by omega) hv4.out); have hv5 := Lib.hid (hT5.not_own (blkLt hb4.out) hv4.out); have hf5 := Lib.hid (FwR.keep hf4.out hT5 hBb.out ⟨hvb.out, hvc.out⟩); have hvb5 := Lib.hid (hT5.not_own (blkLt hf4.out.1) hvb.out); have hvc5 := Lib.hid (hT5.not_own (blkLt hf4.out.2) hvc.out); have hg5 := Lib.hid (hT5.base hO4.out hg4.out hBH.out); have hT5 := Lib.hid (hT4.out.trans hT5); clear y0 y1 y2 y3 y4 y5 y6 y7 y8 y9 ya yb yc; obtain ⟨y0, y1, y2, y3, y4, y5, y6, y7, y8, y9, ya, yb, yc⟩ := U.cells13 hb5.out)
  go_upto_region 10 with fail
  have hTx := hT5
  go_wp2_with (go_at_call 79; refine (hAr.out _ _ _ _ hO5.out hf5.out).mono ?_; rintro e w9 ⟨rfl, v9, hO9, hT9⟩; have hO9 := Lib.hid hO9; have hT9 := Lib.hid hT9)
  exact ⟨rfl, .tuple #[], by simp [results, Tryz.results39, go_sem], rfl, v9, hO9.out, hTx.out.trans hT9.out⟩
 ·obtain ⟨L5, hL5⟩ : ∃ L5, L5 = L4 ++ [⟨13, 0, 0⟩] := ⟨_, rfl⟩
  obtain ⟨L6, hL6⟩ : ∃ L6, L6 = L5.set P.length ⟨12, L5.length, x.rel⟩ := ⟨_, rfl⟩
  obtain ⟨L7, hL7⟩ : ∃ L7, L7 = L6 ++ cL x.el L6.length := ⟨_, rfl⟩
  obtain ⟨g1, g2, g3, g4, g5⟩ := choice_else (l := l) (P := P) (L3 := L3) (L4 := L4) (L5 := L5) (L6 := L6) (L7 := L7) hk he (by rw [hP, hL1]) hL3 hL4 hL5 hL6 hL7
  rw [hR] at g4
  rw [if_neg he] at hln
  have hte : decide (0 < x.el.length) = true := decide_eq_true (by omega)
  have n5 : L5.length = L4.length + 1 := by rw [hL5, List.length_append]; rfl
  have HJ := Lib.hid (fun (wx : World) (vx : Value) (hox : WrO wx B vx L4) => putForward_any wx B vx L4 ⟨13, 0, 0⟩ hox (by omega))
  have hX5 := Lib.hid hL5
  have hAr := Lib.hid (fun (wx : World) (vx : Value) (b c : Nat) (hox : WrO wx B vx L5) (hf : FwR wx B b c P.length) => arrive_any wx B vx L5 b c P.length _ hox hf g1 (by omega))
  simp only [← hL6] at hAr
  have HE := Lib.hid (fun (wx : World) (vx : Value) (hgx : Gr W0 wx) (hox : WrO wx B vx L6) => ihE W0 wx B vx L6 E n hgx hB hox hEl hope hL (by omega))
  rw [← hL7] at HE
  have hAs := Lib.hid (fun (wx : World) (vx : Value) (b c : Nat) (hox : WrO wx B vx L7) (hf : FwR wx B b c L4.length) => arrive_any wx B vx L7 b c L4.length _ hox hf g2 (by omega))
  simp only [g4] at hAs
  clear hP hL3 hL4 hg hB hO hKa hKb hTh hEl hop hopa hop2 hopb hopt hope hL hlen ihT ihE hln hk hR g1 g2 g3 g4 g5 n1 nP n3 n4 hL1 he hL5 hL6 hL7 n5
  go_enter Tryz.func39, Tryz.ntmps39
  go_upto_region 1 with fail
  rw [← hW1]
  clear hW1
  go_upto_region 2 with (go_at_call 61; refine (HA.out _ _ hg1.out hO1.out).mono ?_; rintro e w2 ⟨rfl, v2, hO2, hT2⟩; have hO2 := Lib.hid hO2; have hb2 := Lib.hid (hT2.keep hb1.out (by omega) hv1.out); have hv2 := Lib.hid (hT2.not_own (blkLt hb1.out) hv1.out); have hg2 := Lib.hid (hT2.base hO1.out hg1.out hBH.out); have hT2 := Lib.hid (hT1.out.trans hT2); clear y0 y1 y2 y3 y4 y5 y6 y7 y8 y9 ya yb yc; obtain ⟨y0, y1, y2, y3, y4, y5, y6, y7, y8, y9, ya, yb, yc⟩ := U.cells13 hb2.out)
  go_upto_region 3 with (go_at_call 61; refine (HB.out _ _ hg2.out hO2.out).mono ?_; rintro e w3 ⟨rfl, v3, hO3, hT3⟩; have hO3 := Lib.hid hO3; have hb3 := Lib.hid (hT3.keep hb2.out (by omega) hv2.out); have hv3 := Lib.hid (hT3.not_own (blkLt hb2.out) hv2.out); have hg3 := Lib.hid (hT3.base hO2.out hg2.out hBH.out); have hT3 := Lib.hid (hT2.out.trans hT3); clear y0 y1 y2 y3 y4 y5 y6 y7 y8 y9 ya yb yc; obtain ⟨y0, y1, y2, y3, y4, y5, y6, y7, y8, y9, ya, yb, yc⟩ := U.cells13 hb3.out)
  go_upto_region 4 with (go_at_call 63; refine (HP.out _ _ hO3.out).mono ?_; rintro e w4 ⟨b, c, v4, rfl, hf4, hO4, hT4, hbl, hcl, hvb, hvc⟩; rw [← hX3.out] at hO4; have hO4 := Lib.hid hO4; have hb4 := Lib.hid (hT4.keep hb3.out (by omega) hv3.out); have hv4 := Lib.hid (hT4.not_own (blkLt hb3.out) hv3.out); have hg4 := Lib.hid (hT4.base hO3.out hg3.out hBH.out); have hT4 := Lib.hid (hT3.out.trans hT4); clear y0 y1 y2 y3 y4 y5 y6 y7 y8 y9 ya yb yc; obtain ⟨y0, y1, y2, y3, y4, y5, y6, y7, y8, y9, ya, yb, yc⟩ := U.cells13 hb4.out; have hf4 := Lib.hid hf4; have hvb := Lib.hid hvb; have hvc := Lib.hid hvc; have hBb := Lib.hid (show B < b ∧ B < c by have := hO3.out.lt; omega))
  go_upto_region 5 with (go_at_call 19; refine (HT.out _ _ hg4.out hO4.out).mono ?_; rintro e w5 ⟨rfl, v5, hO5, hT5⟩; have hO5 := Lib.hid hO5; have hb5 := Lib.hid (hT5.keep hb4.out (by omega) hv4.out); have hv5 := Lib.hid (hT5.not_own (blkLt hb4.out) hv4.out); have hf5 := Lib.hid (FwR.keep hf4.out hT5 hBb.out ⟨hvb.out, hvc.out⟩); have hvb5 := Lib.hid (hT5.not_own (blkLt hf4.out.1) hvb.out); have hvc5 := Lib.hid (hT5.not_own (blkLt hf4.out.2) hvc.out); have hg5 := Lib.hid (hT5.base hO4.out hg4.out hBH.out); have hT5 := Lib.hid (hT4.out.trans hT5); clear y0 y1 y2 y3 y4 y5 y6 y7 y8 y9 ya yb yc; obtain ⟨y0, y1, y2, y3, y4, y5, y6, y7, y8, y9, ya, yb, yc⟩ := U.cells13 hb5.out)
  go_upto_region 6 with fail
  go_upto_region 7 with (go_at_call 63; refine (HJ.out _ _ hO5.out).mono ?_; rintro e w6 ⟨b2, c2, v6, rfl, hq6, hO6, hT6, hbl2, hcl2, hwb, hwc⟩; rw [← hX5.out] at hO6; have hO6 := Lib.hid hO6; have hb6 := Lib.hid (hT6.keep hb5.out (by omega) hv5.out); have hv6 := Lib.hid (hT6.not_own (blkLt hb5.out) hv5.out); have hf6 := Lib.hid (FwR.keep hf5.out hT6 hBb.out ⟨hvb5.out, hvc5.out⟩); have hvb6 := Lib.hid (hT6.not_own (blkLt hf5.out.1) hvb5.out); have hvc6 := Lib.hid (hT6.not_own (blkLt hf5.out.2) hvc5.out); have hg6 := Lib.hid (hT6.base hO5.out hg5.out hBH.out); have hT6 := Lib.hid (hT5.out.trans hT6); clear y0 y1 y2 y3 y4 y5 y6 y7 y8 y9 ya yb yc; obtain ⟨y0, y1, y2, y3, y4, y5, y6, y7, y8, y9, ya, yb, yc⟩ := U.cells13 hb6.out; have hq6 := Lib.hid hq6; have hwb := Lib.hid hwb; have hwc := Lib.hid hwc; have hBq := Lib.hid (show B < b2 ∧ B < c2 by have := hO5.out.lt; omega))
  go_upto_region 8 with (go_at_call 79; refine (hAr.out _ _ _ _ hO6.out hf6.out).mono ?_; rintro e w7 ⟨rfl, v7, hO7, hT7⟩; have hO7 := Lib.hid hO7; have hb7 := Lib.hid (hT7.keep hb6.out (by omega) hv6.out); have hv7 := Lib.hid (hT7.not_own (blkLt hb6.out) hv6.out); have hf7 := Lib.hid (FwR.keep hq6.out hT7 hBq.out ⟨hwb.out, hwc.out⟩); have hvb7 := Lib.hid (hT7.not_own (blkLt hq6.out.1) hwb.out); have hvc7 := Lib.hid (hT7.not_own (blkLt hq6.out.2) hwc.out); have hg7 := Lib.hid (hT7.base hO6.out hg6.out hBH.out); have hT7 := Lib.hid (hT6.out.trans hT7); clear y0 y1 y2 y3 y4 y5 y6 y7 y8 y9 ya yb yc; obtain ⟨y0, y1, y2, y3, y4, y5, y6, y7, y8, y9, ya, yb, yc⟩ := U.cells13 hb7.out)
  go_upto_region 9 with (go_at_call 19; refine (HE.out _ _ hg7.out hO7.out).mono ?_; rintro e w8 ⟨rfl, v8, hO8, hT8⟩; have hO8 := Lib.hid hO8; have hb8 := Lib.hid (hT8.keep hb7.out (by omega) hv7.out); have hv8 := Lib.hid (hT8.not_own (blkLt hb7.out) hv7.out); have hf8 := Lib.hid (FwR.keep hf7.out hT8 hBq.out ⟨hvb7.out, hvc7.out⟩); have hvb8 := Lib.hid (hT8.not_own (blkLt hf7.out.1) hvb7.out); have hvc8 := Lib.hid (hT8.not_own (blkLt hf7.out.2) hvc7.out); have hg8 := Lib.hid (hT8.base hO7.out hg7.out hBH.out); have hT8 := Lib.hid (hT7.out.trans hT8); clear y0 y1 y2 y3 y4 y5 y6 y7 y8 y9 ya yb yc; obtain ⟨y0, y1, y2, y3, y4, y5, y6, y7, y8, y9, ya, yb, yc⟩ := U.cells13 hb8.out)
  go_upto_region 10 with fail
  have hTx := hT8
  go_wp2_with (go_at_call 79; refine (hAs.out _ _ _ _ hO8.out hf8.out).mono ?_; rintro e w9 ⟨rfl, v9, hO9, hT9⟩; have hO9 := Lib.hid hO9; have hT9 := Lib.hid hT9)
  exact ⟨rfl, .tuple #[], by simp [results, Tryz.results39, go_sem], rfl, v9, hO9.out, hTx.out.trans hT9.out⟩
end K
end Go.Proofs.YtljknappbnoikaaGreatDoor
namespace Go.Proofs.YtljknappbnoikaaGreatDoor
open Go.RowKit
namespace K
open U (Ex St szK KidsE ev eArr StsR sv sArr)
theorem stmts_step (ss : List St) (ih : ∀ x ∈ ss, StmtsC x.th ∧ StmtsC x.el) : StmtsC ss := by
 intro W0 w B v l A m hg hB hO hR hop hL hlen
 have hmf : ∀ (fn : Fn) (first cap : Array Value) (w : World), (Instr.makeFunc fn first cap).run Tryz.prog w = .ok (.func fn first cap) w := fun _ _ _ _ => rfl
 obtain ⟨R, hRR⟩ : ∃ R, l ++ cL ss l.length = R := ⟨_, rfl⟩
 rw [hRR]
 have hc0 := Lib.hid (show l ++ cL (ss.drop 0) l.length = R by simpa using hRR)
 have hl0 := Lib.hid (show l.length + lnL (ss.drop 0) ≤ 50000 by simpa using hlen)
 have hT0 := Lib.hid (WrT.refl B w v)
 have hGW : Hid (∀ (wr : World) (vr : Value), WrT B w v wr vr → Gr W0 wr) := Lib.hid (fun wr vr h => h.base hO hg hB)
 have hO0 := Lib.hid hO
 have HR := Lib.hid hR
 have HL := Lib.hid hL
 have IH := Lib.hid ih
 have HO := Lib.hid hop
 have hBH := Lib.hid hB
 have hsl := cL_length_le ss
 clear hg hB hO hR hop hL ih hRR
 go_enter Tryz.func19, Tryz.ntmps19
 go_wp2_with fail
 go_loopg [9] (ss.length) (fun gk i wr => ∃ (k : Nat) (vr : Value) (lr : List In), k + gk = ss.length ∧ i = .int .i64 k ∧ Hid (WrO wr B vr lr) ∧ Hid (WrT B w v wr vr) ∧ Hid (lr ++ cL (ss.drop k) lr.length = R) ∧ Hid (lr.length + lnL (ss.drop k) ≤ 50000))
 case atStart => exact ⟨0, v, l, by omega, rfl, hO0, hT0, hc0, hl0⟩
 case round =>
  obtain ⟨k, vr, lr, hk, rfl, hO, hT, hc, hl⟩ := hrel
  clear hO0 hT0 hc0 hl0
  by_cases hlt : k < ss.length
  ·obtain ⟨gq, rfl⟩ : ∃ g, gk = g + 1 := ⟨gk - 1, by omega⟩
   have hGr := Lib.hid (hGW.out _ _ hT.out)
   obtain ⟨ga, oa, rfl⟩ := HR.out.addr (by omega)
   have hx := HR.out.get _ _ _ k _ (List.getElem?_eq_getElem hlt)
   have hmem : ss[k] ∈ ss := List.getElem_mem hlt
   have hcx := hc.out
   have hlx := hl.out
   rw [cL_drop hlt, ← List.append_assoc] at hcx
   rw [lnL_drop hlt] at hlx
   have hi := IH.out _ hmem
   have hox := OpL_get HO.out _ hmem
   generalize ss[k] = x at *
   obtain ⟨A, c, Bk, d, T, m2, E, n2, hat, hKa, hKb, hTh, hEl, hlth, hlel⟩ := hx.cells
   obtain ⟨e0, e1, e2, e3, e4, e5, e6, e7, e8, e9, ea, eb, ec⟩ := hat
   have e0 := grCell hGr.out e0
   have e1 := grCell hGr.out e1
   have e2 := grCell hGr.out e2
   have e3 := grCell hGr.out e3
   have e4 := grCell hGr.out e4
   have e5 := grCell hGr.out e5
   have e6 := grCell hGr.out e6
   have e7 := grCell hGr.out e7
   have e8 := grCell hGr.out e8
   have e9 := grCell hGr.out e9
   have ea := grCell hGr.out ea
   have eb := grCell hGr.out eb
   have ec := grCell hGr.out ec
   obtain ⟨W5, hW5⟩ : ∃ W5, W5 = wr.alloc (.cells (sArr x A c Bk d T m2 E n2) 69) := ⟨_, rfl⟩
   have hg5 := Lib.hid (show Gr wr W5 by rw [hW5]; exact grAlloc _ _)
   have hb5 := Lib.hid (show W5.heap[wr.heap.size]? = some (.cells (sArr x A c Bk d T m2 E n2) 69 (0, 0)) by rw [hW5]; exact nBlk _ _ _ rfl)
   have hT5 := Lib.hid (hT.out.trans (WrT.of_gr hg5.out))
   have hcl : (lr ++ cS x lr.length).length = lr.length + lnS x := by rw [List.length_append, cS_len]
   have hcx := Lib.hid (show (lr ++ cS x lr.length) ++ cL (ss.drop (k + 1)) (lr ++ cS x lr.length).length = R by rw [hcl]; exact hcx)
   have hlx2 := Lib.hid (show (lr ++ cS x lr.length).length + lnL (ss.drop (k + 1)) ≤ 50000 by rw [hcl]; omega)
   by_cases hk2 : x.kind = 2
   ·have hq := Lib.hid (choice_any W0 W5 B vr lr x A c Bk d T m2 E n2 (hGr.out.tr hg5.out) hBH.out (hO.out.gr hg5.out) hKa hKb hTh hEl hox hk2 HL.out (by omega) hi.1 hi.2)
    have hkb : (x.kind == 2) = true := by rw [beq_iff_eq]; exact hk2
    clear hi hox hmem hc hl hO hT hlx hcl hKa hKb hTh hEl hlth hlel hk2 hx
    go_upto_region 4 with fail
    rw [← hW5]
    clear hW5 e0 e1 e2 e3 e4 e5 e6 e7 e8 e9 ea eb ec
    obtain ⟨y0, y1, y2, y3, y4, y5, y6, y7, y8, y9, ya, yb, yc⟩ := U.cells13 hb5.out
    go_wp2_with (go_at_call 39; refine hq.out.mono ?_; rintro e w8 ⟨rfl, v8, hO8, hT8⟩; have hO8 := Lib.hid hO8; have hT8 := Lib.hid (hT5.out.trans hT8))
    go_roundg gq
    case measure => omega
    case rel => exact ⟨k + 1, v8, lr ++ cS x lr.length, by omega, by go_num, hO8, hT8, hcx, hlx2⟩
   ·have hq := Lib.hid (assignment_any W0 W5 B vr lr x A c Bk d T m2 E n2 (hGr.out.tr hg5.out) hBH.out (hO.out.gr hg5.out) hKa (OpS_of hox).1 HL.out (by have := lnS_no hk2; omega))
    rw [← cS_no hk2 lr.length] at hq
    have hkb : (x.kind == 2) = false := by rw [beq_eq_false_iff_ne]; exact hk2
    clear hi hox hmem hc hl hO hT hlx hcl hKa hKb hTh hEl hlth hlel hk2 hx
    go_upto_region 4 with fail
    rw [← hW5]
    clear hW5 e0 e1 e2 e3 e4 e5 e6 e7 e8 e9 ea eb ec
    obtain ⟨y0, y1, y2, y3, y4, y5, y6, y7, y8, y9, ya, yb, yc⟩ := U.cells13 hb5.out
    go_wp2_with (go_at_call 38; refine hq.out.mono ?_; rintro e w8 ⟨rfl, v8, hO8, hT8⟩; have hO8 := Lib.hid hO8; have hT8 := Lib.hid (hT5.out.trans hT8))
    go_roundg gq
    case measure => omega
    case rel => exact ⟨k + 1, v8, lr ++ cS x lr.length, by omega, by go_num, hO8, hT8, hcx, hlx2⟩
  ·obtain rfl : gk = 0 := by omega
   obtain rfl : lr = R := by have := hc.out; rw [List.drop_eq_nil_of_le (by omega), cL, List.append_nil] at this; exact this
   have hkl : decide ((k : Int) < (ss.length : Int)) = false := by simp; omega
   go_wp2
   exact ⟨rfl, .tuple #[], by simp [results, Tryz.results19, go_sem], rfl, vr, hO.out, hT.out⟩
mutual
theorem stmts_sub : ∀ x : St, StmtsC x.th ∧ StmtsC x.el
 | .mk _ _ _ _ _ th el => ⟨stmts_step th (stmts_all th), stmts_step el (stmts_all el)⟩
theorem stmts_all : ∀ (l : List St), ∀ x ∈ l, StmtsC x.th ∧ StmtsC x.el
 | [], x, hx => by cases hx
 | y :: ys, x, hx => by
  rcases List.mem_cons.1 hx with h | h
  ·rw [h]; exact stmts_sub y
  ·exact stmts_all ys x h
end
theorem stmts_any (ss : List St) : StmtsC ss := stmts_step ss (stmts_all ss)
end K
end Go.Proofs.YtljknappbnoikaaGreatDoor
