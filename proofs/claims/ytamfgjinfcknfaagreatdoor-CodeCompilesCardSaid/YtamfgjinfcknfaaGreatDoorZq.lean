/- Texts of one proof: UxK. -/
import Derived.Test.YtamfgjinfcknfaaGreatDoorZi
set_option linter.unusedVariables false
set_option linter.unusedSimpArgs false
set_option maxRecDepth 100000
set_option maxHeartbeats 8000000
namespace Go.Proofs.YtamfgjinfcknfaaGreatDoor.U
open Go.RowKit
theorem cells13 {w : World} {b : Nat} {v0 v1 v2 v3 v4 v5 v6 v7 v8 v9 v10 v11 v12 : Value} {T : TypeId} (h : w.heap[b]? = some (.cells #[v0, v1, v2, v3, v4, v5, v6, v7, v8, v9, v10, v11, v12] T (0, 0))) :
  w.cell? ⟨b, 0, none⟩ = some v0 ∧ w.cell? ⟨b, 1, none⟩ = some v1 ∧ w.cell? ⟨b, 2, none⟩ = some v2 ∧ w.cell? ⟨b, 3, none⟩ = some v3 ∧ w.cell? ⟨b, 4, none⟩ = some v4 ∧ w.cell? ⟨b, 5, none⟩ = some v5 ∧ w.cell? ⟨b, 6, none⟩ = some v6 ∧
  w.cell? ⟨b, 7, none⟩ = some v7 ∧ w.cell? ⟨b, 8, none⟩ = some v8 ∧ w.cell? ⟨b, 9, none⟩ = some v9 ∧ w.cell? ⟨b, 10, none⟩ = some v10 ∧ w.cell? ⟨b, 11, none⟩ = some v11 ∧ w.cell? ⟨b, 12, none⟩ = some v12 := by
 have e : ∀ j, w.cell? ⟨b, j, none⟩ = (#[v0, v1, v2, v3, v4, v5, v6, v7, v8, v9, v10, v11, v12] : Array Value)[j]? := fun j => cell_of_row _ _ j _ _ (0, 0) h
 exact ⟨e 0, e 1, e 2, e 3, e 4, e 5, e 6, e 7, e 8, e 9, e 10, e 11, e 12⟩
theorem cell1 {w : World} {b : Nat} {v : Value} {T : TypeId} (h : w.heap[b]? = some (.cells #[v] T (0, 0))) : w.cell? ⟨b, 0, none⟩ = some v ∧ w.frozen? ⟨b, 0, none⟩ = false :=
 ⟨by rw [cell_of_row _ _ 0 _ _ (0, 0) h]; rfl, by simp [World.frozen?, h]⟩
theorem set1 {w : World} {b : Nat} {v u : Value} {T : TypeId} (h : w.heap[b]? = some (.cells #[v] T (0, 0))) : (w.setCell ⟨b, 0, none⟩ u).heap[b]? = some (.cells #[u] T (0, 0)) := by
 rw [heap_setCell_same _ _ _ _ _ _ h]; rfl
def LeftP (L : Nat) (r : Bool × Int) (w : World) (e : Ending) (w' : World) : Prop := e = .returned (.bool r.1) ∧ w'.heap[L]? = some (.cells #[.int .i64 r.2] 3 (0, 0)) ∧ KpL L w w'
theorem clo_any (x : St) (A B T E : Option Addr) (c d m n L : Nat) (left : Int) (hl0 : 0 ≤ left) (hl1 : left ≤ 100) (W0 w : World) (hb0 : Below W0.heap.size W0 w) (hLW : W0.heap.size ≤ L) (hLb : w.heap[L]? = some (.cells #[.int .i64 left] 3 (0, 0)))
  (hA : KidsE W0 x.a.kids A) (hB : KidsE W0 x.b.kids B) : Calls Tryz.prog 78 #[sv x A c B d T m E n, .pointer (some ⟨L, 0, none⟩)] w (LeftP L (okS x.kind x.a x.b (left - 1), left - 1) w) := by
 have HA := Lib.hid (fun wx (h : Below W0.heap.size W0 wx) => isLong_any x.a wx A c (hA.below h))
 have HB := Lib.hid (fun wx (h : Below W0.heap.size W0 wx) => isLong_any x.b wx B d (hB.below h))
 have hxL := blkLt hLb
 have q0 : IntKind.i64.wrap (left - 1) = left - 1 := IntWalk.i64_in _ (by omega)
 have hW1 : Hid (Below W0.heap.size W0 ((w.setCell ⟨L, 0, none⟩ (.int .i64 (left - 1))).alloc (.cells (sArr x A c B d T m E n) 65))) := Lib.hid ((belowSet hb0 hLW).alloc (by simpa using hb0.size) _)
 have hK1 : Hid (KpL L w ((w.setCell ⟨L, 0, none⟩ (.int .i64 (left - 1))).alloc (.cells (sArr x A c B d T m E n) 65))) := Lib.hid (((KpL.refl L w).set _).alloc _)
 have hL1 : Hid (((w.setCell ⟨L, 0, none⟩ (.int .i64 (left - 1))).alloc (.cells (sArr x A c B d T m E n) 65)).heap[L]? = some (.cells #[.int .i64 (left - 1)] 3 (0, 0))) := Lib.hid ((Below.heap_alloc _ _ _ (by simpa using hxL)).trans (set1 hLb))
 have hS1 : Hid (((w.setCell ⟨L, 0, none⟩ (.int .i64 (left - 1))).alloc (.cells (sArr x A c B d T m E n) 65)).heap[w.heap.size]? = some (.cells (sArr x A c B d T m E n) 65 (0, 0))) := Lib.hid (newBlk _ _ _ (by simp))
 obtain ⟨l0, l1⟩ := cell1 hLb
 unfold okS
 generalize hla : decide (60 < x.a.size) = la at *
 generalize hlb : decide (60 < x.b.size) = lb at *
 have hcell := (cell1 hL1.out).1
 have hxs := blkLt hS1.out
 have hxl := blkLt hL1.out
 obtain ⟨s0, s1, s2, s3, s4, s5, s6, s7, s8, s9, s10, s11, s12⟩ := cells13 hS1.out
 clear hA hB hLb hb0 hla hlb s1 s2 s11 s12
 go_enter Tryz.func78, Tryz.ntmps78
 go_wp2_with (go_at_call 79; first
  | (refine (HA.out _ hW1.out).mono ?_; rintro e w1 ⟨rfl, hb1⟩; have hW2 := Lib.hid (hW1.out.trans (hb1.mono hW1.out.size)); have hK2 := Lib.hid (hK1.out.trans (Below.kpl hb1)); have hL2 := Lib.hid ((hb1.block _ hxl).trans hL1.out); have hS2 := Lib.hid ((hb1.block _ hxs).trans hS1.out); clear hb1 s0 s3 s4 s5 s6 s7 s8 s9 s10; obtain ⟨s0, s1, s2, s3, s4, s5, s6, s7, s8, s9, s10, s11, s12⟩ := cells13 hS2.out; clear s1 s2 s11 s12; have hxs2 := blkLt hS2.out; have hxl2 := blkLt hL2.out)
  | (refine (HB.out _ hW2.out).mono ?_; rintro e w2 ⟨rfl, hb2⟩; have hK3 := Lib.hid (hK2.out.trans (Below.kpl hb2)); have hL3 := Lib.hid ((hb2.block _ hxl2).trans hL2.out); clear hb2))
 all_goals
  go_ret
  refine ⟨?_, by first | exact hL3.out | exact hL2.out | exact hL1.out, by first | exact hK3.out | exact hK2.out | exact hK1.out⟩
  simp [*]
 all_goals
  intro h9
  omega
theorem evS_eq (x : St) (n : Int) : evS x n = if okS x.kind x.a x.b (n - 1) = true then (if x.kind = 2 then (match evL x.th (n - 1) with | (true, m) => evL x.el m | (false, m) => (false, m)) else (true, n - 1)) else (false, n - 1) := by
 cases x
 rw [evS]
 rfl
theorem LeftP.mk' {L : Nat} {r : Bool × Int} {b : Bool} {z : Int} {w w' : World} (hr : (b, z) = r) (h : w'.heap[L]? = some (.cells #[.int .i64 z] 3 (0, 0))) (hk : KpL L w w') : LeftP L r w (.returned (.bool b)) w' := by
 subst hr
 exact ⟨rfl, h, hk⟩
def EvC (l : List St) : Prop := ∀ (W0 w : World) (A : Option Addr) (m L : Nat) (left : Int), 0 ≤ left → left ≤ 100 → Below W0.heap.size W0 w → W0.heap.size ≤ L → w.heap[L]? = some (.cells #[.int .i64 left] 3 (0, 0)) → StsR W0 l A → l.length ≤ maxLen →
 Calls Tryz.prog 77 #[.slice A l.length m, .func (.func 78) #[] #[.pointer (some ⟨L, 0, none⟩)]] w (LeftP L (evL l left) w)
theorem every_step (l : List St) (ih : ∀ x ∈ l, EvC x.th ∧ EvC x.el) : EvC l := by
 intro W0 w A m L left hl0 hl1 hb0 hLW hLb hR hlen
 obtain ⟨r, hr⟩ : ∃ r, evL l left = r := ⟨_, rfl⟩
 rw [hr]
 have HR := Lib.hid hr
 have IH := Lib.hid ih
 have HS := Lib.hid hR
 have HB0 := Lib.hid hb0
 have HL0 := Lib.hid hLb
 have hxL := blkLt hLb
 have hsz := hb0.size
 clear hr ih hR hLb hb0
 unfold maxLen at hlen
 go_enter Tryz.func77, Tryz.ntmps77
 go_wp2_with fail
 go_loopg [9] (l.length) (fun gk i wr => ∃ (k : Nat) (lv : Int), k + gk = l.length ∧ i = .int .i64 k ∧ 0 ≤ lv ∧ lv ≤ 100 ∧ Hid (evL (l.drop k) lv = r) ∧ Hid (wr.heap[L]? = some (.cells #[.int .i64 lv] 3 (0, 0))) ∧ Hid (KpL L w wr))
 case atStart => exact ⟨0, left, by omega, rfl, hl0, hl1, HR, HL0, Lib.hid (KpL.refl _ _)⟩
 case round =>
  obtain ⟨k, lv, hk, rfl, hv0, hv1, hE, hLb, hK⟩ := hrel
  have hxl := blkLt hLb.out
  by_cases hlt : k < l.length
  ·obtain ⟨g, rfl⟩ : ∃ g, gk = g + 1 := ⟨gk - 1, by omega⟩
   have hBr := KpL.below HB0.out hK.out hsz hLW
   have hSr := HS.out.below hBr
   obtain ⟨ga, oa, rfl⟩ := hSr.addr (by omega)
   have hS0 := (HS.out.get _ _ _ k _ (List.getElem?_eq_getElem hlt)).cells
   have hmem : l[k] ∈ l := List.getElem_mem hlt
   have hI := IH.out _ hmem
   have hE1 := hE.out
   rw [List.drop_eq_getElem_cons hlt, evL] at hE1
   clear hmem hE hSr
   generalize l[k] = x at *
   obtain ⟨A1, c1, B1, d1, T1, m1, E1, n1, hat0, hKa, hKb, hTh, hEl0, hlt1, hlt2⟩ := hS0
   have hat := hat0.keep (hBr.block ga (World.block_lt_of_cell? _ _ hat0.1))
   obtain ⟨s0, s1, s2, s3, s4, s5, s6, s7, s8, s9, s10, s11, s12⟩ := hat
   have hB1 : Hid (Below W0.heap.size W0 (wr.alloc (.cells (sArr x A1 c1 B1 d1 T1 m1 E1 n1) 65))) := Lib.hid (hBr.alloc hBr.size _)
   have hK1 : Hid (KpL L w (wr.alloc (.cells (sArr x A1 c1 B1 d1 T1 m1 E1 n1) 65))) := Lib.hid (hK.out.alloc _)
   have hL1 := (Below.heap_alloc wr (.cells (sArr x A1 c1 B1 d1 T1 m1 E1 n1) 65) L hxl).trans hLb.out
   have hX1 : Hid ((wr.alloc (.cells (sArr x A1 c1 B1 d1 T1 m1 E1 n1) 65)).heap[wr.heap.size]? = some (.cells (sArr x A1 c1 B1 d1 T1 m1 E1 n1) 65 (0, 0))) := Lib.hid (newBlk _ _ _ rfl)
   have hxX := blkLt hX1.out
   have hne : wr.heap.size ≠ L := by omega
   have HC := Lib.hid (clo_any x A1 B1 T1 E1 c1 d1 m1 n1 L lv hv0 hv1 W0 (wr.alloc (.cells (sArr x A1 c1 B1 d1 T1 m1 E1 n1) 65)) hB1.out hLW hL1 hKa hKb)
   have hTH := Lib.hid hTh
   have hEL := Lib.hid hEl0
   have hT := Lib.hid hI.1
   have hEl := Lib.hid hI.2
   rw [evS_eq] at hE1
   clear hat0 hKa hKb hTh hEl0 hBr hI hL1
   cases hok : okS x.kind x.a x.b (lv - 1) with
   | false =>
    rw [hok] at HC hE1
    have hF : Hid ((false, lv - 1) = r) := Lib.hid (by simpa using hE1)
    clear hok hE1
    go_wp2_with (go_at_call 78; refine HC.out.mono ?_; rintro e w1 ⟨rfl, hL2, hK2⟩; have hL2 := Lib.hid hL2; have hKw2 := Lib.hid (hK1.out.trans hK2); have hB2 := Lib.hid (KpL.below hB1.out hK2 hB1.out.size hLW); have hX2 := Lib.hid ((hK2.block _ hxX hne).trans hX1.out); obtain ⟨x0, x1, x2, x3, x4, x5, x6, x7, x8, x9, x10, x11, x12⟩ := cells13 hX2.out; have hxX2 := blkLt hX2.out; have hxL2 := blkLt hL2.out; clear hK2 x1 x2 x3 x4 x5 x6 x7 x8 x9 x10 s0 s1 s2 s3 s4 s5 s6 s7 s8 s9 s10 s11 s12)
    go_ret
    exact LeftP.mk' hF.out hL2.out hKw2.out
   | true =>
    rw [hok] at HC
    have hlv : 0 ≤ lv - 1 := by simp [okS] at hok; omega
    rw [hok, if_pos rfl] at hE1
    clear hok
    by_cases hkd : x.kind = 2
    ·rw [if_pos hkd] at hE1
     have HKD := Lib.hid hkd
     clear hkd
     rcases hev : evL x.th (lv - 1) with ⟨b1, m2⟩
     have hrange := evL_range x.th (lv - 1) hlv
     rw [hev] at hE1 hrange
     have hev := Lib.hid hev
     cases b1 with
     | false =>
      have hF : Hid ((false, m2) = r) := hE1
      clear hE1
      go_wp2_with (first
       | (go_at_call 78; refine HC.out.mono ?_; rintro e w1 ⟨rfl, hL2, hK2⟩; have hL2 := Lib.hid hL2; have hKw2 := Lib.hid (hK1.out.trans hK2); have hB2 := Lib.hid (KpL.below hB1.out hK2 hB1.out.size hLW); have hX2 := Lib.hid ((hK2.block _ hxX hne).trans hX1.out); obtain ⟨x0, x1, x2, x3, x4, x5, x6, x7, x8, x9, x10, x11, x12⟩ := cells13 hX2.out; rw [HKD.out] at x0; have hxX2 := blkLt hX2.out; have hxL2 := blkLt hL2.out; clear hK2 x1 x2 x3 x4 x5 x6 x7 x8 x9 x10 s0 s1 s2 s3 s4 s5 s6 s7 s8 s9 s10 s11 s12)
       | (go_at_call_of 77 (Value.slice T1 x.th.length m1); refine (hT.out W0 w1 T1 m1 L (lv - 1) hlv (by omega) hB2.out hLW hL2.out hTH.out hlt1).mono ?_; rw [hev.out]; rintro e w2 ⟨rfl, hL3, hK3⟩; have hL3 := Lib.hid hL3; have hKw3 := Lib.hid (hKw2.out.trans hK3); have hB3 := Lib.hid (KpL.below hB2.out hK3 hB2.out.size hLW); have hX3 := Lib.hid ((hK3.block _ hxX2 hne).trans hX2.out); clear x0 x11 x12; obtain ⟨x0, x1, x2, x3, x4, x5, x6, x7, x8, x9, x10, x11, x12⟩ := cells13 hX3.out; rw [HKD.out] at x0; have hxX3 := blkLt hX3.out; have hxL3 := blkLt hL3.out; clear hK3 x1 x2 x3 x4 x5 x6 x7 x8 x9 x10))
      go_ret
      exact LeftP.mk' hF.out hL3.out hKw3.out
     | true =>
      have hm0 : 0 ≤ m2 := hrange.2.2 rfl
      have hm1 : m2 ≤ 100 := by have := hrange.2.1; simp only at this; omega
      rcases hev2 : evL x.el m2 with ⟨b2, m3⟩
      have hrange2 := evL_range x.el m2 hm0
      simp only at hE1
      rw [hev2] at hE1 hrange2
      have hev2 := Lib.hid hev2
      cases b2 with
      | false =>
       have hF : Hid ((false, m3) = r) := hE1
       clear hE1 hrange hrange2
       go_wp2_with (first
        | (go_at_call 78; refine HC.out.mono ?_; rintro e w1 ⟨rfl, hL2, hK2⟩; have hL2 := Lib.hid hL2; have hKw2 := Lib.hid (hK1.out.trans hK2); have hB2 := Lib.hid (KpL.below hB1.out hK2 hB1.out.size hLW); have hX2 := Lib.hid ((hK2.block _ hxX hne).trans hX1.out); obtain ⟨x0, x1, x2, x3, x4, x5, x6, x7, x8, x9, x10, x11, x12⟩ := cells13 hX2.out; rw [HKD.out] at x0; have hxX2 := blkLt hX2.out; have hxL2 := blkLt hL2.out; clear hK2 x1 x2 x3 x4 x5 x6 x7 x8 x9 x10 s0 s1 s2 s3 s4 s5 s6 s7 s8 s9 s10 s11 s12)
        | (go_at_call_of 77 (Value.slice T1 x.th.length m1); refine (hT.out W0 w1 T1 m1 L (lv - 1) hlv (by omega) hB2.out hLW hL2.out hTH.out hlt1).mono ?_; rw [hev.out]; rintro e w2 ⟨rfl, hL3, hK3⟩; have hL3 := Lib.hid hL3; have hKw3 := Lib.hid (hKw2.out.trans hK3); have hB3 := Lib.hid (KpL.below hB2.out hK3 hB2.out.size hLW); have hX3 := Lib.hid ((hK3.block _ hxX2 hne).trans hX2.out); clear x0 x11 x12; obtain ⟨x0, x1, x2, x3, x4, x5, x6, x7, x8, x9, x10, x11, x12⟩ := cells13 hX3.out; rw [HKD.out] at x0; have hxX3 := blkLt hX3.out; have hxL3 := blkLt hL3.out; clear hK3 x1 x2 x3 x4 x5 x6 x7 x8 x9 x10)
        | (go_at_call_of 77 (Value.slice E1 x.el.length n1); refine (hEl.out W0 w2 E1 n1 L m2 hm0 hm1 hB3.out hLW hL3.out hEL.out hlt2).mono ?_; rw [hev2.out]; rintro e w3 ⟨rfl, hL4, hK4⟩; have hL4 := Lib.hid hL4; have hKw4 := Lib.hid (hKw3.out.trans hK4); clear hK4))
       go_ret
       exact LeftP.mk' hF.out hL4.out hKw4.out
      | true =>
       have hm2 : 0 ≤ m3 := hrange2.2.2 rfl
       have hm3 : m3 ≤ 100 := by have := hrange2.2.1; simp only at this; omega
       have hG : Hid (evL (l.drop (k + 1)) m3 = r) := hE1
       clear hE1 hrange hrange2
       go_wp2_with (first
        | (go_at_call 78; refine HC.out.mono ?_; rintro e w1 ⟨rfl, hL2, hK2⟩; have hL2 := Lib.hid hL2; have hKw2 := Lib.hid (hK1.out.trans hK2); have hB2 := Lib.hid (KpL.below hB1.out hK2 hB1.out.size hLW); have hX2 := Lib.hid ((hK2.block _ hxX hne).trans hX1.out); obtain ⟨x0, x1, x2, x3, x4, x5, x6, x7, x8, x9, x10, x11, x12⟩ := cells13 hX2.out; rw [HKD.out] at x0; have hxX2 := blkLt hX2.out; have hxL2 := blkLt hL2.out; clear hK2 x1 x2 x3 x4 x5 x6 x7 x8 x9 x10 s0 s1 s2 s3 s4 s5 s6 s7 s8 s9 s10 s11 s12)
        | (go_at_call_of 77 (Value.slice T1 x.th.length m1); refine (hT.out W0 w1 T1 m1 L (lv - 1) hlv (by omega) hB2.out hLW hL2.out hTH.out hlt1).mono ?_; rw [hev.out]; rintro e w2 ⟨rfl, hL3, hK3⟩; have hL3 := Lib.hid hL3; have hKw3 := Lib.hid (hKw2.out.trans hK3); have hB3 := Lib.hid (KpL.below hB2.out hK3 hB2.out.size hLW); have hX3 := Lib.hid ((hK3.block _ hxX2 hne).trans hX2.out); clear x0 x11 x12; obtain ⟨x0, x1, x2, x3, x4, x5, x6, x7, x8, x9, x10, x11, x12⟩ := cells13 hX3.out; rw [HKD.out] at x0; have hxX3 := blkLt hX3.out; have hxL3 := blkLt hL3.out; clear hK3 x1 x2 x3 x4 x5 x6 x7 x8 x9 x10)
        | (go_at_call_of 77 (Value.slice E1 x.el.length n1); refine (hEl.out W0 w2 E1 n1 L m2 hm0 hm1 hB3.out hLW hL3.out hEL.out hlt2).mono ?_; rw [hev2.out]; rintro e w3 ⟨rfl, hL4, hK4⟩; have hL4 := Lib.hid hL4; have hKw4 := Lib.hid (hKw3.out.trans hK4); clear hK4))
       go_roundg g
       case measure => omega
       case rel => exact ⟨k + 1, m3, by omega, by go_num, hm2, hm3, hG, hL4, hKw4⟩
    ·rw [if_neg hkd] at hE1
     have hG : Hid (evL (l.drop (k + 1)) (lv - 1) = r) := hE1
     clear hE1
     go_wp2_with (go_at_call 78; refine HC.out.mono ?_; rintro e w1 ⟨rfl, hL2, hK2⟩; have hL2 := Lib.hid hL2; have hKw2 := Lib.hid (hK1.out.trans hK2); have hB2 := Lib.hid (KpL.below hB1.out hK2 hB1.out.size hLW); have hX2 := Lib.hid ((hK2.block _ hxX hne).trans hX1.out); obtain ⟨x0, x1, x2, x3, x4, x5, x6, x7, x8, x9, x10, x11, x12⟩ := cells13 hX2.out; have hxX2 := blkLt hX2.out; have hxL2 := blkLt hL2.out; clear hK2 x1 x2 x3 x4 x5 x6 x7 x8 x9 x10 s0 s1 s2 s3 s4 s5 s6 s7 s8 s9 s10 s11 s12)
     go_roundg g
     case measure => omega
     case rel => exact ⟨k + 1, lv - 1, by omega, by go_num, hlv, by omega, hG, hL2, hKw2⟩
  ·have hF : Hid ((true, lv) = r) := Lib.hid (by have := hE.out; rw [List.drop_eq_nil_of_le (by omega), evL] at this; exact this)
   clear hE
   go_wp2_with fail
   go_ret
   exact LeftP.mk' hF.out hLb.out hK.out
mutual
theorem every_any : ∀ x : St, EvC x.th ∧ EvC x.el
 | .mk k v r a b th el => ⟨every_step th (every_all th), every_step el (every_all el)⟩
theorem every_all : ∀ l : List St, ∀ x ∈ l, EvC x.th ∧ EvC x.el
 | [], x, h => by cases h
 | y :: ys, x, h => by
  rcases List.mem_cons.1 h with h | h
  ·rw [h]; exact every_any y
  ·exact every_all ys x h
end
end Go.Proofs.YtamfgjinfcknfaaGreatDoor.U
