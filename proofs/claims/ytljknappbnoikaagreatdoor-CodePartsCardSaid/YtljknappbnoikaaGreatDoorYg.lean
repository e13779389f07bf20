/- Texts of one proof: UyD. -/
import Derived.Test.YtljknappbnoikaaGreatDoorYe
import Derived.Deep.DeepCutAuto
import Derived.Deep.Cut
import Derived.Test.YtljknappbnoikaaGreatDoorYf
set_option linter.unusedVariables false
set_option linter.unusedSimpArgs false
set_option maxRecDepth 100000
set_option maxHeartbeats 8000000
namespace Go.Proofs.YtljknappbnoikaaGreatDoor.U
open Go.RowKit
theorem set3r {w : World} {b : Nat} {v0 v1 v2 x y z : Value} {T : TypeId} (h : w.heap[b]? = some (.cells #[v0, v1, v2] T (0, 0))) :
  (((w.setCell ⟨b, 0, none⟩ x).setCell ⟨b, 1, none⟩ y).setCell ⟨b, 2, none⟩ z).heap[b]? = some (.cells #[x, y, z] T (0, 0)) := by
 have g0 : (w.setCell ⟨b, 0, none⟩ x).heap[b]? = some (.cells #[x, v1, v2] T (0, 0)) := by rw [heap_setCell_same w b 0 _ _ _ h]; simp
 have g1 : ((w.setCell ⟨b, 0, none⟩ x).setCell ⟨b, 1, none⟩ y).heap[b]? = some (.cells #[x, y, v2] T (0, 0)) := by rw [heap_setCell_same _ b 1 _ _ _ g0]; simp
 rw [heap_setCell_same _ b 2 _ _ _ g1]; simp
theorem res3a {w : World} {b : Nat} {v0 v1 v2 x y z : Value} {T : TypeId} (h : w.heap[b]? = some (.cells #[v0, v1, v2] T (0, 0))) (o : Obj) :
  ((((w.setCell ⟨b, 0, none⟩ x).setCell ⟨b, 1, none⟩ y).setCell ⟨b, 2, none⟩ z).alloc o).cell? ⟨b, 0, none⟩ = some x ∧ ((((w.setCell ⟨b, 0, none⟩ x).setCell ⟨b, 1, none⟩ y).setCell ⟨b, 2, none⟩ z).alloc o).cell? ⟨b, 1, none⟩ = some y ∧
   ((((w.setCell ⟨b, 0, none⟩ x).setCell ⟨b, 1, none⟩ y).setCell ⟨b, 2, none⟩ z).alloc o).cell? ⟨b, 2, none⟩ = some z :=
 (cells3 ((Below.heap_alloc _ o _ (blkLt (set3r h))).trans (set3r h))).1
theorem OfR_any (k : Int) (w : World) : Calls Tryz.prog 66 #[.int .i64 k] w (VV (.tuple #[pv (ofM k).1, .int .i64 (ofM k).2]) w) := by
 by_cases k0 : k = 0
 ·subst k0
  go_enter Tryz.func66, Tryz.ntmps66
  go_wp2
  exact bodyPost_ret (v := .tuple #[pv ⟨0, 0, 0⟩, .int .i64 0]) (by simp [results, Tryz.results66, go_sem]) rfl ⟨rfl, (Below.refl _ _).alloc (Nat.le_refl _) _⟩
 by_cases k1 : k = 1
 ·subst k1
  go_enter Tryz.func66, Tryz.ntmps66
  go_wp2
  exact bodyPost_ret (v := .tuple #[pv ⟨1, 0, 0⟩, .int .i64 0]) (by simp [results, Tryz.results66, go_sem]) rfl ⟨rfl, (Below.refl _ _).alloc (Nat.le_refl _) _⟩
 by_cases k2 : k = 2
 ·subst k2
  go_enter Tryz.func66, Tryz.ntmps66
  go_wp2
  exact bodyPost_ret (v := .tuple #[pv ⟨0, 1, 0⟩, .int .i64 0]) (by simp [results, Tryz.results66, go_sem]) rfl ⟨rfl, (Below.refl _ _).alloc (Nat.le_refl _) _⟩
 by_cases k3 : k = 3
 ·subst k3
  go_enter Tryz.func66, Tryz.ntmps66
  go_wp2
  exact bodyPost_ret (v := .tuple #[pv ⟨0, 0, 1⟩, .int .i64 0]) (by simp [results, Tryz.results66, go_sem]) rfl ⟨rfl, (Below.refl _ _).alloc (Nat.le_refl _) _⟩
 by_cases k4 : k = 4
 ·subst k4
  go_enter Tryz.func66, Tryz.ntmps66
  go_wp2
  exact bodyPost_ret (v := .tuple #[pv ⟨0, 1, -1⟩, .int .i64 0]) (by simp [results, Tryz.results66, go_sem]) rfl ⟨rfl, (Below.refl _ _).alloc (Nat.le_refl _) _⟩
 have e : ofM k = (⟨0, 0, 0⟩, 9) := by
  unfold ofM
  rw [if_neg]
  intro h
  obtain ⟨h0, h1⟩ := btw_iff.1 h
  omega
 rw [e]
 have g0 : (k == 0) = false := by simp [k0]
 have g1 : (k == 1) = false := by simp [k1]
 have g2 : (k == 2) = false := by simp [k2]
 have g3 : (k == 3) = false := by simp [k3]
 have g4 : (k == 4) = false := by simp [k4]
 clear e
 go_enter Tryz.func66, Tryz.ntmps66
 go_wp2
 exact bodyPost_ret (v := .tuple #[pv ⟨0, 0, 0⟩, .int .i64 9]) (by simp [results, Tryz.results66, go_sem]) rfl ⟨rfl, (Below.refl _ _).alloc (Nat.le_refl _) _⟩
theorem fitsR_any (n : Int) (w : World) : Calls Tryz.prog 119 #[.int .i64 n] w (fun e w' => e = .returned (.bool (btw n (-4) 4)) ∧ w' = w) := by
 by_cases h1 : -4 ≤ n
 ·have d1 : decide (n ≥ -4) = true := by simp; omega
  go_enter Tryz.func119, Tryz.ntmps119
  go_wp2
  go_ret
  exact ⟨ret_bl (by simp [btw, h1]), rfl⟩
 ·have d1 : decide (n ≥ -4) = false := by simp; omega
  go_enter Tryz.func119, Tryz.ntmps119
  go_wp2
  go_ret
  exact ⟨ret_bl (by simp [btw]; omega), rfl⟩
def varsM (us : List Int) : Bool := us.all (fun u => btw u 0 4) && decide ((us.length : Int) ≤ 12)
theorem varsM_scope (us : List Int) : varsM us = (scopeM us).isSome := by
 unfold varsM scopeM
 by_cases h1 : us.length ≤ 12 <;> by_cases h2 : us.all (fun u => btw u 0 4) = true <;> simp [h1, h2] <;> omega
theorem VarsR_any (vs : List Vr) (A : Option Addr) (m : Nat) (w : World) (hV : VarsR w vs A) (hlen : vs.length ≤ maxLen) : Calls Tryz.prog 53 #[.slice A vs.length m] w (BB (varsM (vs.map (·.u))) w) := by
 have HV := Lib.hid hV
 obtain ⟨r, hr⟩ : ∃ r, varsM (vs.map (·.u)) = r := ⟨_, rfl⟩
 rw [hr]
 have HR : Hid (((vs.drop 0).all (fun v => btw v.u 0 4) && decide ((vs.length : Int) ≤ 12)) = r) := Lib.hid (by rw [← hr]; simp [varsM, List.all_map, Function.comp_def])
 clear hV hr
 go_enter Tryz.func53, Tryz.ntmps53
 go_wp2
 go_loopg [3] (vs.length) (fun gk i wr => ∃ (k : Nat), k + gk = vs.length ∧ i = .int .i64 k ∧ Hid (((vs.drop k).all (fun v => btw v.u 0 4) && decide ((vs.length : Int) ≤ 12)) = r) ∧ Hid (Below w.heap.size w wr))
 case atStart => exact ⟨0, by omega, rfl, HR, Lib.hid (Below.refl _ _)⟩
 case round =>
  obtain ⟨k, hk, rfl, hM, hW⟩ := hrel
  by_cases hlt : k < vs.length
  ·obtain ⟨g, rfl⟩ : ∃ g, gk = g + 1 := ⟨gk - 1, by omega⟩
   have hk64 : (k : Int) + 1 < 9223372036854775808 := by unfold maxLen at hlen; omega
   obtain ⟨ga, oa, rfl, hat⟩ := (HV.out.below hW.out).addr (by omega)
   obtain ⟨-, e1, -, -, -⟩ := hat _ _ (List.getElem?_eq_getElem hlt)
   have hM1 := hM.out
   rw [List.drop_eq_getElem_cons hlt, List.all_cons] at hM1
   clear hat hM
   generalize vs[k] = t at *
   have HO := Lib.hid (OfR_any t.u)
   generalize t.u = tu at *
   cases hb : btw tu 0 4 with
   | false =>
    have eo : ofM tu = (⟨0, 0, 0⟩, 9) := by unfold ofM; rw [hb]; rfl
    rw [eo] at HO
    have hF : Hid (false = r) := Lib.hid (by rw [← hM1, hb]; rfl)
    clear hb eo hM1
    go_wp2_with (go_at_call 66; refine (HO.out _).mono ?_; rintro e w1 ⟨rfl, hb1⟩; have hW1 := Lib.hid (hW.out.trans (hb1.mono hW.out.size)); clear hb1)
    go_ret
    exact ⟨ret_bl hF.out, bAlloc hW1.out⟩
   | true =>
    have eo : ofM tu = (kindP tu, 0) := by unfold ofM; rw [hb]; rfl
    rw [eo] at HO
    have hM2 := Lib.hid (by rw [hb, Bool.true_and] at hM1; exact hM1)
    generalize kindP tu = kp at *
    clear hb eo hM1
    go_wp2_with (go_at_call 66; refine (HO.out _).mono ?_; rintro e w1 ⟨rfl, hb1⟩; have hW1 := Lib.hid (hW.out.trans (hb1.mono hW.out.size)); clear hb1)
    go_roundg g
    case measure => omega
    case rel => exact ⟨k + 1, by omega, by go_num, hM2, Lib.hid (bAlloc hW1.out)⟩
  ·have hF : Hid (decide ((vs.length : Int) ≤ 12) = r) := Lib.hid (by have := hM.out; rw [List.drop_eq_nil_of_le (by omega)] at this; simpa using this)
   clear hM
   go_wp2
   go_ret
   exact ⟨ret_bl hF.out, hW.out⟩
theorem leaf_kids (op n u : Int) (kl c vn vm : Nat) (VA A : Option Addr) (w : World) (h : 0 < kl) : Calls Tryz.prog 118 #[.slice VA vn vm, .agg #[.int .i64 op, .int .i64 n, .int .i64 u, .slice A kl (kl + c)]] w (VV (.tuple #[pv ⟨0, 0, 0⟩, .int .i64 1]) w) := by
 obtain ⟨W2, hW2⟩ : ∃ W2, W2 = (w.alloc (.cells #[.int .i64 op, .int .i64 n, .int .i64 u, .slice A kl (kl + c)] 66)).alloc (.cells (pArr ⟨0, 0, 0⟩) 119) := ⟨_, rfl⟩
 have HB : Hid (Below w.heap.size w W2) := Lib.hid (by rw [hW2]; exact bAlloc (bAlloc (Below.refl _ _)))
 have HE : Hid (W2.heap[w.heap.size]? = some (.cells #[.int .i64 op, .int .i64 n, .int .i64 u, .slice A kl (kl + c)] 66 (0, 0))) := Lib.hid (by rw [hW2]; exact (Below.heap_alloc _ _ _ (by simp)).trans (newBlk _ _ _ rfl))
 have HR : Hid (W2.heap[w.heap.size + 1]? = some (.cells (pArr ⟨0, 0, 0⟩) 119 (0, 0))) := Lib.hid (by rw [hW2]; exact newBlk _ _ _ (by simp))
 obtain ⟨⟨e0, e1, e2, e3⟩, -⟩ := cells4 HE.out
 obtain ⟨⟨r0, r1, r2⟩, d0, d1, d2⟩ := cells3 HR.out
 have el := blkLt HE.out
 have rl := blkLt HR.out
 have g : decide ((kl : Int) > 0) = true := by simp; omega
 go_enter Tryz.func118, Tryz.ntmps118
 go_upto_region 2 with fail
 rw [← hW2]
 clear hW2
 go_wp2_with fail
 obtain ⟨f0, f1, f2⟩ := res3 (x := .int .i64 0) (y := .int .i64 0) (z := .int .i64 0) HR.out
 exact bodyPost_ret (v := .tuple #[pv ⟨0, 0, 0⟩, .int .i64 1]) (by simp [results, Tryz.results118, go_sem, f0, f1, f2]) rfl ⟨rfl, below3 HB.out (Nat.le_add_right w.heap.size 1)⟩
theorem leaf_num (n u : Int) (c vn vm : Nat) (VA A : Option Addr) (w : World) (h : 0 ≤ n ∧ n ≤ 1000000000) (q : Pw) (er : Int) (hO : ofM u = (q, er)) : Calls Tryz.prog 118 #[.slice VA vn vm, .agg #[.int .i64 1, .int .i64 n, .int .i64 u, .slice A 0 c]] w (VV (.tuple #[pv (if er = 0 then q else ⟨0, 0, 0⟩), .int .i64 (if er = 0 then 0 else 1)]) w) := by
 obtain ⟨W2, hW2⟩ : ∃ W2, W2 = (w.alloc (.cells #[.int .i64 1, .int .i64 n, .int .i64 u, .slice A 0 c] 66)).alloc (.cells (pArr ⟨0, 0, 0⟩) 119) := ⟨_, rfl⟩
 have HB : Hid (Below w.heap.size w W2) := Lib.hid (by rw [hW2]; exact bAlloc (bAlloc (Below.refl _ _)))
 have HE : Hid (W2.heap[w.heap.size]? = some (.cells #[.int .i64 1, .int .i64 n, .int .i64 u, .slice A 0 c] 66 (0, 0))) := Lib.hid (by rw [hW2]; exact (Below.heap_alloc _ _ _ (by simp)).trans (newBlk _ _ _ rfl))
 have HR : Hid (W2.heap[w.heap.size + 1]? = some (.cells (pArr ⟨0, 0, 0⟩) 119 (0, 0))) := Lib.hid (by rw [hW2]; exact newBlk _ _ _ (by simp))
 obtain ⟨⟨e0, e1, e2, e3⟩, -⟩ := cells4 HE.out
 obtain ⟨⟨r0, r1, r2⟩, d0, d1, d2⟩ := cells3 HR.out
 have el := blkLt HE.out
 have rl := blkLt HR.out
 have HO := Lib.hid (OfR_any u)
 rw [hO] at HO
 clear hO
 have g0 : decide (n ≥ 0) = true := by simp; omega
 have g1 : decide (n ≤ 1000000000) = true := by simp; omega
 obtain ⟨h0, h1⟩ := h
 by_cases he : er = 0
 ·subst he
  rw [if_pos rfl, if_pos rfl]
  go_enter Tryz.func118, Tryz.ntmps118
  go_upto_region 2 with fail
  rw [← hW2]
  clear hW2
  go_wp2_with (go_at_call 66; refine (HO.out _).mono ?_; rintro e w3 ⟨rfl, hb3⟩; have HB3 := Lib.hid (HB.out.trans (hb3.mono HB.out.size)); have HR3 := Lib.hid ((hb3.block _ rl).trans HR.out); have rl3 := blkLt HR3.out; clear r0 r1 r2 d0 d1 d2; obtain ⟨⟨r0, r1, r2⟩, d0, d1, d2⟩ := cells3 HR3.out; clear hb3)
  obtain ⟨f0, f1, f2⟩ := res3a (x := .int .i64 q.a) (y := .int .i64 q.b) (z := .int .i64 q.c) HR3.out (.cells (pArr q) 119)
  exact bodyPost_ret (v := .tuple #[pv q, .int .i64 0]) (by simp [results, Tryz.results118, go_sem, f0, f1, f2]) rfl ⟨rfl, bAlloc (below3 HB3.out (Nat.le_add_right w.heap.size 1))⟩
 ·rw [if_neg he, if_neg he]
  have hen : (er != 0) = true := by simp [he]
  go_enter Tryz.func118, Tryz.ntmps118
  go_upto_region 2 with fail
  rw [← hW2]
  clear hW2
  go_wp2_with (go_at_call 66; refine (HO.out _).mono ?_; rintro e w3 ⟨rfl, hb3⟩; have HB3 := Lib.hid (HB.out.trans (hb3.mono HB.out.size)); have HR3 := Lib.hid ((hb3.block _ rl).trans HR.out); have rl3 := blkLt HR3.out; clear r0 r1 r2 d0 d1 d2; obtain ⟨⟨r0, r1, r2⟩, d0, d1, d2⟩ := cells3 HR3.out; clear hb3)
  obtain ⟨f0, f1, f2⟩ := res3a (x := .int .i64 0) (y := .int .i64 0) (z := .int .i64 0) HR3.out (.cells (pArr q) 119)
  exact bodyPost_ret (v := .tuple #[pv ⟨0, 0, 0⟩, .int .i64 1]) (by simp [results, Tryz.results118, go_sem, f0, f1, f2]) rfl ⟨rfl, bAlloc (below3 HB3.out (Nat.le_add_right w.heap.size 1))⟩
theorem leaf_numL (n u : Int) (c vn vm : Nat) (VA A : Option Addr) (w : World) (h : n < 0) (q : Pw) (er : Int) (hO : ofM (-1) = (q, er)) : Calls Tryz.prog 118 #[.slice VA vn vm, .agg #[.int .i64 1, .int .i64 n, .int .i64 u, .slice A 0 c]] w (VV (.tuple #[pv (if er = 0 then q else ⟨0, 0, 0⟩), .int .i64 (if er = 0 then 0 else 1)]) w) := by
 obtain ⟨W2, hW2⟩ : ∃ W2, W2 = (w.alloc (.cells #[.int .i64 1, .int .i64 n, .int .i64 u, .slice A 0 c] 66)).alloc (.cells (pArr ⟨0, 0, 0⟩) 119) := ⟨_, rfl⟩
 have HB : Hid (Below w.heap.size w W2) := Lib.hid (by rw [hW2]; exact bAlloc (bAlloc (Below.refl _ _)))
 have HE : Hid (W2.heap[w.heap.size]? = some (.cells #[.int .i64 1, .int .i64 n, .int .i64 u, .slice A 0 c] 66 (0, 0))) := Lib.hid (by rw [hW2]; exact (Below.heap_alloc _ _ _ (by simp)).trans (newBlk _ _ _ rfl))
 have HR : Hid (W2.heap[w.heap.size + 1]? = some (.cells (pArr ⟨0, 0, 0⟩) 119 (0, 0))) := Lib.hid (by rw [hW2]; exact newBlk _ _ _ (by simp))
 obtain ⟨⟨e0, e1, e2, e3⟩, -⟩ := cells4 HE.out
 obtain ⟨⟨r0, r1, r2⟩, d0, d1, d2⟩ := cells3 HR.out
 have el := blkLt HE.out
 have rl := blkLt HR.out
 have HO := Lib.hid (OfR_any (-1))
 rw [hO] at HO
 clear hO
 have g0 : decide (n ≥ 0) = false := by simp; omega
 by_cases he : er = 0
 ·subst he
  rw [if_pos rfl, if_pos rfl]
  go_enter Tryz.func118, Tryz.ntmps118
  go_upto_region 2 with fail
  rw [← hW2]
  clear hW2
  go_wp2_with (go_at_call 66; refine (HO.out _).mono ?_; rintro e w3 ⟨rfl, hb3⟩; have HB3 := Lib.hid (HB.out.trans (hb3.mono HB.out.size)); have HR3 := Lib.hid ((hb3.block _ rl).trans HR.out); have rl3 := blkLt HR3.out; clear r0 r1 r2 d0 d1 d2; obtain ⟨⟨r0, r1, r2⟩, d0, d1, d2⟩ := cells3 HR3.out; clear hb3)
  obtain ⟨f0, f1, f2⟩ := res3a (x := .int .i64 q.a) (y := .int .i64 q.b) (z := .int .i64 q.c) HR3.out (.cells (pArr q) 119)
  exact bodyPost_ret (v := .tuple #[pv q, .int .i64 0]) (by simp [results, Tryz.results118, go_sem, f0, f1, f2]) rfl ⟨rfl, bAlloc (below3 HB3.out (Nat.le_add_right w.heap.size 1))⟩
 ·rw [if_neg he, if_neg he]
  have hen : (er != 0) = true := by simp [he]
  go_enter Tryz.func118, Tryz.ntmps118
  go_upto_region 2 with fail
  rw [← hW2]
  clear hW2
  go_wp2_with (go_at_call 66; refine (HO.out _).mono ?_; rintro e w3 ⟨rfl, hb3⟩; have HB3 := Lib.hid (HB.out.trans (hb3.mono HB.out.size)); have HR3 := Lib.hid ((hb3.block _ rl).trans HR.out); have rl3 := blkLt HR3.out; clear r0 r1 r2 d0 d1 d2; obtain ⟨⟨r0, r1, r2⟩, d0, d1, d2⟩ := cells3 HR3.out; clear hb3)
  obtain ⟨f0, f1, f2⟩ := res3a (x := .int .i64 0) (y := .int .i64 0) (z := .int .i64 0) HR3.out (.cells (pArr q) 119)
  exact bodyPost_ret (v := .tuple #[pv ⟨0, 0, 0⟩, .int .i64 1]) (by simp [results, Tryz.results118, go_sem, f0, f1, f2]) rfl ⟨rfl, bAlloc (below3 HB3.out (Nat.le_add_right w.heap.size 1))⟩
theorem leaf_numH (n u : Int) (c vn vm : Nat) (VA A : Option Addr) (w : World) (h : 1000000000 < n) (q : Pw) (er : Int) (hO : ofM (-1) = (q, er)) : Calls Tryz.prog 118 #[.slice VA vn vm, .agg #[.int .i64 1, .int .i64 n, .int .i64 u, .slice A 0 c]] w (VV (.tuple #[pv (if er = 0 then q else ⟨0, 0, 0⟩), .int .i64 (if er = 0 then 0 else 1)]) w) := by
 obtain ⟨W2, hW2⟩ : ∃ W2, W2 = (w.alloc (.cells #[.int .i64 1, .int .i64 n, .int .i64 u, .slice A 0 c] 66)).alloc (.cells (pArr ⟨0, 0, 0⟩) 119) := ⟨_, rfl⟩
 have HB : Hid (Below w.heap.size w W2) := Lib.hid (by rw [hW2]; exact bAlloc (bAlloc (Below.refl _ _)))
 have HE : Hid (W2.heap[w.heap.size]? = some (.cells #[.int .i64 1, .int .i64 n, .int .i64 u, .slice A 0 c] 66 (0, 0))) := Lib.hid (by rw [hW2]; exact (Below.heap_alloc _ _ _ (by simp)).trans (newBlk _ _ _ rfl))
 have HR : Hid (W2.heap[w.heap.size + 1]? = some (.cells (pArr ⟨0, 0, 0⟩) 119 (0, 0))) := Lib.hid (by rw [hW2]; exact newBlk _ _ _ (by simp))
 obtain ⟨⟨e0, e1, e2, e3⟩, -⟩ := cells4 HE.out
 obtain ⟨⟨r0, r1, r2⟩, d0, d1, d2⟩ := cells3 HR.out
 have el := blkLt HE.out
 have rl := blkLt HR.out
 have HO := Lib.hid (OfR_any (-1))
 rw [hO] at HO
 clear hO
 have g0 : decide (n ≥ 0) = true := by simp; omega
 have g1 : decide (n ≤ 1000000000) = false := by simp; omega
 by_cases he : er = 0
 ·subst he
  rw [if_pos rfl, if_pos rfl]
  go_enter Tryz.func118, Tryz.ntmps118
  go_upto_region 2 with fail
  rw [← hW2]
  clear hW2
  go_wp2_with (go_at_call 66; refine (HO.out _).mono ?_; rintro e w3 ⟨rfl, hb3⟩; have HB3 := Lib.hid (HB.out.trans (hb3.mono HB.out.size)); have HR3 := Lib.hid ((hb3.block _ rl).trans HR.out); have rl3 := blkLt HR3.out; clear r0 r1 r2 d0 d1 d2; obtain ⟨⟨r0, r1, r2⟩, d0, d1, d2⟩ := cells3 HR3.out; clear hb3)
  obtain ⟨f0, f1, f2⟩ := res3a (x := .int .i64 q.a) (y := .int .i64 q.b) (z := .int .i64 q.c) HR3.out (.cells (pArr q) 119)
  exact bodyPost_ret (v := .tuple #[pv q, .int .i64 0]) (by simp [results, Tryz.results118, go_sem, f0, f1, f2]) rfl ⟨rfl, bAlloc (below3 HB3.out (Nat.le_add_right w.heap.size 1))⟩
 ·rw [if_neg he, if_neg he]
  have hen : (er != 0) = true := by simp [he]
  go_enter Tryz.func118, Tryz.ntmps118
  go_upto_region 2 with fail
  rw [← hW2]
  clear hW2
  go_wp2_with (go_at_call 66; refine (HO.out _).mono ?_; rintro e w3 ⟨rfl, hb3⟩; have HB3 := Lib.hid (HB.out.trans (hb3.mono HB.out.size)); have HR3 := Lib.hid ((hb3.block _ rl).trans HR.out); have rl3 := blkLt HR3.out; clear r0 r1 r2 d0 d1 d2; obtain ⟨⟨r0, r1, r2⟩, d0, d1, d2⟩ := cells3 HR3.out; clear hb3)
  obtain ⟨f0, f1, f2⟩ := res3a (x := .int .i64 0) (y := .int .i64 0) (z := .int .i64 0) HR3.out (.cells (pArr q) 119)
  exact bodyPost_ret (v := .tuple #[pv ⟨0, 0, 0⟩, .int .i64 1]) (by simp [results, Tryz.results118, go_sem, f0, f1, f2]) rfl ⟨rfl, bAlloc (below3 HB3.out (Nat.le_add_right w.heap.size 1))⟩
theorem leaf_varL (n u : Int) (c vn vm : Nat) (VA A : Option Addr) (w : World) (h : n < 0) (q : Pw) (er : Int) (hO : ofM (-1) = (q, er)) : Calls Tryz.prog 118 #[.slice VA vn vm, .agg #[.int .i64 2, .int .i64 n, .int .i64 u, .slice A 0 c]] w (VV (.tuple #[pv (if er = 0 then q else ⟨0, 0, 0⟩), .int .i64 (if er = 0 then 0 else 1)]) w) := by
 obtain ⟨W2, hW2⟩ : ∃ W2, W2 = (w.alloc (.cells #[.int .i64 2, .int .i64 n, .int .i64 u, .slice A 0 c] 66)).alloc (.cells (pArr ⟨0, 0, 0⟩) 119) := ⟨_, rfl⟩
 have HB : Hid (Below w.heap.size w W2) := Lib.hid (by rw [hW2]; exact bAlloc (bAlloc (Below.refl _ _)))
 have HE : Hid (W2.heap[w.heap.size]? = some (.cells #[.int .i64 2, .int .i64 n, .int .i64 u, .slice A 0 c] 66 (0, 0))) := Lib.hid (by rw [hW2]; exact (Below.heap_alloc _ _ _ (by simp)).trans (newBlk _ _ _ rfl))
 have HR : Hid (W2.heap[w.heap.size + 1]? = some (.cells (pArr ⟨0, 0, 0⟩) 119 (0, 0))) := Lib.hid (by rw [hW2]; exact newBlk _ _ _ (by simp))
 obtain ⟨⟨e0, e1, e2, e3⟩, -⟩ := cells4 HE.out
 obtain ⟨⟨r0, r1, r2⟩, d0, d1, d2⟩ := cells3 HR.out
 have el := blkLt HE.out
 have rl := blkLt HR.out
 have HO := Lib.hid (OfR_any (-1))
 rw [hO] at HO
 clear hO
 have g0 : decide (n ≥ 0) = false := by simp; omega
 by_cases he : er = 0
 ·subst he
  rw [if_pos rfl, if_pos rfl]
  go_enter Tryz.func118, Tryz.ntmps118
  go_upto_region 2 with fail
  rw [← hW2]
  clear hW2
  go_wp2_with (go_at_call 66; refine (HO.out _).mono ?_; rintro e w3 ⟨rfl, hb3⟩; have HB3 := Lib.hid (HB.out.trans (hb3.mono HB.out.size)); have HR3 := Lib.hid ((hb3.block _ rl).trans HR.out); have rl3 := blkLt HR3.out; clear r0 r1 r2 d0 d1 d2; obtain ⟨⟨r0, r1, r2⟩, d0, d1, d2⟩ := cells3 HR3.out; clear hb3)
  obtain ⟨f0, f1, f2⟩ := res3a (x := .int .i64 q.a) (y := .int .i64 q.b) (z := .int .i64 q.c) HR3.out (.cells (pArr q) 119)
  exact bodyPost_ret (v := .tuple #[pv q, .int .i64 0]) (by simp [results, Tryz.results118, go_sem, f0, f1, f2]) rfl ⟨rfl, bAlloc (below3 HB3.out (Nat.le_add_right w.heap.size 1))⟩
 ·rw [if_neg he, if_neg he]
  have hen : (er != 0) = true := by simp [he]
  go_enter Tryz.func118, Tryz.ntmps118
  go_upto_region 2 with fail
  rw [← hW2]
  clear hW2
  go_wp2_with (go_at_call 66; refine (HO.out _).mono ?_; rintro e w3 ⟨rfl, hb3⟩; have HB3 := Lib.hid (HB.out.trans (hb3.mono HB.out.size)); have HR3 := Lib.hid ((hb3.block _ rl).trans HR.out); have rl3 := blkLt HR3.out; clear r0 r1 r2 d0 d1 d2; obtain ⟨⟨r0, r1, r2⟩, d0, d1, d2⟩ := cells3 HR3.out; clear hb3)
  obtain ⟨f0, f1, f2⟩ := res3a (x := .int .i64 0) (y := .int .i64 0) (z := .int .i64 0) HR3.out (.cells (pArr q) 119)
  exact bodyPost_ret (v := .tuple #[pv ⟨0, 0, 0⟩, .int .i64 1]) (by simp [results, Tryz.results118, go_sem, f0, f1, f2]) rfl ⟨rfl, bAlloc (below3 HB3.out (Nat.le_add_right w.heap.size 1))⟩
theorem leaf_varH (n u : Int) (c vn vm : Nat) (VA A : Option Addr) (w : World) (h : (vn : Int) ≤ n) (h0 : 0 ≤ n) (q : Pw) (er : Int) (hO : ofM (-1) = (q, er)) : Calls Tryz.prog 118 #[.slice VA vn vm, .agg #[.int .i64 2, .int .i64 n, .int .i64 u, .slice A 0 c]] w (VV (.tuple #[pv (if er = 0 then q else ⟨0, 0, 0⟩), .int .i64 (if er = 0 then 0 else 1)]) w) := by
 obtain ⟨W2, hW2⟩ : ∃ W2, W2 = (w.alloc (.cells #[.int .i64 2, .int .i64 n, .int .i64 u, .slice A 0 c] 66)).alloc (.cells (pArr ⟨0, 0, 0⟩) 119) := ⟨_, rfl⟩
 have HB : Hid (Below w.heap.size w W2) := Lib.hid (by rw [hW2]; exact bAlloc (bAlloc (Below.refl _ _)))
 have HE : Hid (W2.heap[w.heap.size]? = some (.cells #[.int .i64 2, .int .i64 n, .int .i64 u, .slice A 0 c] 66 (0, 0))) := Lib.hid (by rw [hW2]; exact (Below.heap_alloc _ _ _ (by simp)).trans (newBlk _ _ _ rfl))
 have HR : Hid (W2.heap[w.heap.size + 1]? = some (.cells (pArr ⟨0, 0, 0⟩) 119 (0, 0))) := Lib.hid (by rw [hW2]; exact newBlk _ _ _ (by simp))
 obtain ⟨⟨e0, e1, e2, e3⟩, -⟩ := cells4 HE.out
 obtain ⟨⟨r0, r1, r2⟩, d0, d1, d2⟩ := cells3 HR.out
 have el := blkLt HE.out
 have rl := blkLt HR.out
 have HO := Lib.hid (OfR_any (-1))
 rw [hO] at HO
 clear hO
 have g0 : decide (n ≥ 0) = true := by simp; omega
 have g1 : decide (n < (vn : Int)) = false := by simp; omega
 by_cases he : er = 0
 ·subst he
  rw [if_pos rfl, if_pos rfl]
  go_enter Tryz.func118, Tryz.ntmps118
  go_upto_region 2 with fail
  rw [← hW2]
  clear hW2
  go_wp2_with (go_at_call 66; refine (HO.out _).mono ?_; rintro e w3 ⟨rfl, hb3⟩; have HB3 := Lib.hid (HB.out.trans (hb3.mono HB.out.size)); have HR3 := Lib.hid ((hb3.block _ rl).trans HR.out); have rl3 := blkLt HR3.out; clear r0 r1 r2 d0 d1 d2; obtain ⟨⟨r0, r1, r2⟩, d0, d1, d2⟩ := cells3 HR3.out; clear hb3)
  obtain ⟨f0, f1, f2⟩ := res3a (x := .int .i64 q.a) (y := .int .i64 q.b) (z := .int .i64 q.c) HR3.out (.cells (pArr q) 119)
  exact bodyPost_ret (v := .tuple #[pv q, .int .i64 0]) (by simp [results, Tryz.results118, go_sem, f0, f1, f2]) rfl ⟨rfl, bAlloc (below3 HB3.out (Nat.le_add_right w.heap.size 1))⟩
 ·rw [if_neg he, if_neg he]
  have hen : (er != 0) = true := by simp [he]
  go_enter Tryz.func118, Tryz.ntmps118
  go_upto_region 2 with fail
  rw [← hW2]
  clear hW2
  go_wp2_with (go_at_call 66; refine (HO.out _).mono ?_; rintro e w3 ⟨rfl, hb3⟩; have HB3 := Lib.hid (HB.out.trans (hb3.mono HB.out.size)); have HR3 := Lib.hid ((hb3.block _ rl).trans HR.out); have rl3 := blkLt HR3.out; clear r0 r1 r2 d0 d1 d2; obtain ⟨⟨r0, r1, r2⟩, d0, d1, d2⟩ := cells3 HR3.out; clear hb3)
  obtain ⟨f0, f1, f2⟩ := res3a (x := .int .i64 0) (y := .int .i64 0) (z := .int .i64 0) HR3.out (.cells (pArr q) 119)
  exact bodyPost_ret (v := .tuple #[pv ⟨0, 0, 0⟩, .int .i64 1]) (by simp [results, Tryz.results118, go_sem, f0, f1, f2]) rfl ⟨rfl, bAlloc (below3 HB3.out (Nat.le_add_right w.heap.size 1))⟩
theorem leaf_var (u ku : Int) (j g2 o2 : Nat) (c vn vm : Nat) (VA A : Option Addr) (w : World) (h : j < vn) (hV : VA = some ⟨g2, o2, none⟩) (hk : w.cell? ⟨g2, o2 + j * 5 + 1, none⟩ = some (.int .i64 ku)) (q : Pw) (er : Int) (hO : ofM ku = (q, er)) : Calls Tryz.prog 118 #[.slice VA vn vm, .agg #[.int .i64 2, .int .i64 (j : Int), .int .i64 u, .slice A 0 c]] w (VV (.tuple #[pv (if er = 0 then q else ⟨0, 0, 0⟩), .int .i64 (if er = 0 then 0 else 1)]) w) := by
 obtain ⟨W2, hW2⟩ : ∃ W2, W2 = (w.alloc (.cells #[.int .i64 2, .int .i64 (j : Int), .int .i64 u, .slice A 0 c] 66)).alloc (.cells (pArr ⟨0, 0, 0⟩) 119) := ⟨_, rfl⟩
 have HB : Hid (Below w.heap.size w W2) := Lib.hid (by rw [hW2]; exact bAlloc (bAlloc (Below.refl _ _)))
 have HE : Hid (W2.heap[w.heap.size]? = some (.cells #[.int .i64 2, .int .i64 (j : Int), .int .i64 u, .slice A 0 c] 66 (0, 0))) := Lib.hid (by rw [hW2]; exact (Below.heap_alloc _ _ _ (by simp)).trans (newBlk _ _ _ rfl))
 have HR : Hid (W2.heap[w.heap.size + 1]? = some (.cells (pArr ⟨0, 0, 0⟩) 119 (0, 0))) := Lib.hid (by rw [hW2]; exact newBlk _ _ _ (by simp))
 obtain ⟨⟨e0, e1, e2, e3⟩, -⟩ := cells4 HE.out
 obtain ⟨⟨r0, r1, r2⟩, d0, d1, d2⟩ := cells3 HR.out
 have el := blkLt HE.out
 have rl := blkLt HR.out
 have HO := Lib.hid (OfR_any ku)
 rw [hO] at HO
 clear hO
 have k1 : W2.cell? ⟨g2, o2 + j * 5 + 1, none⟩ = some (.int .i64 ku) := (World.cell?_of_block (a := ⟨g2, o2 + j * 5 + 1, none⟩) (HB.out.block g2 (World.block_lt_of_cell? _ _ hk))).trans hk
 subst hV
 have g0 : decide ((j : Int) ≥ 0) = true := by simp
 have g1 : decide ((j : Int) < (vn : Int)) = true := by simp; omega
 have g3 : (0 : Int) ≤ (j : Int) := Int.natCast_nonneg _
 have g4 : (j : Int) < (vn : Int) := by omega
 by_cases he : er = 0
 ·subst he
  rw [if_pos rfl, if_pos rfl]
  go_enter Tryz.func118, Tryz.ntmps118
  go_upto_region 2 with fail
  rw [← hW2]
  clear hW2
  go_wp2_with (go_at_call 66; refine (HO.out _).mono ?_; rintro e w3 ⟨rfl, hb3⟩; have HB3 := Lib.hid (HB.out.trans (hb3.mono HB.out.size)); have HR3 := Lib.hid ((hb3.block _ rl).trans HR.out); have rl3 := blkLt HR3.out; clear r0 r1 r2 d0 d1 d2; obtain ⟨⟨r0, r1, r2⟩, d0, d1, d2⟩ := cells3 HR3.out; clear hb3)
  obtain ⟨f0, f1, f2⟩ := res3a (x := .int .i64 q.a) (y := .int .i64 q.b) (z := .int .i64 q.c) HR3.out (.cells (pArr q) 119)
  exact bodyPost_ret (v := .tuple #[pv q, .int .i64 0]) (by simp [results, Tryz.results118, go_sem, f0, f1, f2]) rfl ⟨rfl, bAlloc (below3 HB3.out (Nat.le_add_right w.heap.size 1))⟩
 ·rw [if_neg he, if_neg he]
  have hen : (er != 0) = true := by simp [he]
  go_enter Tryz.func118, Tryz.ntmps118
  go_upto_region 2 with fail
  rw [← hW2]
  clear hW2
  go_wp2_with (go_at_call 66; refine (HO.out _).mono ?_; rintro e w3 ⟨rfl, hb3⟩; have HB3 := Lib.hid (HB.out.trans (hb3.mono HB.out.size)); have HR3 := Lib.hid ((hb3.block _ rl).trans HR.out); have rl3 := blkLt HR3.out; clear r0 r1 r2 d0 d1 d2; obtain ⟨⟨r0, r1, r2⟩, d0, d1, d2⟩ := cells3 HR3.out; clear hb3)
  obtain ⟨f0, f1, f2⟩ := res3a (x := .int .i64 0) (y := .int .i64 0) (z := .int .i64 0) HR3.out (.cells (pArr q) 119)
  exact bodyPost_ret (v := .tuple #[pv ⟨0, 0, 0⟩, .int .i64 1]) (by simp [results, Tryz.results118, go_sem, f0, f1, f2]) rfl ⟨rfl, bAlloc (below3 HB3.out (Nat.le_add_right w.heap.size 1))⟩
theorem leaf_in0 (u : Int) (c vn vm : Nat) (VA A : Option Addr) (w : World)  (q : Pw) (er : Int) (hO : ofM 1 = (q, er)) : Calls Tryz.prog 118 #[.slice VA vn vm, .agg #[.int .i64 3, .int .i64 0, .int .i64 u, .slice A 0 c]] w (VV (.tuple #[pv (if er = 0 then q else ⟨0, 0, 0⟩), .int .i64 (if er = 0 then 0 else 1)]) w) := by
 obtain ⟨W2, hW2⟩ : ∃ W2, W2 = (w.alloc (.cells #[.int .i64 3, .int .i64 0, .int .i64 u, .slice A 0 c] 66)).alloc (.cells (pArr ⟨0, 0, 0⟩) 119) := ⟨_, rfl⟩
 have HB : Hid (Below w.heap.size w W2) := Lib.hid (by rw [hW2]; exact bAlloc (bAlloc (Below.refl _ _)))
 have HE : Hid (W2.heap[w.heap.size]? = some (.cells #[.int .i64 3, .int .i64 0, .int .i64 u, .slice A 0 c] 66 (0, 0))) := Lib.hid (by rw [hW2]; exact (Below.heap_alloc _ _ _ (by simp)).trans (newBlk _ _ _ rfl))
 have HR : Hid (W2.heap[w.heap.size + 1]? = some (.cells (pArr ⟨0, 0, 0⟩) 119 (0, 0))) := Lib.hid (by rw [hW2]; exact newBlk _ _ _ (by simp))
 obtain ⟨⟨e0, e1, e2, e3⟩, -⟩ := cells4 HE.out
 obtain ⟨⟨r0, r1, r2⟩, d0, d1, d2⟩ := cells3 HR.out
 have el := blkLt HE.out
 have rl := blkLt HR.out
 have HO := Lib.hid (OfR_any 1)
 rw [hO] at HO
 clear hO
 by_cases he : er = 0
 ·subst he
  rw [if_pos rfl, if_pos rfl]
  go_enter Tryz.func118, Tryz.ntmps118
  go_upto_region 2 with fail
  rw [← hW2]
  clear hW2
  go_wp2_with (go_at_call 66; refine (HO.out _).mono ?_; rintro e w3 ⟨rfl, hb3⟩; have HB3 := Lib.hid (HB.out.trans (hb3.mono HB.out.size)); have HR3 := Lib.hid ((hb3.block _ rl).trans HR.out); have rl3 := blkLt HR3.out; clear r0 r1 r2 d0 d1 d2; obtain ⟨⟨r0, r1, r2⟩, d0, d1, d2⟩ := cells3 HR3.out; clear hb3)
  obtain ⟨f0, f1, f2⟩ := res3a (x := .int .i64 q.a) (y := .int .i64 q.b) (z := .int .i64 q.c) HR3.out (.cells (pArr q) 119)
  exact bodyPost_ret (v := .tuple #[pv q, .int .i64 0]) (by simp [results, Tryz.results118, go_sem, f0, f1, f2]) rfl ⟨rfl, bAlloc (below3 HB3.out (Nat.le_add_right w.heap.size 1))⟩
 ·rw [if_neg he, if_neg he]
  have hen : (er != 0) = true := by simp [he]
  go_enter Tryz.func118, Tryz.ntmps118
  go_upto_region 2 with fail
  rw [← hW2]
  clear hW2
  go_wp2_with (go_at_call 66; refine (HO.out _).mono ?_; rintro e w3 ⟨rfl, hb3⟩; have HB3 := Lib.hid (HB.out.trans (hb3.mono HB.out.size)); have HR3 := Lib.hid ((hb3.block _ rl).trans HR.out); have rl3 := blkLt HR3.out; clear r0 r1 r2 d0 d1 d2; obtain ⟨⟨r0, r1, r2⟩, d0, d1, d2⟩ := cells3 HR3.out; clear hb3)
  obtain ⟨f0, f1, f2⟩ := res3a (x := .int .i64 0) (y := .int .i64 0) (z := .int .i64 0) HR3.out (.cells (pArr q) 119)
  exact bodyPost_ret (v := .tuple #[pv ⟨0, 0, 0⟩, .int .i64 1]) (by simp [results, Tryz.results118, go_sem, f0, f1, f2]) rfl ⟨rfl, bAlloc (below3 HB3.out (Nat.le_add_right w.heap.size 1))⟩
theorem leaf_in1 (u : Int) (c vn vm : Nat) (VA A : Option Addr) (w : World)  (q : Pw) (er : Int) (hO : ofM 3 = (q, er)) : Calls Tryz.prog 118 #[.slice VA vn vm, .agg #[.int .i64 3, .int .i64 1, .int .i64 u, .slice A 0 c]] w (VV (.tuple #[pv (if er = 0 then q else ⟨0, 0, 0⟩), .int .i64 (if er = 0 then 0 else 1)]) w) := by
 obtain ⟨W2, hW2⟩ : ∃ W2, W2 = (w.alloc (.cells #[.int .i64 3, .int .i64 1, .int .i64 u, .slice A 0 c] 66)).alloc (.cells (pArr ⟨0, 0, 0⟩) 119) := ⟨_, rfl⟩
 have HB : Hid (Below w.heap.size w W2) := Lib.hid (by rw [hW2]; exact bAlloc (bAlloc (Below.refl _ _)))
 have HE : Hid (W2.heap[w.heap.size]? = some (.cells #[.int .i64 3, .int .i64 1, .int .i64 u, .slice A 0 c] 66 (0, 0))) := Lib.hid (by rw [hW2]; exact (Below.heap_alloc _ _ _ (by simp)).trans (newBlk _ _ _ rfl))
 have HR : Hid (W2.heap[w.heap.size + 1]? = some (.cells (pArr ⟨0, 0, 0⟩) 119 (0, 0))) := Lib.hid (by rw [hW2]; exact newBlk _ _ _ (by simp))
 obtain ⟨⟨e0, e1, e2, e3⟩, -⟩ := cells4 HE.out
 obtain ⟨⟨r0, r1, r2⟩, d0, d1, d2⟩ := cells3 HR.out
 have el := blkLt HE.out
 have rl := blkLt HR.out
 have HO := Lib.hid (OfR_any 3)
 rw [hO] at HO
 clear hO
 by_cases he : er = 0
 ·subst he
  rw [if_pos rfl, if_pos rfl]
  go_enter Tryz.func118, Tryz.ntmps118
  go_upto_region 2 with fail
  rw [← hW2]
  clear hW2
  go_wp2_with (go_at_call 66; refine (HO.out _).mono ?_; rintro e w3 ⟨rfl, hb3⟩; have HB3 := Lib.hid (HB.out.trans (hb3.mono HB.out.size)); have HR3 := Lib.hid ((hb3.block _ rl).trans HR.out); have rl3 := blkLt HR3.out; clear r0 r1 r2 d0 d1 d2; obtain ⟨⟨r0, r1, r2⟩, d0, d1, d2⟩ := cells3 HR3.out; clear hb3)
  obtain ⟨f0, f1, f2⟩ := res3a (x := .int .i64 q.a) (y := .int .i64 q.b) (z := .int .i64 q.c) HR3.out (.cells (pArr q) 119)
  exact bodyPost_ret (v := .tuple #[pv q, .int .i64 0]) (by simp [results, Tryz.results118, go_sem, f0, f1, f2]) rfl ⟨rfl, bAlloc (below3 HB3.out (Nat.le_add_right w.heap.size 1))⟩
 ·rw [if_neg he, if_neg he]
  have hen : (er != 0) = true := by simp [he]
  go_enter Tryz.func118, Tryz.ntmps118
  go_upto_region 2 with fail
  rw [← hW2]
  clear hW2
  go_wp2_with (go_at_call 66; refine (HO.out _).mono ?_; rintro e w3 ⟨rfl, hb3⟩; have HB3 := Lib.hid (HB.out.trans (hb3.mono HB.out.size)); have HR3 := Lib.hid ((hb3.block _ rl).trans HR.out); have rl3 := blkLt HR3.out; clear r0 r1 r2 d0 d1 d2; obtain ⟨⟨r0, r1, r2⟩, d0, d1, d2⟩ := cells3 HR3.out; clear hb3)
  obtain ⟨f0, f1, f2⟩ := res3a (x := .int .i64 0) (y := .int .i64 0) (z := .int .i64 0) HR3.out (.cells (pArr q) 119)
  exact bodyPost_ret (v := .tuple #[pv ⟨0, 0, 0⟩, .int .i64 1]) (by simp [results, Tryz.results118, go_sem, f0, f1, f2]) rfl ⟨rfl, bAlloc (below3 HB3.out (Nat.le_add_right w.heap.size 1))⟩
theorem leaf_in2 (u : Int) (c vn vm : Nat) (VA A : Option Addr) (w : World)  (q : Pw) (er : Int) (hO : ofM 2 = (q, er)) : Calls Tryz.prog 118 #[.slice VA vn vm, .agg #[.int .i64 3, .int .i64 2, .int .i64 u, .slice A 0 c]] w (VV (.tuple #[pv (if er = 0 then q else ⟨0, 0, 0⟩), .int .i64 (if er = 0 then 0 else 1)]) w) := by
 obtain ⟨W2, hW2⟩ : ∃ W2, W2 = (w.alloc (.cells #[.int .i64 3, .int .i64 2, .int .i64 u, .slice A 0 c] 66)).alloc (.cells (pArr ⟨0, 0, 0⟩) 119) := ⟨_, rfl⟩
 have HB : Hid (Below w.heap.size w W2) := Lib.hid (by rw [hW2]; exact bAlloc (bAlloc (Below.refl _ _)))
 have HE : Hid (W2.heap[w.heap.size]? = some (.cells #[.int .i64 3, .int .i64 2, .int .i64 u, .slice A 0 c] 66 (0, 0))) := Lib.hid (by rw [hW2]; exact (Below.heap_alloc _ _ _ (by simp)).trans (newBlk _ _ _ rfl))
 have HR : Hid (W2.heap[w.heap.size + 1]? = some (.cells (pArr ⟨0, 0, 0⟩) 119 (0, 0))) := Lib.hid (by rw [hW2]; exact newBlk _ _ _ (by simp))
 obtain ⟨⟨e0, e1, e2, e3⟩, -⟩ := cells4 HE.out
 obtain ⟨⟨r0, r1, r2⟩, d0, d1, d2⟩ := cells3 HR.out
 have el := blkLt HE.out
 have rl := blkLt HR.out
 have HO := Lib.hid (OfR_any 2)
 rw [hO] at HO
 clear hO
 by_cases he : er = 0
 ·subst he
  rw [if_pos rfl, if_pos rfl]
  go_enter Tryz.func118, Tryz.ntmps118
  go_upto_region 2 with fail
  rw [← hW2]
  clear hW2
  go_wp2_with (go_at_call 66; refine (HO.out _).mono ?_; rintro e w3 ⟨rfl, hb3⟩; have HB3 := Lib.hid (HB.out.trans (hb3.mono HB.out.size)); have HR3 := Lib.hid ((hb3.block _ rl).trans HR.out); have rl3 := blkLt HR3.out; clear r0 r1 r2 d0 d1 d2; obtain ⟨⟨r0, r1, r2⟩, d0, d1, d2⟩ := cells3 HR3.out; clear hb3)
  obtain ⟨f0, f1, f2⟩ := res3a (x := .int .i64 q.a) (y := .int .i64 q.b) (z := .int .i64 q.c) HR3.out (.cells (pArr q) 119)
  exact bodyPost_ret (v := .tuple #[pv q, .int .i64 0]) (by simp [results, Tryz.results118, go_sem, f0, f1, f2]) rfl ⟨rfl, bAlloc (below3 HB3.out (Nat.le_add_right w.heap.size 1))⟩
 ·rw [if_neg he, if_neg he]
  have hen : (er != 0) = true := by simp [he]
  go_enter Tryz.func118, Tryz.ntmps118
  go_upto_region 2 with fail
  rw [← hW2]
  clear hW2
  go_wp2_with (go_at_call 66; refine (HO.out _).mono ?_; rintro e w3 ⟨rfl, hb3⟩; have HB3 := Lib.hid (HB.out.trans (hb3.mono HB.out.size)); have HR3 := Lib.hid ((hb3.block _ rl).trans HR.out); have rl3 := blkLt HR3.out; clear r0 r1 r2 d0 d1 d2; obtain ⟨⟨r0, r1, r2⟩, d0, d1, d2⟩ := cells3 HR3.out; clear hb3)
  obtain ⟨f0, f1, f2⟩ := res3a (x := .int .i64 0) (y := .int .i64 0) (z := .int .i64 0) HR3.out (.cells (pArr q) 119)
  exact bodyPost_ret (v := .tuple #[pv ⟨0, 0, 0⟩, .int .i64 1]) (by simp [results, Tryz.results118, go_sem, f0, f1, f2]) rfl ⟨rfl, bAlloc (below3 HB3.out (Nat.le_add_right w.heap.size 1))⟩
theorem leaf_in3 (u : Int) (c vn vm : Nat) (VA A : Option Addr) (w : World)  (q : Pw) (er : Int) (hO : ofM 1 = (q, er)) : Calls Tryz.prog 118 #[.slice VA vn vm, .agg #[.int .i64 3, .int .i64 3, .int .i64 u, .slice A 0 c]] w (VV (.tuple #[pv (if er = 0 then q else ⟨0, 0, 0⟩), .int .i64 (if er = 0 then 0 else 1)]) w) := by
 obtain ⟨W2, hW2⟩ : ∃ W2, W2 = (w.alloc (.cells #[.int .i64 3, .int .i64 3, .int .i64 u, .slice A 0 c] 66)).alloc (.cells (pArr ⟨0, 0, 0⟩) 119) := ⟨_, rfl⟩
 have HB : Hid (Below w.heap.size w W2) := Lib.hid (by rw [hW2]; exact bAlloc (bAlloc (Below.refl _ _)))
 have HE : Hid (W2.heap[w.heap.size]? = some (.cells #[.int .i64 3, .int .i64 3, .int .i64 u, .slice A 0 c] 66 (0, 0))) := Lib.hid (by rw [hW2]; exact (Below.heap_alloc _ _ _ (by simp)).trans (newBlk _ _ _ rfl))
 have HR : Hid (W2.heap[w.heap.size + 1]? = some (.cells (pArr ⟨0, 0, 0⟩) 119 (0, 0))) := Lib.hid (by rw [hW2]; exact newBlk _ _ _ (by simp))
 obtain ⟨⟨e0, e1, e2, e3⟩, -⟩ := cells4 HE.out
 obtain ⟨⟨r0, r1, r2⟩, d0, d1, d2⟩ := cells3 HR.out
 have el := blkLt HE.out
 have rl := blkLt HR.out
 have HO := Lib.hid (OfR_any 1)
 rw [hO] at HO
 clear hO
 by_cases he : er = 0
 ·subst he
  rw [if_pos rfl, if_pos rfl]
  go_enter Tryz.func118, Tryz.ntmps118
  go_upto_region 2 with fail
  rw [← hW2]
  clear hW2
  go_wp2_with (go_at_call 66; refine (HO.out _).mono ?_; rintro e w3 ⟨rfl, hb3⟩; have HB3 := Lib.hid (HB.out.trans (hb3.mono HB.out.size)); have HR3 := Lib.hid ((hb3.block _ rl).trans HR.out); have rl3 := blkLt HR3.out; clear r0 r1 r2 d0 d1 d2; obtain ⟨⟨r0, r1, r2⟩, d0, d1, d2⟩ := cells3 HR3.out; clear hb3)
  obtain ⟨f0, f1, f2⟩ := res3a (x := .int .i64 q.a) (y := .int .i64 q.b) (z := .int .i64 q.c) HR3.out (.cells (pArr q) 119)
  exact bodyPost_ret (v := .tuple #[pv q, .int .i64 0]) (by simp [results, Tryz.results118, go_sem, f0, f1, f2]) rfl ⟨rfl, bAlloc (below3 HB3.out (Nat.le_add_right w.heap.size 1))⟩
 ·rw [if_neg he, if_neg he]
  have hen : (er != 0) = true := by simp [he]
  go_enter Tryz.func118, Tryz.ntmps118
  go_upto_region 2 with fail
  rw [← hW2]
  clear hW2
  go_wp2_with (go_at_call 66; refine (HO.out _).mono ?_; rintro e w3 ⟨rfl, hb3⟩; have HB3 := Lib.hid (HB.out.trans (hb3.mono HB.out.size)); have HR3 := Lib.hid ((hb3.block _ rl).trans HR.out); have rl3 := blkLt HR3.out; clear r0 r1 r2 d0 d1 d2; obtain ⟨⟨r0, r1, r2⟩, d0, d1, d2⟩ := cells3 HR3.out; clear hb3)
  obtain ⟨f0, f1, f2⟩ := res3a (x := .int .i64 0) (y := .int .i64 0) (z := .int .i64 0) HR3.out (.cells (pArr q) 119)
  exact bodyPost_ret (v := .tuple #[pv ⟨0, 0, 0⟩, .int .i64 1]) (by simp [results, Tryz.results118, go_sem, f0, f1, f2]) rfl ⟨rfl, bAlloc (below3 HB3.out (Nat.le_add_right w.heap.size 1))⟩
theorem leaf_inN (n u : Int) (c vn vm : Nat) (VA A : Option Addr) (w : World) (n0 : ¬ n = 0) (n1 : ¬ n = 1) (n2 : ¬ n = 2) (n3 : ¬ n = 3) (q : Pw) (er : Int) (hO : ofM (-1) = (q, er)) : Calls Tryz.prog 118 #[.slice VA vn vm, .agg #[.int .i64 3, .int .i64 n, .int .i64 u, .slice A 0 c]] w (VV (.tuple #[pv (if er = 0 then q else ⟨0, 0, 0⟩), .int .i64 (if er = 0 then 0 else 1)]) w) := by
 obtain ⟨W2, hW2⟩ : ∃ W2, W2 = (w.alloc (.cells #[.int .i64 3, .int .i64 n, .int .i64 u, .slice A 0 c] 66)).alloc (.cells (pArr ⟨0, 0, 0⟩) 119) := ⟨_, rfl⟩
 have HB : Hid (Below w.heap.size w W2) := Lib.hid (by rw [hW2]; exact bAlloc (bAlloc (Below.refl _ _)))
 have HE : Hid (W2.heap[w.heap.size]? = some (.cells #[.int .i64 3, .int .i64 n, .int .i64 u, .slice A 0 c] 66 (0, 0))) := Lib.hid (by rw [hW2]; exact (Below.heap_alloc _ _ _ (by simp)).trans (newBlk _ _ _ rfl))
 have HR : Hid (W2.heap[w.heap.size + 1]? = some (.cells (pArr ⟨0, 0, 0⟩) 119 (0, 0))) := Lib.hid (by rw [hW2]; exact newBlk _ _ _ (by simp))
 obtain ⟨⟨e0, e1, e2, e3⟩, -⟩ := cells4 HE.out
 obtain ⟨⟨r0, r1, r2⟩, d0, d1, d2⟩ := cells3 HR.out
 have el := blkLt HE.out
 have rl := blkLt HR.out
 have HO := Lib.hid (OfR_any (-1))
 rw [hO] at HO
 clear hO
 have g0 : (n == 0) = false := by simp [n0]
 have g1 : (n == 1) = false := by simp [n1]
 have g2 : (n == 2) = false := by simp [n2]
 have g3 : (n == 3) = false := by simp [n3]
 by_cases he : er = 0
 ·subst he
  rw [if_pos rfl, if_pos rfl]
  go_enter Tryz.func118, Tryz.ntmps118
  go_upto_region 2 with fail
  rw [← hW2]
  clear hW2
  go_wp2_with (go_at_call 66; refine (HO.out _).mono ?_; rintro e w3 ⟨rfl, hb3⟩; have HB3 := Lib.hid (HB.out.trans (hb3.mono HB.out.size)); have HR3 := Lib.hid ((hb3.block _ rl).trans HR.out); have rl3 := blkLt HR3.out; clear r0 r1 r2 d0 d1 d2; obtain ⟨⟨r0, r1, r2⟩, d0, d1, d2⟩ := cells3 HR3.out; clear hb3)
  obtain ⟨f0, f1, f2⟩ := res3a (x := .int .i64 q.a) (y := .int .i64 q.b) (z := .int .i64 q.c) HR3.out (.cells (pArr q) 119)
  exact bodyPost_ret (v := .tuple #[pv q, .int .i64 0]) (by simp [results, Tryz.results118, go_sem, f0, f1, f2]) rfl ⟨rfl, bAlloc (below3 HB3.out (Nat.le_add_right w.heap.size 1))⟩
 ·rw [if_neg he, if_neg he]
  have hen : (er != 0) = true := by simp [he]
  go_enter Tryz.func118, Tryz.ntmps118
  go_upto_region 2 with fail
  rw [← hW2]
  clear hW2
  go_wp2_with (go_at_call 66; refine (HO.out _).mono ?_; rintro e w3 ⟨rfl, hb3⟩; have HB3 := Lib.hid (HB.out.trans (hb3.mono HB.out.size)); have HR3 := Lib.hid ((hb3.block _ rl).trans HR.out); have rl3 := blkLt HR3.out; clear r0 r1 r2 d0 d1 d2; obtain ⟨⟨r0, r1, r2⟩, d0, d1, d2⟩ := cells3 HR3.out; clear hb3)
  obtain ⟨f0, f1, f2⟩ := res3a (x := .int .i64 0) (y := .int .i64 0) (z := .int .i64 0) HR3.out (.cells (pArr q) 119)
  exact bodyPost_ret (v := .tuple #[pv ⟨0, 0, 0⟩, .int .i64 1]) (by simp [results, Tryz.results118, go_sem, f0, f1, f2]) rfl ⟨rfl, bAlloc (below3 HB3.out (Nat.le_add_right w.heap.size 1))⟩
end Go.Proofs.YtljknappbnoikaaGreatDoor.U
