/- Texts of one proof: VxF. -/
import Derived.Test.YtdlebaiamdbneaaGreatDoorYe
import Derived.Test.YtdlebaiamdbneaaGreatDoorYn
set_option linter.unusedVariables false
set_option linter.unusedSimpArgs false
set_option maxRecDepth 100000
set_option maxHeartbeats 8000000
namespace Go.Proofs.YtdlebaiamdbneaaGreatDoor
open Go.RowKit
namespace M
open I
open U (Ex St StsR StR StAt btw btw_iff ev eArr KidsE newBlk blkLt Vr VarsR VrAt KpL sArr two_kids owns_below new_cells gbRefl gbAlloc gbTrans gbBelow kbS kbL)
open R (epanic bAllocX insR LeftP erOf cell1 limS WfL)
open C (valPM v5 v5_val SomeB V1)
theorem RState_any (vs : List Vr) (VA : Option Addr) (vm : Nat) (st : List Int) (SA : Option Addr) (sc : Nat) (w : World) (hV : VarsR w vs VA) (hS : IntsR w st SA) (hvl : vs.length ≤ maxLen) :
  Calls Tryz.prog 11 #[.slice VA vs.length vm, .slice SA st.length sc] w (BB (stB vs st) w) := by
 by_cases hl : st.length = vs.length
 ·have hm : stB vs st = inLB vs st := by unfold stB; simp [hl]
  rw [hm]
  obtain ⟨r, hr⟩ : ∃ r, inLB vs st = r := ⟨_, rfl⟩
  rw [hr]
  have hrH : Hid (inLB (vs.drop 0) (st.drop 0) = r) := Lib.hid hr
  have HV := Lib.hid hV
  have HS := Lib.hid hS
  have hlb : (((st.length : Nat) : Int) != ((vs.length : Nat) : Int)) = false := by simp [hl]
  have hlH := Lib.hid hl
  clear hm hr hV hS hl
  go_enter Tryz.func11, Tryz.ntmps11
  go_wp2_with fail
  go_loopg [5] (vs.length) (fun gk i wr => ∃ k : Nat, k + gk = vs.length ∧ i = .int .i64 k ∧ Hid (inLB (vs.drop k) (st.drop k) = r) ∧ Hid (Below w.heap.size w wr))
  case atStart => exact ⟨0, by omega, rfl, hrH, Lib.hid (Below.refl _ _)⟩
  case round =>
   obtain ⟨k, hk, rfl, hG, hW⟩ := hrel
   by_cases hlt : k < vs.length
   ·obtain ⟨gq, rfl⟩ : ∃ g, gk = g + 1 := ⟨gk - 1, by omega⟩
    have hk64 : (k : Int) + 1 < 9223372036854775808 := by unfold maxLen at hvl; omega
    have hls : k < st.length := by have := hlH.out; omega
    obtain ⟨ga, oa, rfl, hat⟩ := (HV.out.below hW.out).addr (by omega)
    obtain ⟨gs, os, rfl, has⟩ := (HS.out.gr hW.out).addr (by intro e; rw [e] at hls; simp at hls)
    obtain ⟨-, -, e2, e3, -⟩ := hat k _ (List.getElem?_eq_getElem hlt)
    have s0 := has k _ (List.getElem?_eq_getElem hls)
    have hGd := hG.out
    rw [inLB_drop hlt hls] at hGd
    clear hG hat has
    generalize vs[k] = u at *
    generalize st[k] = n at *
    by_cases h1 : n < u.lo
    ·have t1 : decide (n < u.lo) = true := decide_eq_true h1
     obtain rfl : false = r := by
      rw [show btw n u.lo u.hi = false by rw [Bool.eq_false_iff]; intro h; have := btw_iff.1 h; omega] at hGd
      exact hGd
     clear hGd h1
     go_upto_region 6 with fail
     go_quiet (fail)
     go_wp2
     go_ret
     exact ⟨rfl, by first | exact U.bDrewN hW.out _ | exact hW.out⟩
    ·have t1 : decide (n < u.lo) = false := decide_eq_false h1
     by_cases h2 : u.hi < n
     ·have t2 : decide (n > u.hi) = true := decide_eq_true h2
      obtain rfl : false = r := by
       rw [show btw n u.lo u.hi = false by rw [Bool.eq_false_iff]; intro h; have := btw_iff.1 h; omega] at hGd
       exact hGd
      clear hGd h1 h2
      go_upto_region 6 with fail
      go_quiet (fail)
      go_wp2
      go_ret
      exact ⟨rfl, by first | exact U.bDrewN hW.out _ | exact hW.out⟩
     ·have t2 : decide (n > u.hi) = false := decide_eq_false h2
      have hG2 := Lib.hid (by
       rw [show btw n u.lo u.hi = true from btw_iff.2 ⟨by omega, by omega⟩, Bool.true_and] at hGd
       exact hGd)
      clear hGd h1 h2
      go_upto_region 6 with fail
      go_quiet (fail)
      go_wp2
      go_roundg gq
      case measure => omega
      case rel => exact ⟨k + 1, by omega, by go_num, hG2, Lib.hid (by first | exact U.bDrewN hW.out _ | exact hW.out)⟩
   ·have hF : Hid (true = r) := Lib.hid (by have := hG.out; rw [inLB_end (by omega)] at this; exact this)
    clear hG
    go_wp2
    go_ret
    exact ⟨C.ret_bz hF.out, hW.out⟩
 ·have hm : stB vs st = false := by unfold stB; simp [hl]
  rw [hm]
  have hlb : (((st.length : Nat) : Int) != ((vs.length : Nat) : Int)) = true := by simp; omega
  go_enter Tryz.func11, Tryz.ntmps11
  go_wp2
  go_ret
  exact ⟨rfl, Below.refl _ _⟩
abbrev mostC : Array Value := #[.int .i64 1000, .int .i64 10000000, .int .i64 10000, .int .i64 4000]
theorem RCall_any (e i0 i1 i2 i3 : Int) (w : World) : Calls Tryz.prog 22 #[.agg (clA e i0 i1 i2 i3)] w (BB (rsB e i0 i1 i2 i3 0) w) := by
 obtain ⟨r, hr⟩ : ∃ r, rsB e i0 i1 i2 i3 0 = r := ⟨_, rfl⟩
 rw [hr]
 have hrH : Hid (rsB e i0 i1 i2 i3 0 = r) := Lib.hid hr
 obtain ⟨W2, hW2⟩ : ∃ W2, W2 = (w.alloc (.cells (clA e i0 i1 i2 i3) 30)).alloc (.cells mostC 3) := ⟨_, rfl⟩
 have HB0 : Hid (Gr w W2) := Lib.hid (by rw [hW2]; exact (grAlloc _ _).tr (grAlloc _ _))
 have HC : Hid (W2.heap[w.heap.size]? = some (.cells (clA e i0 i1 i2 i3) 30 (0, 0))) := Lib.hid (by rw [hW2]; exact grBlk (grAlloc _ _) (newBlk _ _ _ rfl))
 have HM : Hid (W2.heap[w.heap.size + 1]? = some (.cells mostC 3 (0, 0))) := Lib.hid (by rw [hW2]; exact newBlk _ _ _ (by simp))
 clear hr
 go_enter Tryz.func22, Tryz.ntmps22
 go_upto_region 2 with fail
 rw [← hW2]
 clear hW2
 go_wp2_with fail
 go_loopg [4] (4) (fun gk i wr => ∃ k : Nat, k + gk = 4 ∧ i = .int .i64 k ∧ Hid (rsB e i0 i1 i2 i3 k = r) ∧ Hid (wr.heap[w.heap.size]? = some (.cells (clA e i0 i1 i2 i3) 30 (0, 0))) ∧ Hid (wr.heap[w.heap.size + 1]? = some (.cells mostC 3 (0, 0))) ∧ Hid (Gr w wr))
 case atStart => exact ⟨0, by omega, rfl, hrH, HC, HM, HB0⟩
 case round =>
  obtain ⟨k, hk, rfl, hG, hX, hY, hW⟩ := hrel
  clear HB0 HC HM hrH
  have h5 : k = 0 ∨ k = 1 ∨ k = 2 ∨ k = 3 ∨ k = 4 := by omega
  obtain ⟨⟨c0, c1, c2, c3, c4⟩, -⟩ := C.cells5C hX.out
  obtain ⟨⟨m0, m1, m2, m3⟩, -⟩ := C.cells4C hY.out
  rcases h5 with rfl | rfl | rfl | rfl | rfl
  ·obtain ⟨gq, rfl⟩ : ∃ g, gk = g + 1 := ⟨gk - 1, by omega⟩
   have hGd : (btw i0 1 1000 && rsB e i0 i1 i2 i3 1) = r := hG.out
   clear hG
   by_cases h1 : 1000 < i0
   ·have t1 : decide (i0 > 1000) = true := decide_eq_true h1
    obtain rfl : false = r := by
     rw [show btw i0 1 1000 = false by rw [Bool.eq_false_iff]; intro h; have := btw_iff.1 h; omega] at hGd
     exact hGd
    clear hGd h1
    go_upto_region 5 with fail
    go_quiet (fail)
    go_wp2
    go_ret
    exact ⟨rfl, by first | exact U.bDrewN hW.out _ | exact hW.out⟩
   ·have t1 : decide (i0 > 1000) = false := decide_eq_false h1
    by_cases h2 : i0 < 0
    ·have t2 : decide (i0 < 0) = true := decide_eq_true h2
     obtain rfl : false = r := by
      rw [show btw i0 1 1000 = false by rw [Bool.eq_false_iff]; intro h; have := btw_iff.1 h; omega] at hGd
      exact hGd
     clear hGd h1 h2
     go_upto_region 5 with fail
     go_quiet (fail)
     go_wp2
     go_ret
     exact ⟨rfl, by first | exact U.bDrewN hW.out _ | exact hW.out⟩
    ·have t2 : decide (i0 < 0) = false := decide_eq_false h2
     by_cases h3 : i0 = 0
     ·have t3 : (i0 == 0) = true := by simp [h3]
      obtain rfl : false = r := by
       rw [show btw i0 1 1000 = false by rw [Bool.eq_false_iff]; intro h; have := btw_iff.1 h; omega] at hGd
       exact hGd
      clear hGd h1 h2
      clear h3
      go_upto_region 5 with fail
      go_quiet (fail)
      go_wp2
      go_ret
      exact ⟨rfl, by first | exact U.bDrewN hW.out _ | exact hW.out⟩
     ·have t3 : (i0 == 0) = false := by simp [h3]
      have hG2 := Lib.hid (by
       rw [show btw i0 1 1000 = true from btw_iff.2 ⟨by omega, by omega⟩, Bool.true_and] at hGd
       exact hGd)
      clear hGd h1 h2 h3
      go_upto_region 5 with fail
      go_quiet (fail)
      go_wp2
      go_roundg gq
      case measure => omega
      case rel => exact ⟨1, by omega, by go_num, hG2, Lib.hid (grBlk (U.bDrewN (Below.refl _ _) _) hX.out), Lib.hid (grBlk (U.bDrewN (Below.refl _ _) _) hY.out), Lib.hid (by first | exact U.bDrewN hW.out _ | exact hW.out)⟩
  ·obtain ⟨gq, rfl⟩ : ∃ g, gk = g + 1 := ⟨gk - 1, by omega⟩
   have hGd : (btw i1 1 10000000 && rsB e i0 i1 i2 i3 2) = r := hG.out
   clear hG
   by_cases h1 : 10000000 < i1
   ·have t1 : decide (i1 > 10000000) = true := decide_eq_true h1
    obtain rfl : false = r := by
     rw [show btw i1 1 10000000 = false by rw [Bool.eq_false_iff]; intro h; have := btw_iff.1 h; omega] at hGd
     exact hGd
    clear hGd h1
    go_upto_region 5 with fail
    go_quiet (fail)
    go_wp2
    go_ret
    exact ⟨rfl, by first | exact U.bDrewN hW.out _ | exact hW.out⟩
   ·have t1 : decide (i1 > 10000000) = false := decide_eq_false h1
    by_cases h2 : i1 < 0
    ·have t2 : decide (i1 < 0) = true := decide_eq_true h2
     obtain rfl : false = r := by
      rw [show btw i1 1 10000000 = false by rw [Bool.eq_false_iff]; intro h; have := btw_iff.1 h; omega] at hGd
      exact hGd
     clear hGd h1 h2
     go_upto_region 5 with fail
     go_quiet (fail)
     go_wp2
     go_ret
     exact ⟨rfl, by first | exact U.bDrewN hW.out _ | exact hW.out⟩
    ·have t2 : decide (i1 < 0) = false := decide_eq_false h2
     by_cases h3 : i1 = 0
     ·have t3 : (i1 == 0) = true := by simp [h3]
      obtain rfl : false = r := by
       rw [show btw i1 1 10000000 = false by rw [Bool.eq_false_iff]; intro h; have := btw_iff.1 h; omega] at hGd
       exact hGd
      clear hGd h1 h2
      clear h3
      go_upto_region 5 with fail
      go_quiet (fail)
      go_wp2
      go_ret
      exact ⟨rfl, by first | exact U.bDrewN hW.out _ | exact hW.out⟩
     ·have t3 : (i1 == 0) = false := by simp [h3]
      have hG2 := Lib.hid (by
       rw [show btw i1 1 10000000 = true from btw_iff.2 ⟨by omega, by omega⟩, Bool.true_and] at hGd
       exact hGd)
      clear hGd h1 h2 h3
      go_upto_region 5 with fail
      go_quiet (fail)
      go_wp2
      go_roundg gq
      case measure => omega
      case rel => exact ⟨2, by omega, by go_num, hG2, Lib.hid (grBlk (U.bDrewN (Below.refl _ _) _) hX.out), Lib.hid (grBlk (U.bDrewN (Below.refl _ _) _) hY.out), Lib.hid (by first | exact U.bDrewN hW.out _ | exact hW.out)⟩
  ·obtain ⟨gq, rfl⟩ : ∃ g, gk = g + 1 := ⟨gk - 1, by omega⟩
   have hGd : (btw i2 1 10000 && rsB e i0 i1 i2 i3 3) = r := hG.out
   clear hG
   by_cases h1 : 10000 < i2
   ·have t1 : decide (i2 > 10000) = true := decide_eq_true h1
    obtain rfl : false = r := by
     rw [show btw i2 1 10000 = false by rw [Bool.eq_false_iff]; intro h; have := btw_iff.1 h; omega] at hGd
     exact hGd
    clear hGd h1
    go_upto_region 5 with fail
    go_quiet (fail)
    go_wp2
    go_ret
    exact ⟨rfl, by first | exact U.bDrewN hW.out _ | exact hW.out⟩
   ·have t1 : decide (i2 > 10000) = false := decide_eq_false h1
    by_cases h2 : i2 < 0
    ·have t2 : decide (i2 < 0) = true := decide_eq_true h2
     obtain rfl : false = r := by
      rw [show btw i2 1 10000 = false by rw [Bool.eq_false_iff]; intro h; have := btw_iff.1 h; omega] at hGd
      exact hGd
     clear hGd h1 h2
     go_upto_region 5 with fail
     go_quiet (fail)
     go_wp2
     go_ret
     exact ⟨rfl, by first | exact U.bDrewN hW.out _ | exact hW.out⟩
    ·have t2 : decide (i2 < 0) = false := decide_eq_false h2
     by_cases h3 : i2 = 0
     ·have t3 : (i2 == 0) = true := by simp [h3]
      obtain rfl : false = r := by
       rw [show btw i2 1 10000 = false by rw [Bool.eq_false_iff]; intro h; have := btw_iff.1 h; omega] at hGd
       exact hGd
      clear hGd h1 h2
      clear h3
      go_upto_region 5 with fail
      go_quiet (fail)
      go_wp2
      go_ret
      exact ⟨rfl, by first | exact U.bDrewN hW.out _ | exact hW.out⟩
     ·have t3 : (i2 == 0) = false := by simp [h3]
      have hG2 := Lib.hid (by
       rw [show btw i2 1 10000 = true from btw_iff.2 ⟨by omega, by omega⟩, Bool.true_and] at hGd
       exact hGd)
      clear hGd h1 h2 h3
      go_upto_region 5 with fail
      go_quiet (fail)
      go_wp2
      go_roundg gq
      case measure => omega
      case rel => exact ⟨3, by omega, by go_num, hG2, Lib.hid (grBlk (U.bDrewN (Below.refl _ _) _) hX.out), Lib.hid (grBlk (U.bDrewN (Below.refl _ _) _) hY.out), Lib.hid (by first | exact U.bDrewN hW.out _ | exact hW.out)⟩
  ·obtain ⟨gq, rfl⟩ : ∃ g, gk = g + 1 := ⟨gk - 1, by omega⟩
   have hGd : (btw i3 0 4000 && rsB e i0 i1 i2 i3 4) = r := hG.out
   clear hG
   by_cases h1 : 4000 < i3
   ·have t1 : decide (i3 > 4000) = true := decide_eq_true h1
    obtain rfl : false = r := by
     rw [show btw i3 0 4000 = false by rw [Bool.eq_false_iff]; intro h; have := btw_iff.1 h; omega] at hGd
     exact hGd
    clear hGd h1
    go_upto_region 5 with fail
    go_quiet (fail)
    go_wp2
    go_ret
    exact ⟨rfl, by first | exact U.bDrewN hW.out _ | exact hW.out⟩
   ·have t1 : decide (i3 > 4000) = false := decide_eq_false h1
    by_cases h2 : i3 < 0
    ·have t2 : decide (i3 < 0) = true := decide_eq_true h2
     obtain rfl : false = r := by
      rw [show btw i3 0 4000 = false by rw [Bool.eq_false_iff]; intro h; have := btw_iff.1 h; omega] at hGd
      exact hGd
     clear hGd h1 h2
     go_upto_region 5 with fail
     go_quiet (fail)
     go_wp2
     go_ret
     exact ⟨rfl, by first | exact U.bDrewN hW.out _ | exact hW.out⟩
    ·have t2 : decide (i3 < 0) = false := decide_eq_false h2
     by_cases h3 : i3 = 0
     ·have t3 : (i3 == 0) = true := by simp [h3]
      have hG2 := Lib.hid (by
       rw [show btw i3 0 4000 = true from btw_iff.2 ⟨by omega, by omega⟩, Bool.true_and] at hGd
       exact hGd)
      clear hGd h1 h2
      clear h3
      go_upto_region 5 with fail
      go_quiet (fail)
      go_wp2
      go_roundg gq
      case measure => omega
      case rel => exact ⟨4, by omega, by go_num, hG2, Lib.hid (grBlk (U.bDrewN (Below.refl _ _) _) hX.out), Lib.hid (grBlk (U.bDrewN (Below.refl _ _) _) hY.out), Lib.hid (by first | exact U.bDrewN hW.out _ | exact hW.out)⟩
     ·have t3 : (i3 == 0) = false := by simp [h3]
      have hG2 := Lib.hid (by
       rw [show btw i3 0 4000 = true from btw_iff.2 ⟨by omega, by omega⟩, Bool.true_and] at hGd
       exact hGd)
      clear hGd h1 h2 h3
      go_upto_region 5 with fail
      go_quiet (fail)
      go_wp2
      go_roundg gq
      case measure => omega
      case rel => exact ⟨4, by omega, by go_num, hG2, Lib.hid (grBlk (U.bDrewN (Below.refl _ _) _) hX.out), Lib.hid (grBlk (U.bDrewN (Below.refl _ _) _) hY.out), Lib.hid (by first | exact U.bDrewN hW.out _ | exact hW.out)⟩
  ·have hGd : btw e 0 4 = r := hG.out
   clear hG
   by_cases h1 : 0 ≤ e
   ·have t1 : decide (e ≥ 0) = true := decide_eq_true h1
    by_cases h2 : e < 5
    ·have t2 : decide (e < 5) = true := decide_eq_true h2
     obtain rfl : true = r := by rw [← hGd]; exact (btw_iff.2 ⟨by omega, by omega⟩).symm
     go_wp2
     go_ret
     exact ⟨rfl, hW.out⟩
    ·have t2 : decide (e < 5) = false := decide_eq_false h2
     obtain rfl : false = r := by rw [← hGd]; symm; rw [Bool.eq_false_iff]; intro h; have := btw_iff.1 h; omega
     go_wp2
     go_ret
     exact ⟨rfl, hW.out⟩
   ·have t1 : decide (e ≥ 0) = false := decide_eq_false h1
    obtain rfl : false = r := by rw [← hGd]; symm; rw [Bool.eq_false_iff]; intro h; have := btw_iff.1 h; omega
    go_wp2
    go_ret
    exact ⟨rfl, hW.out⟩
def UsP (x : ByteArray) (vs : List Vr) (on : List (List St)) (wi pa : Int) (st : List Int) (e i0 i1 i2 i3 : Int) (w : World) (en : Ending) (w' : World) : Prop :=
 (en = .returned (.bool false) ∨ en = .returned (.bool true) ∧ v5 nm5 x vs on wi pa = true ∧ stB vs st = true ∧ rsB e i0 i1 i2 i3 0 = true) ∧ Below w.heap.size w w'
theorem usable_any (x : ByteArray) (vs : List Vr) (VA : Option Addr) (vm : Nat) (o : U.On) (a : U.OnA) (wi pa : Int) (st : List Int) (SA : Option Addr) (sc : Nat) (e i0 i1 i2 i3 : Int) (w : World)
  (hV : VarsR w vs VA) (hlen : vs.length ≤ maxLen) (hO : U.OnR w o a) (hk : ∀ l ∈ o.list, kbL l) (hS : IntsR w st SA) (hx : x.size ≤ maxLen) (hv : ∀ v ∈ vs, v.x.size ≤ maxLen) :
  Calls Tryz.prog 8 #[U.pgv x VA vs.length vm o a wi pa, .slice SA st.length sc, .agg (clA e i0 i1 i2 i3)] w (UsP x vs o.list wi pa st e i0 i1 i2 i3 w) := by
 obtain ⟨W2, hW2⟩ : ∃ W2, W2 = (w.alloc (.cells (U.pgArr x VA vs.length vm o a wi pa) 26)).alloc (.cells (clA e i0 i1 i2 i3) 30) := ⟨_, rfl⟩
 have HB : Hid (Gr w W2) := Lib.hid (by rw [hW2]; exact (grAlloc _ _).tr (grAlloc _ _))
 have HP : Hid (W2.heap[w.heap.size]? = some (.cells (U.pgArr x VA vs.length vm o a wi pa) 26 (0, 0))) := Lib.hid (by rw [hW2]; exact grBlk (grAlloc _ _) (newBlk _ _ _ rfl))
 have HC : Hid (W2.heap[w.heap.size + 1]? = some (.cells (clA e i0 i1 i2 i3) 30 (0, 0))) := Lib.hid (by rw [hW2]; exact newBlk _ _ _ (by simp))
 have HFw := Lib.hid (fun wx (hg : Gr w wx) => C.RFew_any x vs VA vm o a wi pa wx (hV.below hg) hlen (hO.below hg) hk)
 have HVl := Lib.hid (fun wx (hg : Gr w wx) => C.R5Valid_any x vs VA vm o a wi pa wx (hV.below hg) hlen (hO.below hg) hx hv)
 have HSt := Lib.hid (fun wx (hg : Gr w wx) => RState_any vs VA vm st SA sc wx (hV.below hg) (hS.gr hg) hlen)
 have HCl := Lib.hid (RCall_any e i0 i1 i2 i3)
 clear hV hO hk hS hx hv
 generalize hvv : v5 nm5 x vs o.list wi pa = bv at *
 generalize hss : stB vs st = bs at *
 generalize hcc : rsB e i0 i1 i2 i3 0 = bc at *
 generalize vs.length = vn at *
 generalize st.length = sn at *
 have HH : Hid (∀ wx, Gr w wx → bv = true → bs = true → bc = true → UsP x vs o.list wi pa st e i0 i1 i2 i3 w (.returned (.bool true)) wx) := Lib.hid (fun wx hg h1 h2 h3 => ⟨.inr ⟨rfl, hvv.trans h1, hss.trans h2, hcc.trans h3⟩, hg⟩)
 have HF : Hid (∀ wx, Gr w wx → UsP x vs o.list wi pa st e i0 i1 i2 i3 w (.returned (.bool false)) wx) := Lib.hid (fun wx hg => ⟨.inl rfl, hg⟩)
 clear hvv hss hcc
 go_enter Tryz.func8, Tryz.ntmps8
 go_upto_region 1 with fail
 rw [← hW2]
 clear hW2
 obtain ⟨p0, p1, p2, p3, p4, p5, p6, p7, p8⟩ := U.cells9 HP.out
 obtain ⟨⟨c0, c1, c2, c3, c4⟩, -⟩ := C.cells5C HC.out
 go_wp2_with fail
 refine (HFw.out _ HB.out).mono ?_
 rintro e w2 ⟨⟨bf, rfl⟩, hb2⟩
 have HB := Lib.hid (Gr.tr HB.out hb2)
 have HP := Lib.hid (grBlk hb2 HP.out)
 have HC := Lib.hid (grBlk hb2 HC.out)
 clear hb2 p0 p1 p2 p3 p4 p5 p6 p7 p8 c0 c1 c2 c3 c4
 obtain ⟨p0, p1, p2, p3, p4, p5, p6, p7, p8⟩ := U.cells9 HP.out
 obtain ⟨⟨c0, c1, c2, c3, c4⟩, -⟩ := C.cells5C HC.out
 clear HFw
 cases bf with
 | false =>
  go_wp2_with (first
   | (go_at_call 21; refine (HVl.out _ HB.out).mono ?_; rintro e w2 ⟨rfl, hb2⟩; have HB := Lib.hid (Gr.tr HB.out hb2); have HP := Lib.hid (grBlk hb2 HP.out); have HC := Lib.hid (grBlk hb2 HC.out); clear hb2 p0 p1 p2 p3 p4 p5 p6 p7 p8 c0 c1 c2 c3 c4; obtain ⟨p0, p1, p2, p3, p4, p5, p6, p7, p8⟩ := U.cells9 HP.out; obtain ⟨⟨c0, c1, c2, c3, c4⟩, -⟩ := C.cells5C HC.out)
   | (go_at_call 11; refine (HSt.out _ HB.out).mono ?_; rintro e w2 ⟨rfl, hb2⟩; have HB := Lib.hid (Gr.tr HB.out hb2); have HP := Lib.hid (grBlk hb2 HP.out); have HC := Lib.hid (grBlk hb2 HC.out); clear hb2 p0 p1 p2 p3 p4 p5 p6 p7 p8 c0 c1 c2 c3 c4; obtain ⟨p0, p1, p2, p3, p4, p5, p6, p7, p8⟩ := U.cells9 HP.out; obtain ⟨⟨c0, c1, c2, c3, c4⟩, -⟩ := C.cells5C HC.out)
   | (go_at_call 22; refine (HCl.out _).mono ?_; rintro e w2 ⟨rfl, hb2⟩; have HB := Lib.hid (Gr.tr HB.out hb2); have HP := Lib.hid (grBlk hb2 HP.out); have HC := Lib.hid (grBlk hb2 HC.out); clear hb2 p0 p1 p2 p3 p4 p5 p6 p7 p8 c0 c1 c2 c3 c4; obtain ⟨p0, p1, p2, p3, p4, p5, p6, p7, p8⟩ := U.cells9 HP.out; obtain ⟨⟨c0, c1, c2, c3, c4⟩, -⟩ := C.cells5C HC.out))
  go_ret
  exact HF.out _ HB.out
 | true =>
  cases bv with
  | false =>
   go_wp2_with (first
    | (go_at_call 21; refine (HVl.out _ HB.out).mono ?_; rintro e w2 ⟨rfl, hb2⟩; have HB := Lib.hid (Gr.tr HB.out hb2); have HP := Lib.hid (grBlk hb2 HP.out); have HC := Lib.hid (grBlk hb2 HC.out); clear hb2 p0 p1 p2 p3 p4 p5 p6 p7 p8 c0 c1 c2 c3 c4; obtain ⟨p0, p1, p2, p3, p4, p5, p6, p7, p8⟩ := U.cells9 HP.out; obtain ⟨⟨c0, c1, c2, c3, c4⟩, -⟩ := C.cells5C HC.out)
    | (go_at_call 11; refine (HSt.out _ HB.out).mono ?_; rintro e w2 ⟨rfl, hb2⟩; have HB := Lib.hid (Gr.tr HB.out hb2); have HP := Lib.hid (grBlk hb2 HP.out); have HC := Lib.hid (grBlk hb2 HC.out); clear hb2 p0 p1 p2 p3 p4 p5 p6 p7 p8 c0 c1 c2 c3 c4; obtain ⟨p0, p1, p2, p3, p4, p5, p6, p7, p8⟩ := U.cells9 HP.out; obtain ⟨⟨c0, c1, c2, c3, c4⟩, -⟩ := C.cells5C HC.out)
    | (go_at_call 22; refine (HCl.out _).mono ?_; rintro e w2 ⟨rfl, hb2⟩; have HB := Lib.hid (Gr.tr HB.out hb2); have HP := Lib.hid (grBlk hb2 HP.out); have HC := Lib.hid (grBlk hb2 HC.out); clear hb2 p0 p1 p2 p3 p4 p5 p6 p7 p8 c0 c1 c2 c3 c4; obtain ⟨p0, p1, p2, p3, p4, p5, p6, p7, p8⟩ := U.cells9 HP.out; obtain ⟨⟨c0, c1, c2, c3, c4⟩, -⟩ := C.cells5C HC.out))
   go_ret
   exact HF.out _ HB.out
  | true =>
   cases bs with
   | false =>
    go_wp2_with (first
     | (go_at_call 21; refine (HVl.out _ HB.out).mono ?_; rintro e w2 ⟨rfl, hb2⟩; have HB := Lib.hid (Gr.tr HB.out hb2); have HP := Lib.hid (grBlk hb2 HP.out); have HC := Lib.hid (grBlk hb2 HC.out); clear hb2 p0 p1 p2 p3 p4 p5 p6 p7 p8 c0 c1 c2 c3 c4; obtain ⟨p0, p1, p2, p3, p4, p5, p6, p7, p8⟩ := U.cells9 HP.out; obtain ⟨⟨c0, c1, c2, c3, c4⟩, -⟩ := C.cells5C HC.out)
     | (go_at_call 11; refine (HSt.out _ HB.out).mono ?_; rintro e w2 ⟨rfl, hb2⟩; have HB := Lib.hid (Gr.tr HB.out hb2); have HP := Lib.hid (grBlk hb2 HP.out); have HC := Lib.hid (grBlk hb2 HC.out); clear hb2 p0 p1 p2 p3 p4 p5 p6 p7 p8 c0 c1 c2 c3 c4; obtain ⟨p0, p1, p2, p3, p4, p5, p6, p7, p8⟩ := U.cells9 HP.out; obtain ⟨⟨c0, c1, c2, c3, c4⟩, -⟩ := C.cells5C HC.out)
     | (go_at_call 22; refine (HCl.out _).mono ?_; rintro e w2 ⟨rfl, hb2⟩; have HB := Lib.hid (Gr.tr HB.out hb2); have HP := Lib.hid (grBlk hb2 HP.out); have HC := Lib.hid (grBlk hb2 HC.out); clear hb2 p0 p1 p2 p3 p4 p5 p6 p7 p8 c0 c1 c2 c3 c4; obtain ⟨p0, p1, p2, p3, p4, p5, p6, p7, p8⟩ := U.cells9 HP.out; obtain ⟨⟨c0, c1, c2, c3, c4⟩, -⟩ := C.cells5C HC.out))
    go_ret
    exact HF.out _ HB.out
   | true =>
    cases bc with
    | false =>
     go_wp2_with (first
      | (go_at_call 21; refine (HVl.out _ HB.out).mono ?_; rintro e w2 ⟨rfl, hb2⟩; have HB := Lib.hid (Gr.tr HB.out hb2); have HP := Lib.hid (grBlk hb2 HP.out); have HC := Lib.hid (grBlk hb2 HC.out); clear hb2 p0 p1 p2 p3 p4 p5 p6 p7 p8 c0 c1 c2 c3 c4; obtain ⟨p0, p1, p2, p3, p4, p5, p6, p7, p8⟩ := U.cells9 HP.out; obtain ⟨⟨c0, c1, c2, c3, c4⟩, -⟩ := C.cells5C HC.out)
      | (go_at_call 11; refine (HSt.out _ HB.out).mono ?_; rintro e w2 ⟨rfl, hb2⟩; have HB := Lib.hid (Gr.tr HB.out hb2); have HP := Lib.hid (grBlk hb2 HP.out); have HC := Lib.hid (grBlk hb2 HC.out); clear hb2 p0 p1 p2 p3 p4 p5 p6 p7 p8 c0 c1 c2 c3 c4; obtain ⟨p0, p1, p2, p3, p4, p5, p6, p7, p8⟩ := U.cells9 HP.out; obtain ⟨⟨c0, c1, c2, c3, c4⟩, -⟩ := C.cells5C HC.out)
      | (go_at_call 22; refine (HCl.out _).mono ?_; rintro e w2 ⟨rfl, hb2⟩; have HB := Lib.hid (Gr.tr HB.out hb2); have HP := Lib.hid (grBlk hb2 HP.out); have HC := Lib.hid (grBlk hb2 HC.out); clear hb2 p0 p1 p2 p3 p4 p5 p6 p7 p8 c0 c1 c2 c3 c4; obtain ⟨p0, p1, p2, p3, p4, p5, p6, p7, p8⟩ := U.cells9 HP.out; obtain ⟨⟨c0, c1, c2, c3, c4⟩, -⟩ := C.cells5C HC.out))
     go_ret
     exact HF.out _ HB.out
    | true =>
     go_wp2_with (first
      | (go_at_call 21; refine (HVl.out _ HB.out).mono ?_; rintro e w2 ⟨rfl, hb2⟩; have HB := Lib.hid (Gr.tr HB.out hb2); have HP := Lib.hid (grBlk hb2 HP.out); have HC := Lib.hid (grBlk hb2 HC.out); clear hb2 p0 p1 p2 p3 p4 p5 p6 p7 p8 c0 c1 c2 c3 c4; obtain ⟨p0, p1, p2, p3, p4, p5, p6, p7, p8⟩ := U.cells9 HP.out; obtain ⟨⟨c0, c1, c2, c3, c4⟩, -⟩ := C.cells5C HC.out)
      | (go_at_call 11; refine (HSt.out _ HB.out).mono ?_; rintro e w2 ⟨rfl, hb2⟩; have HB := Lib.hid (Gr.tr HB.out hb2); have HP := Lib.hid (grBlk hb2 HP.out); have HC := Lib.hid (grBlk hb2 HC.out); clear hb2 p0 p1 p2 p3 p4 p5 p6 p7 p8 c0 c1 c2 c3 c4; obtain ⟨p0, p1, p2, p3, p4, p5, p6, p7, p8⟩ := U.cells9 HP.out; obtain ⟨⟨c0, c1, c2, c3, c4⟩, -⟩ := C.cells5C HC.out)
      | (go_at_call 22; refine (HCl.out _).mono ?_; rintro e w2 ⟨rfl, hb2⟩; have HB := Lib.hid (Gr.tr HB.out hb2); have HP := Lib.hid (grBlk hb2 HP.out); have HC := Lib.hid (grBlk hb2 HC.out); clear hb2 p0 p1 p2 p3 p4 p5 p6 p7 p8 c0 c1 c2 c3 c4; obtain ⟨p0, p1, p2, p3, p4, p5, p6, p7, p8⟩ := U.cells9 HP.out; obtain ⟨⟨c0, c1, c2, c3, c4⟩, -⟩ := C.cells5C HC.out))
     go_ret
     exact HH.out _ HB.out (by trivial) (by trivial) (by trivial)
end M
end Go.Proofs.YtdlebaiamdbneaaGreatDoor
