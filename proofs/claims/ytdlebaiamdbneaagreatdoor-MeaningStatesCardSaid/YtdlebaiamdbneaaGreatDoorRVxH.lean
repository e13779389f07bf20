/- Law package 08: MeaningStates; condition: the listed variables hold what the text lays. -/
import Derived.Test.YtdlebaiamdbneaaGreatDoorYo
import Derived.Test.YtdlebaiamdbneaaGreatDoorYp
set_option linter.unusedVariables false
set_option linter.unusedSimpArgs false
set_option maxRecDepth 100000
set_option maxHeartbeats 8000000
namespace Go.Proofs.YtdlebaiamdbneaaGreatDoor
open Go.RowKit
namespace M
open I
open U (Ex St StsR StR StAt btw btw_iff ev eArr KidsE newBlk blkLt Vr VarsR VrAt KpL sArr two_kids owns_below new_cells gbRefl gbAlloc gbTrans gbBelow kbS kbL)
open R (epanic bAllocX insR LeftP erOf cell1 limS WfL)
open C (valPM v5 v5_val SomeB V1)
theorem v5_len {x : ByteArray} {vs : List Vr} {on : List (List St)} {wi pa : Int} (h : v5 nm5 x vs on wi pa = true) : vs.length ≤ 12 := by
 unfold C.v5 at h
 simp only [Bool.and_eq_true, decide_eq_true_eq] at h
 exact h.1.2.2
theorem v5_start {x : ByteArray} {vs : List Vr} {on : List (List St)} {wi pa : Int} (h : v5 nm5 x vs on wi pa = true) : stB vs (vs.map (·.i)) = true := by
 unfold C.v5 at h
 simp only [Bool.and_eq_true] at h
 have hm := C.okVars_mem h.2.1
 refine lim_st ⟨by simp [limS], fun k hk => ?_⟩
 have hk2 : k < vs.length := by simpa [limS] using hk
 have := hm vs[k] (List.getElem_mem hk2)
 unfold C.varB at this
 simp only [Bool.and_eq_true, decide_eq_true_eq] at this
 simp [limS, hk2]
 omega
theorem rs_ev {e i0 i1 i2 i3 : Int} (h : rsB e i0 i1 i2 i3 0 = true) : 0 ≤ e ∧ e ≤ 4 := by
 simp only [rsB, Bool.and_eq_true] at h
 exact btw_iff.1 h.2.2.2.2
theorem on_mem {o : U.On} {e : Int} (h : 0 ≤ e ∧ e ≤ 4) : onAt o.list e ∈ o.list := by
 have h5 : e = 0 ∨ e = 1 ∨ e = 2 ∨ e = 3 ∨ e = 4 := by omega
 rcases h5 with rfl | rfl | rfl | rfl | rfl <;> simp [onAt, U.On.list]
theorem run_ok {x : ByteArray} {vs : List Vr} {on : List (List St)} {wi pa : Int} {st : List Int} {e i0 i1 i2 i3 : Int} (h1 : valPM x vs on wi pa = true) (h2 : stB vs st = true) (h3 : rsB e i0 i1 i2 i3 0 = true) : runM x vs on wi pa st e i0 i1 i2 i3 = rnL [i0, i1, i2, i3] (limS vs) st (onAt on e) := by
 unfold runM
 rw [h1, h2, h3]
 rfl
theorem States_any (x : ByteArray) (vs : List Vr) (VA : Option Addr) (vm : Nat) (o : U.On) (a : U.OnA) (wi pa : Int) (st : List Int) (SA : Option Addr) (sc : Nat) (e i0 i1 i2 i3 : Int) (w : World) (hL : LaidM w)
  (hV : VarsR w vs VA) (hlen : vs.length ≤ maxLen) (hO : U.OnR w o a) (hk : ∀ l ∈ o.list, kbL l) (hS : IntsR w st SA) (hx : x.size ≤ maxLen) (hv : ∀ v ∈ vs, v.x.size ≤ maxLen) :
  Calls Tryz.prog 3 #[U.pgv x VA vs.length vm o a wi pa, .slice SA st.length sc, .agg (clA e i0 i1 i2 i3)] w (BB true w) := by
 obtain ⟨W2, hW2⟩ : ∃ W2, W2 = (w.alloc (.cells (U.pgArr x VA vs.length vm o a wi pa) 26)).alloc (.cells (clA e i0 i1 i2 i3) 30) := ⟨_, rfl⟩
 have HB : Hid (Gr w W2) := Lib.hid (by rw [hW2]; exact (grAlloc _ _).tr (grAlloc _ _))
 have HP : Hid (W2.heap[w.heap.size]? = some (.cells (U.pgArr x VA vs.length vm o a wi pa) 26 (0, 0))) := Lib.hid (by rw [hW2]; exact grBlk (grAlloc _ _) (newBlk _ _ _ rfl))
 have HC : Hid (W2.heap[w.heap.size + 1]? = some (.cells (clA e i0 i1 i2 i3) 30 (0, 0))) := Lib.hid (by rw [hW2]; exact newBlk _ _ _ (by simp))
 have HHd := Lib.hid (fun wx (hg : Gr w wx) => head_any wx (hL.gr hg))
 have HUs := Lib.hid (fun wx (hg : Gr w wx) => usable_any x vs VA vm o a wi pa st SA sc e i0 i1 i2 i3 wx (hV.below hg) hlen (hO.below hg) hk (hS.gr hg) hx hv)
 obtain ⟨ls, hls⟩ : ∃ ls, vs.map (·.i) = ls := ⟨_, rfl⟩
 have HSt := Lib.hid (fun wx (hg : Gr w wx) (hvl : vs.length ≤ 1000000) => by have h := Start_any x vs VA vm o a wi pa wx (hL.gr hg) (hV.below hg) (hO.below hg) hx hv hvl; rw [hls] at h; exact h)
 have HRn := Lib.hid (fun wx (hg : Gr w wx) (hvl : vs.length ≤ 1000000) => Run_any x vs VA vm o a wi pa st SA sc e i0 i1 i2 i3 wx (hL.gr hg).1 (hL.gr hg).2.1 (hL.gr hg).2.2.1 (hL.gr hg).2.2.2 (hV.below hg) (hO.below hg) (hS.gr hg) hx hv hvl)
 have HRS := Lib.hid (fun wx (hg : Gr w wx) (l : List Int) (A : Option Addr) (c : Nat) (hI : IntsR wx l A) => RState_any vs VA vm l A c wx (hV.below hg) hI hlen)
 clear hL hV hO hk hS hx hv
 go_enter Tryz.func3, Tryz.ntmps3
 go_upto_region 1 with fail
 rw [← hW2]
 clear hW2
 obtain ⟨p0, p1, p2, p3, p4, p5, p6, p7, p8⟩ := U.cells9 HP.out
 obtain ⟨⟨c0, c1, c2, c3, c4⟩, -⟩ := C.cells5C HC.out
 go_upto_region 2 with (go_at_call 7; refine (HHd.out _ HB.out).mono ?_; rintro en w2 ⟨rfl, hb2⟩; have HB := Lib.hid (Gr.tr HB.out hb2); have HP := Lib.hid (grBlk hb2 HP.out); have HC := Lib.hid (grBlk hb2 HC.out); clear hb2 p0 p1 p2 p3 p4 p5 p6 p7 p8 c0 c1 c2 c3 c4; obtain ⟨p0, p1, p2, p3, p4, p5, p6, p7, p8⟩ := U.cells9 HP.out; obtain ⟨⟨c0, c1, c2, c3, c4⟩, -⟩ := C.cells5C HC.out)
 go_wp2_with fail
 refine (HUs.out _ HB.out).mono ?_
 rintro en w2 ⟨hu, hb2⟩
 have HB := Lib.hid (Gr.tr HB.out hb2)
 have HP := Lib.hid (grBlk hb2 HP.out)
 have HC := Lib.hid (grBlk hb2 HC.out)
 clear hb2 p0 p1 p2 p3 p4 p5 p6 p7 p8 c0 c1 c2 c3 c4
 obtain ⟨p0, p1, p2, p3, p4, p5, p6, p7, p8⟩ := U.cells9 HP.out
 obtain ⟨⟨c0, c1, c2, c3, c4⟩, -⟩ := C.cells5C HC.out
 clear HUs HHd
 rcases hu with rfl | ⟨rfl, h5, hs, hr⟩
 ·go_wp2_with fail
  go_ret
  exact ⟨rfl, HB.out⟩
 ·have hval := v5_val (fun y hy => nm5_name hy) h5
  have hvl : vs.length ≤ 1000000 := by have := v5_len h5; omega
  have hst : stB vs ls = true := by rw [← hls]; exact v5_start h5
  have HSt := Lib.hid (fun wx hg => by have h := HSt.out wx hg hvl; rw [hval] at h; exact h)
  have HRn := Lib.hid (fun wx hg => by have h := HRn.out wx hg hvl; rw [run_ok hval hs hr] at h; exact h)
  have HR1 := Lib.hid (fun wx hg A c hI => by have h := HRS.out wx hg ls A c hI; rw [hst] at h; exact h)
  have hmem := on_mem (o := o) (rs_ev hr)
  rcases hrn : rnL [i0, i1, i2, i3] (limS vs) st (onAt o.list e) with er | st'
  ·rw [hrn] at HRn
   have her := run_err hval hs hmem hrn
   have t0 : (er == 0) = false := by simp; omega
   have t1 : (er != 0) = true := by simp; omega
   have t2 : (er != 1) = true := by simp; omega
   have t3 : (er != 2) = true := by simp; omega
   clear hrn hmem hst hval h5 hs hr HRS her
   generalize vs.length = vn at *
   go_wp2_with (first
    | (go_at_call 9; refine (HSt.out _ HB.out).mono ?_; rintro en w3 ⟨⟨A3, k3, rfl, hI3⟩, hb2⟩; have HI3 := Lib.hid hI3; clear hI3; have HB := Lib.hid (Gr.tr HB.out hb2); have HP := Lib.hid (grBlk hb2 HP.out); have HC := Lib.hid (grBlk hb2 HC.out); clear hb2 p0 p1 p2 p3 p4 p5 p6 p7 p8 c0 c1 c2 c3 c4; obtain ⟨p0, p1, p2, p3, p4, p5, p6, p7, p8⟩ := U.cells9 HP.out; obtain ⟨⟨c0, c1, c2, c3, c4⟩, -⟩ := C.cells5C HC.out)
    | (go_at_call 10; refine (HRn.out _ HB.out).mono ?_; rintro en w4 ⟨rfl, hb2⟩; have HI3 := Lib.hid (HI3.out.gr hb2); have HB := Lib.hid (Gr.tr HB.out hb2); have HP := Lib.hid (grBlk hb2 HP.out); have HC := Lib.hid (grBlk hb2 HC.out); clear hb2 p0 p1 p2 p3 p4 p5 p6 p7 p8 c0 c1 c2 c3 c4; obtain ⟨p0, p1, p2, p3, p4, p5, p6, p7, p8⟩ := U.cells9 HP.out; obtain ⟨⟨c0, c1, c2, c3, c4⟩, -⟩ := C.cells5C HC.out)
    | (go_at_call 11; refine (HR1.out _ HB.out _ _ HI3.out).mono ?_; rintro en w5 ⟨rfl, hb2⟩; have HB := Lib.hid (Gr.tr HB.out hb2); have HP := Lib.hid (grBlk hb2 HP.out); have HC := Lib.hid (grBlk hb2 HC.out); clear hb2 p0 p1 p2 p3 p4 p5 p6 p7 p8 c0 c1 c2 c3 c4; obtain ⟨p0, p1, p2, p3, p4, p5, p6, p7, p8⟩ := U.cells9 HP.out; obtain ⟨⟨c0, c1, c2, c3, c4⟩, -⟩ := C.cells5C HC.out))
   go_ret
   exact ⟨rfl, HB.out⟩
  ·rw [hrn] at HRn
   have hst2 : stB vs st' = true := lim_st (rnL_lim _ (st_lim hs) hrn)
   have HR2 := Lib.hid (fun wx hg A c hI => by have h := HRS.out wx hg st' A c hI; rw [hst2] at h; exact h)
   clear hrn hmem hst hval h5 hs hr HRS hst2
   generalize vs.length = vn at *
   go_wp2_with (first
    | (go_at_call 9; refine (HSt.out _ HB.out).mono ?_; rintro en w3 ⟨⟨A3, k3, rfl, hI3⟩, hb2⟩; have HI3 := Lib.hid hI3; clear hI3; have HB := Lib.hid (Gr.tr HB.out hb2); have HP := Lib.hid (grBlk hb2 HP.out); have HC := Lib.hid (grBlk hb2 HC.out); clear hb2 p0 p1 p2 p3 p4 p5 p6 p7 p8 c0 c1 c2 c3 c4; obtain ⟨p0, p1, p2, p3, p4, p5, p6, p7, p8⟩ := U.cells9 HP.out; obtain ⟨⟨c0, c1, c2, c3, c4⟩, -⟩ := C.cells5C HC.out)
    | (go_at_call 10; refine (HRn.out _ HB.out).mono ?_; rintro en w4 ⟨⟨g4, q4, rfl, hI4⟩, hb2⟩; have HI3 := Lib.hid (HI3.out.gr hb2); have HI4 := Lib.hid hI4.intsR; clear hI4; have HB := Lib.hid (Gr.tr HB.out hb2); have HP := Lib.hid (grBlk hb2 HP.out); have HC := Lib.hid (grBlk hb2 HC.out); clear hb2 p0 p1 p2 p3 p4 p5 p6 p7 p8 c0 c1 c2 c3 c4; obtain ⟨p0, p1, p2, p3, p4, p5, p6, p7, p8⟩ := U.cells9 HP.out; obtain ⟨⟨c0, c1, c2, c3, c4⟩, -⟩ := C.cells5C HC.out)
    | (go_at_call_of 11 (Value.slice A3 ls.length (ls.length + k3)); refine (HR1.out _ HB.out _ _ HI3.out).mono ?_; rintro en w5 ⟨rfl, hb2⟩; have HI4 := Lib.hid (HI4.out.gr hb2); have HB := Lib.hid (Gr.tr HB.out hb2); have HP := Lib.hid (grBlk hb2 HP.out); have HC := Lib.hid (grBlk hb2 HC.out); clear hb2 p0 p1 p2 p3 p4 p5 p6 p7 p8 c0 c1 c2 c3 c4; obtain ⟨p0, p1, p2, p3, p4, p5, p6, p7, p8⟩ := U.cells9 HP.out; obtain ⟨⟨c0, c1, c2, c3, c4⟩, -⟩ := C.cells5C HC.out)
    | (go_at_call_of 11 (Value.slice (some ⟨g4, 0, none⟩) st'.length q4); refine (HR2.out _ HB.out _ _ HI4.out).mono ?_; rintro en w6 ⟨rfl, hb2⟩; have HB := Lib.hid (Gr.tr HB.out hb2); have HP := Lib.hid (grBlk hb2 HP.out); have HC := Lib.hid (grBlk hb2 HC.out); clear hb2 p0 p1 p2 p3 p4 p5 p6 p7 p8 c0 c1 c2 c3 c4; obtain ⟨p0, p1, p2, p3, p4, p5, p6, p7, p8⟩ := U.cells9 HP.out; obtain ⟨⟨c0, c1, c2, c3, c4⟩, -⟩ := C.cells5C HC.out))
   go_ret
   exact ⟨rfl, HB.out⟩
end M
end Go.Proofs.YtdlebaiamdbneaaGreatDoor
