/- Texts of one proof: MxN. -/
import Derived.Test.YtdlebaiamdbneaaGreatDoorYk
set_option linter.unusedVariables false
set_option linter.unusedSimpArgs false
set_option maxRecDepth 100000
set_option maxHeartbeats 8000000
namespace Go.Proofs.YtdlebaiamdbneaaGreatDoor
open Go.RowKit
namespace M
open I
open U (Ex St StsR btw btw_iff ev eArr KidsE newBlk blkLt Vr VarsR VrAt KpL owns_below new_cells gbRefl gbAlloc gbTrans gbBelow)
open R (epanic bAllocX insR LeftP erOf cell1 limS WfL)
open C (valPM)
def onAt (on : List (List St)) (e : Int) : List St := (on[e.toNat]?).getD []
def runM (x : ByteArray) (vs : List Vr) (on : List (List St)) (wi pa : Int) (st : List Int) (e i0 i1 i2 i3 : Int) : Except Int (List Int) :=
 if (valPM x vs on wi pa && (stB vs st && rsB e i0 i1 i2 i3 0)) = true then rnL [i0, i1, i2, i3] (limS vs) st (onAt on e) else .error 1
def RunQ (r : Except Int (List Int)) (w : World) (e : Ending) (w' : World) : Prop :=
 (match r with
  | .ok st' => ∃ g cap, e = .returned (.tuple #[.slice (some ⟨g, 0, none⟩) st'.length cap, .int .i64 0]) ∧ IntsO 0 w' st' g cap
  | .error er => e = .returned (.tuple #[.slice none 0 0, .int .i64 er])) ∧ Below w.heap.size w w'
theorem valPM_wf {x : ByteArray} {vs : List Vr} {on : List (List St)} {wi pa : Int} (h : valPM x vs on wi pa = true) : (∀ l ∈ on, WfL vs.length l) ∧ 0 < vs.length ∧ vs.length ≤ 12 := by
 unfold C.valPM at h
 simp only [Bool.and_eq_true, decide_eq_true_eq] at h
 obtain ⟨h1, h2, -⟩ := h
 have h3 := R.check_wf h1
 rw [List.length_map] at h3
 refine ⟨h3, ?_, ?_⟩
 ·unfold C.inB at h2
  simp only [Bool.and_eq_true, decide_eq_true_eq] at h2
  omega
 ·unfold U.checkM at h1
  rcases hs : U.scopeM (vs.map (·.u)) with _ | s
  ·rw [hs] at h1; simp at h1
  ·unfold U.scopeM at hs
   split at hs
   ·rename_i h4
    have := h4.1
    simpa using this
   ·cases hs
theorem pg_on {w w0 : World} {b : Nat} {x : ByteArray} {VA : Option Addr} {vn vm : Nat} {o : U.On} {a : U.OnA} {wi pa : Int} {T : TypeId} (h : w.heap[b]? = some (.cells (U.pgArr x VA vn vm o a wi pa) T (0, 0))) (hO : U.OnR w0 o a) (k : Nat) (hk : k < 5) :
  ∃ LA lm, w.cell? ⟨b, 2 + k, none⟩ = some (.slice LA (onAt o.list k).length lm) ∧ StsR w0 (onAt o.list k) LA ∧ (onAt o.list k).length ≤ maxLen := by
 obtain ⟨p0, p1, p2, p3, p4, p5, p6, p7, p8⟩ := U.cells9 h
 have h5 : k = 0 ∨ k = 1 ∨ k = 2 ∨ k = 3 ∨ k = 4 := by omega
 rcases h5 with rfl | rfl | rfl | rfl | rfl
 ·exact ⟨a.a0, a.m0, p2, hO.r0, hO.n0⟩
 ·exact ⟨a.a1, a.m1, p3, hO.r1, hO.n1⟩
 ·exact ⟨a.a2, a.m2, p4, hO.r2, hO.n2⟩
 ·exact ⟨a.a3, a.m3, p5, hO.r3, hO.n3⟩
 ·exact ⟨a.a4, a.m4, p6, hO.r4, hO.n4⟩
theorem IntsO.other {B : Nat} {w : World} {st : List Int} {g cap b i : Nat} {u : Value} (h : IntsO B w st g cap) (hne : b ≠ g) : IntsO B (w.setCell ⟨b, i, none⟩ u) st g cap :=
 World.ownsRow.kept h (U.gbSet (gbRefl _ _)) (.inr (by simp only [Value.ownBlock]; intro e; exact hne (by simpa using e.symm)))
theorem set7 {w : World} {b : Nat} {v0 v1 v2 v3 v4 v5 v6 x0 x1 x2 x3 x4 x5 x6 : Value} {T : TypeId} (h : w.heap[b]? = some (.cells #[v0, v1, v2, v3, v4, v5, v6] T (0, 0))) :
  (((((((w.setCell ⟨b, 0, none⟩ x0).setCell ⟨b, 1, none⟩ x1).setCell ⟨b, 2, none⟩ x2).setCell ⟨b, 3, none⟩ x3).setCell ⟨b, 4, none⟩ x4).setCell ⟨b, 5, none⟩ x5).setCell ⟨b, 6, none⟩ x6).heap[b]? = some (.cells #[x0, x1, x2, x3, x4, x5, x6] T (0, 0)) := by
 have g0 : (w.setCell ⟨b, 0, none⟩ x0).heap[b]? = some (.cells #[x0, v1, v2, v3, v4, v5, v6] T (0, 0)) := by rw [heap_setCell_same w b 0 _ _ _ h]; simp
 have g1 := by have := heap_setCell_same _ b 1 _ _ x1 g0; simpa using this
 have g2 := by have := heap_setCell_same _ b 2 _ _ x2 g1; simpa using this
 have g3 := by have := heap_setCell_same _ b 3 _ _ x3 g2; simpa using this
 have g4 := by have := heap_setCell_same _ b 4 _ _ x4 g3; simpa using this
 have g5 := by have := heap_setCell_same _ b 5 _ _ x5 g4; simpa using this
 have g6 := by have := heap_setCell_same _ b 6 _ _ x6 g5; simpa using this
 exact g6
theorem Run_any (x : ByteArray) (vs : List Vr) (VA : Option Addr) (vm : Nat) (o : U.On) (a : U.OnA) (wi pa : Int) (st : List Int) (SA : Option Addr) (sc : Nat) (e i0 i1 i2 i3 : Int) (w : World) (hP : LaidW w) (hw : 7 < w.heap.size) (hL : U.LaidW w) (hI : LaidI w) (hV : VarsR w vs VA) (hO : U.OnR w o a) (hS : IntsR w st SA) (hx : x.size ≤ maxLen) (hv : ∀ v ∈ vs, v.x.size ≤ maxLen) (hvl : vs.length ≤ 1000000) :
  Calls Tryz.prog 10 #[U.pgv x VA vs.length vm o a wi pa, .slice SA st.length sc, .agg (clA e i0 i1 i2 i3)] w (RunQ (runM x vs o.list wi pa st e i0 i1 i2 i3) w) := by
 have hmf : ∀ (fn : Fn) (first cap : Array Value) (w : World), (Instr.makeFunc fn first cap).run Tryz.prog w = .ok (.func fn first cap) w := fun _ _ _ _ => rfl
 obtain ⟨W2, hW2⟩ : ∃ W2, W2 = (w.alloc (.cells (U.pgArr x VA vs.length vm o a wi pa) 26)).alloc (.cells (clA e i0 i1 i2 i3) 30) := ⟨_, rfl⟩
 have HB : Hid (Gr w W2) := Lib.hid (by rw [hW2]; exact bAl2 _ _)
 have HP : Hid (W2.heap[w.heap.size]? = some (.cells (U.pgArr x VA vs.length vm o a wi pa) 26 (0, 0))) := Lib.hid (by rw [hW2]; exact (Below.heap_alloc _ _ _ (by simp)).trans (newBlk _ _ _ rfl))
 have HC : Hid (W2.heap[w.heap.size + 1]? = some (.cells (clA e i0 i1 i2 i3) 30 (0, 0))) := Lib.hid (by rw [hW2]; exact newBlk _ _ _ (by simp))
 obtain ⟨p0, p1, p2, p3, p4, p5, p6, p7, p8⟩ := U.cells9 HP.out
 obtain ⟨⟨c0, c1, c2, c3, c4⟩, -⟩ := C.cells5C HC.out
 have HVl := Lib.hid (fun wx (hg : Gr w wx) => C.CValid_any x vs VA vm o a wi pa wx (hP.below hg hw) (Nat.lt_of_lt_of_le hw hg.size) (hL.below hg) (hV.below hg) (hO.below hg) hx hv)
 have HSt := Lib.hid (fun wx (hg : Gr w wx) => isState_any vs VA vm st SA sc wx (hV.below hg) (hS.gr hg) hvl)
 have HCl := Lib.hid (fun wx (hg : Gr w wx) => isCall_any e i0 i1 i2 i3 wx (hI.gr hg))
 have HVr := Lib.hid hV
 have HOn := Lib.hid hO
 have HSr := Lib.hid hS
 rcases hvp : valPM x vs o.list wi pa with _ | _
 case false =>
  have hm : runM x vs o.list wi pa st e i0 i1 i2 i3 = .error 1 := by unfold runM; rw [if_neg (by simp [hvp])]
  rw [hm]
  rw [hvp] at HVl
  clear hm hvp HSt HCl hV hO hS hP hL hI hx hv
  go_enter Tryz.func10, Tryz.ntmps10
  go_upto_region 1 with fail
  rw [← hW2]
  clear hW2
  go_wp2_with (first
   | (go_at_call 23; refine (HVl.out _ HB.out).mono ?_; rintro e w2 ⟨rfl, hb2⟩; have HP := Lib.hid ((hb2.block _ (blkLt HP.out)).trans HP.out); have HC := Lib.hid ((hb2.block _ (blkLt HC.out)).trans HC.out); have HB := Lib.hid (HB.out.trans (hb2.mono HB.out.size)); clear hb2 p0 p1 p2 p3 p4 p5 p6 p7 p8 c0 c1 c2 c3 c4; obtain ⟨p0, p1, p2, p3, p4, p5, p6, p7, p8⟩ := U.cells9 HP.out; obtain ⟨⟨c0, c1, c2, c3, c4⟩, -⟩ := C.cells5C HC.out))
  exact bodyPost_ret (v := .tuple #[.slice none 0 0, .int .i64 1]) (by simp [results, Tryz.results10, go_sem]) rfl ⟨rfl, HB.out⟩
 case true =>
 rw [hvp] at HVl
 rcases hst : stB vs st with _ | _
 case false =>
  have hm : runM x vs o.list wi pa st e i0 i1 i2 i3 = .error 1 := by unfold runM; rw [if_neg (by simp [hvp, hst])]
  rw [hm]
  rw [hst] at HSt
  clear hm hvp hst HCl hV hO hS hP hL hI hx hv
  go_enter Tryz.func10, Tryz.ntmps10
  go_upto_region 1 with fail
  rw [← hW2]
  clear hW2
  go_wp2_with (first
   | (go_at_call 23; refine (HVl.out _ HB.out).mono ?_; rintro e w2 ⟨rfl, hb2⟩; have HP := Lib.hid ((hb2.block _ (blkLt HP.out)).trans HP.out); have HC := Lib.hid ((hb2.block _ (blkLt HC.out)).trans HC.out); have HB := Lib.hid (HB.out.trans (hb2.mono HB.out.size)); clear hb2 p0 p1 p2 p3 p4 p5 p6 p7 p8 c0 c1 c2 c3 c4; obtain ⟨p0, p1, p2, p3, p4, p5, p6, p7, p8⟩ := U.cells9 HP.out; obtain ⟨⟨c0, c1, c2, c3, c4⟩, -⟩ := C.cells5C HC.out)
   | (go_at_call 24; refine (HSt.out _ HB.out).mono ?_; rintro e w2 ⟨rfl, hb2⟩; have HP := Lib.hid ((hb2.block _ (blkLt HP.out)).trans HP.out); have HC := Lib.hid ((hb2.block _ (blkLt HC.out)).trans HC.out); have HB := Lib.hid (HB.out.trans (hb2.mono HB.out.size)); clear hb2 p0 p1 p2 p3 p4 p5 p6 p7 p8 c0 c1 c2 c3 c4; obtain ⟨p0, p1, p2, p3, p4, p5, p6, p7, p8⟩ := U.cells9 HP.out; obtain ⟨⟨c0, c1, c2, c3, c4⟩, -⟩ := C.cells5C HC.out))
  exact bodyPost_ret (v := .tuple #[.slice none 0 0, .int .i64 1]) (by simp [results, Tryz.results10, go_sem]) rfl ⟨rfl, HB.out⟩
 case true =>
 rw [hst] at HSt
 rcases hcl : rsB e i0 i1 i2 i3 0 with _ | _
 case false =>
  have hm : runM x vs o.list wi pa st e i0 i1 i2 i3 = .error 1 := by unfold runM; rw [if_neg (by simp [hvp, hst, hcl])]
  rw [hm]
  rw [hcl] at HCl
  clear hm hvp hst hcl hV hO hS hP hL hI hx hv
  go_enter Tryz.func10, Tryz.ntmps10
  go_upto_region 1 with fail
  rw [← hW2]
  clear hW2
  go_wp2_with (first
   | (go_at_call 23; refine (HVl.out _ HB.out).mono ?_; rintro e w2 ⟨rfl, hb2⟩; have HP := Lib.hid ((hb2.block _ (blkLt HP.out)).trans HP.out); have HC := Lib.hid ((hb2.block _ (blkLt HC.out)).trans HC.out); have HB := Lib.hid (HB.out.trans (hb2.mono HB.out.size)); clear hb2 p0 p1 p2 p3 p4 p5 p6 p7 p8 c0 c1 c2 c3 c4; obtain ⟨p0, p1, p2, p3, p4, p5, p6, p7, p8⟩ := U.cells9 HP.out; obtain ⟨⟨c0, c1, c2, c3, c4⟩, -⟩ := C.cells5C HC.out)
   | (go_at_call 24; refine (HSt.out _ HB.out).mono ?_; rintro e w2 ⟨rfl, hb2⟩; have HP := Lib.hid ((hb2.block _ (blkLt HP.out)).trans HP.out); have HC := Lib.hid ((hb2.block _ (blkLt HC.out)).trans HC.out); have HB := Lib.hid (HB.out.trans (hb2.mono HB.out.size)); clear hb2 p0 p1 p2 p3 p4 p5 p6 p7 p8 c0 c1 c2 c3 c4; obtain ⟨p0, p1, p2, p3, p4, p5, p6, p7, p8⟩ := U.cells9 HP.out; obtain ⟨⟨c0, c1, c2, c3, c4⟩, -⟩ := C.cells5C HC.out)
   | (go_at_call 25; refine (HCl.out _ HB.out).mono ?_; rintro e w2 ⟨rfl, hb2⟩; have HP := Lib.hid ((hb2.block _ (blkLt HP.out)).trans HP.out); have HC := Lib.hid ((hb2.block _ (blkLt HC.out)).trans HC.out); have HB := Lib.hid (HB.out.trans (hb2.mono HB.out.size)); clear hb2 p0 p1 p2 p3 p4 p5 p6 p7 p8 c0 c1 c2 c3 c4; obtain ⟨p0, p1, p2, p3, p4, p5, p6, p7, p8⟩ := U.cells9 HP.out; obtain ⟨⟨c0, c1, c2, c3, c4⟩, -⟩ := C.cells5C HC.out))
  exact bodyPost_ret (v := .tuple #[.slice none 0 0, .int .i64 1]) (by simp [results, Tryz.results10, go_sem]) rfl ⟨rfl, HB.out⟩
 case true =>
 rw [hcl] at HCl
 have hm : runM x vs o.list wi pa st e i0 i1 i2 i3 = rnL [i0, i1, i2, i3] (limS vs) st (onAt o.list e) := by unfold runM; rw [if_pos (by simp [hvp, hst, hcl])]
 rw [hm]
 obtain ⟨hwf, hv0, hv12⟩ := valPM_wf hvp
 have hsl : st.length = vs.length := by unfold stB at hst; simp only [Bool.and_eq_true, decide_eq_true_eq] at hst; exact hst.1
 obtain ⟨k, hk⟩ : ∃ k : Nat, e = k := by
  have : btw e 0 4 = true := by simp only [rsB, Bool.and_eq_true] at hcl; exact hcl.2.2.2.2
  have := btw_iff.1 this
  exact ⟨e.toNat, by omega⟩
 have hk5 : k < 5 := by
  have : btw e 0 4 = true := by simp only [rsB, Bool.and_eq_true] at hcl; exact hcl.2.2.2.2
  have := btw_iff.1 this
  omega
 subst hk
 have hwfk : WfL vs.length (onAt o.list k) := by
  unfold onAt
  rcases hq : o.list[(k : Int).toNat]? with _ | l
  ·simp [WfL]
  ·exact hwf l (List.mem_of_getElem? hq)
 have HCn := Lib.hid (fun wx (hg : Gr w wx) => CloneI_any st SA sc wx (hS.gr hg) (by omega) (by omega))
 have hslH := Lib.hid hsl
 have hwfH := Lib.hid hwfk
 have hv12H := Lib.hid hv12
 have hkH := Lib.hid hk5
 have hsnH := Lib.hid (show 0 < st.length by omega)
 have HOps := Lib.hid (fun wx => operations_any wx)
 clear hm hvp hst hcl hV hO hS hP hL hI hx hv hwf hwfk hsl hv0 hv12 hvl hw hk5
 go_enter Tryz.func10, Tryz.ntmps10
 go_upto_region 1 with fail
 rw [← hW2]
 clear hW2
 go_upto_region 4 with (first
  | (go_at_call 23; refine (HVl.out _ HB.out).mono ?_; rintro e w2 ⟨rfl, hb2⟩; have HP := Lib.hid ((hb2.block _ (blkLt HP.out)).trans HP.out); have HC := Lib.hid ((hb2.block _ (blkLt HC.out)).trans HC.out); have HB := Lib.hid (HB.out.trans (hb2.mono HB.out.size)); clear hb2 p0 p1 p2 p3 p4 p5 p6 p7 p8 c0 c1 c2 c3 c4; obtain ⟨p0, p1, p2, p3, p4, p5, p6, p7, p8⟩ := U.cells9 HP.out; obtain ⟨⟨c0, c1, c2, c3, c4⟩, -⟩ := C.cells5C HC.out)
  | (go_at_call 24; refine (HSt.out _ HB.out).mono ?_; rintro e w2 ⟨rfl, hb2⟩; have HP := Lib.hid ((hb2.block _ (blkLt HP.out)).trans HP.out); have HC := Lib.hid ((hb2.block _ (blkLt HC.out)).trans HC.out); have HB := Lib.hid (HB.out.trans (hb2.mono HB.out.size)); clear hb2 p0 p1 p2 p3 p4 p5 p6 p7 p8 c0 c1 c2 c3 c4; obtain ⟨p0, p1, p2, p3, p4, p5, p6, p7, p8⟩ := U.cells9 HP.out; obtain ⟨⟨c0, c1, c2, c3, c4⟩, -⟩ := C.cells5C HC.out)
  | (go_at_call 25; refine (HCl.out _ HB.out).mono ?_; rintro e w2 ⟨rfl, hb2⟩; have HP := Lib.hid ((hb2.block _ (blkLt HP.out)).trans HP.out); have HC := Lib.hid ((hb2.block _ (blkLt HC.out)).trans HC.out); have HB := Lib.hid (HB.out.trans (hb2.mono HB.out.size)); clear hb2 p0 p1 p2 p3 p4 p5 p6 p7 p8 c0 c1 c2 c3 c4; obtain ⟨p0, p1, p2, p3, p4, p5, p6, p7, p8⟩ := U.cells9 HP.out; obtain ⟨⟨c0, c1, c2, c3, c4⟩, -⟩ := C.cells5C HC.out)
  | (go_at_call 26; refine (HCn.out _ HB.out).mono ?_; rintro e w4 ⟨⟨g, cap, rfl, ho⟩, hb4⟩; have HO := Lib.hid ho; have HG4 := Lib.hid hb4; have HW0 := Lib.hid HB.out; clear ho; have HP := Lib.hid ((hb4.block _ (blkLt HP.out)).trans HP.out); have HC := Lib.hid ((hb4.block _ (blkLt HC.out)).trans HC.out); have HB := Lib.hid (HB.out.trans (hb4.mono HB.out.size)); clear hb4 p0 p1 p2 p3 p4 p5 p6 p7 p8 c0 c1 c2 c3 c4; obtain ⟨p0, p1, p2, p3, p4, p5, p6, p7, p8⟩ := U.cells9 HP.out; obtain ⟨⟨c0, c1, c2, c3, c4⟩, -⟩ := C.cells5C HC.out))
 go_cut [8] (fun v wx => ∃ b8 mb, v = .pointer (some ⟨b8, 0, none⟩) ∧ Hid (wx.heap[b8]? = some (.cells (ruA VA vs.length vm g st.length cap i0 i1 i2 i3 mb) 61 (0, 0))) ∧ Hid (OpsR wx mb) ∧ Hid (Gr w4 wx))
 case first =>
  refine wp_region_G (S := fun wq => Gr w4 wq) (by kernel_rfl) (grDrew _) (fun hHeld => ?_)
  have hSG : Hid (∀ wp wq : World, Gr w4 wp → Gr wp wq → Gr w4 wq) := Lib.hid (fun _ _ h k => h.tr k)
  have hmv := Lib.hid (fun (wq : World) (hq : Gr w4 wq) => And.intro (grCell hq p0) (And.intro (grCell hq p1) (And.intro (grCell hq p2) (And.intro (grCell hq p3) (And.intro (grCell hq p4) (And.intro (grCell hq p5) (And.intro (grCell hq p6) (And.intro (grCell hq p7) (And.intro (grCell hq p8) (And.intro (grCell hq c0) (And.intro (grCell hq c1) (And.intro (grCell hq c2) (And.intro (grCell hq c3) (grCell hq c4))))))))))))))
  first
   | (refine tk hSG 0 (v := ?_) rfl (by kernel_rfl) (fun _ _ _ h => h) (by rfl) ?_ hHeld ?_; rotate_left; focus (intro w' hSw; obtain ⟨p0, p1, p2, p3, p4, p5, p6, p7, p8, c0, c1, c2, c3, c4⟩ := hmv.out _ hSw; go_simp; (try with_reducible rfl)))
   | refine tn hSG 0 rfl (by kernel_rfl) (fun _ _ _ h => h) (by rfl) hHeld ?_
  (try simp only [zq1, zq2, zq3, Act.put, zq4, zq5, zq6])
  first
   | (refine tk hSG 1 (v := ?_) rfl (by kernel_rfl) (fun _ _ _ h => h) (by rfl) ?_ hHeld ?_; rotate_left; focus (intro w' hSw; obtain ⟨p0, p1, p2, p3, p4, p5, p6, p7, p8, c0, c1, c2, c3, c4⟩ := hmv.out _ hSw; go_simp; (try with_reducible rfl)))
   | refine tn hSG 1 rfl (by kernel_rfl) (fun _ _ _ h => h) (by rfl) hHeld ?_
  (try simp only [zq1, zq2, zq3, Act.put, zq4, zq5, zq6])
  first
   | (refine tk hSG 2 (v := ?_) rfl (by kernel_rfl) (fun _ _ _ h => h) (by rfl) ?_ hHeld ?_; rotate_left; focus (intro w' hSw; obtain ⟨p0, p1, p2, p3, p4, p5, p6, p7, p8, c0, c1, c2, c3, c4⟩ := hmv.out _ hSw; go_simp; (try with_reducible rfl)))
   | refine tn hSG 2 rfl (by kernel_rfl) (fun _ _ _ h => h) (by rfl) hHeld ?_
  (try simp only [zq1, zq2, zq3, Act.put, zq4, zq5, zq6])
  first
   | (refine tk hSG 3 (v := ?_) rfl (by kernel_rfl) (fun _ _ _ h => h) (by rfl) ?_ hHeld ?_; rotate_left; focus (intro w' hSw; obtain ⟨p0, p1, p2, p3, p4, p5, p6, p7, p8, c0, c1, c2, c3, c4⟩ := hmv.out _ hSw; go_simp; (try with_reducible rfl)))
   | refine tn hSG 3 rfl (by kernel_rfl) (fun _ _ _ h => h) (by rfl) hHeld ?_
  (try simp only [zq1, zq2, zq3, Act.put, zq4, zq5, zq6])
  first
   | (refine tk hSG 4 (v := ?_) rfl (by kernel_rfl) (fun _ _ _ h => h) (by rfl) ?_ hHeld ?_; rotate_left; focus (intro w' hSw; obtain ⟨p0, p1, p2, p3, p4, p5, p6, p7, p8, c0, c1, c2, c3, c4⟩ := hmv.out _ hSw; go_simp; (try with_reducible rfl)))
   | refine tn hSG 4 rfl (by kernel_rfl) (fun _ _ _ h => h) (by rfl) hHeld ?_
  (try simp only [zq1, zq2, zq3, Act.put, zq4, zq5, zq6])
  refine wpAnyG_ready (rs := [5, 8]) (by kernel_rfl) (by simp) (AllG.cons rfl (fun w5 hg K hK => ?_) (AllG.cons rfl (fun w5 hg K hK => ?_) AllG.nil))
  ·skip
   have hgS := hSG.out _ _ hHeld.out hg
   go_simp
   go_at_call 27
   refine (HOps.out _).mono ?_
   rintro e w6 ⟨⟨mb, rfl, hm0⟩, hb6⟩
   have hm := Lib.hid hm0
   refine hK.out _ _ (hgS.tr hb6) (fun hHeld => ?_)
   clear hK K hg hgS hb6 hm0
   first
    | (refine tk hSG 6 (v := ?_) rfl (by kernel_rfl) (fun _ _ _ h => h) (by rfl) ?_ hHeld ?_; rotate_left; focus (intro w' hSw; obtain ⟨p0, p1, p2, p3, p4, p5, p6, p7, p8, c0, c1, c2, c3, c4⟩ := hmv.out _ hSw; go_simp; (try with_reducible rfl)))
    | refine tn hSG 6 rfl (by kernel_rfl) (fun _ _ _ h => h) (by rfl) hHeld ?_
   (try simp only [zq1, zq2, zq3, Act.put, zq4, zq5, zq6])
   first
    | (refine tk hSG 7 (v := ?_) rfl (by kernel_rfl) (fun _ _ _ h => h) (by rfl) ?_ hHeld ?_; rotate_left; focus (intro w' hSw; obtain ⟨p0, p1, p2, p3, p4, p5, p6, p7, p8, c0, c1, c2, c3, c4⟩ := hmv.out _ hSw; go_simp; (try with_reducible rfl)))
    | refine tn hSG 7 rfl (by kernel_rfl) (fun _ _ _ h => h) (by rfl) hHeld ?_
   (try simp only [zq1, zq2, zq3, Act.put, zq4, zq5, zq6])
   refine wpAnyG_ready (rs := [8]) (by kernel_rfl) (by simp) (AllG.cons rfl (fun w7 hg K hK => ?_) AllG.nil)
   have hgS := hSG.out _ _ hHeld.out hg
   go_simp
   refine hK.out _ _ (hgS.tr (grAlloc _ _)) (fun hHeld => ?_)
   have hs4 := hgS.size
   have HN := Lib.hid (newBlk w7 (.cells #[.slice none 0 0, .slice none 0 0, .int .i64 0, .int .i64 0, .int .i64 0, .int .i64 0, .map none] 61) _ rfl)
   have hm := Lib.hid ((hm.out.gr hg).gr (grAlloc w7 (.cells #[.slice none 0 0, .slice none 0 0, .int .i64 0, .int .i64 0, .int .i64 0, .int .i64 0, .map none] 61)))
   clear hK K hg hgS
   refine wpAnyG_ready (rs := [9]) (by kernel_rfl) (by simp) (AllG.cons rfl (fun w8 hg K hK => ?_) AllG.nil)
   have hgS := hSG.out _ _ hHeld.out hg
   have HN8 := Lib.hid (grBlk hg HN.out)
   have hm8 := Lib.hid (hm.out.gr hg)
   obtain ⟨z0, z1, z2, z3, z4, z5, z6⟩ := cells7 HN8.out
   have f0 : ∀ i : Nat, w8.frozen? ⟨w7.heap.size, i, none⟩ = false := fun i => by simp [World.frozen?, HN8.out]
   have hlt8 := blkLt HN8.out
   go_simp
   refine hK.out _ _ (C.belowSet (C.belowSet (C.belowSet (C.belowSet (C.belowSet (C.belowSet (C.belowSet hgS hs4) hs4) hs4) hs4) hs4) hs4) hs4) (fun hHeld => ?_)
   clear hK K hg hgS z0 z1 z2 z3 z4 z5 z6 f0
   have HN9 := Lib.hid (set7 (x0 := .slice VA vs.length vm) (x1 := .slice (some ⟨g, 0, none⟩) st.length cap) (x2 := .int .i64 i0) (x3 := .int .i64 i1) (x4 := .int .i64 i2) (x5 := .int .i64 i3) (x6 := .map (some mb)) HN8.out)
   have hm9 : OpsR (((((((w8.setCell ⟨w7.heap.size, 0, none⟩ (.slice VA vs.length vm)).setCell ⟨w7.heap.size, 1, none⟩ (.slice (some ⟨g, 0, none⟩) st.length cap)).setCell ⟨w7.heap.size, 2, none⟩ (.int .i64 i0)).setCell ⟨w7.heap.size, 3, none⟩ (.int .i64 i1)).setCell ⟨w7.heap.size, 4, none⟩ (.int .i64 i2)).setCell ⟨w7.heap.size, 5, none⟩ (.int .i64 i3)).setCell ⟨w7.heap.size, 6, none⟩ (.map (some mb))) mb := by
    have hne : mb ≠ w7.heap.size := by
     intro e
     have h1 := hm8.out
     unfold OpsR at h1
     rw [e, HN8.out] at h1
     cases h1
    unfold OpsR
    rw [C.scO _ _ _ _ _ hne, C.scO _ _ _ _ _ hne, C.scO _ _ _ _ _ hne, C.scO _ _ _ _ _ hne, C.scO _ _ _ _ _ hne, C.scO _ _ _ _ _ hne, C.scO _ _ _ _ _ hne]
    exact hm8.out
   have hm9 := Lib.hid hm9
   refine wpAnyG_done (by kernel_rfl) (fun w9 hg => ?_) _
   have hg9 := hSG.out _ _ hHeld.out hg
   have HNx := Lib.hid (grBlk hg HN9.out)
   have hmx := Lib.hid (hm9.out.gr hg)
   have hgx := Lib.hid hg9
   clear hg hg9 hHeld hSG
   go_wp2
   go_meet
   exact ⟨_, mb, rfl, HNx, hmx, hgx⟩
  ·skip
   have hgS := hSG.out _ _ hHeld.out hg
   go_simp
   refine hK.out _ _ (hgS.tr (grAlloc _ _)) (fun hHeld => ?_)
   have hs4 := hgS.size
   have HN := Lib.hid (newBlk w5 (.cells #[.slice none 0 0, .slice none 0 0, .int .i64 0, .int .i64 0, .int .i64 0, .int .i64 0, .map none] 61) _ rfl)
   clear hK K hg hgS
   refine wpAnyG_ready (rs := [5]) (by kernel_rfl) (by simp) (AllG.cons rfl (fun w7 hg K hK => ?_) AllG.nil)
   have hgS := hSG.out _ _ hHeld.out hg
   have HN := Lib.hid (grBlk hg HN.out)
   go_simp
   go_at_call 27
   refine (HOps.out _).mono ?_
   rintro e w6 ⟨⟨mb, rfl, hm0⟩, hb6⟩
   have hm := Lib.hid hm0
   have HN := Lib.hid (grBlk hb6 HN.out)
   refine hK.out _ _ (hgS.tr hb6) (fun hHeld => ?_)
   clear hK K hg hgS hb6 hm0
   first
    | (refine tk hSG 6 (v := ?_) rfl (by kernel_rfl) (fun _ _ _ h => h) (by rfl) ?_ hHeld ?_; rotate_left; focus (intro w' hSw; obtain ⟨p0, p1, p2, p3, p4, p5, p6, p7, p8, c0, c1, c2, c3, c4⟩ := hmv.out _ hSw; go_simp; (try with_reducible rfl)))
    | refine tn hSG 6 rfl (by kernel_rfl) (fun _ _ _ h => h) (by rfl) hHeld ?_
   (try simp only [zq1, zq2, zq3, Act.put, zq4, zq5, zq6])
   first
    | (refine tk hSG 7 (v := ?_) rfl (by kernel_rfl) (fun _ _ _ h => h) (by rfl) ?_ hHeld ?_; rotate_left; focus (intro w' hSw; obtain ⟨p0, p1, p2, p3, p4, p5, p6, p7, p8, c0, c1, c2, c3, c4⟩ := hmv.out _ hSw; go_simp; (try with_reducible rfl)))
    | refine tn hSG 7 rfl (by kernel_rfl) (fun _ _ _ h => h) (by rfl) hHeld ?_
   (try simp only [zq1, zq2, zq3, Act.put, zq4, zq5, zq6])
   refine wpAnyG_ready (rs := [9]) (by kernel_rfl) (by simp) (AllG.cons rfl (fun w8 hg K hK => ?_) AllG.nil)
   have hgS := hSG.out _ _ hHeld.out hg
   have HN8 := Lib.hid (grBlk hg HN.out)
   have hm8 := Lib.hid (hm.out.gr hg)
   obtain ⟨z0, z1, z2, z3, z4, z5, z6⟩ := cells7 HN8.out
   have f0 : ∀ i : Nat, w8.frozen? ⟨w5.heap.size, i, none⟩ = false := fun i => by simp [World.frozen?, HN8.out]
   have hlt8 := blkLt HN8.out
   go_simp
   refine hK.out _ _ (C.belowSet (C.belowSet (C.belowSet (C.belowSet (C.belowSet (C.belowSet (C.belowSet hgS hs4) hs4) hs4) hs4) hs4) hs4) hs4) (fun hHeld => ?_)
   clear hK K hg hgS z0 z1 z2 z3 z4 z5 z6 f0
   have HN9 := Lib.hid (set7 (x0 := .slice VA vs.length vm) (x1 := .slice (some ⟨g, 0, none⟩) st.length cap) (x2 := .int .i64 i0) (x3 := .int .i64 i1) (x4 := .int .i64 i2) (x5 := .int .i64 i3) (x6 := .map (some mb)) HN8.out)
   have hm9 : OpsR (((((((w8.setCell ⟨w5.heap.size, 0, none⟩ (.slice VA vs.length vm)).setCell ⟨w5.heap.size, 1, none⟩ (.slice (some ⟨g, 0, none⟩) st.length cap)).setCell ⟨w5.heap.size, 2, none⟩ (.int .i64 i0)).setCell ⟨w5.heap.size, 3, none⟩ (.int .i64 i1)).setCell ⟨w5.heap.size, 4, none⟩ (.int .i64 i2)).setCell ⟨w5.heap.size, 5, none⟩ (.int .i64 i3)).setCell ⟨w5.heap.size, 6, none⟩ (.map (some mb))) mb := by
    have hne : mb ≠ w5.heap.size := by
     intro e
     have h1 := hm8.out
     unfold OpsR at h1
     rw [e, HN8.out] at h1
     cases h1
    unfold OpsR
    rw [C.scO _ _ _ _ _ hne, C.scO _ _ _ _ _ hne, C.scO _ _ _ _ _ hne, C.scO _ _ _ _ _ hne, C.scO _ _ _ _ _ hne, C.scO _ _ _ _ _ hne, C.scO _ _ _ _ _ hne]
    exact hm8.out
   have hm9 := Lib.hid hm9
   refine wpAnyG_done (by kernel_rfl) (fun w9 hg => ?_) _
   have hg9 := hSG.out _ _ hHeld.out hg
   have HNx := Lib.hid (grBlk hg HN9.out)
   have hmx := Lib.hid (hm9.out.gr hg)
   have hgx := Lib.hid hg9
   clear hg hg9 hHeld hSG
   go_wp2
   go_meet
   exact ⟨_, mb, rfl, HNx, hmx, hgx⟩
 case rest =>
  obtain ⟨b8, mb, rfl, HR8, HM8, HG8⟩ := hcut
  have HP8 := Lib.hid (grBlk HG8.out HP.out)
  have HC8 := Lib.hid (grBlk HG8.out HC.out)
  clear HP HC p0 p1 p2 p3 p4 p5 p6 p7 p8 c0 c1 c2 c3 c4
  have hge : Gr wc (wc.alloc (.cells #[.int .i64 0] 33)) := grAlloc _ _
  obtain ⟨LA, lm, hLc, hLs, hLn⟩ := pg_on (grBlk hge HP8.out) (HOn.out.below HW0.out) k hkH.out
  obtain ⟨⟨c0, -⟩, -⟩ := C.cells5C (grBlk hge HC8.out)
  have HG5 := Lib.hid (Gr.tr (Gr.tr HG4.out HG8.out) hge)
  have HO5 := Lib.hid ((HO.out.gr HG8.out).gr hge)
  have hglt := Lib.hid HO.out.lt
  have HClo := Lib.hid (cloR_any _ st g cap vs VA vm i0 i1 i2 i3 mb b8 w.heap.size (w.heap.size + 1) k lm (onAt o.list k) LA (wc.alloc (.cells #[.int .i64 0] 33)) HG5.out HO5.out (HVr.out.below HW0.out) (HM8.out.gr hge) hLs hwfH.out hslH.out hv12H.out hLn (grBlk hge HR8.out) hLc c0 hkH.out)
  have hgc : g < wc.heap.size := Nat.lt_of_lt_of_le hglt.out.2 HG8.out.size
  have HF := Lib.hid (failure_Run #[.pointer (some ⟨b8, 0, none⟩), .pointer (some ⟨w.heap.size, 0, none⟩), .pointer (some ⟨w.heap.size + 1, 0, none⟩)] _ _ wc HClo.out (fun w1 hp => (hp.2.block wc.heap.size (by simp) (by omega)).trans (newBlk _ _ _ rfl)))
  have her := Lib.hid (fun e => rnL_er (ins := [i0, i1, i2, i3]) (lim := limS vs) (onAt o.list k) (st := st) (e := e))
  have hlen := Lib.hid (fun v => rnL_len (ins := [i0, i1, i2, i3]) (lim := limS vs) (onAt o.list k) (st := st) (v := v))
  generalize rnL [i0, i1, i2, i3] (limS vs) st (onAt o.list k) = q at *
  have HGw := Lib.hid (Gr.tr HW0.out HG5.out)
  have hgcH := Lib.hid hgc
  have hgw : w.heap.size ≤ g := Nat.le_trans HW0.out.size hglt.out.1
  have hgwH := Lib.hid hgw
  have hwc : w.heap.size ≤ wc.heap.size := by omega
  have hwcH := Lib.hid hwc
  clear hge hLc hLs hLn c0 HClo hgc hgw hwc
  rcases q with er | s2
  ·have hne : (er != 0) = true := by have := her.out er rfl; simp [this]
   go_wp2_with (go_at_call 28; refine HF.out.mono ?_; rintro e w3 ⟨w1, hp, he3, hw3p⟩; simp only [unitL, erOf] at he3 hw3p; subst he3; have hw3 := Lib.hid hw3p; clear hw3p)
   exact bodyPost_ret (v := .tuple #[.slice none 0 0, .int .i64 er]) (by simp [results, Tryz.results10, go_sem]) rfl ⟨rfl, by rw [hw3.out]; exact C.belowSet (KpL.below HGw.out hp.2 HGw.out.size hgwH.out) hwcH.out⟩
  ·go_wp2_with (go_at_call 28; refine HF.out.mono ?_; rintro e w3 ⟨w1, hp, he3, hw3p⟩; simp only [unitL, erOf] at he3 hw3p; subst he3; have hw3 := Lib.hid hw3p; clear hw3p)
   exact bodyPost_ret (v := .tuple #[.slice (some ⟨g, 0, none⟩) st.length cap, .int .i64 0]) (by simp [results, Tryz.results10, go_sem]) rfl ⟨⟨g, cap, by rw [hlen.out s2 rfl], by rw [hw3.out]; exact IntsO.other hp.1 (by have := hgcH.out; omega)⟩, by rw [hw3.out]; exact C.belowSet (KpL.below HGw.out hp.2 HGw.out.size hgwH.out) hwcH.out⟩
end M
end Go.Proofs.YtdlebaiamdbneaaGreatDoor
