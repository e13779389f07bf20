/- Texts of one proof: VxK. -/
import Derived.Test.YtdlebaiamdbneaaGreatDoorYr
set_option linter.unusedVariables false
set_option linter.unusedSimpArgs false
set_option maxRecDepth 100000
set_option maxHeartbeats 8000000
namespace Go.Proofs.YtdlebaiamdbneaaGreatDoor
open Go.RowKit
namespace M
open I
open U (Ex St StsR StR StAt btw btw_iff ev eArr KidsE newBlk blkLt Vr VarsR VrAt KpL sArr two_kids owns_below new_cells gbRefl gbAlloc gbTrans gbBelow kbS kbL)
open R (epanic bAllocX insR LeftP erOf cell1 limS WfL)
open C (valPM v5 v5_val SomeB V1)
theorem chk_of {s : List U.Pw} : ∀ {ls : List (List St)} {k : Nat}, (∀ l ∈ ls, U.handM s l = 0) → (U.chkL s ls k).2 = 0
 | [], k, _ => rfl
 | x :: xs, k, h => by
  rw [U.chkL, if_pos (h x (by simp))]
  exact chk_of (fun l hl => h l (by simp [hl]))
theorem hand_nil (s : List U.Pw) : U.handM s [] = 0 := by
 unfold U.handM
 rw [U.evL, if_pos rfl, U.stsM]
theorem val_on {x : ByteArray} {vs : List Vr} {on on2 : List (List St)} {wi pa : Int} (h : valPM x vs on wi pa = true) (h2 : ∀ l ∈ on2, l ∈ on ∨ l = []) : valPM x vs on2 wi pa = true := by
 unfold C.valPM at h ⊢
 simp only [Bool.and_eq_true, decide_eq_true_eq] at h ⊢
 refine ⟨?_, h.2⟩
 have h1 := h.1
 unfold U.checkM at h1 ⊢
 rcases hs : U.scopeM (vs.map (·.u)) with _ | s
 ·rw [hs] at h1; cases h1
 ·rw [hs] at h1 ⊢
  simp only at h1 ⊢
  refine chk_of (fun l hl => ?_)
  rcases h2 l hl with h3 | h3
  ·exact R.chk_all h1 l h3
  ·rw [h3]; exact hand_nil s
def kp (n i j : Nat) : Bool := !(decide (i < j) && !decide (i = n))
def oJ (o : U.On) (n j : Nat) : U.On := ⟨if kp n 0 j then o.l0 else [], if kp n 1 j then o.l1 else [], if kp n 2 j then o.l2 else [], if kp n 3 j then o.l3 else [], if kp n 4 j then o.l4 else []⟩
def aJ (a : U.OnA) (n j : Nat) : U.OnA := ⟨if kp n 0 j then a.a0 else none, if kp n 1 j then a.a1 else none, if kp n 2 j then a.a2 else none, if kp n 3 j then a.a3 else none, if kp n 4 j then a.a4 else none, if kp n 0 j then a.m0 else 0, if kp n 1 j then a.m1 else 0, if kp n 2 j then a.m2 else 0, if kp n 3 j then a.m3 else 0, if kp n 4 j then a.m4 else 0⟩
theorem oJ_zero (o : U.On) (n : Nat) : oJ o n 0 = o := by simp [oJ, kp]
theorem aJ_zero (a : U.OnA) (n : Nat) : aJ a n 0 = a := by simp [aJ, kp]
theorem kp_same {n i j : Nat} (h : j = n) : kp n i (j + 1) = kp n i j := by
 unfold kp
 by_cases h1 : i = n
 ·simp [h1]
 ·by_cases h2 : i < j
  ·simp [h2, show i < j + 1 by omega]
  ·simp [h2, show ¬ i < j + 1 by omega]
theorem kp_ne {n i j : Nat} (h : i ≠ j) : kp n i (j + 1) = kp n i j := by
 unfold kp
 by_cases h2 : i < j
 ·simp [h2, show i < j + 1 by omega]
 ·simp [h2, show ¬ i < j + 1 by omega]
theorem kp_hit {n j : Nat} (h : j ≠ n) : kp n j (j + 1) = false := by simp [kp, h]
theorem oJ_same {o : U.On} {n j : Nat} (h : j = n) : oJ o n (j + 1) = oJ o n j := by simp only [oJ, kp_same h]
theorem aJ_same {a : U.OnA} {n j : Nat} (h : j = n) : aJ a n (j + 1) = aJ a n j := by simp only [aJ, kp_same h]
theorem set_on {w : World} {b : Nat} {x : ByteArray} {VA : Option Addr} {vn vm : Nat} {o : U.On} {a : U.OnA} {wi pa : Int} {T : TypeId} {n j : Nat} (hj : j < 5) (hne : j ≠ n)
  (h : w.heap[b]? = some (.cells (U.pgArr x VA vn vm (oJ o n j) (aJ a n j) wi pa) T (0, 0))) :
  (w.setCell ⟨b, 2 + j, none⟩ (.slice none 0 0)).heap[b]? = some (.cells (U.pgArr x VA vn vm (oJ o n (j + 1)) (aJ a n (j + 1)) wi pa) T (0, 0)) := by
 rw [heap_setCell_same _ b (2 + j) _ _ _ h]
 have h5 : j = 0 ∨ j = 1 ∨ j = 2 ∨ j = 3 ∨ j = 4 := by omega
 rcases h5 with rfl | rfl | rfl | rfl | rfl
 all_goals
  have k := kp_hit hne
  simp only [oJ, aJ]
  simp [k, kp_ne]
theorem onR_j {w : World} {o : U.On} {a : U.OnA} {n j : Nat} (h : U.OnR w o a) : U.OnR w (oJ o n j) (aJ a n j) := by
 have hz : ∀ (b : Bool) (l : List St) (A : Option Addr), StsR w l A → StsR w (if b then l else []) (if b then A else none) := fun b l A hl => by
  cases b
  ·simp only [Bool.false_eq_true, if_false]; unfold U.StsR; trivial
  ·simpa using hl
 have hy : ∀ (b : Bool) (l : List St), l.length ≤ maxLen → (if b then l else ([] : List St)).length ≤ maxLen := fun b l hl => by
  cases b
  ·simp
  ·simpa using hl
 exact ⟨hz _ _ _ h.r0, hz _ _ _ h.r1, hz _ _ _ h.r2, hz _ _ _ h.r3, hz _ _ _ h.r4, hy _ _ h.n0, hy _ _ h.n1, hy _ _ h.n2, hy _ _ h.n3, hy _ _ h.n4⟩
theorem oJ_mem {o : U.On} {n j : Nat} : ∀ l ∈ (oJ o n j).list, l ∈ o.list ∨ l = [] := by
 intro l hl
 have hz : ∀ (b : Bool) (m : List St), m ∈ o.list → (if b then m else []) ∈ o.list ∨ (if b then m else ([] : List St)) = [] := fun b m hm => by
  cases b
  ·exact .inr rfl
  ·exact .inl hm
 simp only [U.On.list, oJ, List.mem_cons, List.not_mem_nil, or_false] at hl
 rcases hl with rfl | rfl | rfl | rfl | rfl <;> exact hz _ _ (by simp [U.On.list])
theorem oJ_at {o : U.On} {n : Nat} (hn : n ≤ 4) (j : Nat) : onAt (oJ o n j).list n = onAt o.list n := by
 have hk : kp n n j = true := by simp [kp]
 have h5 : n = 0 ∨ n = 1 ∨ n = 2 ∨ n = 3 ∨ n = 4 := by omega
 rcases h5 with rfl | rfl | rfl | rfl | rfl <;> simp [onAt, U.On.list, oJ, hk]
theorem IntsR.at2 {w : World} {l : List Int} {g : Nat} (h : IntsR w l (some ⟨g, 0, none⟩)) (j : Nat) (n : Int) (hn : l[j]? = some n) : w.cell? ⟨g, j, none⟩ = some (.int .i64 n) := by
 obtain ⟨g2, o2, hA, hat⟩ := h.addr (by intro e; rw [e] at hn; simp at hn)
 cases hA
 have := hat j n hn
 simpa using this
theorem intsB_self (l : List Int) : intsB l l = true := by
 have : ∀ l : List Int, eqB l l = true := by
  intro l
  induction l with
  | nil => rfl
  | cons a l ih => simp [eqB, ih]
 unfold intsB
 rw [decide_eq_true rfl, this]; rfl
theorem Rest_any (x : ByteArray) (vs : List Vr) (VA : Option Addr) (vm : Nat) (o : U.On) (a : U.OnA) (wi pa : Int) (st : List Int) (SA : Option Addr) (sc : Nat) (e i0 i1 i2 i3 : Int) (w : World) (hL : LaidM w)
  (hV : VarsR w vs VA) (hlen : vs.length ≤ maxLen) (hO : U.OnR w o a) (hk : ∀ l ∈ o.list, kbL l) (hS : IntsR w st SA) (hx : x.size ≤ maxLen) (hv : ∀ v ∈ vs, v.x.size ≤ maxLen) :
  Calls Tryz.prog 5 #[U.pgv x VA vs.length vm o a wi pa, .slice SA st.length sc, .agg (clA e i0 i1 i2 i3)] w (BB true w) := by
 obtain ⟨W2, hW2⟩ : ∃ W2, W2 = (w.alloc (.cells (U.pgArr x VA vs.length vm o a wi pa) 26)).alloc (.cells (clA e i0 i1 i2 i3) 30) := ⟨_, rfl⟩
 have HB : Hid (Gr w W2) := Lib.hid (by rw [hW2]; exact (grAlloc _ _).tr (grAlloc _ _))
 have HP : Hid (W2.heap[w.heap.size]? = some (.cells (U.pgArr x VA vs.length vm o a wi pa) 26 (0, 0))) := Lib.hid (by rw [hW2]; exact grBlk (grAlloc _ _) (newBlk _ _ _ rfl))
 have HC : Hid (W2.heap[w.heap.size + 1]? = some (.cells (clA e i0 i1 i2 i3) 30 (0, 0))) := Lib.hid (by rw [hW2]; exact newBlk _ _ _ (by simp))
 have HHd := Lib.hid (fun wx (hg : Gr w wx) => head_any wx (hL.gr hg))
 have HUs := Lib.hid (fun wx (hg : Gr w wx) => usable_any x vs VA vm o a wi pa st SA sc e i0 i1 i2 i3 wx (hV.below hg) hlen (hO.below hg) hk (hS.gr hg) hx hv)
 have HRn := Lib.hid (fun wx (hg : Gr w wx) (hvl : vs.length ≤ 1000000) (o2 : U.On) (a2 : U.OnA) (hO2 : U.OnR w o2 a2) => Run_any x vs VA vm o2 a2 wi pa st SA sc e i0 i1 i2 i3 wx (hL.gr hg).1 (hL.gr hg).2.1 (hL.gr hg).2.2.1 (hL.gr hg).2.2.2 (hV.below hg) (hO2.below hg) (hS.gr hg) hx hv hvl)
 have HO := Lib.hid hO
 have HSt := Lib.hid hS
 have HKb := Lib.hid hk
 clear hL hV hO hk hS hx hv
 go_enter Tryz.func5, Tryz.ntmps5
 go_upto_region 1 with fail
 rw [← hW2]
 clear hW2
 obtain ⟨p0, p1, p2, p3, p4, p5, p6, p7, p8⟩ := U.cells9 HP.out
 obtain ⟨⟨c0, c1, c2, c3, c4⟩, -⟩ := C.cells5C HC.out
 go_upto_region 2 with (go_at_call 7; refine (HHd.out _ HB.out).mono ?_; rintro en w2 ⟨rfl, hb2⟩; have HB := Lib.hid (Gr.tr HB.out hb2); have HP := Lib.hid (grBlk hb2 HP.out); have HC := Lib.hid (grBlk hb2 HC.out); clear hb2 p0 p1 p2 p3 p4 p5 p6 p7 p8 c0 c1 c2 c3 c4; obtain ⟨p0, p1, p2, p3, p4, p5, p6, p7, p8⟩ := U.cells9 HP.out; obtain ⟨⟨c0, c1, c2, c3, c4⟩, -⟩ := C.cells5C HC.out)
 go_wp2_with fail
 refine (HUs.out _ HB.out).mono ?_
 rintro en w3 ⟨hu, hb2⟩
 have HB := Lib.hid (Gr.tr HB.out hb2)
 have HP := Lib.hid (grBlk hb2 HP.out)
 have HC := Lib.hid (grBlk hb2 HC.out)
 clear hb2 p0 p1 p2 p3 p4 p5 p6 p7 p8 c0 c1 c2 c3 c4
 obtain ⟨p0, p1, p2, p3, p4, p5, p6, p7, p8⟩ := U.cells9 HP.out
 obtain ⟨⟨c0, c1, c2, c3, c4⟩, -⟩ := C.cells5C HC.out
 clear HUs HHd
 rcases hu with rfl | ⟨rfl, h5, hs, hr⟩
 ·go_wp2_with fail
  go_ret
  exact ⟨rfl, HB.out⟩
 have hval := v5_val (fun y hy => nm5_name hy) h5
 have hvl12 := v5_len h5
 have hvl : vs.length ≤ 1000000 := by omega
 have hev := rs_ev hr
 obtain ⟨n, rfl⟩ : ∃ n : Nat, e = n := ⟨e.toNat, by omega⟩
 have hn4 : n ≤ 4 := by omega
 have hmem := on_mem (o := o) hev
 have hval2 : valPM x vs (oJ o n 5).list wi pa = true := val_on hval oJ_mem
 have hwf := (valPM_wf hval).1 _ hmem
 have HR1 := Lib.hid (fun wx hg => by have h := HRn.out wx hg hvl o a HO.out; rw [run_ok hval hs hr] at h; exact h)
 have HR2 := Lib.hid (fun wx hg => by have h := HRn.out wx hg hvl (oJ o n 5) (aJ a n 5) (onR_j HO.out); rw [run_ok hval2 hs hr, oJ_at hn4] at h; exact h)
 have hkbe := HKb.out _ hmem
 obtain ⟨W6, hW6⟩ : ∃ W6, W6 = w3.alloc (.cells (U.pgArr x VA vs.length vm o a wi pa) 26) := ⟨_, rfl⟩
 have HX : Hid (W6.heap[w3.heap.size]? = some (.cells (U.pgArr x VA vs.length vm (oJ o n 0) (aJ a n 0) wi pa) 26 (0, 0))) := Lib.hid (by rw [oJ_zero, aJ_zero, hW6]; exact newBlk _ _ _ rfl)
 have HG6 : Hid (Gr w3 W6) := Lib.hid (by rw [hW6]; exact grAlloc _ _)
 have HRn2 := True.intro
 clear HRn HRn2 hval hval2 hev
 generalize hvn : vs.length = vn at *
 go_upto_region 5 with fail
 rw [← hW6]
 clear hW6 p0 p1 p2 p3 p4 p5 p6 p7 p8 c0 c1 c2 c3 c4
 go_wp2_with fail
 go_loopg [23] (5) (fun gk i wr => ∃ j : Nat, j + gk = 5 ∧ i = .int .i64 j ∧ Hid (wr.heap[w3.heap.size]? = some (.cells (U.pgArr x VA vn vm (oJ o n j) (aJ a n j) wi pa) 26 (0, 0))) ∧ Hid (Gr w3 wr))
 case atStart => exact ⟨0, by omega, rfl, HX, HG6⟩
 case round =>
  obtain ⟨j, hj, rfl, hX, hG⟩ := hrel
  clear HX HG6
  have HP := Lib.hid (grBlk hG.out HP.out)
  have HC := Lib.hid (grBlk hG.out HC.out)
  obtain ⟨⟨x0, x1, x2, x3, x4, x5, x6, x7, x8⟩, hfz⟩ := C.cells9C hX.out
  obtain ⟨⟨c0, c1, c2, c3, c4⟩, -⟩ := C.cells5C HC.out
  by_cases hlt : j < 5
  ·obtain ⟨gq, rfl⟩ : ∃ g, gk = g + 1 := ⟨gk - 1, by omega⟩
   clear x0 x1 x2 x3 x4 x5 x6 x7 x8
   by_cases hjn : j = n
   ·have t1 : ((j : Int) != (n : Int)) = false := by simp [hjn]
    have hX2 := Lib.hid (show wr.heap[w3.heap.size]? = some (.cells (U.pgArr x VA vn vm (oJ o n (j + 1)) (aJ a n (j + 1)) wi pa) 26 (0, 0)) by rw [oJ_same hjn, aJ_same hjn]; exact hX.out)
    clear hX hfz hjn
    go_wp2
    go_roundg gq
    case measure => omega
    case rel => exact ⟨j + 1, by omega, by go_num, hX2, hG⟩
   ·have t1 : ((j : Int) != (n : Int)) = true := by simp; omega
    have hX2 := Lib.hid (set_on hlt hjn hX.out)
    have hG2 := Lib.hid (C.belowSet (i := 2 + j) (u := .slice none 0 0) hG.out (Nat.le_refl _))
    have d := hfz (2 + j) (by omega)
    obtain ⟨LB, lb, hcell, -, -⟩ := pg_on hX.out (onR_j (n := n) (j := j) HO.out) j hlt
    clear hX hfz hjn
    go_wp2
    go_roundg gq
    case measure => omega
    case rel => exact ⟨j + 1, by omega, by go_num, hX2, hG2⟩
  ·obtain rfl : j = 5 := by omega
   have hB2 := Lib.hid (Gr.tr HB.out hG.out)
   clear hfz HB
   have HB := hB2
   have HX := hX
   clear hX hG hB2 hj hlt
   obtain ⟨p0, p1, p2, p3, p4, p5, p6, p7, p8⟩ := U.cells9 HP.out
   generalize oJ o n 5 = o2 at *
   generalize aJ a n 5 = a2 at *
   have hslH : Hid (st.length = vn) := Lib.hid (by
    unfold stB at hs
    rw [Bool.and_eq_true, decide_eq_true_eq, hvn] at hs
    exact hs.1)
   rcases hrn : rnL [i0, i1, i2, i3] (limS vs) st (onAt o.list n) with er | st'
   ·rw [hrn] at HR1 HR2
    have hI := Lib.hid (fun wx => Ints_any [] [] none none 0 0 wx (.inl rfl) (.inl rfl) (by simp))
    clear hrn hmem h5 hs hr
    go_wp2_with (first
     | (go_at_call_of 10 a2; refine (HR2.out _ HB.out).mono ?_; rintro en w8 ⟨rfl, hb2⟩; have HB := Lib.hid (Gr.tr HB.out hb2); have HP := Lib.hid (grBlk hb2 HP.out); have HC := Lib.hid (grBlk hb2 HC.out); have HX := Lib.hid (grBlk hb2 HX.out); clear hb2 p0 p1 p2 p3 p4 p5 p6 p7 p8 c0 c1 c2 c3 c4 x0 x1 x2 x3 x4 x5 x6 x7 x8; obtain ⟨p0, p1, p2, p3, p4, p5, p6, p7, p8⟩ := U.cells9 HP.out; obtain ⟨⟨c0, c1, c2, c3, c4⟩, -⟩ := C.cells5C HC.out; obtain ⟨x0, x1, x2, x3, x4, x5, x6, x7, x8⟩ := U.cells9 HX.out)
     | (go_at_call 10; refine (HR1.out _ HB.out).mono ?_; rintro en w7 ⟨rfl, hb2⟩; have HB := Lib.hid (Gr.tr HB.out hb2); have HP := Lib.hid (grBlk hb2 HP.out); have HC := Lib.hid (grBlk hb2 HC.out); have HX := Lib.hid (grBlk hb2 HX.out); clear hb2 p0 p1 p2 p3 p4 p5 p6 p7 p8 c0 c1 c2 c3 c4 x0 x1 x2 x3 x4 x5 x6 x7 x8; obtain ⟨p0, p1, p2, p3, p4, p5, p6, p7, p8⟩ := U.cells9 HP.out; obtain ⟨⟨c0, c1, c2, c3, c4⟩, -⟩ := C.cells5C HC.out; obtain ⟨x0, x1, x2, x3, x4, x5, x6, x7, x8⟩ := U.cells9 HX.out)
     | (go_at_call 12; refine (hI.out _).mono ?_; rintro en w9 ⟨rfl, hb2⟩; have HB := Lib.hid (Gr.tr HB.out hb2); have HP := Lib.hid (grBlk hb2 HP.out); have HC := Lib.hid (grBlk hb2 HC.out); have HX := Lib.hid (grBlk hb2 HX.out); clear hb2 p0 p1 p2 p3 p4 p5 p6 p7 p8 c0 c1 c2 c3 c4 x0 x1 x2 x3 x4 x5 x6 x7 x8; obtain ⟨p0, p1, p2, p3, p4, p5, p6, p7, p8⟩ := U.cells9 HP.out; obtain ⟨⟨c0, c1, c2, c3, c4⟩, -⟩ := C.cells5C HC.out; obtain ⟨x0, x1, x2, x3, x4, x5, x6, x7, x8⟩ := U.cells9 HX.out))
    go_loopg [59] (0) (fun gk i wr => i = .int .i64 0 ∧ Hid (Gr w wr))
    case atStart => exact ⟨rfl, HB⟩
    case round =>
     obtain ⟨rfl, hG⟩ := hrel
     go_wp2
     go_ret
     exact ⟨rfl, hG.out⟩
   ·rw [hrn] at HR1 HR2
    have hl2H := Lib.hid (rnL_len _ hrn)
    have hkeep := Lib.hid (fun (k : Nat) (h : asL k (onAt o.list n) = false) => rnL_keep _ hwf h hrn)
    have hAs := Lib.hid (fun (wx : World) (k : Int) (A : Option Addr) (m : Nat) (hn : (onAt o.list n).length ≤ maxLen) (hR : StsR wx (onAt o.list n) A) => assigns_of (onAt o.list n) wx k A m hn hkbe hR)
    have hI0 := Lib.hid (fun (wx : World) (A B : Option Addr) (p q : Nat) (h1 : IntsR wx st' A) (h2 : IntsR wx st' B) => by have h := Ints_any st' st' A B p q wx h1 h2 (by have := hl2H.out; have := hslH.out; omega); rw [intsB_self] at h; exact h)
    clear hrn hmem h5 hs hr hwf
    go_upto_region 15 with (first
     | (go_at_call_of 10 a2; refine (HR2.out _ HB.out).mono ?_; rintro en w8 ⟨⟨g5, q5, rfl, hI5⟩, hb2⟩; have HI5 := Lib.hid hI5.intsR; have HI4 := Lib.hid (HI4.out.gr hb2); clear hI5; have HB := Lib.hid (Gr.tr HB.out hb2); have HP := Lib.hid (grBlk hb2 HP.out); have HC := Lib.hid (grBlk hb2 HC.out); have HX := Lib.hid (grBlk hb2 HX.out); clear hb2 p0 p1 p2 p3 p4 p5 p6 p7 p8 c0 c1 c2 c3 c4 x0 x1 x2 x3 x4 x5 x6 x7 x8; obtain ⟨p0, p1, p2, p3, p4, p5, p6, p7, p8⟩ := U.cells9 HP.out; obtain ⟨⟨c0, c1, c2, c3, c4⟩, -⟩ := C.cells5C HC.out; obtain ⟨x0, x1, x2, x3, x4, x5, x6, x7, x8⟩ := U.cells9 HX.out)
     | (go_at_call 10; refine (HR1.out _ HB.out).mono ?_; rintro en w7 ⟨⟨g4, q4, rfl, hI4⟩, hb2⟩; have HI4 := Lib.hid hI4.intsR; clear hI4; have HB := Lib.hid (Gr.tr HB.out hb2); have HP := Lib.hid (grBlk hb2 HP.out); have HC := Lib.hid (grBlk hb2 HC.out); have HX := Lib.hid (grBlk hb2 HX.out); clear hb2 p0 p1 p2 p3 p4 p5 p6 p7 p8 c0 c1 c2 c3 c4 x0 x1 x2 x3 x4 x5 x6 x7 x8; obtain ⟨p0, p1, p2, p3, p4, p5, p6, p7, p8⟩ := U.cells9 HP.out; obtain ⟨⟨c0, c1, c2, c3, c4⟩, -⟩ := C.cells5C HC.out; obtain ⟨x0, x1, x2, x3, x4, x5, x6, x7, x8⟩ := U.cells9 HX.out)
     | (go_at_call 12; refine (hI0.out _ _ _ _ _ HI4.out HI5.out).mono ?_; rintro en w9 ⟨rfl, hb2⟩; have HI4 := Lib.hid (HI4.out.gr hb2); clear HI5; have HB := Lib.hid (Gr.tr HB.out hb2); have HP := Lib.hid (grBlk hb2 HP.out); have HC := Lib.hid (grBlk hb2 HC.out); have HX := Lib.hid (grBlk hb2 HX.out); clear hb2 p0 p1 p2 p3 p4 p5 p6 p7 p8 c0 c1 c2 c3 c4 x0 x1 x2 x3 x4 x5 x6 x7 x8; obtain ⟨p0, p1, p2, p3, p4, p5, p6, p7, p8⟩ := U.cells9 HP.out; obtain ⟨⟨c0, c1, c2, c3, c4⟩, -⟩ := C.cells5C HC.out; obtain ⟨x0, x1, x2, x3, x4, x5, x6, x7, x8⟩ := U.cells9 HX.out))
    clear HR1 HR2 hI0 HX x0 x1 x2 x3 x4 x5 x6 x7 x8
    obtain ⟨ln, hl4⟩ : ∃ ln, st'.length = ln := ⟨_, rfl⟩
    have hl4H := Lib.hid hl4
    rw [hl4]
    clear hl4
    go_wp2_with fail
    go_loopg [59] (ln) (fun gk i wr => ∃ j : Nat, j + gk = ln ∧ i = .int .i64 j ∧ Hid (Gr w9 wr))
    case atStart => exact ⟨0, by omega, rfl, Lib.hid (Below.refl _ _)⟩
    case round =>
     obtain ⟨j, hj, rfl, hG⟩ := hrel
     by_cases hlt : j < ln
     ·obtain ⟨gq, rfl⟩ : ∃ g, gk = g + 1 := ⟨gk - 1, by omega⟩
      have hk64 : (j : Int) + 1 < 9223372036854775808 := by have h1 := hl2H.out; have h2 := hl4H.out; have h3 := hslH.out; omega
      have HPr := grBlk hG.out HP.out
      have HCr := grBlk hG.out HC.out
      obtain ⟨⟨c0, c1, c2, c3, c4⟩, -⟩ := C.cells5C HCr
      obtain ⟨LA, lm, pe, hLe, hne⟩ := pg_on HPr HO.out n (by omega)
      obtain ⟨gs, os, rfl, has⟩ := (HSt.out.gr (Gr.tr HB.out hG.out)).addr (by have h1 := hl2H.out; have h2 := hl4H.out; intro h; rw [h, List.length_nil] at h1; omega)
      have hls : j < st.length := by have h1 := hl2H.out; have h2 := hl4H.out; omega
      have hlt' : j < st'.length := by have h2 := hl4H.out; omega
      have s0 := has j _ (List.getElem?_eq_getElem hls)
      have r0 := (HI4.out.gr hG.out).at2 j _ (List.getElem?_eq_getElem hlt')
      have tg : decide ((j : Int) ≥ (st.length : Int)) = false := by simp; omega
      have hAse := Lib.hid (fun (wx : World) (hg : Gr wr wx) => hAs.out wx j LA lm hne (hLe.below (Gr.tr (Gr.tr HB.out hG.out) hg)))
      have hkj := hkeep.out j
      rw [List.getElem?_eq_getElem hls, List.getElem?_eq_getElem hlt'] at hkj
      clear has hLe HPr HCr
      by_cases hsame : st'[j] = st[j]
      ·have tnz : (st'[j] != st[j]) = false := by simp [hsame]
       clear hkj hsame
       generalize st'[j] = y1 at *
       generalize st[j] = y2 at *
       go_upto_region 18 with fail
       refine wp_region_G (S := fun wq => Gr wr wq) (by kernel_rfl) (grDrew _) (fun hHeld => ?_)
       have hSG : Hid (∀ wp wq : World, Gr wr wp → Gr wp wq → Gr wr wq) := Lib.hid (fun _ _ h k => h.tr k)
       have hmv := Lib.hid (fun (wq : World) (hq : Gr wr wq) => And.intro (grCell hq s0) (And.intro (grCell hq r0) (And.intro (grCell hq c0) (grCell hq pe))))
       first
        | (refine tk hSG 0 (v := ?_) rfl (by kernel_rfl) (fun _ _ _ h => h) (by rfl) ?_ hHeld ?_; rotate_left; focus (intro w' hSw; obtain ⟨s0, r0, c0, pe⟩ := hmv.out _ hSw; go_simp; (try with_reducible rfl)))
        | refine tn hSG 0 rfl (by kernel_rfl) (fun _ _ _ h => h) (by rfl) hHeld ?_
       (try simp only [zq1, zq2, zq3, Act.put, zq4, zq5, zq6])
       first
        | (refine tk hSG 1 (v := ?_) rfl (by kernel_rfl) (fun _ _ _ h => h) (by rfl) ?_ hHeld ?_; rotate_left; focus (intro w' hSw; obtain ⟨s0, r0, c0, pe⟩ := hmv.out _ hSw; go_simp; (try with_reducible rfl)))
        | refine tn hSG 1 rfl (by kernel_rfl) (fun _ _ _ h => h) (by rfl) hHeld ?_
       (try simp only [zq1, zq2, zq3, Act.put, zq4, zq5, zq6])
       first
        | (refine tk hSG 2 (v := ?_) rfl (by kernel_rfl) (fun _ _ _ h => h) (by rfl) ?_ hHeld ?_; rotate_left; focus (intro w' hSw; obtain ⟨s0, r0, c0, pe⟩ := hmv.out _ hSw; go_simp; (try with_reducible rfl)))
        | refine tn hSG 2 rfl (by kernel_rfl) (fun _ _ _ h => h) (by rfl) hHeld ?_
       (try simp only [zq1, zq2, zq3, Act.put, zq4, zq5, zq6])
       refine tk hSG 3 (v := .bool false) rfl (by kernel_rfl) (fun _ _ _ h => h) (by rfl) ?_ hHeld ?_
       focus (intro w' hSw; obtain ⟨s0, r0, c0, pe⟩ := hmv.out _ hSw; go_simp; (try exact tg); (try (simp; omega)))
       (try simp only [zq1, zq2, zq3, Act.put, zq4, zq5, zq6])
       first
        | (refine tk hSG 4 (v := ?_) rfl (by kernel_rfl) (fun _ _ _ h => h) (by rfl) ?_ hHeld ?_; rotate_left; focus (intro w' hSw; obtain ⟨s0, r0, c0, pe⟩ := hmv.out _ hSw; go_simp; (try with_reducible rfl)))
        | refine tn hSG 4 rfl (by kernel_rfl) (fun _ _ _ h => h) (by rfl) hHeld ?_
       (try simp only [zq1, zq2, zq3, Act.put, zq4, zq5, zq6])
       first
        | (refine tk hSG 5 (v := ?_) rfl (by kernel_rfl) (fun _ _ _ h => h) (by rfl) ?_ hHeld ?_; rotate_left; focus (intro w' hSw; obtain ⟨s0, r0, c0, pe⟩ := hmv.out _ hSw; go_simp; (try with_reducible rfl)))
        | refine tn hSG 5 rfl (by kernel_rfl) (fun _ _ _ h => h) (by rfl) hHeld ?_
       (try simp only [zq1, zq2, zq3, Act.put, zq4, zq5, zq6])
       first
        | (refine tk hSG 6 (v := ?_) rfl (by kernel_rfl) (fun _ _ _ h => h) (by rfl) ?_ hHeld ?_; rotate_left; focus (intro w' hSw; obtain ⟨s0, r0, c0, pe⟩ := hmv.out _ hSw; go_simp; (try with_reducible rfl)))
        | refine tn hSG 6 rfl (by kernel_rfl) (fun _ _ _ h => h) (by rfl) hHeld ?_
       (try simp only [zq1, zq2, zq3, Act.put, zq4, zq5, zq6])
       refine tk hSG 7 (v := .pointer (some ⟨g4, j, none⟩)) rfl (by kernel_rfl) (fun _ _ _ h => h) (by rfl) ?_ hHeld ?_
       focus (intro w' hSw; obtain ⟨s0, r0, c0, pe⟩ := hmv.out _ hSw; go_simp; (try (intro hq; omega)))
       (try simp only [zq1, zq2, zq3, Act.put, zq4, zq5, zq6])
       first
        | (refine tk hSG 8 (v := ?_) rfl (by kernel_rfl) (fun _ _ _ h => h) (by rfl) ?_ hHeld ?_; rotate_left; focus (intro w' hSw; obtain ⟨s0, r0, c0, pe⟩ := hmv.out _ hSw; go_simp; (try with_reducible rfl)))
        | refine tn hSG 8 rfl (by kernel_rfl) (fun _ _ _ h => h) (by rfl) hHeld ?_
       (try simp only [zq1, zq2, zq3, Act.put, zq4, zq5, zq6])
       first
        | (refine tk hSG 9 (v := ?_) rfl (by kernel_rfl) (fun _ _ _ h => h) (by rfl) ?_ hHeld ?_; rotate_left; focus (intro w' hSw; obtain ⟨s0, r0, c0, pe⟩ := hmv.out _ hSw; go_simp; (try with_reducible rfl)))
        | refine tn hSG 9 rfl (by kernel_rfl) (fun _ _ _ h => h) (by rfl) hHeld ?_
       (try simp only [zq1, zq2, zq3, Act.put, zq4, zq5, zq6])
       first
        | (refine tk hSG 10 (v := ?_) rfl (by kernel_rfl) (fun _ _ _ h => h) (by rfl) ?_ hHeld ?_; rotate_left; focus (intro w' hSw; obtain ⟨s0, r0, c0, pe⟩ := hmv.out _ hSw; go_simp; (try with_reducible rfl)))
        | refine tn hSG 10 rfl (by kernel_rfl) (fun _ _ _ h => h) (by rfl) hHeld ?_
       (try simp only [zq1, zq2, zq3, Act.put, zq4, zq5, zq6])
       refine tk hSG 11 (v := .pointer (some ⟨gs, os + j, none⟩)) rfl (by kernel_rfl) (fun _ _ _ h => h) (by rfl) ?_ hHeld ?_
       focus (intro w' hSw; obtain ⟨s0, r0, c0, pe⟩ := hmv.out _ hSw; go_simp; (try (intro hq; omega)))
       (try simp only [zq1, zq2, zq3, Act.put, zq4, zq5, zq6])
       first
        | (refine tk hSG 12 (v := ?_) rfl (by kernel_rfl) (fun _ _ _ h => h) (by rfl) ?_ hHeld ?_; rotate_left; focus (intro w' hSw; obtain ⟨s0, r0, c0, pe⟩ := hmv.out _ hSw; go_simp; (try with_reducible rfl)))
        | refine tn hSG 12 rfl (by kernel_rfl) (fun _ _ _ h => h) (by rfl) hHeld ?_
       (try simp only [zq1, zq2, zq3, Act.put, zq4, zq5, zq6])
       refine tk hSG 13 (v := .bool false) rfl (by kernel_rfl) (fun _ _ _ h => h) (by rfl) ?_ hHeld ?_
       focus (intro w' hSw; obtain ⟨s0, r0, c0, pe⟩ := hmv.out _ hSw; go_simp; (try exact tnz); (try simp [tnz]))
       (try simp only [zq1, zq2, zq3, Act.put, zq4, zq5, zq6])
       first
        | (refine tk hSG 14 (v := ?_) rfl (by kernel_rfl) (fun _ _ _ h => h) (by rfl) ?_ hHeld ?_; rotate_left; focus (intro w' hSw; obtain ⟨s0, r0, c0, pe⟩ := hmv.out _ hSw; go_simp; (try with_reducible rfl)))
        | refine tn hSG 14 rfl (by kernel_rfl) (fun _ _ _ h => h) (by rfl) hHeld ?_
       (try simp only [zq1, zq2, zq3, Act.put, zq4, zq5, zq6])
       first
        | (refine tk hSG 15 (v := ?_) rfl (by kernel_rfl) (fun _ _ _ h => h) (by rfl) ?_ hHeld ?_; rotate_left; focus (intro w' hSw; obtain ⟨s0, r0, c0, pe⟩ := hmv.out _ hSw; go_simp; (try with_reducible rfl)))
        | refine tn hSG 15 rfl (by kernel_rfl) (fun _ _ _ h => h) (by rfl) hHeld ?_
       (try simp only [zq1, zq2, zq3, Act.put, zq4, zq5, zq6])
       first
        | (refine tk hSG 16 (v := ?_) rfl (by kernel_rfl) (fun _ _ _ h => h) (by rfl) ?_ hHeld ?_; rotate_left; focus (intro w' hSw; obtain ⟨s0, r0, c0, pe⟩ := hmv.out _ hSw; go_simp; (try with_reducible rfl)))
        | refine tn hSG 16 rfl (by kernel_rfl) (fun _ _ _ h => h) (by rfl) hHeld ?_
       (try simp only [zq1, zq2, zq3, Act.put, zq4, zq5, zq6])
       first
        | (refine tk hSG 17 (v := ?_) rfl (by kernel_rfl) (fun _ _ _ h => h) (by rfl) ?_ hHeld ?_; rotate_left; focus (intro w' hSw; obtain ⟨s0, r0, c0, pe⟩ := hmv.out _ hSw; go_simp; (try with_reducible rfl)))
        | refine tn hSG 17 rfl (by kernel_rfl) (fun _ _ _ h => h) (by rfl) hHeld ?_
       (try simp only [zq1, zq2, zq3, Act.put, zq4, zq5, zq6])
       first
        | (refine tk hSG 18 (v := ?_) rfl (by kernel_rfl) (fun _ _ _ h => h) (by rfl) ?_ hHeld ?_; rotate_left; focus (intro w' hSw; obtain ⟨s0, r0, c0, pe⟩ := hmv.out _ hSw; go_simp; (try with_reducible rfl)))
        | refine tn hSG 18 rfl (by kernel_rfl) (fun _ _ _ h => h) (by rfl) hHeld ?_
       (try simp only [zq1, zq2, zq3, Act.put, zq4, zq5, zq6])
       first
        | (refine tk hSG 19 (v := ?_) rfl (by kernel_rfl) (fun _ _ _ h => h) (by rfl) ?_ hHeld ?_; rotate_left; focus (intro w' hSw; obtain ⟨s0, r0, c0, pe⟩ := hmv.out _ hSw; go_simp; (try with_reducible rfl)))
        | refine tn hSG 19 rfl (by kernel_rfl) (fun _ _ _ h => h) (by rfl) hHeld ?_
       (try simp only [zq1, zq2, zq3, Act.put, zq4, zq5, zq6])
       first
        | (refine tk hSG 20 (v := ?_) rfl (by kernel_rfl) (fun _ _ _ h => h) (by rfl) ?_ hHeld ?_; rotate_left; focus (intro w' hSw; obtain ⟨s0, r0, c0, pe⟩ := hmv.out _ hSw; go_simp; (try with_reducible rfl)))
        | refine tn hSG 20 rfl (by kernel_rfl) (fun _ _ _ h => h) (by rfl) hHeld ?_
       (try simp only [zq1, zq2, zq3, Act.put, zq4, zq5, zq6])
       first
        | (refine tk hSG 21 (v := ?_) rfl (by kernel_rfl) (fun _ _ _ h => h) (by rfl) ?_ hHeld ?_; rotate_left; focus (intro w' hSw; obtain ⟨s0, r0, c0, pe⟩ := hmv.out _ hSw; go_simp; (try with_reducible rfl)))
        | refine tn hSG 21 rfl (by kernel_rfl) (fun _ _ _ h => h) (by rfl) hHeld ?_
       (try simp only [zq1, zq2, zq3, Act.put, zq4, zq5, zq6])
       first
        | (refine tk hSG 22 (v := ?_) rfl (by kernel_rfl) (fun _ _ _ h => h) (by rfl) ?_ hHeld ?_; rotate_left; focus (intro w' hSw; obtain ⟨s0, r0, c0, pe⟩ := hmv.out _ hSw; go_simp; (try with_reducible rfl)))
        | refine tn hSG 22 rfl (by kernel_rfl) (fun _ _ _ h => h) (by rfl) hHeld ?_
       (try simp only [zq1, zq2, zq3, Act.put, zq4, zq5, zq6])
       first
        | (refine tk hSG 23 (v := ?_) rfl (by kernel_rfl) (fun _ _ _ h => h) (by rfl) ?_ hHeld ?_; rotate_left; focus (intro w' hSw; obtain ⟨s0, r0, c0, pe⟩ := hmv.out _ hSw; go_simp; (try with_reducible rfl)))
        | refine tn hSG 23 rfl (by kernel_rfl) (fun _ _ _ h => h) (by rfl) hHeld ?_
       (try simp only [zq1, zq2, zq3, Act.put, zq4, zq5, zq6])
       first
        | (refine tk hSG 24 (v := ?_) rfl (by kernel_rfl) (fun _ _ _ h => h) (by rfl) ?_ hHeld ?_; rotate_left; focus (intro w' hSw; obtain ⟨s0, r0, c0, pe⟩ := hmv.out _ hSw; go_simp; (try with_reducible rfl)))
        | refine tn hSG 24 rfl (by kernel_rfl) (fun _ _ _ h => h) (by rfl) hHeld ?_
       (try simp only [zq1, zq2, zq3, Act.put, zq4, zq5, zq6])
       refine wpAnyG_done (by kernel_rfl) (fun w5 hgD => ?_) _
       have hg5 : Gr wr w5 := (grDrew wr).tr hgD
       clear hgD hSG hHeld
       have hG5 := Lib.hid (Gr.tr hG.out hg5)
       clear s0 r0 c0 c1 c2 c3 c4 pe hg5
       go_wp2
       go_roundg gq
       case measure => omega
       case rel => exact ⟨j + 1, by omega, by go_num, hG5⟩
      ·have tnz : (st'[j] != st[j]) = true := by simp [hsame]
       have has1 : asL (j : Int) (onAt o.list n) = true := by
        rcases h : asL (j : Int) (onAt o.list n) with _ | _
        ·exact absurd (Option.some.inj (hkj h)) hsame
        ·rfl
       rw [has1] at hAse
       clear hkj hsame has1
       generalize st'[j] = y1 at *
       generalize st[j] = y2 at *
       generalize (onAt o.list n).length = le at *
       go_upto_region 18 with fail
       refine wp_region_G (S := fun wq => Gr wr wq) (by kernel_rfl) (grDrew _) (fun hHeld => ?_)
       have hSG : Hid (∀ wp wq : World, Gr wr wp → Gr wp wq → Gr wr wq) := Lib.hid (fun _ _ h k => h.tr k)
       have hmv := Lib.hid (fun (wq : World) (hq : Gr wr wq) => And.intro (grCell hq s0) (And.intro (grCell hq r0) (And.intro (grCell hq c0) (grCell hq pe))))
       first
        | (refine tk hSG 0 (v := ?_) rfl (by kernel_rfl) (fun _ _ _ h => h) (by rfl) ?_ hHeld ?_; rotate_left; focus (intro w' hSw; obtain ⟨s0, r0, c0, pe⟩ := hmv.out _ hSw; go_simp; (try with_reducible rfl)))
        | refine tn hSG 0 rfl (by kernel_rfl) (fun _ _ _ h => h) (by rfl) hHeld ?_
       (try simp only [zq1, zq2, zq3, Act.put, zq4, zq5, zq6])
       first
        | (refine tk hSG 1 (v := ?_) rfl (by kernel_rfl) (fun _ _ _ h => h) (by rfl) ?_ hHeld ?_; rotate_left; focus (intro w' hSw; obtain ⟨s0, r0, c0, pe⟩ := hmv.out _ hSw; go_simp; (try with_reducible rfl)))
        | refine tn hSG 1 rfl (by kernel_rfl) (fun _ _ _ h => h) (by rfl) hHeld ?_
       (try simp only [zq1, zq2, zq3, Act.put, zq4, zq5, zq6])
       first
        | (refine tk hSG 2 (v := ?_) rfl (by kernel_rfl) (fun _ _ _ h => h) (by rfl) ?_ hHeld ?_; rotate_left; focus (intro w' hSw; obtain ⟨s0, r0, c0, pe⟩ := hmv.out _ hSw; go_simp; (try with_reducible rfl)))
        | refine tn hSG 2 rfl (by kernel_rfl) (fun _ _ _ h => h) (by rfl) hHeld ?_
       (try simp only [zq1, zq2, zq3, Act.put, zq4, zq5, zq6])
       refine tk hSG 3 (v := .bool false) rfl (by kernel_rfl) (fun _ _ _ h => h) (by rfl) ?_ hHeld ?_
       focus (intro w' hSw; obtain ⟨s0, r0, c0, pe⟩ := hmv.out _ hSw; go_simp; (try exact tg); (try (simp; omega)))
       (try simp only [zq1, zq2, zq3, Act.put, zq4, zq5, zq6])
       first
        | (refine tk hSG 4 (v := ?_) rfl (by kernel_rfl) (fun _ _ _ h => h) (by rfl) ?_ hHeld ?_; rotate_left; focus (intro w' hSw; obtain ⟨s0, r0, c0, pe⟩ := hmv.out _ hSw; go_simp; (try with_reducible rfl)))
        | refine tn hSG 4 rfl (by kernel_rfl) (fun _ _ _ h => h) (by rfl) hHeld ?_
       (try simp only [zq1, zq2, zq3, Act.put, zq4, zq5, zq6])
       first
        | (refine tk hSG 5 (v := ?_) rfl (by kernel_rfl) (fun _ _ _ h => h) (by rfl) ?_ hHeld ?_; rotate_left; focus (intro w' hSw; obtain ⟨s0, r0, c0, pe⟩ := hmv.out _ hSw; go_simp; (try with_reducible rfl)))
        | refine tn hSG 5 rfl (by kernel_rfl) (fun _ _ _ h => h) (by rfl) hHeld ?_
       (try simp only [zq1, zq2, zq3, Act.put, zq4, zq5, zq6])
       first
        | (refine tk hSG 6 (v := ?_) rfl (by kernel_rfl) (fun _ _ _ h => h) (by rfl) ?_ hHeld ?_; rotate_left; focus (intro w' hSw; obtain ⟨s0, r0, c0, pe⟩ := hmv.out _ hSw; go_simp; (try with_reducible rfl)))
        | refine tn hSG 6 rfl (by kernel_rfl) (fun _ _ _ h => h) (by rfl) hHeld ?_
       (try simp only [zq1, zq2, zq3, Act.put, zq4, zq5, zq6])
       refine tk hSG 7 (v := .pointer (some ⟨g4, j, none⟩)) rfl (by kernel_rfl) (fun _ _ _ h => h) (by rfl) ?_ hHeld ?_
       focus (intro w' hSw; obtain ⟨s0, r0, c0, pe⟩ := hmv.out _ hSw; go_simp; (try (intro hq; omega)))
       (try simp only [zq1, zq2, zq3, Act.put, zq4, zq5, zq6])
       first
        | (refine tk hSG 8 (v := ?_) rfl (by kernel_rfl) (fun _ _ _ h => h) (by rfl) ?_ hHeld ?_; rotate_left; focus (intro w' hSw; obtain ⟨s0, r0, c0, pe⟩ := hmv.out _ hSw; go_simp; (try with_reducible rfl)))
        | refine tn hSG 8 rfl (by kernel_rfl) (fun _ _ _ h => h) (by rfl) hHeld ?_
       (try simp only [zq1, zq2, zq3, Act.put, zq4, zq5, zq6])
       first
        | (refine tk hSG 9 (v := ?_) rfl (by kernel_rfl) (fun _ _ _ h => h) (by rfl) ?_ hHeld ?_; rotate_left; focus (intro w' hSw; obtain ⟨s0, r0, c0, pe⟩ := hmv.out _ hSw; go_simp; (try with_reducible rfl)))
        | refine tn hSG 9 rfl (by kernel_rfl) (fun _ _ _ h => h) (by rfl) hHeld ?_
       (try simp only [zq1, zq2, zq3, Act.put, zq4, zq5, zq6])
       first
        | (refine tk hSG 10 (v := ?_) rfl (by kernel_rfl) (fun _ _ _ h => h) (by rfl) ?_ hHeld ?_; rotate_left; focus (intro w' hSw; obtain ⟨s0, r0, c0, pe⟩ := hmv.out _ hSw; go_simp; (try with_reducible rfl)))
        | refine tn hSG 10 rfl (by kernel_rfl) (fun _ _ _ h => h) (by rfl) hHeld ?_
       (try simp only [zq1, zq2, zq3, Act.put, zq4, zq5, zq6])
       refine tk hSG 11 (v := .pointer (some ⟨gs, os + j, none⟩)) rfl (by kernel_rfl) (fun _ _ _ h => h) (by rfl) ?_ hHeld ?_
       focus (intro w' hSw; obtain ⟨s0, r0, c0, pe⟩ := hmv.out _ hSw; go_simp; (try (intro hq; omega)))
       (try simp only [zq1, zq2, zq3, Act.put, zq4, zq5, zq6])
       first
        | (refine tk hSG 12 (v := ?_) rfl (by kernel_rfl) (fun _ _ _ h => h) (by rfl) ?_ hHeld ?_; rotate_left; focus (intro w' hSw; obtain ⟨s0, r0, c0, pe⟩ := hmv.out _ hSw; go_simp; (try with_reducible rfl)))
        | refine tn hSG 12 rfl (by kernel_rfl) (fun _ _ _ h => h) (by rfl) hHeld ?_
       (try simp only [zq1, zq2, zq3, Act.put, zq4, zq5, zq6])
       refine tk hSG 13 (v := .bool true) rfl (by kernel_rfl) (fun _ _ _ h => h) (by rfl) ?_ hHeld ?_
       focus (intro w' hSw; obtain ⟨s0, r0, c0, pe⟩ := hmv.out _ hSw; go_simp; (try exact tnz); (try simp [tnz]))
       (try simp only [zq1, zq2, zq3, Act.put, zq4, zq5, zq6])
       first
        | (refine tk hSG 14 (v := ?_) rfl (by kernel_rfl) (fun _ _ _ h => h) (by rfl) ?_ hHeld ?_; rotate_left; focus (intro w' hSw; obtain ⟨s0, r0, c0, pe⟩ := hmv.out _ hSw; go_simp; (try with_reducible rfl)))
        | refine tn hSG 14 rfl (by kernel_rfl) (fun _ _ _ h => h) (by rfl) hHeld ?_
       (try simp only [zq1, zq2, zq3, Act.put, zq4, zq5, zq6])
       first
        | (refine tk hSG 15 (v := ?_) rfl (by kernel_rfl) (fun _ _ _ h => h) (by rfl) ?_ hHeld ?_; rotate_left; focus (intro w' hSw; obtain ⟨s0, r0, c0, pe⟩ := hmv.out _ hSw; go_simp; (try with_reducible rfl)))
        | refine tn hSG 15 rfl (by kernel_rfl) (fun _ _ _ h => h) (by rfl) hHeld ?_
       (try simp only [zq1, zq2, zq3, Act.put, zq4, zq5, zq6])
       first
        | (refine tk hSG 16 (v := ?_) rfl (by kernel_rfl) (fun _ _ _ h => h) (by rfl) ?_ hHeld ?_; rotate_left; focus (intro w' hSw; obtain ⟨s0, r0, c0, pe⟩ := hmv.out _ hSw; go_simp; (try with_reducible rfl)))
        | refine tn hSG 16 rfl (by kernel_rfl) (fun _ _ _ h => h) (by rfl) hHeld ?_
       (try simp only [zq1, zq2, zq3, Act.put, zq4, zq5, zq6])
       first
        | (refine tk hSG 17 (v := ?_) rfl (by kernel_rfl) (fun _ _ _ h => h) (by rfl) ?_ hHeld ?_; rotate_left; focus (intro w' hSw; obtain ⟨s0, r0, c0, pe⟩ := hmv.out _ hSw; go_simp; (try with_reducible rfl)))
        | refine tn hSG 17 rfl (by kernel_rfl) (fun _ _ _ h => h) (by rfl) hHeld ?_
       (try simp only [zq1, zq2, zq3, Act.put, zq4, zq5, zq6])
       refine tk hSG 18 (v := .pointer (some ⟨w.heap.size, 2 + n, none⟩)) rfl (by kernel_rfl) (fun _ _ _ h => h) (by rfl) ?_ hHeld ?_
       focus (intro w' hSw; obtain ⟨s0, r0, c0, pe⟩ := hmv.out _ hSw; go_simp; (try (intro hq; omega)))
       (try simp only [zq1, zq2, zq3, Act.put, zq4, zq5, zq6])
       first
        | (refine tk hSG 19 (v := ?_) rfl (by kernel_rfl) (fun _ _ _ h => h) (by rfl) ?_ hHeld ?_; rotate_left; focus (intro w' hSw; obtain ⟨s0, r0, c0, pe⟩ := hmv.out _ hSw; go_simp; (try with_reducible rfl)))
        | refine tn hSG 19 rfl (by kernel_rfl) (fun _ _ _ h => h) (by rfl) hHeld ?_
       (try simp only [zq1, zq2, zq3, Act.put, zq4, zq5, zq6])
       first
        | (refine tk hSG 20 (v := ?_) rfl (by kernel_rfl) (fun _ _ _ h => h) (by rfl) ?_ hHeld ?_; rotate_left; focus (intro w' hSw; obtain ⟨s0, r0, c0, pe⟩ := hmv.out _ hSw; go_simp; (try with_reducible rfl)))
        | refine tn hSG 20 rfl (by kernel_rfl) (fun _ _ _ h => h) (by rfl) hHeld ?_
       (try simp only [zq1, zq2, zq3, Act.put, zq4, zq5, zq6])
       refine tc hSG 21 (v := .bool true) rfl (by kernel_rfl) (fun _ _ _ h => h) (by rfl) ?_ hHeld ?_
       focus (intro wz hSw K hK; obtain ⟨s0, r0, c0, pe⟩ := hmv.out _ hSw; go_simp; go_at_call 13; refine (hAse.out _ hSw).mono ?_; rintro e w2 ⟨rfl, hb2⟩; exact hK.out _ hb2)
       (try simp only [zq1, zq2, zq3, Act.put, zq4, zq5, zq6])
       first
        | (refine tk hSG 22 (v := ?_) rfl (by kernel_rfl) (fun _ _ _ h => h) (by rfl) ?_ hHeld ?_; rotate_left; focus (intro w' hSw; obtain ⟨s0, r0, c0, pe⟩ := hmv.out _ hSw; go_simp; (try with_reducible rfl)))
        | refine tn hSG 22 rfl (by kernel_rfl) (fun _ _ _ h => h) (by rfl) hHeld ?_
       (try simp only [zq1, zq2, zq3, Act.put, zq4, zq5, zq6])
       first
        | (refine tk hSG 23 (v := ?_) rfl (by kernel_rfl) (fun _ _ _ h => h) (by rfl) ?_ hHeld ?_; rotate_left; focus (intro w' hSw; obtain ⟨s0, r0, c0, pe⟩ := hmv.out _ hSw; go_simp; (try with_reducible rfl)))
        | refine tn hSG 23 rfl (by kernel_rfl) (fun _ _ _ h => h) (by rfl) hHeld ?_
       (try simp only [zq1, zq2, zq3, Act.put, zq4, zq5, zq6])
       first
        | (refine tk hSG 24 (v := ?_) rfl (by kernel_rfl) (fun _ _ _ h => h) (by rfl) ?_ hHeld ?_; rotate_left; focus (intro w' hSw; obtain ⟨s0, r0, c0, pe⟩ := hmv.out _ hSw; go_simp; (try with_reducible rfl)))
        | refine tn hSG 24 rfl (by kernel_rfl) (fun _ _ _ h => h) (by rfl) hHeld ?_
       (try simp only [zq1, zq2, zq3, Act.put, zq4, zq5, zq6])
       refine wpAnyG_done (by kernel_rfl) (fun w5 hgD => ?_) _
       have hg5 : Gr wr w5 := (grDrew wr).tr hgD
       clear hgD hSG hHeld
       have hG5 := Lib.hid (Gr.tr hG.out hg5)
       clear s0 r0 c0 c1 c2 c3 c4 pe hg5
       go_wp2
       go_roundg gq
       case measure => omega
       case rel => exact ⟨j + 1, by omega, by go_num, hG5⟩
     ·go_wp2
      go_ret
      exact ⟨rfl, Gr.tr HB.out hG.out⟩
end M
end Go.Proofs.YtdlebaiamdbneaaGreatDoor
