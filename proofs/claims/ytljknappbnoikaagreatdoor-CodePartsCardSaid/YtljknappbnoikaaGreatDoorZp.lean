/- Texts of one proof: UxL, UxM, PxK, PxL. -/
import Derived.Test.YtljknappbnoikaaGreatDoorZd
import Derived.Test.YtljknappbnoikaaGreatDoorZg
import Derived.Test.YtljknappbnoikaaGreatDoorZn
set_option linter.unusedVariables false
set_option linter.unusedSimpArgs false
set_option maxRecDepth 100000
set_option maxHeartbeats 8000000
namespace Go.Proofs.YtljknappbnoikaaGreatDoor.U
open Go.RowKit
theorem cells13' {w : World} {b : Nat} {v0 v1 v2 v3 v4 v5 v6 v7 v8 v9 v10 v11 v12 : Value} {T : TypeId} (h : w.heap[b]? = some (.cells #[v0, v1, v2, v3, v4, v5, v6, v7, v8, v9, v10, v11, v12] T (0, 0))) :
  w.cell? ⟨b, 0, none⟩ = some v0 ∧ w.cell? ⟨b, 1, none⟩ = some v1 ∧ w.cell? ⟨b, 2, none⟩ = some v2 ∧ w.cell? ⟨b, 3, none⟩ = some v3 ∧ w.cell? ⟨b, 4, none⟩ = some v4 ∧ w.cell? ⟨b, 5, none⟩ = some v5 ∧ w.cell? ⟨b, 6, none⟩ = some v6 ∧
  w.cell? ⟨b, 7, none⟩ = some v7 ∧ w.cell? ⟨b, 8, none⟩ = some v8 ∧ w.cell? ⟨b, 9, none⟩ = some v9 ∧ w.cell? ⟨b, 10, none⟩ = some v10 ∧ w.cell? ⟨b, 11, none⟩ = some v11 ∧ w.cell? ⟨b, 12, none⟩ = some v12 := by
 have e : ∀ j, w.cell? ⟨b, j, none⟩ = (#[v0, v1, v2, v3, v4, v5, v6, v7, v8, v9, v10, v11, v12] : Array Value)[j]? := fun j => cell_of_row _ _ j _ _ (0, 0) h
 exact ⟨e 0, e 1, e 2, e 3, e 4, e 5, e 6, e 7, e 8, e 9, e 10, e 11, e 12⟩
abbrev NN (n : Int) (w : World) (e : Ending) (w' : World) : Prop := VV (.int .i64 n) w e w'
theorem NN.mk' {n z : Int} {w w' : World} (h : n = z) (hb : Below w.heap.size w w') : NN z w (.returned (.int .i64 n)) w' := by subst h; exact ⟨rfl, hb⟩
theorem compared_any {s : List Pw} (hs : allRg s) (hl : s.length ≤ 12) (a b : Ex) (S A B : Option Addr) (sd c d : Nat) (w : World) (hL : LaidW w) (hP : PwsR w s S) (hA : KidsE w a.kids A) (hB : KidsE w b.kids B) (hza : a.size ≤ 60) (hzb : b.size ≤ 60) :
  Calls Tryz.prog 121 #[.slice S s.length (s.length + sd), ev a A c, ev b B d] w (NN (cmpM s a b) w) := by
 have hb0 := ((Below.refl w.heap.size w).alloc (Nat.le_refl _) (.cells (eArr a A c) 66)).alloc (by simp) (.cells (eArr b B d) 66)
 have hB0 : Hid (((w.alloc (.cells (eArr a A c) 66)).alloc (.cells (eArr b B d) 66)).heap[w.heap.size + 1]? = some (.cells (eArr b B d) 66 (0, 0))) := Lib.hid (newBlk _ _ _ (by simp))
 have HW0 := Lib.hid hb0
 have HA := Lib.hid (infer_any hs hl a _ A S c sd (hL.below hb0) (hP.below hb0) (hA.below hb0) hza)
 have HB := Lib.hid (fun (wx : World) (hx : Below w.heap.size w wx) => infer_any hs hl b wx B S d sd (hL.below hx) (hP.below hx) (hB.below hx) hzb)
 obtain ⟨r, hr⟩ : ∃ r, cmpM s a b = r := ⟨_, rfl⟩
 rw [hr]
 unfold cmpM at hr
 clear hL hP hA hB hza hzb hb0 hs
 rcases ha : inf s a with er | p
 ·rw [ha] at hr HA
  have he : er = 1 ∨ er = 13 := inf_err a ha
  simp only at hr
  have HR := Lib.hid hr
  have hne : ¬ er = 0 := by omega
  clear hr ha he
  go_enter Tryz.func121, Tryz.ntmps121
  go_wp2_with (go_at_call 120; refine HA.out.mono ?_; simp only [resP]; rintro e w1 ⟨rfl, hb1⟩; have hW1 := Lib.hid (HW0.out.trans (hb1.mono (by simp <;> omega))); clear hb1)
  go_ret
  exact NN.mk' HR.out (hW1.out.alloc hW1.out.size _)
 ·rw [ha] at hr HA
  simp only at hr
  rcases hbb : inf s b with er | q
  ·rw [hbb] at hr HB
   have he : er = 1 ∨ er = 13 := inf_err b hbb
   simp only at hr
   have HR := Lib.hid hr
   have hne : ¬ er = 0 := by omega
   clear hr ha hbb he
   go_enter Tryz.func121, Tryz.ntmps121
   go_wp2_with (first
    | (go_at_call_of 120 (Value.slice A a.kids.length (a.kids.length + c)); refine HA.out.mono ?_; simp only [resP]; rintro e w1 ⟨rfl, hb1⟩; have hB1 := Lib.hid ((hb1.block _ (by simp)).trans hB0.out); have hW1 := Lib.hid (HW0.out.trans (hb1.mono (by simp <;> omega))); have hW1a := Lib.hid (hW1.out.alloc hW1.out.size (.cells (pArr p) 125)); have hxb := blkLt hB1.out; obtain ⟨⟨b0, b1, b2, b3⟩, -⟩ := cells4 hB1.out; clear hb1)
    | (go_at_call_of 120 (Value.slice B b.kids.length (b.kids.length + d)); refine (HB.out _ hW1a.out).mono ?_; simp only [resP]; rintro e w2 ⟨rfl, hb2⟩; have hW2 := Lib.hid (hW1a.out.trans (hb2.mono hW1a.out.size)); clear hb2 b0 b1 b2 b3))
   all_goals
    go_ret
    exact NN.mk' HR.out (hW2.out.alloc hW2.out.size _)
  ·rw [hbb] at hr HB
   simp only at hr
   have HR := Lib.hid hr
   have heq := fun w => run_pw_eq p q w
   have hC := Lib.hid (fun (w1 w2 : World) (hx : Below (w1.alloc (.cells (pArr p) 125)).heap.size (w1.alloc (.cells (pArr p) 125)) w2) => (hx.block w1.heap.size (by simp)).trans (newBlk w1 (.cells (pArr p) 125) _ rfl))
   clear hr ha hbb
   generalize hd : decide (p = q) = t at *
   have hr3 : Hid ((if t then 0 else 13) = r) := Lib.hid (by have := HR.out; rw [← hd]; simpa using this)
   clear HR hd
   go_enter Tryz.func121, Tryz.ntmps121
   go_wp2_with (first
    | (go_at_call_of 120 (Value.slice A a.kids.length (a.kids.length + c)); refine HA.out.mono ?_; simp only [resP]; rintro e w1 ⟨rfl, hb1⟩; have hB1 := Lib.hid ((hb1.block _ (by simp)).trans hB0.out); have hW1 := Lib.hid (HW0.out.trans (hb1.mono (by simp <;> omega))); have hW1a := Lib.hid (hW1.out.alloc hW1.out.size (.cells (pArr p) 125)); have hxb := blkLt hB1.out; obtain ⟨⟨b0, b1, b2, b3⟩, -⟩ := cells4 hB1.out; clear hb1)
    | (go_at_call_of 120 (Value.slice B b.kids.length (b.kids.length + d)); refine (HB.out _ hW1a.out).mono ?_; simp only [resP]; rintro e w2 ⟨rfl, hb2⟩; have hC2 := hC.out w1 w2 hb2; have hxc := blkLt hC2; obtain ⟨⟨c0, c1, c2⟩, -⟩ := cells3 hC2; have hW2 := Lib.hid (hW1a.out.trans (hb2.mono hW1a.out.size)); clear hb2 b0 b1 b2 b3))
   all_goals
    go_ret
    exact NN.mk' (by have := hr3.out; rw [← this]; simp_all) (hW2.out.alloc hW2.out.size _)
theorem assignment_any {s : List Pw} (hs : allRg s) (hl : s.length ≤ 12) (x : St) (S A B T E : Option Addr) (sd c d m n : Nat) (w : World) (hL : LaidW w) (hP : PwsR w s S) (hA : KidsE w x.a.kids A) (hza : x.a.size ≤ 60) :
  Calls Tryz.prog 102 #[.slice S s.length (s.length + sd), sv x A c B d T m E n] w (NN (assignM s x.var x.a) w) := by
 have hb0 := (Below.refl w.heap.size w).alloc (Nat.le_refl _) (.cells (sArr x A c B d T m E n) 69)
 have HX0 := Lib.hid (newBlk w (.cells (sArr x A c B d T m E n) 69) _ rfl)
 have HW0 := Lib.hid hb0
 have HA := Lib.hid (infer_any hs hl x.a _ A S c sd (hL.below hb0) (hP.below hb0) (hA.below hb0) hza)
 have HP := Lib.hid hP
 obtain ⟨r, hr⟩ : ∃ r, assignM s x.var x.a = r := ⟨_, rfl⟩
 rw [hr]
 unfold assignM at hr
 have HI := isIndex_any x.var s.length (by omega)
 clear hL hP hA hza hb0 hs
 obtain ⟨s0, s1, s2, s3, s4, s5, s6, s7, s8, s9, s10, s11, s12⟩ := cells13' HX0.out
 have hx0 := blkLt HX0.out
 cases hv : btw x.var 0 ((s.length : Int) - 1) with
 | false =>
  rw [hv] at HI hr
  have HI := Lib.hid HI
  have HR : Hid (1 = r) := Lib.hid (by simpa using hr)
  clear hr hv
  go_enter Tryz.func102, Tryz.ntmps102
  go_wp2_with (go_at_call 83; refine (HI.out _).mono ?_; rintro e w1 ⟨rfl, hw2⟩; have hw2 := hw2.symm; subst hw2)
  go_ret
  exact NN.mk' HR.out HW0.out
 | true =>
  rw [hv, if_pos rfl] at hr
  rw [hv] at HI
  have HI := Lib.hid HI
  obtain ⟨hu0, hu1⟩ := btw_iff.1 hv
  obtain ⟨j, hj⟩ : ∃ j : Nat, x.var = j := ⟨x.var.toNat, by omega⟩
  have hjl : j < s.length := by omega
  rcases ha : inf s x.a with er | p
  ·rw [ha] at hr HA
   have he : er = 1 ∨ er = 13 := inf_err x.a ha
   simp only at hr
   have HR := Lib.hid hr
   clear hr ha hv hu0 hu1 hj
   rcases he with rfl | rfl
   all_goals
    go_enter Tryz.func102, Tryz.ntmps102
    go_wp2_with (first
     | (go_at_call 83; refine (HI.out _).mono ?_; rintro e w1 ⟨rfl, hw2⟩; have hw2 := hw2.symm; subst hw2)
     | (go_at_call 120; refine HA.out.mono ?_; simp only [resP]; rintro e w1 ⟨rfl, hb1⟩; have hW1 := Lib.hid (HW0.out.trans (hb1.mono (by simp))); have hW1a := Lib.hid (hW1.out.alloc hW1.out.size (.cells (pArr ⟨0, 0, 0⟩) 125)); clear hb1 s0 s1 s2 s3 s4 s5 s6 s7 s8 s9 s10 s11 s12))
    first | go_region | skip
    all_goals
     go_wp2
     go_ret
     exact NN.mk' HR.out hW1a.out.drew
  ·rw [ha] at hr HA
   simp only at hr
   have HR : Hid ((if p = s[j] then 0 else 13) = r) := Lib.hid (by rw [← hr, hj]; simp [List.getD_eq_getElem?_getD, List.getElem?_eq_getElem hjl])
   obtain ⟨gs, os, rfl, -⟩ := HP.out.addr (by omega)
   have hget := Lib.hid (List.getElem?_eq_getElem hjl)
   clear hr ha hv hu0 hu1
   generalize s[j] = q at *
   have heq := fun w => run_pw_eq p q w
   generalize hd : decide (p = q) = t at *
   have hr3 : Hid ((if t then 0 else 13) = r) := Lib.hid (by have := HR.out; rw [← hd]; simpa using this)
   clear HR hd
   have HJ := Lib.hid hj
   clear hj
   go_enter Tryz.func102, Tryz.ntmps102
   go_wp2_with (first
    | (go_at_call 83; refine (HI.out _).mono ?_; rintro e w1 ⟨rfl, hw2⟩; have hw2 := hw2.symm; subst hw2)
    | (go_at_call 120; refine HA.out.mono ?_; simp only [resP]; rintro e w1 ⟨rfl, hb1⟩; have hW1 := Lib.hid (HW0.out.trans (hb1.mono (by simp))); have hW1a := Lib.hid (hW1.out.alloc hW1.out.size (.cells (pArr p) 125)); have HX1 := Lib.hid ((Below.heap_alloc w1 (.cells (pArr p) 125) _ (Nat.lt_of_lt_of_le hx0 hb1.size)).trans ((hb1.block _ hx0).trans HX0.out)); have hP1 := HP.out.below hW1a.out; obtain ⟨k0, k1, k2⟩ : PwAt (w1.alloc (.cells (pArr p) 125)) gs (os + j * 3) q := (by rcases hP1 with h | ⟨g', o', hA, hh⟩; (subst h; simp at hjl); (cases hA; exact hh j q hget.out)); clear hP1; clear hb1 s0 s1 s2 s3 s4 s5 s6 s7 s8 s9 s10 s11 s12; have x1 := (cells13' HX1.out).2.1; rw [HJ.out] at x1; obtain ⟨⟨c0, c1, c2⟩, -⟩ := cells3 (newBlk w1 (.cells (pArr p) 125) _ rfl); have hxn := blkLt (newBlk w1 (.cells (pArr p) 125) _ rfl); have hxx := blkLt HX1.out; have hgs := World.block_lt_of_cell? _ _ k0))
   go_region
   all_goals go_wp2
   all_goals
    go_ret
    exact NN.mk' (by have := hr3.out; rw [← this]; simp_all) hW1a.out.drew
def SsC (s : List Pw) (l : List St) : Prop := ∀ (w : World) (S A : Option Addr) (sd m : Nat), LaidW w → PwsR w s S → StsR w l A → l.length ≤ maxLen → szL l →
 Calls Tryz.prog 72 #[.slice S s.length (s.length + sd), .slice A l.length m] w (NN (stsM s l) w)
theorem condition_any {s : List Pw} (hs : allRg s) (hl : s.length ≤ 12) (x : St) (ht : SsC s x.th) (he : SsC s x.el) (S A B T E : Option Addr) (sd c d m n : Nat) (w : World) (hL : LaidW w) (hP : PwsR w s S) (hA : KidsE w x.a.kids A) (hB : KidsE w x.b.kids B) (hT : StsR w x.th T) (hE : StsR w x.el E)
  (hlt : x.th.length ≤ maxLen) (hle : x.el.length ≤ maxLen) (hza : x.a.size ≤ 60) (hzb : x.b.size ≤ 60) (hzt : szL x.th) (hze : szL x.el) :
  Calls Tryz.prog 103 #[.slice S s.length (s.length + sd), sv x A c B d T m E n] w
   (NN (if btw x.rel 1 6 = true then (if cmpM s x.a x.b = 0 then (if stsM s x.th = 0 then stsM s x.el else stsM s x.th) else cmpM s x.a x.b) else 1) w) := by
 have hb0 := (Below.refl w.heap.size w).alloc (Nat.le_refl _) (.cells (sArr x A c B d T m E n) 69)
 have HX0 := Lib.hid (newBlk w (.cells (sArr x A c B d T m E n) 69) _ rfl)
 have HW0 := Lib.hid hb0
 have HC := Lib.hid (compared_any hs hl x.a x.b S A B sd c d _ (hL.below hb0) (hP.below hb0) (hA.below hb0) (hB.below hb0) hza hzb)
 have HT := Lib.hid (fun (wx : World) (hx : Below w.heap.size w wx) => ht wx S T sd m (hL.below hx) (hP.below hx) (hT.below hx) hlt hzt)
 have HE := Lib.hid (fun (wx : World) (hx : Below w.heap.size w wx) => he wx S E sd n (hL.below hx) (hP.below hx) (hE.below hx) hle hze)
 have HI := Lib.hid (between_any x.rel 1 6)
 obtain ⟨s0, s1, s2, s3, s4, s5, s6, s7, s8, s9, s10, s11, s12⟩ := cells13' HX0.out
 have hx0 := blkLt HX0.out
 generalize btw x.rel 1 6 = bt at *
 generalize cmpM s x.a x.b = e1 at *
 generalize stsM s x.th = e2 at *
 generalize stsM s x.el = e3 at *
 clear hL hP hA hB hT hE hlt hle hza hzb hzt hze hb0 ht he hs
 obtain ⟨r, hr⟩ : ∃ r, (if bt = true then (if e1 = 0 then (if e2 = 0 then e3 else e2) else e1) else 1) = r := ⟨_, rfl⟩
 rw [hr]
 have HR := Lib.hid hr
 clear hr
 go_enter Tryz.func103, Tryz.ntmps103
 go_wp2_with (first
  | (go_at_call 100; refine (HI.out _).mono ?_; rintro e w1 ⟨rfl, hw2⟩; have hw2 := hw2.symm; subst hw2)
  | (go_at_call 121; refine HC.out.mono ?_; rintro e w1 ⟨rfl, hb1⟩; have HX1 := Lib.hid ((hb1.block _ hx0).trans HX0.out); have hW1 := Lib.hid (HW0.out.trans (hb1.mono (by simp))); clear hb1 s0 s1 s2 s3 s4 s5 s6 s7 s8 s9 s10 s11 s12; obtain ⟨s0, s1, s2, s3, s4, s5, s6, s7, s8, s9, s10, s11, s12⟩ := cells13' HX1.out; have hx1 := blkLt HX1.out)
  | (go_at_call_of 72 (Value.slice T x.th.length m); refine (HT.out _ hW1.out).mono ?_; rintro e w2 ⟨rfl, hb2⟩; have HX2 := Lib.hid ((hb2.block _ hx1).trans HX1.out); have hW2 := Lib.hid (hW1.out.trans (hb2.mono hW1.out.size)); clear hb2 s0 s1 s2 s3 s4 s5 s6 s7 s8 s9 s10 s11 s12; obtain ⟨s0, s1, s2, s3, s4, s5, s6, s7, s8, s9, s10, s11, s12⟩ := cells13' HX2.out; have hx2 := blkLt HX2.out)
  | (go_at_call_of 72 (Value.slice E x.el.length n); refine (HE.out _ hW2.out).mono ?_; rintro e w3 ⟨rfl, hb3⟩; have hW3 := Lib.hid (hW2.out.trans (hb3.mono hW2.out.size)); clear hb3))
 all_goals
  go_ret
  refine NN.mk' (Eq.trans ?_ HR.out) (by first | exact hW3.out | exact hW2.out | exact hW1.out | exact HW0.out)
  simp_all
theorem stM_eq (s : List Pw) (x : St) : stM s x = if x.kind = 1 then assignM s x.var x.a
  else if x.kind = 2 then (if btw x.rel 1 6 = true then (if cmpM s x.a x.b = 0 then (if stsM s x.th = 0 then stsM s x.el else stsM s x.th) else cmpM s x.a x.b) else 1)
  else 1 := by
 cases x
 rw [stM]
 rfl
theorem stmt_any {s : List Pw} (hs : allRg s) (hl : s.length ≤ 12) (x : St) (ht : SsC s x.th) (he : SsC s x.el) (S A B T E : Option Addr) (sd c d m n : Nat) (w : World) (hL : LaidW w) (hP : PwsR w s S) (hA : KidsE w x.a.kids A) (hB : KidsE w x.b.kids B) (hT : StsR w x.th T) (hE : StsR w x.el E)
  (hlt : x.th.length ≤ maxLen) (hle : x.el.length ≤ maxLen) (hz : szS x) :
  Calls Tryz.prog 87 #[.slice S s.length (s.length + sd), sv x A c B d T m E n] w (NN (stM s x) w) := by
 have hb0 := (Below.refl w.heap.size w).alloc (Nat.le_refl _) (.cells (sArr x A c B d T m E n) 69)
 have HX0 := Lib.hid (newBlk w (.cells (sArr x A c B d T m E n) 69) _ rfl)
 have HW0 := Lib.hid hb0
 obtain ⟨r, hr⟩ : ∃ r, stM s x = r := ⟨_, rfl⟩
 rw [hr]
 rw [stM_eq] at hr
 obtain ⟨xk, xv, xr, xa, xb, xth, xel⟩ := x
 unfold szS at hz
 by_cases h1 : xk = 1
 ·subst h1
  rw [if_pos (show (St.mk 1 xv xr xa xb xth xel).kind = 1 from rfl)] at hr
  have HA := assignment_any hs hl (.mk 1 xv xr xa xb xth xel) S A B T E sd c d m n _ (hL.below hb0) (hP.below hb0) (hA.below hb0) hz.1
  rw [hr] at HA
  have HA := Lib.hid HA
  clear hL hP hA hB hT hE hlt hle hz hb0 ht he hs hr
  obtain ⟨s0, s1, s2, s3, s4, s5, s6, s7, s8, s9, s10, s11, s12⟩ := cells13' HX0.out
  have hx0 := blkLt HX0.out
  go_enter Tryz.func87, Tryz.ntmps87
  go_wp2_with (go_at_call 102; refine HA.out.mono ?_; rintro e w1 ⟨rfl, hb1⟩)
  go_ret
  exact NN.mk' rfl (HW0.out.trans (hb1.mono (by simp)))
 ·rw [if_neg (show ¬ (St.mk xk xv xr xa xb xth xel).kind = 1 from h1)] at hr
  by_cases h2 : xk = 2
  ·subst h2
   rw [if_pos (show (St.mk 2 xv xr xa xb xth xel).kind = 2 from rfl)] at hr
   obtain ⟨hzb, hzt, hze⟩ := hz.2 rfl
   have HA := condition_any hs hl (.mk 2 xv xr xa xb xth xel) ht he S A B T E sd c d m n _ (hL.below hb0) (hP.below hb0) (hA.below hb0) (hB.below hb0) (hT.below hb0) (hE.below hb0) hlt hle hz.1 hzb hzt hze
   rw [hr] at HA
   have HA := Lib.hid HA
   clear hL hP hA hB hT hE hlt hle hz hb0 ht he hs hzb hzt hze hr
   obtain ⟨s0, s1, s2, s3, s4, s5, s6, s7, s8, s9, s10, s11, s12⟩ := cells13' HX0.out
   have hx0 := blkLt HX0.out
   go_enter Tryz.func87, Tryz.ntmps87
   go_wp2_with (go_at_call 103; refine HA.out.mono ?_; rintro e w1 ⟨rfl, hb1⟩)
   go_ret
   exact NN.mk' rfl (HW0.out.trans (hb1.mono (by simp)))
  ·rw [if_neg (show ¬ (St.mk xk xv xr xa xb xth xel).kind = 2 from h2)] at hr
   have hr := Lib.hid hr
   have h1' : ¬ (St.mk xk xv xr xa xb xth xel).kind = 1 := h1
   have h2' : ¬ (St.mk xk xv xr xa xb xth xel).kind = 2 := h2
   clear hL hP hA hB hT hE hlt hle hz hb0 ht he hs
   obtain ⟨s0, s1, s2, s3, s4, s5, s6, s7, s8, s9, s10, s11, s12⟩ := cells13' HX0.out
   have hx0 := blkLt HX0.out
   generalize (St.mk xk xv xr xa xb xth xel) = x at *
   go_enter Tryz.func87, Tryz.ntmps87
   go_wp2_with fail
   go_ret
   exact NN.mk' hr.out HW0.out
theorem stmts_step {s : List Pw} (hs : allRg s) (hl : s.length ≤ 12) (l : List St) (ih : ∀ x ∈ l, SsC s x.th ∧ SsC s x.el) : SsC s l := by
 intro w S A sd m hL hP hR hlen hz
 obtain ⟨r, hr⟩ : ∃ r, stsM s l = r := ⟨_, rfl⟩
 rw [hr]
 have HR := Lib.hid hr
 have IH := Lib.hid ih
 have HS := Lib.hid hR
 have HL := Lib.hid hL
 have HP := Lib.hid hP
 have HZ := Lib.hid hz
 have HG := Lib.hid hs
 clear hr ih hR hL hP hz hs
 unfold maxLen at hlen
 go_enter Tryz.func72, Tryz.ntmps72
 go_wp2_with fail
 go_loopg [10] (l.length) (fun gk i wr => ∃ (k : Nat), k + gk = l.length ∧ i = .int .i64 k ∧ Hid (stsM s (l.drop k) = r) ∧ Hid (Below w.heap.size w wr))
 case atStart => exact ⟨0, by omega, rfl, HR, Lib.hid (Below.refl _ _)⟩
 case round =>
  obtain ⟨k, hk, rfl, hE, hW⟩ := hrel
  by_cases hlt : k < l.length
  ·obtain ⟨g, rfl⟩ : ∃ g, gk = g + 1 := ⟨gk - 1, by omega⟩
   obtain ⟨ga, oa, rfl⟩ := HS.out.addr (by omega)
   obtain ⟨A1, c1, B1, d1, T1, m1, E1, n1, hat0, hKa, hKb, hTh, hEl0, hlt1, hlt2⟩ := (HS.out.get _ _ _ k _ (List.getElem?_eq_getElem hlt)).cells
   have hmem : l[k] ∈ l := List.getElem_mem hlt
   obtain ⟨i1, i2⟩ := IH.out _ hmem
   have hzx := szL_mem hmem HZ.out
   have hE1 := hE.out
   rw [List.drop_eq_getElem_cons hlt, stsM] at hE1
   have hat := hat0.keep (hW.out.block ga (World.block_lt_of_cell? _ _ hat0.1))
   obtain ⟨s0, s1, s2, s3, s4, s5, s6, s7, s8, s9, s10, s11, s12⟩ := hat
   have hb1 : Below w.heap.size w (wr.alloc (.cells (sArr l[k] A1 c1 B1 d1 T1 m1 E1 n1) 69)) := hW.out.alloc hW.out.size _
   have HI := Lib.hid (stmt_any HG.out hl l[k] i1 i2 S A1 B1 T1 E1 sd c1 d1 m1 n1 _ (HL.out.below hb1) (HP.out.below hb1) (hKa.below hb1) (hKb.below hb1) (hTh.below hb1) (hEl0.below hb1) hlt1 hlt2 hzx)
   have hW1 := Lib.hid hb1
   clear hmem hE hat0 hKa hKb hTh hEl0 i1 i2 hzx hb1
   generalize l[k] = x at *
   by_cases h0 : stM s x = 0
   ·rw [if_pos h0] at hE1
    rw [h0] at HI
    have hG := Lib.hid hE1
    clear hE1 h0
    go_wp2_with (go_at_call 87; refine HI.out.mono ?_; rintro e w1 ⟨rfl, hb2⟩; have hW2 := Lib.hid (hW1.out.trans (hb2.mono hW1.out.size)); clear hb2)
    go_roundg g
    case measure => omega
    case rel => exact ⟨k + 1, by omega, by go_num, hG, hW2⟩
   ·rw [if_neg h0] at hE1
    have hF := Lib.hid hE1
    clear hE1
    generalize stM s x = er at *
    go_wp2_with (go_at_call 87; refine HI.out.mono ?_; rintro e w1 ⟨rfl, hb2⟩; have hW2 := Lib.hid (hW1.out.trans (hb2.mono hW1.out.size)); clear hb2)
    go_ret
    exact NN.mk' hF.out hW2.out
  ·have hF : Hid (0 = r) := Lib.hid (by have := hE.out; rw [List.drop_eq_nil_of_le (by omega), stsM] at this; exact this)
   clear hE
   go_wp2_with fail
   go_ret
   exact NN.mk' hF.out hW.out
mutual
theorem stmts_any {s : List Pw} (hs : allRg s) (hl : s.length ≤ 12) : ∀ x : St, SsC s x.th ∧ SsC s x.el
 | .mk k v r a b th el => ⟨stmts_step hs hl th (stmts_all hs hl th), stmts_step hs hl el (stmts_all hs hl el)⟩
theorem stmts_all {s : List Pw} (hs : allRg s) (hl : s.length ≤ 12) : ∀ l : List St, ∀ x ∈ l, SsC s x.th ∧ SsC s x.el
 | [], x, h => by cases h
 | y :: ys, x, h => by
  rcases List.mem_cons.1 h with h | h
  ·rw [h]; exact stmts_any hs hl y
  ·exact stmts_all hs hl ys x h
end
end Go.Proofs.YtljknappbnoikaaGreatDoor.U
namespace Go.Proofs.YtljknappbnoikaaGreatDoor.U
open Go.RowKit
theorem fits_any (l : List St) (A : Option Addr) (m : Nat) (w : World) (hR : StsR w l A) (hlen : l.length ≤ maxLen) : Calls Tryz.prog 71 #[.slice A l.length m] w (BB (evL l 100).1 w) := by
 have hmf : ∀ (fn : Fn) (first cap : Array Value) (w : World), (Instr.makeFunc fn first cap).run Tryz.prog w = .ok (.func fn first cap) w := fun _ _ _ _ => rfl
 have hb0 := (Below.refl w.heap.size w).alloc (Nat.le_refl _) (.cells #[.int .i64 100] 3)
 have HE := Lib.hid (every_step l (every_all l) w (w.alloc (.cells #[.int .i64 100] 3)) A m w.heap.size 100 (by decide) (by decide) hb0 (Nat.le_refl _) (newBlk _ _ _ rfl) hR hlen)
 have HB0 := Lib.hid hb0
 clear hR hlen hb0
 generalize evL l 100 = r at *
 go_enter Tryz.func71, Tryz.ntmps71
 go_wp2_with (go_at_call 84; refine HE.out.mono ?_; rintro e w1 ⟨rfl, hL1, hK1⟩; have hW1 := Lib.hid (KpL.below HB0.out hK1 (by simp) (Nat.le_refl _)); clear hL1 hK1)
 go_ret
 exact ⟨rfl, hW1.out⟩
theorem handler_any {s : List Pw} (hs : allRg s) (hl : s.length ≤ 12) (l : List St) (S A : Option Addr) (sd m : Nat) (w : World) (hL : LaidW w) (hP : PwsR w s S) (hR : StsR w l A) (hlen : l.length ≤ maxLen) :
  Calls Tryz.prog 56 #[.slice S s.length (s.length + sd), .slice A l.length m] w (NN (handM s l) w) := by
 have HF := Lib.hid (fits_any l A m w hR hlen)
 unfold handM
 cases hf : (evL l 100).1 with
 | false =>
  rw [hf] at HF
  clear hf hL hP hR hlen hs
  go_enter Tryz.func56, Tryz.ntmps56
  go_wp2_with (go_at_call 71; refine HF.out.mono ?_; rintro e w1 ⟨rfl, hb1⟩)
  go_ret
  exact ⟨rfl, hb1⟩
 | true =>
  rw [hf] at HF
  have hz := evL_sz l 100 hf
  have HS := Lib.hid (fun (w1 : World) (hb : Below w.heap.size w w1) => stmts_step hs hl l (stmts_all hs hl l) w1 S A sd m (hL.below hb) (hP.below hb) (hR.below hb) hlen hz)
  rw [if_pos rfl]
  generalize stsM s l = r at *
  clear hf hL hP hR hlen hs hz
  go_enter Tryz.func56, Tryz.ntmps56
  go_wp2_with (first
   | (go_at_call 71; refine HF.out.mono ?_; rintro e w1 ⟨rfl, hb1⟩)
   | (go_at_call 72; refine (HS.out _ hb1).mono ?_; rintro e w2 ⟨rfl, hb2⟩; have hW2 := hb1.trans (hb2.mono hb1.size)))
  go_ret
  exact ⟨rfl, hW2⟩
def chkL (s : List Pw) : List (List St) → Nat → Int × Int
 | [], _ => (-1, 0)
 | l :: ls, k => if handM s l = 0 then chkL s ls (k + 1) else ((k : Int), handM s l)
def checkM (us : List Int) (on : List (List St)) : Int × Int :=
 match scopeM us with
 | none => (0, 1)
 | some s => chkL s on 0
theorem ix5 (v0 v1 v2 v3 v4 : Value) (w : World) :
  (Instr.index 24 (.agg #[v0, v1, v2, v3, v4]) (.int .i64 0)).run Tryz.prog w = .ok v0 w ∧ (Instr.index 24 (.agg #[v0, v1, v2, v3, v4]) (.int .i64 1)).run Tryz.prog w = .ok v1 w ∧ (Instr.index 24 (.agg #[v0, v1, v2, v3, v4]) (.int .i64 2)).run Tryz.prog w = .ok v2 w ∧
  (Instr.index 24 (.agg #[v0, v1, v2, v3, v4]) (.int .i64 3)).run Tryz.prog w = .ok v3 w ∧ (Instr.index 24 (.agg #[v0, v1, v2, v3, v4]) (.int .i64 4)).run Tryz.prog w = .ok v4 w := by
 refine ⟨?_, ?_, ?_, ?_, ?_⟩ <;> simp [Instr.index, run_underlying Tryz.underlying24, asIntOf, go_sem]
theorem cells9 {w : World} {b : Nat} {v0 v1 v2 v3 v4 v5 v6 v7 v8 : Value} {T : TypeId} (h : w.heap[b]? = some (.cells #[v0, v1, v2, v3, v4, v5, v6, v7, v8] T (0, 0))) :
  w.cell? ⟨b, 0, none⟩ = some v0 ∧ w.cell? ⟨b, 1, none⟩ = some v1 ∧ w.cell? ⟨b, 2, none⟩ = some v2 ∧ w.cell? ⟨b, 3, none⟩ = some v3 ∧ w.cell? ⟨b, 4, none⟩ = some v4 ∧ w.cell? ⟨b, 5, none⟩ = some v5 ∧ w.cell? ⟨b, 6, none⟩ = some v6 ∧
  w.cell? ⟨b, 7, none⟩ = some v7 ∧ w.cell? ⟨b, 8, none⟩ = some v8 := by
 have e : ∀ j, w.cell? ⟨b, j, none⟩ = (#[v0, v1, v2, v3, v4, v5, v6, v7, v8] : Array Value)[j]? := fun j => cell_of_row _ _ j _ _ (0, 0) h
 exact ⟨e 0, e 1, e 2, e 3, e 4, e 5, e 6, e 7, e 8⟩
structure On where
 l0 : List St
 l1 : List St
 l2 : List St
 l3 : List St
 l4 : List St
def On.list (o : On) : List (List St) := [o.l0, o.l1, o.l2, o.l3, o.l4]
structure OnA where
 a0 : Option Addr
 a1 : Option Addr
 a2 : Option Addr
 a3 : Option Addr
 a4 : Option Addr
 m0 : Nat
 m1 : Nat
 m2 : Nat
 m3 : Nat
 m4 : Nat
structure OnR (w : World) (o : On) (a : OnA) : Prop where
 r0 : StsR w o.l0 a.a0
 r1 : StsR w o.l1 a.a1
 r2 : StsR w o.l2 a.a2
 r3 : StsR w o.l3 a.a3
 r4 : StsR w o.l4 a.a4
 n0 : o.l0.length ≤ maxLen
 n1 : o.l1.length ≤ maxLen
 n2 : o.l2.length ≤ maxLen
 n3 : o.l3.length ≤ maxLen
 n4 : o.l4.length ≤ maxLen
theorem OnR.below {w w' : World} {o : On} {a : OnA} (h : OnR w o a) (hb : Below w.heap.size w w') : OnR w' o a :=
 ⟨h.r0.below hb, h.r1.below hb, h.r2.below hb, h.r3.below hb, h.r4.below hb, h.n0, h.n1, h.n2, h.n3, h.n4⟩
abbrev pgArr (x : ByteArray) (VA : Option Addr) (vn vm : Nat) (o : On) (a : OnA) (wi pa : Int) : Array Value := #[.string x, .slice VA vn vm, .slice a.a0 o.l0.length a.m0, .slice a.a1 o.l1.length a.m1, .slice a.a2 o.l2.length a.m2, .slice a.a3 o.l3.length a.m3, .slice a.a4 o.l4.length a.m4, .int .i64 wi, .int .i64 pa]
abbrev pgv (x : ByteArray) (VA : Option Addr) (vn vm : Nat) (o : On) (a : OnA) (wi pa : Int) : Value := .agg #[.string x, .slice VA vn vm, .slice a.a0 o.l0.length a.m0, .slice a.a1 o.l1.length a.m1, .slice a.a2 o.l2.length a.m2, .slice a.a3 o.l3.length a.m3, .slice a.a4 o.l4.length a.m4, .int .i64 wi, .int .i64 pa]
theorem Check_any (x : ByteArray) (vs : List Vr) (VA : Option Addr) (vm : Nat) (o : On) (a : OnA) (wi pa : Int) (w : World) (hL : LaidW w) (hV : VarsR w vs VA) (hO : OnR w o a) :
  Calls Tryz.prog 34 #[pgv x VA vs.length vm o a wi pa] w (VV (.tuple #[.int .i64 (checkM (vs.map (·.u)) o.list).1, .int .i64 (checkM (vs.map (·.u)) o.list).2]) w) := by
 have hb0 := (Below.refl w.heap.size w).alloc (Nat.le_refl _) (.cells (pgArr x VA vs.length vm o a wi pa) 26)
 have HX0 := Lib.hid (newBlk w (.cells (pgArr x VA vs.length vm o a wi pa) 26) _ rfl)
 have HS := Lib.hid (scopeOf_any vs VA vm _ (hL.below hb0) (hV.below hb0))
 have HB0 := Lib.hid hb0
 have HL := Lib.hid hL
 have HO := Lib.hid hO
 have hix := ix5 (.slice a.a0 o.l0.length a.m0) (.slice a.a1 o.l1.length a.m1) (.slice a.a2 o.l2.length a.m2) (.slice a.a3 o.l3.length a.m3) (.slice a.a4 o.l4.length a.m4)
 have i0 := fun w => (hix w).1
 have i1 := fun w => (hix w).2.1
 have i2 := fun w => (hix w).2.2.1
 have i3 := fun w => (hix w).2.2.2.1
 have i4 := fun w => (hix w).2.2.2.2
 unfold checkM
 obtain ⟨q, hq⟩ : ∃ q, scopeM (vs.map (·.u)) = q := ⟨_, rfl⟩
 rw [hq] at HS ⊢
 have HQ := Lib.hid hq
 clear hL hV hO hb0 hix hq
 obtain ⟨s0, s1, s2, s3, s4, s5, s6, s7, s8⟩ := cells9 HX0.out
 have hx0 := blkLt HX0.out
 generalize vs.length = vn at *
 rcases q with _ | s
 ·go_enter Tryz.func34, Tryz.ntmps34
  go_wp2_with (go_at_call 55; refine HS.out.mono ?_; rintro e w1 ⟨he, hb1⟩; simp only at he; subst he; have hW1 := Lib.hid (HB0.out.trans (hb1.mono (by simp))); clear hb1)
  exact bodyPost_ret (v := .tuple #[.int .i64 0, .int .i64 1]) (by simp [results, Tryz.results34, go_sem]) rfl ⟨rfl, hW1.out⟩
 ·obtain ⟨hrg, hl12, -⟩ := scopeM_rg HQ.out
  have hrg := Lib.hid hrg
  simp only
  obtain ⟨r, hr⟩ : ∃ r, chkL s o.list 0 = r := ⟨_, rfl⟩
  rw [hr]
  have HR : Hid (chkL s (o.list.drop 0) 0 = r) := Lib.hid hr
  clear hr
  go_enter Tryz.func34, Tryz.ntmps34
  go_wp2_with (go_at_call 55; refine HS.out.mono ?_; rintro e w1 ⟨⟨SA, sc, he, hp1⟩, hb1⟩; subst he; have hW1 := Lib.hid (HB0.out.trans (hb1.mono (by simp))); have HX1 := Lib.hid ((hb1.block _ hx0).trans HX0.out); have HP := Lib.hid hp1; clear hb1 hp1 s0 s1 s2 s3 s4 s5 s6 s7 s8; obtain ⟨s0, s1, s2, s3, s4, s5, s6, s7, s8⟩ := cells9 HX1.out; have hx1 := blkLt HX1.out)
  have HH := Lib.hid (fun (wx : World) (l : List St) (A : Option Addr) (m : Nat) (hb : Below w1.heap.size w1 wx) (hR : StsR w l A) (hn : l.length ≤ maxLen) =>
   handler_any hrg.out hl12 l SA A sc m wx (HL.out.below (hW1.out.trans (hb.mono hW1.out.size))) (HP.out.below hb) (hR.below (hW1.out.trans (hb.mono hW1.out.size))) hn)
  clear s0 s1 s2 s3 s4 s5 s6 s7 s8 HX1 HX0 HS HB0
  go_loopg [19] 5 (fun gk i wr => ∃ (j : Nat), j + gk = 5 ∧ i = .int .i64 j ∧ Hid (chkL s (o.list.drop j) j = r) ∧ Hid (Below w1.heap.size w1 wr))
  case atStart => exact ⟨0, rfl, rfl, HR, Lib.hid (Below.refl _ _)⟩
  case round =>
   obtain ⟨j, hj, rfl, hE, hW⟩ := hrel
   match j, hj with
   | 0, hj =>
    obtain rfl : gk = 5 := by omega
    have hE1 : (if handM s o.l0 = 0 then chkL s (o.list.drop 1) 1 else ((0 : Int), handM s o.l0)) = r := hE.out
    have HJ := Lib.hid (HH.out wr o.l0 a.a0 a.m0 hW.out HO.out.r0 HO.out.n0)
    by_cases h0 : handM s o.l0 = 0
    ·rw [if_pos h0] at hE1
     rw [h0] at HJ
     have hG := Lib.hid hE1
     clear hE hE1 h0
     go_wp2_with (go_at_call 56; refine HJ.out.mono ?_; rintro e w2 ⟨rfl, hb2⟩; have hW2 := Lib.hid (hW.out.trans (hb2.mono hW.out.size)); clear hb2)
     go_roundg 4
     case measure => omega
     case rel => exact ⟨1, by omega, by go_num, hG, hW2⟩
    ·rw [if_neg h0] at hE1
     have hF := Lib.hid hE1
     clear hE hE1
     generalize handM s o.l0 = er at *
     go_wp2_with (go_at_call 56; refine HJ.out.mono ?_; rintro e w2 ⟨rfl, hb2⟩; have hW2 := Lib.hid (hW1.out.trans ((hW.out.trans (hb2.mono hW.out.size)).mono hW1.out.size)); clear hb2)
     exact bodyPost_ret (v := .tuple #[.int .i64 0, .int .i64 er]) (by simp [results, Tryz.results34, go_sem]) rfl ⟨by rw [← hF.out], hW2.out⟩
   | 1, hj =>
    obtain rfl : gk = 4 := by omega
    have hE1 : (if handM s o.l1 = 0 then chkL s (o.list.drop 2) 2 else ((1 : Int), handM s o.l1)) = r := hE.out
    have HJ := Lib.hid (HH.out wr o.l1 a.a1 a.m1 hW.out HO.out.r1 HO.out.n1)
    by_cases h0 : handM s o.l1 = 0
    ·rw [if_pos h0] at hE1
     rw [h0] at HJ
     have hG := Lib.hid hE1
     clear hE hE1 h0
     go_wp2_with (go_at_call 56; refine HJ.out.mono ?_; rintro e w2 ⟨rfl, hb2⟩; have hW2 := Lib.hid (hW.out.trans (hb2.mono hW.out.size)); clear hb2)
     go_roundg 3
     case measure => omega
     case rel => exact ⟨2, by omega, by go_num, hG, hW2⟩
    ·rw [if_neg h0] at hE1
     have hF := Lib.hid hE1
     clear hE hE1
     generalize handM s o.l1 = er at *
     go_wp2_with (go_at_call 56; refine HJ.out.mono ?_; rintro e w2 ⟨rfl, hb2⟩; have hW2 := Lib.hid (hW1.out.trans ((hW.out.trans (hb2.mono hW.out.size)).mono hW1.out.size)); clear hb2)
     exact bodyPost_ret (v := .tuple #[.int .i64 1, .int .i64 er]) (by simp [results, Tryz.results34, go_sem]) rfl ⟨by rw [← hF.out], hW2.out⟩
   | 2, hj =>
    obtain rfl : gk = 3 := by omega
    have hE1 : (if handM s o.l2 = 0 then chkL s (o.list.drop 3) 3 else ((2 : Int), handM s o.l2)) = r := hE.out
    have HJ := Lib.hid (HH.out wr o.l2 a.a2 a.m2 hW.out HO.out.r2 HO.out.n2)
    by_cases h0 : handM s o.l2 = 0
    ·rw [if_pos h0] at hE1
     rw [h0] at HJ
     have hG := Lib.hid hE1
     clear hE hE1 h0
     go_wp2_with (go_at_call 56; refine HJ.out.mono ?_; rintro e w2 ⟨rfl, hb2⟩; have hW2 := Lib.hid (hW.out.trans (hb2.mono hW.out.size)); clear hb2)
     go_roundg 2
     case measure => omega
     case rel => exact ⟨3, by omega, by go_num, hG, hW2⟩
    ·rw [if_neg h0] at hE1
     have hF := Lib.hid hE1
     clear hE hE1
     generalize handM s o.l2 = er at *
     go_wp2_with (go_at_call 56; refine HJ.out.mono ?_; rintro e w2 ⟨rfl, hb2⟩; have hW2 := Lib.hid (hW1.out.trans ((hW.out.trans (hb2.mono hW.out.size)).mono hW1.out.size)); clear hb2)
     exact bodyPost_ret (v := .tuple #[.int .i64 2, .int .i64 er]) (by simp [results, Tryz.results34, go_sem]) rfl ⟨by rw [← hF.out], hW2.out⟩
   | 3, hj =>
    obtain rfl : gk = 2 := by omega
    have hE1 : (if handM s o.l3 = 0 then chkL s (o.list.drop 4) 4 else ((3 : Int), handM s o.l3)) = r := hE.out
    have HJ := Lib.hid (HH.out wr o.l3 a.a3 a.m3 hW.out HO.out.r3 HO.out.n3)
    by_cases h0 : handM s o.l3 = 0
    ·rw [if_pos h0] at hE1
     rw [h0] at HJ
     have hG := Lib.hid hE1
     clear hE hE1 h0
     go_wp2_with (go_at_call 56; refine HJ.out.mono ?_; rintro e w2 ⟨rfl, hb2⟩; have hW2 := Lib.hid (hW.out.trans (hb2.mono hW.out.size)); clear hb2)
     go_roundg 1
     case measure => omega
     case rel => exact ⟨4, by omega, by go_num, hG, hW2⟩
    ·rw [if_neg h0] at hE1
     have hF := Lib.hid hE1
     clear hE hE1
     generalize handM s o.l3 = er at *
     go_wp2_with (go_at_call 56; refine HJ.out.mono ?_; rintro e w2 ⟨rfl, hb2⟩; have hW2 := Lib.hid (hW1.out.trans ((hW.out.trans (hb2.mono hW.out.size)).mono hW1.out.size)); clear hb2)
     exact bodyPost_ret (v := .tuple #[.int .i64 3, .int .i64 er]) (by simp [results, Tryz.results34, go_sem]) rfl ⟨by rw [← hF.out], hW2.out⟩
   | 4, hj =>
    obtain rfl : gk = 1 := by omega
    have hE1 : (if handM s o.l4 = 0 then chkL s (o.list.drop 5) 5 else ((4 : Int), handM s o.l4)) = r := hE.out
    have HJ := Lib.hid (HH.out wr o.l4 a.a4 a.m4 hW.out HO.out.r4 HO.out.n4)
    by_cases h0 : handM s o.l4 = 0
    ·rw [if_pos h0] at hE1
     rw [h0] at HJ
     have hG := Lib.hid hE1
     clear hE hE1 h0
     go_wp2_with (go_at_call 56; refine HJ.out.mono ?_; rintro e w2 ⟨rfl, hb2⟩; have hW2 := Lib.hid (hW.out.trans (hb2.mono hW.out.size)); clear hb2)
     go_roundg 0
     case measure => omega
     case rel => exact ⟨5, by omega, by go_num, hG, hW2⟩
    ·rw [if_neg h0] at hE1
     have hF := Lib.hid hE1
     clear hE hE1
     generalize handM s o.l4 = er at *
     go_wp2_with (go_at_call 56; refine HJ.out.mono ?_; rintro e w2 ⟨rfl, hb2⟩; have hW2 := Lib.hid (hW1.out.trans ((hW.out.trans (hb2.mono hW.out.size)).mono hW1.out.size)); clear hb2)
     exact bodyPost_ret (v := .tuple #[.int .i64 4, .int .i64 er]) (by simp [results, Tryz.results34, go_sem]) rfl ⟨by rw [← hF.out], hW2.out⟩
   | j + 5, hj =>
    obtain rfl : j = 0 := by omega
    obtain rfl : gk = 0 := by omega
    have hF : Hid (((-1 : Int), (0 : Int)) = r) := hE
    go_wp2_with fail
    exact bodyPost_ret (v := .tuple #[.int .i64 (-1), .int .i64 0]) (by simp [results, Tryz.results34, go_sem]) rfl ⟨by rw [← hF.out], hW1.out.trans (hW.out.mono hW1.out.size)⟩
end Go.Proofs.YtljknappbnoikaaGreatDoor.U
namespace Go.Proofs.YtljknappbnoikaaGreatDoor
open Go.RowKit
theorem blkLt {w : World} {b : Nat} {o : Obj} (h : w.heap[b]? = some o) : b < w.heap.size := (Array.getElem?_eq_some_iff.1 h).1
end Go.Proofs.YtljknappbnoikaaGreatDoor
namespace Go.Proofs.YtljknappbnoikaaGreatDoor
open Go.RowKit
section
variable {w : World} {b : Nat} {a0 a1 a2 a3 a4 a5 v : Value} {T : TypeId}
theorem set6_0 (h : w.heap[b]? = some (.cells #[a0, a1, a2, a3, a4, a5] T (0, 0))) : (w.setCell ⟨b, 0, none⟩ v).heap[b]? = some (.cells #[v, a1, a2, a3, a4, a5] T (0, 0)) := heap_setCell_same w b 0 _ T v h
theorem set6_1 (h : w.heap[b]? = some (.cells #[a0, a1, a2, a3, a4, a5] T (0, 0))) : (w.setCell ⟨b, 1, none⟩ v).heap[b]? = some (.cells #[a0, v, a2, a3, a4, a5] T (0, 0)) := heap_setCell_same w b 1 _ T v h
theorem set6_2 (h : w.heap[b]? = some (.cells #[a0, a1, a2, a3, a4, a5] T (0, 0))) : (w.setCell ⟨b, 2, none⟩ v).heap[b]? = some (.cells #[a0, a1, v, a3, a4, a5] T (0, 0)) := heap_setCell_same w b 2 _ T v h
theorem set6_3 (h : w.heap[b]? = some (.cells #[a0, a1, a2, a3, a4, a5] T (0, 0))) : (w.setCell ⟨b, 3, none⟩ v).heap[b]? = some (.cells #[a0, a1, a2, v, a4, a5] T (0, 0)) := heap_setCell_same w b 3 _ T v h
theorem set6_4 (h : w.heap[b]? = some (.cells #[a0, a1, a2, a3, a4, a5] T (0, 0))) : (w.setCell ⟨b, 4, none⟩ v).heap[b]? = some (.cells #[a0, a1, a2, a3, v, a5] T (0, 0)) := heap_setCell_same w b 4 _ T v h
theorem set6_5 (h : w.heap[b]? = some (.cells #[a0, a1, a2, a3, a4, a5] T (0, 0))) : (w.setCell ⟨b, 5, none⟩ v).heap[b]? = some (.cells #[a0, a1, a2, a3, a4, v] T (0, 0)) := heap_setCell_same w b 5 _ T v h
end
end Go.Proofs.YtljknappbnoikaaGreatDoor
