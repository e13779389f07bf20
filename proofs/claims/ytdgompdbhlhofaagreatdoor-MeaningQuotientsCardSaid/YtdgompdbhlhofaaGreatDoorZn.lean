/- Texts of one proof: UxM, DgX, PxK, PxL. -/
import Derived.Test.YtdgompdbhlhofaaGreatDoorZl
import Derived.Test.YtdgompdbhlhofaaGreatDoorZm
import Derived.Test.YtdgompdbhlhofaaGreatDoorZi
import Derived.Test.YtdgompdbhlhofaaGreatDoorZj
namespace Go.Proofs.YtdgompdbhlhofaaGreatDoor.U
open Go.RowKit
set_option linter.unusedVariables false
set_option linter.unusedSimpArgs false
set_option maxHeartbeats 1000000 in
set_option maxRecDepth 100000 in
theorem fits_any (l : List St) (A : Option Addr) (m : Nat) (w : World) (hR : StsR w l A) (hlen : l.length ≤ maxLen) : Calls Tryz.prog 52 #[.slice A l.length m] w (BB (evL l 100).1 w) := by
  have hmf : ∀ (fn : Fn) (first cap : Array Value) (w : World), (Instr.makeFunc fn first cap).run Tryz.prog w = .ok (.func fn first cap) w := fun _ _ _ _ => rfl
  have hb0 := (Below.refl w.heap.size w).alloc (Nat.le_refl _) (.cells #[.int .i64 100] 3)
  have HE := Lib.hid (every_step l (every_all l) w (w.alloc (.cells #[.int .i64 100] 3)) A m w.heap.size 100 (by decide) (by decide) hb0 (Nat.le_refl _) (newBlk _ _ _ rfl) hR hlen)
  have HB0 := Lib.hid hb0
  clear hR hlen hb0
  generalize evL l 100 = r at *
  go_enter Tryz.func52, Tryz.ntmps52
  go_wp2_with (go_at_call 62; refine HE.out.mono ?_; rintro e w1 ⟨rfl, hL1, hK1⟩; have hW1 := Lib.hid (KpL.below HB0.out hK1 (by simp) (Nat.le_refl _)); clear hL1 hK1)
  go_ret
  exact ⟨rfl, hW1.out⟩
set_option maxHeartbeats 1000000 in
set_option maxRecDepth 100000 in
theorem handler_any {s : List Pw} (hs : allRg s) (hl : s.length ≤ 12) (l : List St) (S A : Option Addr) (sd m : Nat) (w : World) (hL : LaidW w) (hP : PwsR w s S) (hR : StsR w l A) (hlen : l.length ≤ maxLen) :
    Calls Tryz.prog 42 #[.slice S s.length (s.length + sd), .slice A l.length m] w (NN (handM s l) w) := by
  have HF := Lib.hid (fits_any l A m w hR hlen)
  unfold handM
  cases hf : (evL l 100).1 with
  | false =>
    rw [hf] at HF
    clear hf hL hP hR hlen hs
    go_enter Tryz.func42, Tryz.ntmps42
    go_wp2_with (go_at_call 52; refine HF.out.mono ?_; rintro e w1 ⟨rfl, hb1⟩)
    go_ret
    exact ⟨rfl, hb1⟩
  | true =>
    rw [hf] at HF
    have hz := evL_sz l 100 hf
    have HS := Lib.hid (fun (w1 : World) (hb : Below w.heap.size w w1) => stmts_step hs hl l (stmts_all hs hl l) w1 S A sd m (hL.below hb) (hP.below hb) (hR.below hb) hlen hz)
    rw [if_pos rfl]
    generalize stsM s l = r at *
    clear hf hL hP hR hlen hs hz
    go_enter Tryz.func42, Tryz.ntmps42
    go_wp2_with (first
      | (go_at_call 52; refine HF.out.mono ?_; rintro e w1 ⟨rfl, hb1⟩)
      | (go_at_call 53; refine (HS.out _ hb1).mono ?_; rintro e w2 ⟨rfl, hb2⟩; have hW2 := hb1.trans (hb2.mono hb1.size)))
    go_ret
    exact ⟨rfl, hW2⟩
def chkL (s : List Pw) : List (List St) → Nat → Int × Int
  | [], _ => (-1, 0)
  | l :: ls, k => if handM s l = 0 then chkL s ls (k + 1) else ((k : Int), handM s l)
def checkM (us : List Int) (on : List (List St)) : Int × Int :=
  match scopeM us with
  | none => (0, 1)
  | some s => chkL s on 0
theorem ix5 (v0 v1 v2 v3 v4 : Value) (w : World) :
    (Instr.index 32 (.agg #[v0, v1, v2, v3, v4]) (.int .i64 0)).run Tryz.prog w = .ok v0 w ∧ (Instr.index 32 (.agg #[v0, v1, v2, v3, v4]) (.int .i64 1)).run Tryz.prog w = .ok v1 w ∧ (Instr.index 32 (.agg #[v0, v1, v2, v3, v4]) (.int .i64 2)).run Tryz.prog w = .ok v2 w ∧
    (Instr.index 32 (.agg #[v0, v1, v2, v3, v4]) (.int .i64 3)).run Tryz.prog w = .ok v3 w ∧ (Instr.index 32 (.agg #[v0, v1, v2, v3, v4]) (.int .i64 4)).run Tryz.prog w = .ok v4 w := by
  refine ⟨?_, ?_, ?_, ?_, ?_⟩ <;> simp [Instr.index, run_underlying Tryz.underlying32, asIntOf, go_sem]
theorem cells9 {w : World} {b : Nat} {v0 v1 v2 v3 v4 v5 v6 v7 v8 : Value} {T : TypeId} (h : w.heap[b]? = some (.cells #[v0, v1, v2, v3, v4, v5, v6, v7, v8] T (0, 0))) :
    w.cell? ⟨b, 0, none⟩ = some v0 ∧ w.cell? ⟨b, 1, none⟩ = some v1 ∧ w.cell? ⟨b, 2, none⟩ = some v2 ∧ w.cell? ⟨b, 3, none⟩ = some v3 ∧ w.cell? ⟨b, 4, none⟩ = some v4 ∧ w.cell? ⟨b, 5, none⟩ = some v5 ∧ w.cell? ⟨b, 6, none⟩ = some v6 ∧
    w.cell? ⟨b, 7, none⟩ = some v7 ∧ w.cell? ⟨b, 8, none⟩ = some v8 := by
  have e : ∀ j, w.cell? ⟨b, j, none⟩ = (#[v0, v1, v2, v3, v4, v5, v6, v7, v8] : Array Value)[j]? := fun j => cell_of_row _ _ j _ _ (0, 0) h
  exact ⟨e 0, e 1, e 2, e 3, e 4, e 5, e 6, e 7, e 8⟩
structure On where
  l0 : List St
  l1 : List St
  l2 : List St
  l3 : List St
  l4 : List St
def On.list (o : On) : List (List St) := [o.l0, o.l1, o.l2, o.l3, o.l4]
structure OnA where
  a0 : Option Addr
  a1 : Option Addr
  a2 : Option Addr
  a3 : Option Addr
  a4 : Option Addr
  m0 : Nat
  m1 : Nat
  m2 : Nat
  m3 : Nat
  m4 : Nat
structure OnR (w : World) (o : On) (a : OnA) : Prop where
  r0 : StsR w o.l0 a.a0
  r1 : StsR w o.l1 a.a1
  r2 : StsR w o.l2 a.a2
  r3 : StsR w o.l3 a.a3
  r4 : StsR w o.l4 a.a4
  n0 : o.l0.length ≤ maxLen
  n1 : o.l1.length ≤ maxLen
  n2 : o.l2.length ≤ maxLen
  n3 : o.l3.length ≤ maxLen
  n4 : o.l4.length ≤ maxLen
theorem OnR.below {w w' : World} {o : On} {a : OnA} (h : OnR w o a) (hb : Below w.heap.size w w') : OnR w' o a :=
  ⟨h.r0.below hb, h.r1.below hb, h.r2.below hb, h.r3.below hb, h.r4.below hb, h.n0, h.n1, h.n2, h.n3, h.n4⟩
abbrev pgArr (x : ByteArray) (VA : Option Addr) (vn vm : Nat) (o : On) (a : OnA) (wi pa : Int) : Array Value := #[.string x, .slice VA vn vm, .slice a.a0 o.l0.length a.m0, .slice a.a1 o.l1.length a.m1, .slice a.a2 o.l2.length a.m2, .slice a.a3 o.l3.length a.m3, .slice a.a4 o.l4.length a.m4, .int .i64 wi, .int .i64 pa]
abbrev pgv (x : ByteArray) (VA : Option Addr) (vn vm : Nat) (o : On) (a : OnA) (wi pa : Int) : Value := .agg #[.string x, .slice VA vn vm, .slice a.a0 o.l0.length a.m0, .slice a.a1 o.l1.length a.m1, .slice a.a2 o.l2.length a.m2, .slice a.a3 o.l3.length a.m3, .slice a.a4 o.l4.length a.m4, .int .i64 wi, .int .i64 pa]
set_option maxHeartbeats 4000000 in
set_option maxRecDepth 100000 in
theorem Check_any (x : ByteArray) (vs : List Vr) (VA : Option Addr) (vm : Nat) (o : On) (a : OnA) (wi pa : Int) (w : World) (hL : LaidW w) (hV : VarsR w vs VA) (hO : OnR w o a) :
    Calls Tryz.prog 21 #[pgv x VA vs.length vm o a wi pa] w (VV (.tuple #[.int .i64 (checkM (vs.map (·.u)) o.list).1, .int .i64 (checkM (vs.map (·.u)) o.list).2]) w) := by
  have hb0 := (Below.refl w.heap.size w).alloc (Nat.le_refl _) (.cells (pgArr x VA vs.length vm o a wi pa) 34)
  have HX0 := Lib.hid (newBlk w (.cells (pgArr x VA vs.length vm o a wi pa) 34) _ rfl)
  have HS := Lib.hid (scopeOf_any vs VA vm _ (hL.below hb0) (hV.below hb0))
  have HB0 := Lib.hid hb0
  have HL := Lib.hid hL
  have HO := Lib.hid hO
  have hix := ix5 (.slice a.a0 o.l0.length a.m0) (.slice a.a1 o.l1.length a.m1) (.slice a.a2 o.l2.length a.m2) (.slice a.a3 o.l3.length a.m3) (.slice a.a4 o.l4.length a.m4)
  have i0 := fun w => (hix w).1
  have i1 := fun w => (hix w).2.1
  have i2 := fun w => (hix w).2.2.1
  have i3 := fun w => (hix w).2.2.2.1
  have i4 := fun w => (hix w).2.2.2.2
  unfold checkM
  obtain ⟨q, hq⟩ : ∃ q, scopeM (vs.map (·.u)) = q := ⟨_, rfl⟩
  rw [hq] at HS ⊢
  have HQ := Lib.hid hq
  clear hL hV hO hb0 hix hq
  obtain ⟨s0, s1, s2, s3, s4, s5, s6, s7, s8⟩ := cells9 HX0.out
  have hx0 := blkLt HX0.out
  generalize vs.length = vn at *
  rcases q with _ | s
  · go_enter Tryz.func21, Tryz.ntmps21
    go_wp2_with (go_at_call 41; refine HS.out.mono ?_; rintro e w1 ⟨he, hb1⟩; simp only at he; subst he; have hW1 := Lib.hid (HB0.out.trans (hb1.mono (by simp))); clear hb1)
    exact bodyPost_ret (v := .tuple #[.int .i64 0, .int .i64 1]) (by simp [results, Tryz.results21, go_sem]) rfl ⟨rfl, hW1.out⟩
  · obtain ⟨hrg, hl12, -⟩ := scopeM_rg HQ.out
    have hrg := Lib.hid hrg
    simp only
    obtain ⟨r, hr⟩ : ∃ r, chkL s o.list 0 = r := ⟨_, rfl⟩
    rw [hr]
    have HR : Hid (chkL s (o.list.drop 0) 0 = r) := Lib.hid hr
    clear hr
    go_enter Tryz.func21, Tryz.ntmps21
    go_wp2_with (go_at_call 41; refine HS.out.mono ?_; rintro e w1 ⟨⟨SA, sc, he, hp1⟩, hb1⟩; subst he; have hW1 := Lib.hid (HB0.out.trans (hb1.mono (by simp))); have HX1 := Lib.hid ((hb1.block _ hx0).trans HX0.out); have HP := Lib.hid hp1; clear hb1 hp1 s0 s1 s2 s3 s4 s5 s6 s7 s8; obtain ⟨s0, s1, s2, s3, s4, s5, s6, s7, s8⟩ := cells9 HX1.out; have hx1 := blkLt HX1.out)
    have HH := Lib.hid (fun (wx : World) (l : List St) (A : Option Addr) (m : Nat) (hb : Below w1.heap.size w1 wx) (hR : StsR w l A) (hn : l.length ≤ maxLen) =>
      handler_any hrg.out hl12 l SA A sc m wx (HL.out.below (hW1.out.trans (hb.mono hW1.out.size))) (HP.out.below hb) (hR.below (hW1.out.trans (hb.mono hW1.out.size))) hn)
    clear s0 s1 s2 s3 s4 s5 s6 s7 s8 HX1 HX0 HS HB0
    go_loopg [19] 5 (fun gk i wr => ∃ (j : Nat), j + gk = 5 ∧ i = .int .i64 j ∧ Hid (chkL s (o.list.drop j) j = r) ∧ Hid (Below w1.heap.size w1 wr))
    case atStart => exact ⟨0, rfl, rfl, HR, Lib.hid (Below.refl _ _)⟩
    case round =>
      obtain ⟨j, hj, rfl, hE, hW⟩ := hrel
      match j, hj with
      | 0, hj =>
        obtain rfl : gk = 5 := by omega
        have hE1 : (if handM s o.l0 = 0 then chkL s (o.list.drop 1) 1 else ((0 : Int), handM s o.l0)) = r := hE.out
        have HJ := Lib.hid (HH.out wr o.l0 a.a0 a.m0 hW.out HO.out.r0 HO.out.n0)
        by_cases h0 : handM s o.l0 = 0
        · rw [if_pos h0] at hE1
          rw [h0] at HJ
          have hG := Lib.hid hE1
          clear hE hE1 h0
          go_wp2_with (go_at_call 42; refine HJ.out.mono ?_; rintro e w2 ⟨rfl, hb2⟩; have hW2 := Lib.hid (hW.out.trans (hb2.mono hW.out.size)); clear hb2)
          go_roundg 4
          case measure => omega
          case rel => exact ⟨1, by omega, by go_num, hG, hW2⟩
        · rw [if_neg h0] at hE1
          have hF := Lib.hid hE1
          clear hE hE1
          generalize handM s o.l0 = er at *
          go_wp2_with (go_at_call 42; refine HJ.out.mono ?_; rintro e w2 ⟨rfl, hb2⟩; have hW2 := Lib.hid (hW1.out.trans ((hW.out.trans (hb2.mono hW.out.size)).mono hW1.out.size)); clear hb2)
          exact bodyPost_ret (v := .tuple #[.int .i64 0, .int .i64 er]) (by simp [results, Tryz.results21, go_sem]) rfl ⟨by rw [← hF.out], hW2.out⟩
      | 1, hj =>
        obtain rfl : gk = 4 := by omega
        have hE1 : (if handM s o.l1 = 0 then chkL s (o.list.drop 2) 2 else ((1 : Int), handM s o.l1)) = r := hE.out
        have HJ := Lib.hid (HH.out wr o.l1 a.a1 a.m1 hW.out HO.out.r1 HO.out.n1)
        by_cases h0 : handM s o.l1 = 0
        · rw [if_pos h0] at hE1
          rw [h0] at HJ
          have hG := Lib.hid hE1
          clear hE hE1 h0
          go_wp2_with (go_at_call 42; refine HJ.out.mono ?_; rintro e w2 ⟨rfl, hb2⟩; have hW2 := Lib.hid (hW.out.trans (hb2.mono hW.out.size)); clear hb2)
          go_roundg 3
          case measure => omega
          case rel => exact ⟨2, by omega, by go_num, hG, hW2⟩
        · rw [if_neg h0] at hE1
          have hF := Lib.hid hE1
          clear hE hE1
          generalize handM s o.l1 = er at *
          go_wp2_with (go_at_call 42; refine HJ.out.mono ?_; rintro e w2 ⟨rfl, hb2⟩; have hW2 := Lib.hid (hW1.out.trans ((hW.out.trans (hb2.mono hW.out.size)).mono hW1.out.size)); clear hb2)
          exact bodyPost_ret (v := .tuple #[.int .i64 1, .int .i64 er]) (by simp [results, Tryz.results21, go_sem]) rfl ⟨by rw [← hF.out], hW2.out⟩
      | 2, hj =>
        obtain rfl : gk = 3 := by omega
        have hE1 : (if handM s o.l2 = 0 then chkL s (o.list.drop 3) 3 else ((2 : Int), handM s o.l2)) = r := hE.out
        have HJ := Lib.hid (HH.out wr o.l2 a.a2 a.m2 hW.out HO.out.r2 HO.out.n2)
        by_cases h0 : handM s o.l2 = 0
        · rw [if_pos h0] at hE1
          rw [h0] at HJ
          have hG := Lib.hid hE1
          clear hE hE1 h0
          go_wp2_with (go_at_call 42; refine HJ.out.mono ?_; rintro e w2 ⟨rfl, hb2⟩; have hW2 := Lib.hid (hW.out.trans (hb2.mono hW.out.size)); clear hb2)
          go_roundg 2
          case measure => omega
          case rel => exact ⟨3, by omega, by go_num, hG, hW2⟩
        · rw [if_neg h0] at hE1
          have hF := Lib.hid hE1
          clear hE hE1
          generalize handM s o.l2 = er at *
          go_wp2_with (go_at_call 42; refine HJ.out.mono ?_; rintro e w2 ⟨rfl, hb2⟩; have hW2 := Lib.hid (hW1.out.trans ((hW.out.trans (hb2.mono hW.out.size)).mono hW1.out.size)); clear hb2)
          exact bodyPost_ret (v := .tuple #[.int .i64 2, .int .i64 er]) (by simp [results, Tryz.results21, go_sem]) rfl ⟨by rw [← hF.out], hW2.out⟩
      | 3, hj =>
        obtain rfl : gk = 2 := by omega
        have hE1 : (if handM s o.l3 = 0 then chkL s (o.list.drop 4) 4 else ((3 : Int), handM s o.l3)) = r := hE.out
        have HJ := Lib.hid (HH.out wr o.l3 a.a3 a.m3 hW.out HO.out.r3 HO.out.n3)
        by_cases h0 : handM s o.l3 = 0
        · rw [if_pos h0] at hE1
          rw [h0] at HJ
          have hG := Lib.hid hE1
          clear hE hE1 h0
          go_wp2_with (go_at_call 42; refine HJ.out.mono ?_; rintro e w2 ⟨rfl, hb2⟩; have hW2 := Lib.hid (hW.out.trans (hb2.mono hW.out.size)); clear hb2)
          go_roundg 1
          case measure => omega
          case rel => exact ⟨4, by omega, by go_num, hG, hW2⟩
        · rw [if_neg h0] at hE1
          have hF := Lib.hid hE1
          clear hE hE1
          generalize handM s o.l3 = er at *
          go_wp2_with (go_at_call 42; refine HJ.out.mono ?_; rintro e w2 ⟨rfl, hb2⟩; have hW2 := Lib.hid (hW1.out.trans ((hW.out.trans (hb2.mono hW.out.size)).mono hW1.out.size)); clear hb2)
          exact bodyPost_ret (v := .tuple #[.int .i64 3, .int .i64 er]) (by simp [results, Tryz.results21, go_sem]) rfl ⟨by rw [← hF.out], hW2.out⟩
      | 4, hj =>
        obtain rfl : gk = 1 := by omega
        have hE1 : (if handM s o.l4 = 0 then chkL s (o.list.drop 5) 5 else ((4 : Int), handM s o.l4)) = r := hE.out
        have HJ := Lib.hid (HH.out wr o.l4 a.a4 a.m4 hW.out HO.out.r4 HO.out.n4)
        by_cases h0 : handM s o.l4 = 0
        · rw [if_pos h0] at hE1
          rw [h0] at HJ
          have hG := Lib.hid hE1
          clear hE hE1 h0
          go_wp2_with (go_at_call 42; refine HJ.out.mono ?_; rintro e w2 ⟨rfl, hb2⟩; have hW2 := Lib.hid (hW.out.trans (hb2.mono hW.out.size)); clear hb2)
          go_roundg 0
          case measure => omega
          case rel => exact ⟨5, by omega, by go_num, hG, hW2⟩
        · rw [if_neg h0] at hE1
          have hF := Lib.hid hE1
          clear hE hE1
          generalize handM s o.l4 = er at *
          go_wp2_with (go_at_call 42; refine HJ.out.mono ?_; rintro e w2 ⟨rfl, hb2⟩; have hW2 := Lib.hid (hW1.out.trans ((hW.out.trans (hb2.mono hW.out.size)).mono hW1.out.size)); clear hb2)
          exact bodyPost_ret (v := .tuple #[.int .i64 4, .int .i64 er]) (by simp [results, Tryz.results21, go_sem]) rfl ⟨by rw [← hF.out], hW2.out⟩
      | j + 5, hj =>
        obtain rfl : j = 0 := by omega
        obtain rfl : gk = 0 := by omega
        have hF : Hid (((-1 : Int), (0 : Int)) = r) := hE
        go_wp2_with fail
        exact bodyPost_ret (v := .tuple #[.int .i64 (-1), .int .i64 0]) (by simp [results, Tryz.results21, go_sem]) rfl ⟨by rw [← hF.out], hW1.out.trans (hW.out.mono hW1.out.size)⟩
end Go.Proofs.YtdgompdbhlhofaaGreatDoor.U

namespace Go.Proofs.YtdgompdbhlhofaaGreatDoor
open Go.RowKit
set_option linter.unusedVariables false
set_option linter.unusedSimpArgs false
section
variable {P : Program} {ops : Array Oper} {Q : Exit → Act → World → Prop} {md : Region.Mode} {S : World → Prop} {X : List Nat}
def wpAnyX (P : Program) (md : Region.Mode) (ops : Array Oper) (Q : Exit → Act → World → Prop) (S : World → Prop) (X : List Nat) : Nat → Array Bool → Act → World → Prop
  | 0, listed, a, W => Region.ready md ops listed = [] ∧ ∀ w, Gr W w → Q .normal a w
  | fuel + 1, listed, a, W => (Region.ready md ops listed = [] → ∀ w, Gr W w → Q .normal a w) ∧
    ∀ i ∈ Region.ready md ops listed, ∀ w, Gr W w → wpOp P ops Q i (fun a' w' => (X.contains i = true ∨ S w') ∧ wpAnyX P md ops Q S X fuel (listed.setIfInBounds i true) a' w') a w
theorem wpAnyX.up {fuel : Nat} {listed : Array Bool} {a : Act} {W W' : World} (h : wpAnyX P md ops Q S X fuel listed a W) (hg : Gr W W') : wpAnyX P md ops Q S X fuel listed a W' := by
  cases fuel with
  | zero => exact ⟨h.1, fun w hw => h.2 w (hg.tr hw)⟩
  | succ n => exact ⟨fun hr w hw => h.1 hr w (hg.tr hw), fun i hi w hw => h.2 i hi w (hg.tr hw)⟩
theorem wpAny_of_X : ∀ (fuel : Nat) (listed : Array Bool) (a : Act) (w : World), wpAnyX P md ops Q S X fuel listed a w → wpAny P md ops Q fuel listed a w
  | 0, _, _, w, h => ⟨h.1, h.2 w (Below.refl _ _)⟩
  | fuel + 1, _, _, w, h => ⟨fun hr => h.1 hr w (Below.refl _ _), fun i hi => wpOp_mono (fun a' w' h' => wpAny_of_X fuel _ a' w' h'.2) (h.2 i hi w (Below.refl _ _))⟩
def Waits (md : Region.Mode) (ops : Array Oper) (i : Nat) (listed : Array Bool) (C : List Nat) : Prop :=
  ∀ m ∈ C, m ≠ i ∧ listed.getD m true = false ∧ ∃ om, ops[m]? = some om ∧ ∃ e ∈ om.after, Region.binds md e = true ∧ (e.on = i ∨ e.on ∈ C)
theorem Waits.not_ready {i j : Nat} {listed : Array Bool} {C : List Nat} (h : Waits md ops i listed C) (hi : listed.getD i true = false) (hj : j ∈ Region.ready md ops listed) : j ∉ C := by
  intro hc
  obtain ⟨-, oj, hoj, hall⟩ := mem_ready.1 hj
  obtain ⟨-, -, om, hom, e, he, hb, hon⟩ := h j hc
  rw [hoj] at hom
  cases hom
  have h1 := hall e he hb
  have h0 : listed.getD e.on true = false := by
    rcases hon with h2 | h2
    · rw [h2]; exact hi
    · exact (h _ h2).2.1
  rcases Nat.lt_or_ge e.on listed.size with h' | h'
  · simp [h'] at h0 h1; rw [h0] at h1; cases h1
  · simp [Array.getElem?_eq_none h'] at h1
theorem Waits.step {i j : Nat} {listed : Array Bool} {C : List Nat} (h : Waits md ops i listed C) (hj : j ∉ C) : Waits md ops i (listed.setIfInBounds j true) C := fun m hm => by
  obtain ⟨h1, h2, h3⟩ := h m hm
  refine ⟨h1, ?_, h3⟩
  have hne : j ≠ m := fun e => hj (e ▸ hm)
  rw [getD_set_ne true hne]
  exact h2
theorem wpAnyX_first (hSG : ∀ w w', S w → Gr w w' → S w') {i : Nat} {oi : Oper} {v : Value} {C : List Nat} (hi : ops[i]? = some oi) (hsel : ∀ (j : Nat) (o : Oper) cs b, ops[j]? = some o → o.op ≠ .select cs b)
    (hQ : ∀ c a w, Q (.panic c) (a.put oi.dst v) w → Q (.panic c) a w) (hxi : X.contains i = false) :
    ∀ (fuel : Nat) (listed : Array Bool) (a : Act) (W : World), Waits md ops i listed C → (∀ j, X.contains j = true → j ∈ C ∨ listed.getD j true = true) →
      (∀ j oj, ops[j]? = some oj → j ≠ i → listed.getD j true = false → (∀ e ∈ oj.after, Region.binds md e = true → e.on ≠ i) → oi.apart ops oj = true) →
      i ∈ Region.ready md ops listed → Gives P ops S oi v a → S W →
      wpAnyX P md ops Q S X fuel (listed.setIfInBounds i true) (a.put oi.dst v) W → wpAnyX P md ops Q S X (fuel + 1) listed a W := by
  intro fuel
  induction fuel with
  | zero =>
    intro listed a W hC hX _ hr hy hS H
    refine ⟨fun h => (by rw [h] at hr; cases hr), fun j hj w hw => ?_⟩
    by_cases hji : j = i
    · subst hji; exact hy.wpOp hi (hSG _ _ hS hw) (fun w' hw' => ⟨.inr (hSG _ _ hS (hw.tr hw')), H.up (hw.tr hw')⟩)
    · have := ready_mono hj hji
      rw [H.1] at this
      cases this
  | succ fuel ih =>
    intro listed a W hC hX hfree hr hy hS H
    refine ⟨fun h => (by rw [h] at hr; cases hr), fun j hj w hw => ?_⟩
    by_cases hji : j = i
    · subst hji; exact hy.wpOp hi (hSG _ _ hS hw) (fun w' hw' => ⟨.inr (hSG _ _ hS (hw.tr hw')), H.up (hw.tr hw')⟩)
    · have h1 := H.2 j (ready_mono hj hji) w hw
      obtain ⟨hjun, oj, hoj, hall⟩ := mem_ready.1 hj
      have hi0 := (mem_ready.1 hr).1
      have hjC := hC.not_ready hi0 hj
      have hjX : X.contains j = false := by
        rcases hx : X.contains j with _ | _
        · rfl
        · rcases hX j hx with h' | h'
          · exact absurd h' hjC
          · rw [hjun] at h'; cases h'
      have hnot : ∀ e ∈ oj.after, Region.binds md e = true → e.on ≠ i := fun e he hb heq => by
        have h1 := hall e he hb
        have h0 := hi0
        rw [heq] at h1
        rcases Nat.lt_or_ge i listed.size with h' | h'
        · simp [h'] at h0 h1; rw [h0] at h1; cases h1
        · simp [Array.getElem?_eq_none h'] at h1
      have h2 := wpOp_putG hoj (hfree j oj hoj hji hjun hnot) (fun cs b => hsel i oi cs b hi) (fun cs b => hsel j oj cs b hoj) hQ hy h1
      have hfree' : ∀ k ok, ops[k]? = some ok → k ≠ i → (listed.setIfInBounds j true).getD k true = false →
          (∀ e ∈ ok.after, Region.binds md e = true → e.on ≠ i) → oi.apart ops ok = true := fun k ok hk hki hun hno => by
        refine hfree k ok hk hki ?_ hno
        by_cases hjk : j = k
        · subst hjk; exact hjun
        · rw [getD_set_ne true hjk] at hun; exact hun
      have hX' : ∀ k, X.contains k = true → k ∈ C ∨ (listed.setIfInBounds j true).getD k true = true := fun k hk => by
        by_cases hjk : j = k
        · subst hjk; rw [hjX] at hk; cases hk
        · rw [getD_set_ne true hjk]; exact hX k hk
      refine wpOp_mono (fun a' w' h3 => ?_) h2
      have hSw : S w' := h3.2.1.resolve_left (by rw [hjX]; decide)
      refine ⟨.inr hSw, ih (listed.setIfInBounds j true) a' w' (hC.step hjC) hX' hfree' (ready_mono hr (Ne.symm hji)) h3.1 hSw ?_⟩
      rw [Array.setIfInBounds_comm _ _ hji]
      exact h3.2.2
def waitsB (md : Region.Mode) (ops : Array Oper) (listed : Array Bool) (i : Nat) (C : List Nat) : Bool :=
  C.all (fun m => m != i && (!(listed.getD m true) && (match ops[m]? with | none => false | some om => om.after.any (fun e => Region.binds md e && (e.on == i || C.contains e.on)))))
theorem waitsB_spec {i : Nat} {listed : Array Bool} {C : List Nat} (h : waitsB md ops listed i C = true) : Waits md ops i listed C := fun m hm => by
  have h1 := List.all_eq_true.1 h m hm
  simp only [Bool.and_eq_true, bne_iff_ne, ne_eq, Bool.not_eq_true'] at h1
  obtain ⟨h2, h3, h4⟩ := h1
  refine ⟨h2, h3, ?_⟩
  rcases ho : ops[m]? with _ | om
  · rw [ho] at h4; cases h4
  · rw [ho] at h4
    obtain ⟨j, hj, hj2⟩ := Array.any_eq_true.1 h4
    refine ⟨om, rfl, om.after[j], Array.getElem_mem hj, ?_⟩
    simp only [Bool.and_eq_true, Bool.or_eq_true, beq_iff_eq, List.contains_iff_mem] at hj2
    exact hj2
def takeOkX (md : Region.Mode) (ops : Array Oper) (listed : Array Bool) (i : Nat) (C X : List Nat) : Bool :=
  waitsB md ops listed i C && (X.all (fun j => C.contains j || listed.getD j true) && !(X.contains i))
theorem wpAnyX_take (hSG : Hid (∀ w w', S w → Gr w w' → S w')) {i : Nat} (C : List Nat) {oi : Oper} {v : Value} {fuel : Nat} {listed : Array Bool} {a : Act} {W : World} (hi : ops[i]? = some oi)
    (hs : Region.noSelect ops = true) (hf : Region.free md ops listed i = true) (hr : (Region.ready md ops listed).contains i = true) (hx : takeOkX md ops listed i C X = true)
    (hQ : ∀ c a w, Q (.panic c) (a.put oi.dst v) w → Q (.panic c) a w) (hy : Gives P ops S oi v a) (hS : Hid (S W))
    (h : wpAnyX P md ops Q S X fuel (listed.setIfInBounds i true) (a.put oi.dst v) W) : wpAnyX P md ops Q S X (fuel + 1) listed a W := by
  simp only [takeOkX, Bool.and_eq_true, Bool.not_eq_true', List.all_eq_true, Bool.or_eq_true, List.contains_iff_mem] at hx
  obtain ⟨h1, h2, h3⟩ := hx
  exact wpAnyX_first hSG.out hi (Region.noSelect_spec hs) hQ h3 fuel listed a W (waitsB_spec h1) (fun j hj => h2 j (by simpa using hj)) (Region.free_spec hi hf) (by simpa using hr) hy hS.out h
theorem wpAnyX_done {listed : Array Bool} {a : Act} {W : World} (hr : Region.ready md ops listed = []) (h : ∀ w, Gr W w → Q .normal a w) : ∀ fuel, wpAnyX P md ops Q S X fuel listed a W
  | 0 => ⟨hr, h⟩
  | _ + 1 => ⟨fun _ => h, by rw [hr]; simp⟩
theorem wpAnyX_one {i : Nat} {o : Oper} {fuel : Nat} {listed : Array Bool} {a : Act} {W : World} (hr : Region.ready md ops listed = [i]) (ho : ops[i]? = some o)
    (h : ∀ w, Gr W w → ∀ K' : Act → World → Prop, Shut (∀ a w, S w → (Hid (S w) → wpAnyX P md ops Q S X fuel (listed.setIfInBounds i true) a w) → K' a w) → if Region.wanted o (yielded ops a.tmps) = true then Oper.wp P o a w K' Q else K' (a.put o.dst undef) w) :
    wpAnyX P md ops Q S X (fuel + 1) listed a W := by
  refine ⟨fun h0 => ?_, fun j hj w hw => ?_⟩
  · rw [hr] at h0; cases h0
  · rw [hr] at hj
    obtain rfl : j = i := by simpa using hj
    exact wpOp_step ho (fun K' hK => h w hw K' (fun a w hS hW => hK a w ⟨.inr hS, hW hS⟩))
theorem wpAnyX_oneX {i : Nat} {o : Oper} {fuel : Nat} {listed : Array Bool} {a : Act} {W : World} (hr : Region.ready md ops listed = [i]) (hx : X.contains i = true) (ho : ops[i]? = some o)
    (h : ∀ w, Gr W w → ∀ K' : Act → World → Prop, Shut (∀ a w, wpAnyX P md ops Q S X fuel (listed.setIfInBounds i true) a w → K' a w) → if Region.wanted o (yielded ops a.tmps) = true then Oper.wp P o a w K' Q else K' (a.put o.dst undef) w) :
    wpAnyX P md ops Q S X (fuel + 1) listed a W := by
  refine ⟨fun h0 => ?_, fun j hj w hw => ?_⟩
  · rw [hr] at h0; cases h0
  · rw [hr] at hj
    obtain rfl : j = i := by simpa using hj
    exact wpOp_step ho (fun K' hK => h w hw K' (fun a w hW => hK a w ⟨.inl hx, hW⟩))
theorem wp_region_X (X : List Nat) {id : Nat} {a : Act} {w : World} (hm : P.follows .mixedOrders = true) (hS : S w.drew)
    (h : Hid (S w.drew) → wpAnyX P .any ops Q S X ops.size (Array.replicate ops.size false) a w.drew) : (Code.region id ops true).wp P Q a w :=
  wp_region_any hm (wpAny_of_X _ _ _ _ (h hS))
end
end Go.Proofs.YtdgompdbhlhofaaGreatDoor

namespace Go.Proofs.YtdgompdbhlhofaaGreatDoor
open Go.RowKit
set_option linter.unusedVariables false
set_option linter.unusedSimpArgs false
theorem blkLt {w : World} {b : Nat} {o : Obj} (h : w.heap[b]? = some o) : b < w.heap.size := (Array.getElem?_eq_some_iff.1 h).1
end Go.Proofs.YtdgompdbhlhofaaGreatDoor

namespace Go.Proofs.YtdgompdbhlhofaaGreatDoor
open Go.RowKit
set_option linter.unusedVariables false
set_option linter.unusedSimpArgs false
section
variable {w : World} {b : Nat} {a0 a1 a2 a3 a4 a5 v : Value} {T : TypeId}
theorem set6_0 (h : w.heap[b]? = some (.cells #[a0, a1, a2, a3, a4, a5] T (0, 0))) : (w.setCell ⟨b, 0, none⟩ v).heap[b]? = some (.cells #[v, a1, a2, a3, a4, a5] T (0, 0)) := heap_setCell_same w b 0 _ T v h
theorem set6_1 (h : w.heap[b]? = some (.cells #[a0, a1, a2, a3, a4, a5] T (0, 0))) : (w.setCell ⟨b, 1, none⟩ v).heap[b]? = some (.cells #[a0, v, a2, a3, a4, a5] T (0, 0)) := heap_setCell_same w b 1 _ T v h
theorem set6_2 (h : w.heap[b]? = some (.cells #[a0, a1, a2, a3, a4, a5] T (0, 0))) : (w.setCell ⟨b, 2, none⟩ v).heap[b]? = some (.cells #[a0, a1, v, a3, a4, a5] T (0, 0)) := heap_setCell_same w b 2 _ T v h
theorem set6_3 (h : w.heap[b]? = some (.cells #[a0, a1, a2, a3, a4, a5] T (0, 0))) : (w.setCell ⟨b, 3, none⟩ v).heap[b]? = some (.cells #[a0, a1, a2, v, a4, a5] T (0, 0)) := heap_setCell_same w b 3 _ T v h
theorem set6_4 (h : w.heap[b]? = some (.cells #[a0, a1, a2, a3, a4, a5] T (0, 0))) : (w.setCell ⟨b, 4, none⟩ v).heap[b]? = some (.cells #[a0, a1, a2, a3, v, a5] T (0, 0)) := heap_setCell_same w b 4 _ T v h
theorem set6_5 (h : w.heap[b]? = some (.cells #[a0, a1, a2, a3, a4, a5] T (0, 0))) : (w.setCell ⟨b, 5, none⟩ v).heap[b]? = some (.cells #[a0, a1, a2, a3, a4, v] T (0, 0)) := heap_setCell_same w b 5 _ T v h
end
end Go.Proofs.YtdgompdbhlhofaaGreatDoor
