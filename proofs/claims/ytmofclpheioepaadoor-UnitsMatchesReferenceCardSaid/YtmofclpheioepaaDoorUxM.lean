/- Contracts of package units: a handler, and Check; condition: the listed package-level variables hold what the text lays. -/
import Derived.Test.YtmofclpheioepaaDoorUxK
import Derived.Test.YtmofclpheioepaaDoorUxL
namespace Go.Proofs.YtmofclpheioepaaDoor
open Go.RowKit
set_option linter.unusedVariables false
set_option linter.unusedSimpArgs false

set_option maxHeartbeats 1000000 in
set_option maxRecDepth 100000 in
theorem fits_any (l : List St) (A : Option Addr) (m : Nat) (w : World) (hR : StsR w l A) (hlen : l.length ≤ maxLen) : Calls Tryd.prog 43 #[.slice A l.length m] w (BB (evL l 100).1 w) := by
  have hmf : ∀ (fn : Fn) (first cap : Array Value) (w : World), (Instr.makeFunc fn first cap).run Tryd.prog w = .ok (.func fn first cap) w := fun _ _ _ _ => rfl
  have hb0 := (Below.refl w.heap.size w).alloc (Nat.le_refl _) (.cells #[.int .i64 100] 3)
  have HE := Lib.hid (every_step l (every_all l) w (w.alloc (.cells #[.int .i64 100] 3)) A m w.heap.size 100 (by decide) (by decide) hb0 (Nat.le_refl _) (newBlk _ _ _ rfl) hR hlen)
  have HB0 := Lib.hid hb0
  clear hR hlen hb0
  generalize evL l 100 = r at *
  go_enter Tryd.func43, Tryd.ntmps43
  go_wp2_with (go_at_call 52; refine HE.out.mono ?_; rintro e w1 ⟨rfl, hL1, hK1⟩; have hW1 := Lib.hid (KpL.below HB0.out hK1 (by simp) (Nat.le_refl _)); clear hL1 hK1)
  go_ret
  exact ⟨rfl, hW1.out⟩
set_option maxHeartbeats 1000000 in
set_option maxRecDepth 100000 in
theorem handler_any {s : List Pw} (hs : allRg s) (hl : s.length ≤ 12) (l : List St) (S A : Option Addr) (sd m : Nat) (w : World) (hL : LaidW w) (hP : PwsR w s S) (hR : StsR w l A) (hlen : l.length ≤ maxLen) :
    Calls Tryd.prog 34 #[.slice S s.length (s.length + sd), .slice A l.length m] w (NN (handM s l) w) := by
  have HF := Lib.hid (fits_any l A m w hR hlen)
  unfold handM
  cases hf : (evL l 100).1 with
  | false =>
    rw [hf] at HF
    clear hf hL hP hR hlen hs
    go_enter Tryd.func34, Tryd.ntmps34
    go_wp2_with (go_at_call 43; refine HF.out.mono ?_; rintro e w1 ⟨rfl, hb1⟩)
    go_ret
    exact ⟨rfl, hb1⟩
  | true =>
    rw [hf] at HF
    have hz := evL_sz l 100 hf
    have HS := Lib.hid (fun (w1 : World) (hb : Below w.heap.size w w1) => stmts_step hs hl l (stmts_all hs hl l) w1 S A sd m (hL.below hb) (hP.below hb) (hR.below hb) hlen hz)
    rw [if_pos rfl]
    generalize stsM s l = r at *
    clear hf hL hP hR hlen hs hz
    go_enter Tryd.func34, Tryd.ntmps34
    go_wp2_with (first
      | (go_at_call 43; refine HF.out.mono ?_; rintro e w1 ⟨rfl, hb1⟩)
      | (go_at_call 44; refine (HS.out _ hb1).mono ?_; rintro e w2 ⟨rfl, hb2⟩; have hW2 := hb1.trans (hb2.mono hb1.size)))
    go_ret
    exact ⟨rfl, hW2⟩
/-- the first handler with an error -/
def chkL (s : List Pw) : List (List St) → Nat → Int × Int
  | [], _ => (-1, 0)
  | l :: ls, k => if handM s l = 0 then chkL s ls (k + 1) else ((k : Int), handM s l)
def checkM (us : List Int) (on : List (List St)) : Int × Int :=
  match scopeM us with
  | none => (0, 1)
  | some s => chkL s on 0
theorem ix5 (v0 v1 v2 v3 v4 : Value) (w : World) :
    (Instr.index 24 (.agg #[v0, v1, v2, v3, v4]) (.int .i64 0)).run Tryd.prog w = .ok v0 w ∧ (Instr.index 24 (.agg #[v0, v1, v2, v3, v4]) (.int .i64 1)).run Tryd.prog w = .ok v1 w ∧ (Instr.index 24 (.agg #[v0, v1, v2, v3, v4]) (.int .i64 2)).run Tryd.prog w = .ok v2 w ∧
    (Instr.index 24 (.agg #[v0, v1, v2, v3, v4]) (.int .i64 3)).run Tryd.prog w = .ok v3 w ∧ (Instr.index 24 (.agg #[v0, v1, v2, v3, v4]) (.int .i64 4)).run Tryd.prog w = .ok v4 w := by
  refine ⟨?_, ?_, ?_, ?_, ?_⟩ <;> simp [Instr.index, run_underlying Tryd.underlying24, asIntOf, go_sem]
theorem cells9 {w : World} {b : Nat} {v0 v1 v2 v3 v4 v5 v6 v7 v8 : Value} {T : TypeId} (h : w.heap[b]? = some (.cells #[v0, v1, v2, v3, v4, v5, v6, v7, v8] T (0, 0))) :
    w.cell? ⟨b, 0, none⟩ = some v0 ∧ w.cell? ⟨b, 1, none⟩ = some v1 ∧ w.cell? ⟨b, 2, none⟩ = some v2 ∧ w.cell? ⟨b, 3, none⟩ = some v3 ∧ w.cell? ⟨b, 4, none⟩ = some v4 ∧ w.cell? ⟨b, 5, none⟩ = some v5 ∧ w.cell? ⟨b, 6, none⟩ = some v6 ∧
    w.cell? ⟨b, 7, none⟩ = some v7 ∧ w.cell? ⟨b, 8, none⟩ = some v8 := by
  have e : ∀ j, w.cell? ⟨b, j, none⟩ = (#[v0, v1, v2, v3, v4, v5, v6, v7, v8] : Array Value)[j]? := fun j => cell_of_row _ _ j _ _ (0, 0) h
  exact ⟨e 0, e 1, e 2, e 3, e 4, e 5, e 6, e 7, e 8⟩
/-- five handlers -/
structure On where
  l0 : List St
  l1 : List St
  l2 : List St
  l3 : List St
  l4 : List St
def On.list (o : On) : List (List St) := [o.l0, o.l1, o.l2, o.l3, o.l4]
/-- their addresses and rooms -/
structure OnA where
  a0 : Option Addr
  a1 : Option Addr
  a2 : Option Addr
  a3 : Option Addr
  a4 : Option Addr
  m0 : Nat
  m1 : Nat
  m2 : Nat
  m3 : Nat
  m4 : Nat
structure OnR (w : World) (o : On) (a : OnA) : Prop where
  r0 : StsR w o.l0 a.a0
  r1 : StsR w o.l1 a.a1
  r2 : StsR w o.l2 a.a2
  r3 : StsR w o.l3 a.a3
  r4 : StsR w o.l4 a.a4
  n0 : o.l0.length ≤ maxLen
  n1 : o.l1.length ≤ maxLen
  n2 : o.l2.length ≤ maxLen
  n3 : o.l3.length ≤ maxLen
  n4 : o.l4.length ≤ maxLen
theorem OnR.below {w w' : World} {o : On} {a : OnA} (h : OnR w o a) (hb : Below w.heap.size w w') : OnR w' o a :=
  ⟨h.r0.below hb, h.r1.below hb, h.r2.below hb, h.r3.below hb, h.r4.below hb, h.n0, h.n1, h.n2, h.n3, h.n4⟩
abbrev pgArr (x : ByteArray) (VA : Option Addr) (vn vm : Nat) (o : On) (a : OnA) (wi pa : Int) : Array Value := #[.string x, .slice VA vn vm, .slice a.a0 o.l0.length a.m0, .slice a.a1 o.l1.length a.m1, .slice a.a2 o.l2.length a.m2, .slice a.a3 o.l3.length a.m3, .slice a.a4 o.l4.length a.m4, .int .i64 wi, .int .i64 pa]
/-- a program's value -/
abbrev pgv (x : ByteArray) (VA : Option Addr) (vn vm : Nat) (o : On) (a : OnA) (wi pa : Int) : Value := .agg #[.string x, .slice VA vn vm, .slice a.a0 o.l0.length a.m0, .slice a.a1 o.l1.length a.m1, .slice a.a2 o.l2.length a.m2, .slice a.a3 o.l3.length a.m3, .slice a.a4 o.l4.length a.m4, .int .i64 wi, .int .i64 pa]
set_option maxHeartbeats 4000000 in
set_option maxRecDepth 100000 in
theorem Check_any (x : ByteArray) (vs : List Vr) (VA : Option Addr) (vm : Nat) (o : On) (a : OnA) (wi pa : Int) (w : World) (hL : LaidW w) (hV : VarsR w vs VA) (hO : OnR w o a) :
    Calls Tryd.prog 13 #[pgv x VA vs.length vm o a wi pa] w (VV (.tuple #[.int .i64 (checkM (vs.map (·.u)) o.list).1, .int .i64 (checkM (vs.map (·.u)) o.list).2]) w) := by
  have hb0 := (Below.refl w.heap.size w).alloc (Nat.le_refl _) (.cells (pgArr x VA vs.length vm o a wi pa) 26)
  have HX0 := Lib.hid (newBlk w (.cells (pgArr x VA vs.length vm o a wi pa) 26) _ rfl)
  have HS := Lib.hid (scopeOf_any vs VA vm _ (hL.below hb0) (hV.below hb0))
  have HB0 := Lib.hid hb0
  have HL := Lib.hid hL
  have HO := Lib.hid hO
  have hix := ix5 (.slice a.a0 o.l0.length a.m0) (.slice a.a1 o.l1.length a.m1) (.slice a.a2 o.l2.length a.m2) (.slice a.a3 o.l3.length a.m3) (.slice a.a4 o.l4.length a.m4)
  have i0 := fun w => (hix w).1
  have i1 := fun w => (hix w).2.1
  have i2 := fun w => (hix w).2.2.1
  have i3 := fun w => (hix w).2.2.2.1
  have i4 := fun w => (hix w).2.2.2.2
  unfold checkM
  obtain ⟨q, hq⟩ : ∃ q, scopeM (vs.map (·.u)) = q := ⟨_, rfl⟩
  rw [hq] at HS ⊢
  have HQ := Lib.hid hq
  clear hL hV hO hb0 hix hq
  obtain ⟨s0, s1, s2, s3, s4, s5, s6, s7, s8⟩ := cells9 HX0.out
  have hx0 := blkLt HX0.out
  generalize vs.length = vn at *
  rcases q with _ | s
  · go_enter Tryd.func13, Tryd.ntmps13
    go_wp2_with (go_at_call 28; refine HS.out.mono ?_; rintro e w1 ⟨he, hb1⟩; simp only at he; subst he; have hW1 := Lib.hid (HB0.out.trans (hb1.mono (by simp))); clear hb1)
    exact bodyPost_ret (v := .tuple #[.int .i64 0, .int .i64 1]) (by simp [results, Tryd.results13, go_sem]) rfl ⟨rfl, hW1.out⟩
  · obtain ⟨hrg, hl12, -⟩ := scopeM_rg HQ.out
    have hrg := Lib.hid hrg
    simp only
    obtain ⟨r, hr⟩ : ∃ r, chkL s o.list 0 = r := ⟨_, rfl⟩
    rw [hr]
    have HR : Hid (chkL s (o.list.drop 0) 0 = r) := Lib.hid hr
    clear hr
    go_enter Tryd.func13, Tryd.ntmps13
    go_wp2_with (go_at_call 28; refine HS.out.mono ?_; rintro e w1 ⟨⟨SA, sc, he, hp1⟩, hb1⟩; subst he; have hW1 := Lib.hid (HB0.out.trans (hb1.mono (by simp))); have HX1 := Lib.hid ((hb1.block _ hx0).trans HX0.out); have HP := Lib.hid hp1; clear hb1 hp1 s0 s1 s2 s3 s4 s5 s6 s7 s8; obtain ⟨s0, s1, s2, s3, s4, s5, s6, s7, s8⟩ := cells9 HX1.out; have hx1 := blkLt HX1.out)
    have HH := Lib.hid (fun (wx : World) (l : List St) (A : Option Addr) (m : Nat) (hb : Below w1.heap.size w1 wx) (hR : StsR w l A) (hn : l.length ≤ maxLen) =>
      handler_any hrg.out hl12 l SA A sc m wx (HL.out.below (hW1.out.trans (hb.mono hW1.out.size))) (HP.out.below hb) (hR.below (hW1.out.trans (hb.mono hW1.out.size))) hn)
    clear s0 s1 s2 s3 s4 s5 s6 s7 s8 HX1 HX0 HS HB0
    go_loopg [19] 5 (fun gk i wr => ∃ (j : Nat), j + gk = 5 ∧ i = .int .i64 j ∧ Hid (chkL s (o.list.drop j) j = r) ∧ Hid (Below w1.heap.size w1 wr))
    case atStart => exact ⟨0, rfl, rfl, HR, Lib.hid (Below.refl _ _)⟩
    case round =>
      obtain ⟨j, hj, rfl, hE, hW⟩ := hrel
      match j, hj with
      | 0, hj =>
        obtain rfl : gk = 5 := by omega
        have hE1 : (if handM s o.l0 = 0 then chkL s (o.list.drop 1) 1 else ((0 : Int), handM s o.l0)) = r := hE.out
        have HJ := Lib.hid (HH.out wr o.l0 a.a0 a.m0 hW.out HO.out.r0 HO.out.n0)
        by_cases h0 : handM s o.l0 = 0
        · rw [if_pos h0] at hE1
          rw [h0] at HJ
          have hG := Lib.hid hE1
          clear hE hE1 h0
          go_wp2_with (go_at_call 34; refine HJ.out.mono ?_; rintro e w2 ⟨rfl, hb2⟩; have hW2 := Lib.hid (hW.out.trans (hb2.mono hW.out.size)); clear hb2)
          go_roundg 4
          case measure => omega
          case rel => exact ⟨1, by omega, by go_num, hG, hW2⟩
        · rw [if_neg h0] at hE1
          have hF := Lib.hid hE1
          clear hE hE1
          generalize handM s o.l0 = er at *
          go_wp2_with (go_at_call 34; refine HJ.out.mono ?_; rintro e w2 ⟨rfl, hb2⟩; have hW2 := Lib.hid (hW1.out.trans ((hW.out.trans (hb2.mono hW.out.size)).mono hW1.out.size)); clear hb2)
          exact bodyPost_ret (v := .tuple #[.int .i64 0, .int .i64 er]) (by simp [results, Tryd.results13, go_sem]) rfl ⟨by rw [← hF.out], hW2.out⟩
      | 1, hj =>
        obtain rfl : gk = 4 := by omega
        have hE1 : (if handM s o.l1 = 0 then chkL s (o.list.drop 2) 2 else ((1 : Int), handM s o.l1)) = r := hE.out
        have HJ := Lib.hid (HH.out wr o.l1 a.a1 a.m1 hW.out HO.out.r1 HO.out.n1)
        by_cases h0 : handM s o.l1 = 0
        · rw [if_pos h0] at hE1
          rw [h0] at HJ
          have hG := Lib.hid hE1
          clear hE hE1 h0
          go_wp2_with (go_at_call 34; refine HJ.out.mono ?_; rintro e w2 ⟨rfl, hb2⟩; have hW2 := Lib.hid (hW.out.trans (hb2.mono hW.out.size)); clear hb2)
          go_roundg 3
          case measure => omega
          case rel => exact ⟨2, by omega, by go_num, hG, hW2⟩
        · rw [if_neg h0] at hE1
          have hF := Lib.hid hE1
          clear hE hE1
          generalize handM s o.l1 = er at *
          go_wp2_with (go_at_call 34; refine HJ.out.mono ?_; rintro e w2 ⟨rfl, hb2⟩; have hW2 := Lib.hid (hW1.out.trans ((hW.out.trans (hb2.mono hW.out.size)).mono hW1.out.size)); clear hb2)
          exact bodyPost_ret (v := .tuple #[.int .i64 1, .int .i64 er]) (by simp [results, Tryd.results13, go_sem]) rfl ⟨by rw [← hF.out], hW2.out⟩
      | 2, hj =>
        obtain rfl : gk = 3 := by omega
        have hE1 : (if handM s o.l2 = 0 then chkL s (o.list.drop 3) 3 else ((2 : Int), handM s o.l2)) = r := hE.out
        have HJ := Lib.hid (HH.out wr o.l2 a.a2 a.m2 hW.out HO.out.r2 HO.out.n2)
        by_cases h0 : handM s o.l2 = 0
        · rw [if_pos h0] at hE1
          rw [h0] at HJ
          have hG := Lib.hid hE1
          clear hE hE1 h0
          go_wp2_with (go_at_call 34; refine HJ.out.mono ?_; rintro e w2 ⟨rfl, hb2⟩; have hW2 := Lib.hid (hW.out.trans (hb2.mono hW.out.size)); clear hb2)
          go_roundg 2
          case measure => omega
          case rel => exact ⟨3, by omega, by go_num, hG, hW2⟩
        · rw [if_neg h0] at hE1
          have hF := Lib.hid hE1
          clear hE hE1
          generalize handM s o.l2 = er at *
          go_wp2_with (go_at_call 34; refine HJ.out.mono ?_; rintro e w2 ⟨rfl, hb2⟩; have hW2 := Lib.hid (hW1.out.trans ((hW.out.trans (hb2.mono hW.out.size)).mono hW1.out.size)); clear hb2)
          exact bodyPost_ret (v := .tuple #[.int .i64 2, .int .i64 er]) (by simp [results, Tryd.results13, go_sem]) rfl ⟨by rw [← hF.out], hW2.out⟩
      | 3, hj =>
        obtain rfl : gk = 2 := by omega
        have hE1 : (if handM s o.l3 = 0 then chkL s (o.list.drop 4) 4 else ((3 : Int), handM s o.l3)) = r := hE.out
        have HJ := Lib.hid (HH.out wr o.l3 a.a3 a.m3 hW.out HO.out.r3 HO.out.n3)
        by_cases h0 : handM s o.l3 = 0
        · rw [if_pos h0] at hE1
          rw [h0] at HJ
          have hG := Lib.hid hE1
          clear hE hE1 h0
          go_wp2_with (go_at_call 34; refine HJ.out.mono ?_; rintro e w2 ⟨rfl, hb2⟩; have hW2 := Lib.hid (hW.out.trans (hb2.mono hW.out.size)); clear hb2)
          go_roundg 1
          case measure => omega
          case rel => exact ⟨4, by omega, by go_num, hG, hW2⟩
        · rw [if_neg h0] at hE1
          have hF := Lib.hid hE1
          clear hE hE1
          generalize handM s o.l3 = er at *
          go_wp2_with (go_at_call 34; refine HJ.out.mono ?_; rintro e w2 ⟨rfl, hb2⟩; have hW2 := Lib.hid (hW1.out.trans ((hW.out.trans (hb2.mono hW.out.size)).mono hW1.out.size)); clear hb2)
          exact bodyPost_ret (v := .tuple #[.int .i64 3, .int .i64 er]) (by simp [results, Tryd.results13, go_sem]) rfl ⟨by rw [← hF.out], hW2.out⟩
      | 4, hj =>
        obtain rfl : gk = 1 := by omega
        have hE1 : (if handM s o.l4 = 0 then chkL s (o.list.drop 5) 5 else ((4 : Int), handM s o.l4)) = r := hE.out
        have HJ := Lib.hid (HH.out wr o.l4 a.a4 a.m4 hW.out HO.out.r4 HO.out.n4)
        by_cases h0 : handM s o.l4 = 0
        · rw [if_pos h0] at hE1
          rw [h0] at HJ
          have hG := Lib.hid hE1
          clear hE hE1 h0
          go_wp2_with (go_at_call 34; refine HJ.out.mono ?_; rintro e w2 ⟨rfl, hb2⟩; have hW2 := Lib.hid (hW.out.trans (hb2.mono hW.out.size)); clear hb2)
          go_roundg 0
          case measure => omega
          case rel => exact ⟨5, by omega, by go_num, hG, hW2⟩
        · rw [if_neg h0] at hE1
          have hF := Lib.hid hE1
          clear hE hE1
          generalize handM s o.l4 = er at *
          go_wp2_with (go_at_call 34; refine HJ.out.mono ?_; rintro e w2 ⟨rfl, hb2⟩; have hW2 := Lib.hid (hW1.out.trans ((hW.out.trans (hb2.mono hW.out.size)).mono hW1.out.size)); clear hb2)
          exact bodyPost_ret (v := .tuple #[.int .i64 4, .int .i64 er]) (by simp [results, Tryd.results13, go_sem]) rfl ⟨by rw [← hF.out], hW2.out⟩
      | j + 5, hj =>
        obtain rfl : j = 0 := by omega
        obtain rfl : gk = 0 := by omega
        have hF : Hid (((-1 : Int), (0 : Int)) = r) := hE
        go_wp2_with fail
        exact bodyPost_ret (v := .tuple #[.int .i64 (-1), .int .i64 0]) (by simp [results, Tryd.results13, go_sem]) rfl ⟨by rw [← hF.out], hW1.out.trans (hW.out.mono hW1.out.size)⟩
end Go.Proofs.YtmofclpheioepaaDoor
