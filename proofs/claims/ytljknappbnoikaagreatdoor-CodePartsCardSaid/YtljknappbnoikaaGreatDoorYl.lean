/- Texts of one proof: UyH, UyI. -/
import Derived.Test.YtljknappbnoikaaGreatDoorYk
import Derived.Deep.RegionHeld3
set_option linter.unusedVariables false
set_option linter.unusedSimpArgs false
set_option maxRecDepth 100000
set_option maxHeartbeats 8000000
namespace Go.Proofs.YtljknappbnoikaaGreatDoor.U
open Go.RowKit
def StmtsC (vs : List Vr) (s : List Pw) (VA : Option Addr) (vm : Nat) (l : List St) : Prop := ∀ (w : World) (A : Option Addr) (m : Nat), VarsR w vs VA → StsR w l A → l.length ≤ maxLen → szL l →
 Calls Tryz.prog 69 #[.slice VA vs.length vm, .slice A l.length m] w (VV (.int .i64 (stsM s l)) w)
theorem stmt_of {vs : List Vr} {s : List Pw} (hc : scopeM (vs.map (·.u)) = some s) (VA : Option Addr) (vm : Nat) (x : St) (hT : StmtsC vs s VA vm x.th) (hE : StmtsC vs s VA vm x.el) (w : World) (A B T E : Option Addr) (c d m n : Nat)
  (hV : VarsR w vs VA) (hKA : KidsE w x.a.kids A) (hKB : KidsE w x.b.kids B) (hRT : StsR w x.th T) (hRE : StsR w x.el E) (hlT : x.th.length ≤ maxLen) (hlE : x.el.length ≤ maxLen) (hsz : szS x) :
  Calls Tryz.prog 82 #[.slice VA vs.length vm, sv x A c B d T m E n] w (VV (.int .i64 (stM s x)) w) := by
 obtain ⟨k, v, r, a, b, th, el⟩ := x
 rw [szS] at hsz
 rw [stM]
 by_cases h1 : k = 1
 ·subst h1
  rw [if_pos rfl]
  exact stmt_assign vs s hc VA vm v r a b A B T E c d th.length m el.length n w hV hKA hsz.1
 ·rw [if_neg h1]
  by_cases h2 : k = 2
  ·subst h2
   rw [if_pos rfl]
   obtain ⟨hb, hzt, hze⟩ := hsz.2 rfl
   exact stmt_if vs s hc VA vm v r a b A B T E c d th.length m el.length n w hV hKA hKB hsz.1 hb _ _ (fun wx h => hT wx T m (hV.below h) (hRT.below h) hlT hzt) (fun wx h => hE wx E n (hV.below h) (hRE.below h) hlE hze)
  ·rw [if_neg h2]
   exact stmt_other vs s hc VA vm v r a b A B T E c d th.length m el.length n w k h1 h2
theorem stsM_drop (s : List Pw) (l : List St) (k : Nat) (hk : k < l.length) : stsM s (l.drop k) = if stM s l[k] = 0 then stsM s (l.drop (k + 1)) else stM s l[k] := by
 rw [List.drop_eq_getElem_cons hk, stsM]
theorem stmtsR_step {vs : List Vr} {s : List Pw} (hc : scopeM (vs.map (·.u)) = some s) (VA : Option Addr) (vm : Nat) (l : List St) (ih : ∀ x ∈ l, StmtsC vs s VA vm x.th ∧ StmtsC vs s VA vm x.el) : StmtsC vs s VA vm l := by
 intro w A m hV hR hlen hsz
 have IH := Lib.hid ih
 have HR := Lib.hid hR
 have HV := Lib.hid hV
 have HSZ := Lib.hid hsz
 have HC := Lib.hid hc
 obtain ⟨r, hr⟩ : ∃ r, stsM s l = r := ⟨_, rfl⟩
 rw [hr]
 have HM : Hid (stsM s (l.drop 0) = r) := Lib.hid hr
 clear ih hR hr hV hsz hc
 go_enter Tryz.func69, Tryz.ntmps69
 go_wp2
 go_loopg [5] (l.length) (fun gk i wr => ∃ (k : Nat), k + gk = l.length ∧ i = .int .i64 k ∧ Hid (stsM s (l.drop k) = r) ∧ Hid (Below w.heap.size w wr))
 case atStart => exact ⟨0, by omega, rfl, HM, Lib.hid (Below.refl _ _)⟩
 case round =>
  obtain ⟨k, hk, rfl, hM, hW⟩ := hrel
  by_cases hlt : k < l.length
  ·obtain ⟨g, rfl⟩ : ∃ g, gk = g + 1 := ⟨gk - 1, by omega⟩
   have hk64 : (k : Int) + 1 < 9223372036854775808 := by unfold maxLen at hlen; omega
   have hM1 := hM.out
   rw [stsM_drop _ _ _ hlt] at hM1
   have hRw : StsR wr l A := HR.out.below hW.out
   obtain ⟨ga, oa, rfl⟩ := hRw.addr (by omega)
   obtain ⟨A1, c1, B1, d1, T1, m1, E1, n1, hS, hKA, hKB, hT, hE, hlt1, hle1⟩ := (hRw.get _ _ _ k _ (List.getElem?_eq_getElem hlt)).cells
   have hI := IH.out _ (List.getElem_mem hlt)
   have HX := Lib.hid (stmt_of HC.out VA vm l[k] hI.1 hI.2 wr A1 B1 T1 E1 c1 d1 m1 n1 (HV.out.below hW.out) hKA hKB hT hE hlt1 hle1 (szL_mem (List.getElem_mem hlt) HSZ.out))
   have hM1 := Lib.hid hM1
   obtain ⟨s0, s1, s2, s3, s4, s5, s6, s7, s8, s9, s10, s11, s12⟩ := hS
   clear hM hRw hI hT hE hKA hKB
   generalize l[k] = u at *
   generalize stM s u = e9 at *
   by_cases h0 : e9 = 0
   ·subst h0
    have hM2 : Hid (stsM s (l.drop (k + 1)) = r) := Lib.hid (by have := hM1.out; rw [if_pos rfl] at this; exact this)
    clear hM1
    go_wp2_with (go_at_call 82; refine HX.out.mono ?_; rintro e w2 ⟨rfl, hb2⟩; have hW2 := Lib.hid (bCall hW.out hb2); clear hb2)
    go_roundg g
    case measure => omega
    case rel => exact ⟨k + 1, by omega, by go_num, hM2, hW2⟩
   ·have hF : Hid (e9 = r) := Lib.hid (by have := hM1.out; rw [if_neg h0] at this; exact this)
    have h0n : (e9 != 0) = true := by simp [h0]
    clear hM1
    go_wp2_with (go_at_call 82; refine HX.out.mono ?_; rintro e w2 ⟨rfl, hb2⟩; have hW2 := Lib.hid (bCall hW.out hb2); clear hb2)
    go_ret
    exact ⟨ret_v hF.out, hW2.out⟩
  ·have hF : Hid (0 = r) := Lib.hid (by have := hM.out; rw [List.drop_eq_nil_of_le (by omega), stsM] at this; exact this)
   clear hM
   go_wp2
   go_ret
   exact ⟨ret_v hF.out, hW.out⟩
mutual
theorem stmtsR_any {vs : List Vr} {s : List Pw} (hc : scopeM (vs.map (·.u)) = some s) (VA : Option Addr) (vm : Nat) : ∀ x : St, StmtsC vs s VA vm x.th ∧ StmtsC vs s VA vm x.el
 | .mk _ _ _ _ _ th el => ⟨stmtsR_step hc VA vm th (stmtsR_all hc VA vm th), stmtsR_step hc VA vm el (stmtsR_all hc VA vm el)⟩
theorem stmtsR_all {vs : List Vr} {s : List Pw} (hc : scopeM (vs.map (·.u)) = some s) (VA : Option Addr) (vm : Nat) : ∀ (l : List St), ∀ x ∈ l, StmtsC vs s VA vm x.th ∧ StmtsC vs s VA vm x.el
 | [], x, hx => by cases hx
 | y :: ys, x, hx => by
  rcases List.mem_cons.1 hx with h | h
  ·rw [h]; exact stmtsR_any hc VA vm y
  ·exact stmtsR_all hc VA vm ys x h
end
mutual
theorem shS_sz : ∀ (x : St), shS x = true → szS x
 | .mk k v r a b th el, h => by
  rw [shS] at h
  rw [szS]
  simp only [Bool.and_eq_true, decide_eq_true_eq, Bool.or_eq_true, Bool.not_eq_true', decide_eq_false_iff_not] at h
  refine ⟨h.1, fun hk => ?_⟩
  rcases h.2 with h2 | h2
  ·exact absurd hk h2
  ·exact ⟨h2.1, shA_sz th h2.2.1, shA_sz el h2.2.2⟩
theorem shA_sz : ∀ (l : List St), shA l = true → szL l
 | [], _ => trivial
 | x :: xs, h => by
  rw [shA, Bool.and_eq_true] at h
  rw [szL]
  exact ⟨shS_sz x h.1, shA_sz xs h.2⟩
end
theorem HandlerR_any {vs : List Vr} {s : List Pw} (hc : scopeM (vs.map (·.u)) = some s) (VA : Option Addr) (vm : Nat) (l : List St) (A : Option Addr) (m : Nat) (w : World) (hV : VarsR w vs VA) (hR : StsR w l A) (hlen : l.length ≤ maxLen) :
  Calls Tryz.prog 54 #[.slice VA vs.length vm, .slice A l.length m] w (VV (.int .i64 (handM s l)) w) := by
 obtain ⟨r, hr⟩ : ∃ r, handM s l = r := ⟨_, rfl⟩
 rw [hr]
 unfold handM at hr
 rw [evL_100] at hr
 have HM := Lib.hid (Many_of l w A m 100 hR hlen)
 have HS := Lib.hid (fun wx (h : Below w.heap.size w wx) => Short_of l wx A m (hR.below h) hlen)
 have HT := Lib.hid (fun wx (h : Below w.heap.size w wx) (hz : szL l) => stmtsR_step hc VA vm l (stmtsR_all hc VA vm l) wx A m (hV.below h) (hR.below h) hlen hz)
 have HZ := Lib.hid (shA_sz l)
 generalize mnL l 100 0 = mn at *
 generalize stsM s l = e9 at *
 clear hV hR hc
 by_cases h1 : mn > 100
 ·have g1 : decide (mn > 100) = true := by simp; omega
  rw [g1] at hr
  obtain rfl : 2 = r := by simpa using hr
  clear HT HZ hr
  go_enter Tryz.func54, Tryz.ntmps54
  go_wp2_with (go_at_call 67; refine HM.out.mono ?_; rintro e w2 ⟨rfl, hb2⟩)
  go_ret
  exact ⟨rfl, hb2⟩
 ·have g1 : decide (mn > 100) = false := by simp; omega
  rw [g1] at hr
  cases hs : shA l with
  | false =>
   rw [hs] at HS hr
   obtain rfl : 2 = r := by simpa using hr
   clear HT HZ hr hs
   go_enter Tryz.func54, Tryz.ntmps54
   go_wp2_with (first
    | (go_at_call 67; refine HM.out.mono ?_; rintro e w2 ⟨rfl, hb2⟩)
    | (go_at_call 68; refine (HS.out _ hb2).mono ?_; rintro e w3 ⟨rfl, hb3⟩; have hb4 := bCall hb2 hb3))
   go_ret
   exact ⟨rfl, hb4⟩
  | true =>
   have hz := HZ.out hs
   rw [hs] at HS hr
   obtain rfl : e9 = r := by simpa using hr
   clear HZ hr hs
   go_enter Tryz.func54, Tryz.ntmps54
   go_wp2_with (first
    | (go_at_call 67; refine HM.out.mono ?_; rintro e w2 ⟨rfl, hb2⟩)
    | (go_at_call 68; refine (HS.out _ hb2).mono ?_; rintro e w3 ⟨rfl, hb3⟩; have hb4 := bCall hb2 hb3)
    | (go_at_call 69; refine (HT.out _ hb4 hz).mono ?_; rintro e w5 ⟨rfl, hb5⟩; have hb6 := bCall hb4 hb5))
   go_ret
   exact ⟨rfl, hb6⟩
end Go.Proofs.YtljknappbnoikaaGreatDoor.U
namespace Go.Proofs.YtljknappbnoikaaGreatDoor.U
open Go.RowKit
theorem CheckR_any (x : ByteArray) (vs : List Vr) (VA : Option Addr) (vm : Nat) (o : On) (a : OnA) (wi pa : Int) (w : World) (hV : VarsR w vs VA) (hlen : vs.length ≤ maxLen) (hO : OnR w o a) :
  Calls Tryz.prog 28 #[pgv x VA vs.length vm o a wi pa] w (VV (.tuple #[.int .i64 (checkM (vs.map (·.u)) o.list).1, .int .i64 (checkM (vs.map (·.u)) o.list).2]) w) := by
 have HB := Lib.hid ((Below.refl w.heap.size w).alloc (Nat.le_refl _) (.cells (pgArr x VA vs.length vm o a wi pa) 26))
 have HX := Lib.hid (newBlk w (.cells (pgArr x VA vs.length vm o a wi pa) 26) _ rfl)
 have HVs := Lib.hid (fun wx (h : Below w.heap.size w wx) => VarsR_any vs VA vm wx (hV.below h) hlen)
 rw [varsM_scope] at HVs
 have HO := Lib.hid hO
 have HV := Lib.hid hV
 obtain ⟨s0, s1, s2, s3, s4, s5, s6, s7, s8⟩ := cells9 HX.out
 have hx := blkLt HX.out
 rcases hc : scopeM (vs.map (·.u)) with _ | s
 ·rw [hc] at HVs
  have hck : checkM (vs.map (·.u)) o.list = (0, 1) := by unfold checkM; rw [hc]
  rw [hck]
  clear hck
  have HVs : Hid (∀ wx, Below w.heap.size w wx → Calls Tryz.prog 53 #[.slice VA vs.length vm] wx (BB false wx)) := HVs
  clear hV hO hc hlen
  generalize vs.length = vn at *
  go_enter Tryz.func28, Tryz.ntmps28
  go_wp2_with (first
   | (go_at_call 53; refine (HVs.out _ HB.out).mono ?_; rintro e wn ⟨rfl, hbn⟩; have HX := Lib.hid ((hbn.block _ hx).trans HX.out); have HB := Lib.hid (bCall HB.out hbn); clear s0 s1 s2 s3 s4 s5 s6 s7 s8 hx; obtain ⟨s0, s1, s2, s3, s4, s5, s6, s7, s8⟩ := cells9 HX.out; have hx := blkLt HX.out; clear hbn))
  exact bodyPost_ret (v := .tuple #[.int .i64 0, .int .i64 1]) (by simp [results, Tryz.results28, go_sem]) rfl ⟨rfl, HB.out⟩
 ·rw [hc] at HVs
  have HVs : Hid (∀ wx, Below w.heap.size w wx → Calls Tryz.prog 53 #[.slice VA vs.length vm] wx (BB true wx)) := HVs
  have HH := Lib.hid (fun (wx : World) (l : List St) (A : Option Addr) (m : Nat) (hb : Below w.heap.size w wx) (hR : StsR w l A) (hn : l.length ≤ maxLen) => HandlerR_any hc VA vm l A m wx (HV.out.below hb) (hR.below hb) hn)
  have hck : checkM (vs.map (·.u)) o.list = chkL s o.list 0 := by unfold checkM; rw [hc]
  rw [hck]
  clear hck
  obtain ⟨⟨ri, re⟩, hr⟩ : ∃ r, chkL s o.list 0 = r := ⟨_, rfl⟩
  rw [hr]
  have hE0 : Hid (chkL s (o.list.drop 0) 0 = (ri, re)) := Lib.hid hr
  clear hV hO hc hlen hr HV
  generalize vs.length = vn at *
  go_enter Tryz.func28, Tryz.ntmps28
  go_wp2_with (first
   | (go_at_call 53; refine (HVs.out _ HB.out).mono ?_; rintro e wn ⟨rfl, hbn⟩; have HX := Lib.hid ((hbn.block _ hx).trans HX.out); have HB := Lib.hid (bCall HB.out hbn); clear s0 s1 s2 s3 s4 s5 s6 s7 s8 hx; obtain ⟨s0, s1, s2, s3, s4, s5, s6, s7, s8⟩ := cells9 HX.out; have hx := blkLt HX.out; clear hbn))
  go_loopg [5] 5 (fun gk i wr => ∃ (j : Nat), j + gk = 5 ∧ i = .int .i64 j ∧ Hid (chkL s (o.list.drop j) j = (ri, re)) ∧ Hid (Below w.heap.size w wr) ∧ Hid (wr.heap[w.heap.size]? = some (.cells (pgArr x VA vn vm o a wi pa) 26 (0, 0))))
  case atStart => exact ⟨0, rfl, rfl, hE0, HB, HX⟩
  case round =>
   obtain ⟨j, hj, rfl, hE, HB, HX⟩ := hrel
   clear s0 s1 s2 s3 s4 s5 s6 s7 s8 hx HVs hE0
   obtain ⟨s0, s1, s2, s3, s4, s5, s6, s7, s8⟩ := cells9 HX.out
   have hx := blkLt HX.out
   match j, hj with
   | 0, hj =>
    obtain rfl : gk = 5 := by omega
    have hE1 : (if handM s o.l0 = 0 then chkL s (o.list.drop 1) 1 else ((0 : Int), handM s o.l0)) = (ri, re) := hE.out
    have HJ := Lib.hid (fun wx (h : Below w.heap.size w wx) => HH.out wx o.l0 a.a0 a.m0 h HO.out.r0 HO.out.n0)
    clear hE
    by_cases h0 : handM s o.l0 = 0
    ·rw [if_pos h0] at hE1
     rw [h0] at HJ
     have hG := Lib.hid hE1
     clear hE1 h0
     go_wp2_with fail
     go_region_held3 (fun w' => w'.cell? ⟨w.heap.size, 1, none⟩ = some (.slice VA vn vm) ∧ w'.cell? ⟨w.heap.size, 2, none⟩ = some (.slice a.a0 o.l0.length a.m0))
      (first | (with_reducible exact ⟨s1, s2⟩) | go_keep)
      (first
       | (go_at_call 54; refine (HJ.out _ ?_).mono ?_; (repeat with_reducible first | exact HB.out | apply bDrew | apply bAlloc); rintro e w4 ⟨rfl, hb4⟩; have HB4 := Lib.hid (bCall (by (repeat with_reducible first | exact HB.out | apply bDrew | apply bAlloc)) hb4); have HX4 := Lib.hid ((hb4.block _ (by simpa using hx)).trans (show _ from HX.out)); clear s0 s1 s2 s3 s4 s5 s6 s7 s8; obtain ⟨s0, s1, s2, s3, s4, s5, s6, s7, s8⟩ := cells9 HX4.out; have hx4 := blkLt HX4.out; clear hb4))
     all_goals go_wp2_with fail
     go_roundg 4
     case measure => omega
     case rel => exact ⟨1, by omega, by go_num, hG, HB4, HX4⟩
    ·rw [if_neg h0] at hE1
     obtain ⟨h1, h2⟩ := Prod.mk.inj hE1
     subst h1 h2
     clear hE1
     have h0f : (handM s o.l0 != 0) = true := by simp [h0]
     generalize handM s o.l0 = er at *
     go_wp2_with fail
     go_region_held3 (fun w' => w'.cell? ⟨w.heap.size, 1, none⟩ = some (.slice VA vn vm) ∧ w'.cell? ⟨w.heap.size, 2, none⟩ = some (.slice a.a0 o.l0.length a.m0))
      (first | (with_reducible exact ⟨s1, s2⟩) | go_keep)
      (first
       | (go_at_call 54; refine (HJ.out _ ?_).mono ?_; (repeat with_reducible first | exact HB.out | apply bDrew | apply bAlloc); rintro e w4 ⟨rfl, hb4⟩; have HB4 := Lib.hid (bCall (by (repeat with_reducible first | exact HB.out | apply bDrew | apply bAlloc)) hb4); have HX4 := Lib.hid ((hb4.block _ (by simpa using hx)).trans (show _ from HX.out)); clear s0 s1 s2 s3 s4 s5 s6 s7 s8; obtain ⟨s0, s1, s2, s3, s4, s5, s6, s7, s8⟩ := cells9 HX4.out; have hx4 := blkLt HX4.out; clear hb4))
     all_goals go_wp2_with fail
     exact bodyPost_ret (v := .tuple #[.int .i64 0, .int .i64 er]) (by simp [results, Tryz.results28, go_sem]) rfl ⟨rfl, HB4.out⟩
   | 1, hj =>
    obtain rfl : gk = 4 := by omega
    have hE1 : (if handM s o.l1 = 0 then chkL s (o.list.drop 2) 2 else ((1 : Int), handM s o.l1)) = (ri, re) := hE.out
    have HJ := Lib.hid (fun wx (h : Below w.heap.size w wx) => HH.out wx o.l1 a.a1 a.m1 h HO.out.r1 HO.out.n1)
    clear hE
    by_cases h0 : handM s o.l1 = 0
    ·rw [if_pos h0] at hE1
     rw [h0] at HJ
     have hG := Lib.hid hE1
     clear hE1 h0
     go_wp2_with fail
     go_region_held3 (fun w' => w'.cell? ⟨w.heap.size, 1, none⟩ = some (.slice VA vn vm) ∧ w'.cell? ⟨w.heap.size, 3, none⟩ = some (.slice a.a1 o.l1.length a.m1))
      (first | (with_reducible exact ⟨s1, s3⟩) | go_keep)
      (first
       | (go_at_call 54; refine (HJ.out _ ?_).mono ?_; (repeat with_reducible first | exact HB.out | apply bDrew | apply bAlloc); rintro e w4 ⟨rfl, hb4⟩; have HB4 := Lib.hid (bCall (by (repeat with_reducible first | exact HB.out | apply bDrew | apply bAlloc)) hb4); have HX4 := Lib.hid ((hb4.block _ (by simpa using hx)).trans (show _ from HX.out)); clear s0 s1 s2 s3 s4 s5 s6 s7 s8; obtain ⟨s0, s1, s2, s3, s4, s5, s6, s7, s8⟩ := cells9 HX4.out; have hx4 := blkLt HX4.out; clear hb4))
     all_goals go_wp2_with fail
     go_roundg 3
     case measure => omega
     case rel => exact ⟨2, by omega, by go_num, hG, HB4, HX4⟩
    ·rw [if_neg h0] at hE1
     obtain ⟨h1, h2⟩ := Prod.mk.inj hE1
     subst h1 h2
     clear hE1
     have h0f : (handM s o.l1 != 0) = true := by simp [h0]
     generalize handM s o.l1 = er at *
     go_wp2_with fail
     go_region_held3 (fun w' => w'.cell? ⟨w.heap.size, 1, none⟩ = some (.slice VA vn vm) ∧ w'.cell? ⟨w.heap.size, 3, none⟩ = some (.slice a.a1 o.l1.length a.m1))
      (first | (with_reducible exact ⟨s1, s3⟩) | go_keep)
      (first
       | (go_at_call 54; refine (HJ.out _ ?_).mono ?_; (repeat with_reducible first | exact HB.out | apply bDrew | apply bAlloc); rintro e w4 ⟨rfl, hb4⟩; have HB4 := Lib.hid (bCall (by (repeat with_reducible first | exact HB.out | apply bDrew | apply bAlloc)) hb4); have HX4 := Lib.hid ((hb4.block _ (by simpa using hx)).trans (show _ from HX.out)); clear s0 s1 s2 s3 s4 s5 s6 s7 s8; obtain ⟨s0, s1, s2, s3, s4, s5, s6, s7, s8⟩ := cells9 HX4.out; have hx4 := blkLt HX4.out; clear hb4))
     all_goals go_wp2_with fail
     exact bodyPost_ret (v := .tuple #[.int .i64 1, .int .i64 er]) (by simp [results, Tryz.results28, go_sem]) rfl ⟨rfl, HB4.out⟩
   | 2, hj =>
    obtain rfl : gk = 3 := by omega
    have hE1 : (if handM s o.l2 = 0 then chkL s (o.list.drop 3) 3 else ((2 : Int), handM s o.l2)) = (ri, re) := hE.out
    have HJ := Lib.hid (fun wx (h : Below w.heap.size w wx) => HH.out wx o.l2 a.a2 a.m2 h HO.out.r2 HO.out.n2)
    clear hE
    by_cases h0 : handM s o.l2 = 0
    ·rw [if_pos h0] at hE1
     rw [h0] at HJ
     have hG := Lib.hid hE1
     clear hE1 h0
     go_wp2_with fail
     go_region_held3 (fun w' => w'.cell? ⟨w.heap.size, 1, none⟩ = some (.slice VA vn vm) ∧ w'.cell? ⟨w.heap.size, 4, none⟩ = some (.slice a.a2 o.l2.length a.m2))
      (first | (with_reducible exact ⟨s1, s4⟩) | go_keep)
      (first
       | (go_at_call 54; refine (HJ.out _ ?_).mono ?_; (repeat with_reducible first | exact HB.out | apply bDrew | apply bAlloc); rintro e w4 ⟨rfl, hb4⟩; have HB4 := Lib.hid (bCall (by (repeat with_reducible first | exact HB.out | apply bDrew | apply bAlloc)) hb4); have HX4 := Lib.hid ((hb4.block _ (by simpa using hx)).trans (show _ from HX.out)); clear s0 s1 s2 s3 s4 s5 s6 s7 s8; obtain ⟨s0, s1, s2, s3, s4, s5, s6, s7, s8⟩ := cells9 HX4.out; have hx4 := blkLt HX4.out; clear hb4))
     all_goals go_wp2_with fail
     go_roundg 2
     case measure => omega
     case rel => exact ⟨3, by omega, by go_num, hG, HB4, HX4⟩
    ·rw [if_neg h0] at hE1
     obtain ⟨h1, h2⟩ := Prod.mk.inj hE1
     subst h1 h2
     clear hE1
     have h0f : (handM s o.l2 != 0) = true := by simp [h0]
     generalize handM s o.l2 = er at *
     go_wp2_with fail
     go_region_held3 (fun w' => w'.cell? ⟨w.heap.size, 1, none⟩ = some (.slice VA vn vm) ∧ w'.cell? ⟨w.heap.size, 4, none⟩ = some (.slice a.a2 o.l2.length a.m2))
      (first | (with_reducible exact ⟨s1, s4⟩) | go_keep)
      (first
       | (go_at_call 54; refine (HJ.out _ ?_).mono ?_; (repeat with_reducible first | exact HB.out | apply bDrew | apply bAlloc); rintro e w4 ⟨rfl, hb4⟩; have HB4 := Lib.hid (bCall (by (repeat with_reducible first | exact HB.out | apply bDrew | apply bAlloc)) hb4); have HX4 := Lib.hid ((hb4.block _ (by simpa using hx)).trans (show _ from HX.out)); clear s0 s1 s2 s3 s4 s5 s6 s7 s8; obtain ⟨s0, s1, s2, s3, s4, s5, s6, s7, s8⟩ := cells9 HX4.out; have hx4 := blkLt HX4.out; clear hb4))
     all_goals go_wp2_with fail
     exact bodyPost_ret (v := .tuple #[.int .i64 2, .int .i64 er]) (by simp [results, Tryz.results28, go_sem]) rfl ⟨rfl, HB4.out⟩
   | 3, hj =>
    obtain rfl : gk = 2 := by omega
    have hE1 : (if handM s o.l3 = 0 then chkL s (o.list.drop 4) 4 else ((3 : Int), handM s o.l3)) = (ri, re) := hE.out
    have HJ := Lib.hid (fun wx (h : Below w.heap.size w wx) => HH.out wx o.l3 a.a3 a.m3 h HO.out.r3 HO.out.n3)
    clear hE
    by_cases h0 : handM s o.l3 = 0
    ·rw [if_pos h0] at hE1
     rw [h0] at HJ
     have hG := Lib.hid hE1
     clear hE1 h0
     go_wp2_with fail
     go_region_held3 (fun w' => w'.cell? ⟨w.heap.size, 1, none⟩ = some (.slice VA vn vm) ∧ w'.cell? ⟨w.heap.size, 5, none⟩ = some (.slice a.a3 o.l3.length a.m3))
      (first | (with_reducible exact ⟨s1, s5⟩) | go_keep)
      (first
       | (go_at_call 54; refine (HJ.out _ ?_).mono ?_; (repeat with_reducible first | exact HB.out | apply bDrew | apply bAlloc); rintro e w4 ⟨rfl, hb4⟩; have HB4 := Lib.hid (bCall (by (repeat with_reducible first | exact HB.out | apply bDrew | apply bAlloc)) hb4); have HX4 := Lib.hid ((hb4.block _ (by simpa using hx)).trans (show _ from HX.out)); clear s0 s1 s2 s3 s4 s5 s6 s7 s8; obtain ⟨s0, s1, s2, s3, s4, s5, s6, s7, s8⟩ := cells9 HX4.out; have hx4 := blkLt HX4.out; clear hb4))
     all_goals go_wp2_with fail
     go_roundg 1
     case measure => omega
     case rel => exact ⟨4, by omega, by go_num, hG, HB4, HX4⟩
    ·rw [if_neg h0] at hE1
     obtain ⟨h1, h2⟩ := Prod.mk.inj hE1
     subst h1 h2
     clear hE1
     have h0f : (handM s o.l3 != 0) = true := by simp [h0]
     generalize handM s o.l3 = er at *
     go_wp2_with fail
     go_region_held3 (fun w' => w'.cell? ⟨w.heap.size, 1, none⟩ = some (.slice VA vn vm) ∧ w'.cell? ⟨w.heap.size, 5, none⟩ = some (.slice a.a3 o.l3.length a.m3))
      (first | (with_reducible exact ⟨s1, s5⟩) | go_keep)
      (first
       | (go_at_call 54; refine (HJ.out _ ?_).mono ?_; (repeat with_reducible first | exact HB.out | apply bDrew | apply bAlloc); rintro e w4 ⟨rfl, hb4⟩; have HB4 := Lib.hid (bCall (by (repeat with_reducible first | exact HB.out | apply bDrew | apply bAlloc)) hb4); have HX4 := Lib.hid ((hb4.block _ (by simpa using hx)).trans (show _ from HX.out)); clear s0 s1 s2 s3 s4 s5 s6 s7 s8; obtain ⟨s0, s1, s2, s3, s4, s5, s6, s7, s8⟩ := cells9 HX4.out; have hx4 := blkLt HX4.out; clear hb4))
     all_goals go_wp2_with fail
     exact bodyPost_ret (v := .tuple #[.int .i64 3, .int .i64 er]) (by simp [results, Tryz.results28, go_sem]) rfl ⟨rfl, HB4.out⟩
   | 4, hj =>
    obtain rfl : gk = 1 := by omega
    have hE1 : (if handM s o.l4 = 0 then chkL s (o.list.drop 5) 5 else ((4 : Int), handM s o.l4)) = (ri, re) := hE.out
    have HJ := Lib.hid (fun wx (h : Below w.heap.size w wx) => HH.out wx o.l4 a.a4 a.m4 h HO.out.r4 HO.out.n4)
    clear hE
    by_cases h0 : handM s o.l4 = 0
    ·rw [if_pos h0] at hE1
     rw [h0] at HJ
     have hG := Lib.hid hE1
     clear hE1 h0
     go_wp2_with fail
     go_region_held3 (fun w' => w'.cell? ⟨w.heap.size, 1, none⟩ = some (.slice VA vn vm) ∧ w'.cell? ⟨w.heap.size, 6, none⟩ = some (.slice a.a4 o.l4.length a.m4))
      (first | (with_reducible exact ⟨s1, s6⟩) | go_keep)
      (first
       | (go_at_call 54; refine (HJ.out _ ?_).mono ?_; (repeat with_reducible first | exact HB.out | apply bDrew | apply bAlloc); rintro e w4 ⟨rfl, hb4⟩; have HB4 := Lib.hid (bCall (by (repeat with_reducible first | exact HB.out | apply bDrew | apply bAlloc)) hb4); have HX4 := Lib.hid ((hb4.block _ (by simpa using hx)).trans (show _ from HX.out)); clear s0 s1 s2 s3 s4 s5 s6 s7 s8; obtain ⟨s0, s1, s2, s3, s4, s5, s6, s7, s8⟩ := cells9 HX4.out; have hx4 := blkLt HX4.out; clear hb4))
     all_goals go_wp2_with fail
     go_roundg 0
     case measure => omega
     case rel => exact ⟨5, by omega, by go_num, hG, HB4, HX4⟩
    ·rw [if_neg h0] at hE1
     obtain ⟨h1, h2⟩ := Prod.mk.inj hE1
     subst h1 h2
     clear hE1
     have h0f : (handM s o.l4 != 0) = true := by simp [h0]
     generalize handM s o.l4 = er at *
     go_wp2_with fail
     go_region_held3 (fun w' => w'.cell? ⟨w.heap.size, 1, none⟩ = some (.slice VA vn vm) ∧ w'.cell? ⟨w.heap.size, 6, none⟩ = some (.slice a.a4 o.l4.length a.m4))
      (first | (with_reducible exact ⟨s1, s6⟩) | go_keep)
      (first
       | (go_at_call 54; refine (HJ.out _ ?_).mono ?_; (repeat with_reducible first | exact HB.out | apply bDrew | apply bAlloc); rintro e w4 ⟨rfl, hb4⟩; have HB4 := Lib.hid (bCall (by (repeat with_reducible first | exact HB.out | apply bDrew | apply bAlloc)) hb4); have HX4 := Lib.hid ((hb4.block _ (by simpa using hx)).trans (show _ from HX.out)); clear s0 s1 s2 s3 s4 s5 s6 s7 s8; obtain ⟨s0, s1, s2, s3, s4, s5, s6, s7, s8⟩ := cells9 HX4.out; have hx4 := blkLt HX4.out; clear hb4))
     all_goals go_wp2_with fail
     exact bodyPost_ret (v := .tuple #[.int .i64 4, .int .i64 er]) (by simp [results, Tryz.results28, go_sem]) rfl ⟨rfl, HB4.out⟩
   | 5, hj =>
    obtain rfl : gk = 0 := by omega
    have hE1 : ((-1 : Int), (0 : Int)) = (ri, re) := hE.out
    obtain ⟨h1, h2⟩ := Prod.mk.inj hE1
    subst h1 h2
    clear hE hE1
    go_wp2_with fail
    exact bodyPost_ret (v := .tuple #[.int .i64 (-1), .int .i64 0]) (by simp [results, Tryz.results28, go_sem]) rfl ⟨rfl, HB.out⟩
   | j + 6, hj => omega
end Go.Proofs.YtljknappbnoikaaGreatDoor.U
