/- Texts of one proof: UyI. -/
import Derived.Test.YtamfgjinfcknfaaGreatDoorYn
set_option linter.unusedVariables false
set_option linter.unusedSimpArgs false
set_option maxRecDepth 100000
set_option maxHeartbeats 8000000
namespace Go.Proofs.YtamfgjinfcknfaaGreatDoor.U
open Go.RowKit
theorem CheckR_any (x : ByteArray) (vs : List Vr) (VA : Option Addr) (vm : Nat) (o : On) (a : OnA) (wi pa : Int) (w : World) (hV : VarsR w vs VA) (hlen : vs.length ≤ maxLen) (hO : OnR w o a) :
  Calls Tryz.prog 21 #[pgv x VA vs.length vm o a wi pa] w (VV (.tuple #[.int .i64 (checkM (vs.map (·.u)) o.list).1, .int .i64 (checkM (vs.map (·.u)) o.list).2]) w) := by
 have HB := Lib.hid ((Below.refl w.heap.size w).alloc (Nat.le_refl _) (.cells (pgArr x VA vs.length vm o a wi pa) 26))
 have HX := Lib.hid (newBlk w (.cells (pgArr x VA vs.length vm o a wi pa) 26) _ rfl)
 have HVs := Lib.hid (fun wx (h : Below w.heap.size w wx) => VarsR_any vs VA vm wx (hV.below h) hlen)
 rw [varsM_scope] at HVs
 have HO := Lib.hid hO
 have HV := Lib.hid hV
 obtain ⟨s0, s1, s2, s3, s4, s5, s6, s7, s8⟩ := cells9 HX.out
 have hx := blkLt HX.out
 rcases hc : scopeM (vs.map (·.u)) with _ | s
 ·rw [hc] at HVs
  have hck : checkM (vs.map (·.u)) o.list = (0, 1) := by unfold checkM; rw [hc]
  rw [hck]
  clear hck
  have HVs : Hid (∀ wx, Below w.heap.size w wx → Calls Tryz.prog 43 #[.slice VA vs.length vm] wx (BB false wx)) := HVs
  clear hV hO hc hlen
  generalize vs.length = vn at *
  go_enter Tryz.func21, Tryz.ntmps21
  go_wp2_with (first
   | (go_at_call 43; refine (HVs.out _ HB.out).mono ?_; rintro e wn ⟨rfl, hbn⟩; have HX := Lib.hid ((hbn.block _ hx).trans HX.out); have HB := Lib.hid (bCall HB.out hbn); clear s0 s1 s2 s3 s4 s5 s6 s7 s8 hx; obtain ⟨s0, s1, s2, s3, s4, s5, s6, s7, s8⟩ := cells9 HX.out; have hx := blkLt HX.out; clear hbn))
  exact bodyPost_ret (v := .tuple #[.int .i64 0, .int .i64 1]) (by simp [results, Tryz.results21, go_sem]) rfl ⟨rfl, HB.out⟩
 ·rw [hc] at HVs
  have HVs : Hid (∀ wx, Below w.heap.size w wx → Calls Tryz.prog 43 #[.slice VA vs.length vm] wx (BB true wx)) := HVs
  have HH := Lib.hid (fun (wx : World) (l : List St) (A : Option Addr) (m : Nat) (hb : Below w.heap.size w wx) (hR : StsR w l A) (hn : l.length ≤ maxLen) => HandlerR_any hc VA vm l A m wx (HV.out.below hb) (hR.below hb) hn)
  have hck : checkM (vs.map (·.u)) o.list = chkL s o.list 0 := by unfold checkM; rw [hc]
  rw [hck]
  clear hck
  obtain ⟨⟨ri, re⟩, hr⟩ : ∃ r, chkL s o.list 0 = r := ⟨_, rfl⟩
  rw [hr]
  have hE0 : Hid (chkL s (o.list.drop 0) 0 = (ri, re)) := Lib.hid hr
  clear hV hO hc hlen hr HV
  generalize vs.length = vn at *
  go_enter Tryz.func21, Tryz.ntmps21
  go_wp2_with (first
   | (go_at_call 43; refine (HVs.out _ HB.out).mono ?_; rintro e wn ⟨rfl, hbn⟩; have HX := Lib.hid ((hbn.block _ hx).trans HX.out); have HB := Lib.hid (bCall HB.out hbn); clear s0 s1 s2 s3 s4 s5 s6 s7 s8 hx; obtain ⟨s0, s1, s2, s3, s4, s5, s6, s7, s8⟩ := cells9 HX.out; have hx := blkLt HX.out; clear hbn))
  go_loopg [5] 5 (fun gk i wr => ∃ (j : Nat), j + gk = 5 ∧ i = .int .i64 j ∧ Hid (chkL s (o.list.drop j) j = (ri, re)) ∧ Hid (Below w.heap.size w wr) ∧ Hid (wr.heap[w.heap.size]? = some (.cells (pgArr x VA vn vm o a wi pa) 26 (0, 0))))
  case atStart => exact ⟨0, rfl, rfl, hE0, HB, HX⟩
  case round =>
   obtain ⟨j, hj, rfl, hE, HB, HX⟩ := hrel
   clear s0 s1 s2 s3 s4 s5 s6 s7 s8 hx HVs hE0
   obtain ⟨s0, s1, s2, s3, s4, s5, s6, s7, s8⟩ := cells9 HX.out
   have hx := blkLt HX.out
   match j, hj with
   | 0, hj =>
    obtain rfl : gk = 5 := by omega
    have hE1 : (if handM s o.l0 = 0 then chkL s (o.list.drop 1) 1 else ((0 : Int), handM s o.l0)) = (ri, re) := hE.out
    have HJ := Lib.hid (fun wx (h : Below w.heap.size w wx) => HH.out wx o.l0 a.a0 a.m0 h HO.out.r0 HO.out.n0)
    clear hE
    by_cases h0 : handM s o.l0 = 0
    ·rw [if_pos h0] at hE1
     rw [h0] at HJ
     have hG := Lib.hid hE1
     clear hE1 h0
     go_wp2_with fail
     go_region_held3 (fun w' => w'.cell? ⟨w.heap.size, 1, none⟩ = some (.slice VA vn vm) ∧ w'.cell? ⟨w.heap.size, 2, none⟩ = some (.slice a.a0 o.l0.length a.m0))
      (first | (with_reducible exact ⟨s1, s2⟩) | go_keep)
      (first
       | (go_at_call 44; refine (HJ.out _ ?_).mono ?_; (repeat with_reducible first | exact HB.out | apply bDrew | apply bAlloc); rintro e w4 ⟨rfl, hb4⟩; have HB4 := Lib.hid (bCall (by (repeat with_reducible first | exact HB.out | apply bDrew | apply bAlloc)) hb4); have HX4 := Lib.hid ((hb4.block _ (by simpa using hx)).trans (show _ from HX.out)); clear s0 s1 s2 s3 s4 s5 s6 s7 s8; obtain ⟨s0, s1, s2, s3, s4, s5, s6, s7, s8⟩ := cells9 HX4.out; have hx4 := blkLt HX4.out; clear hb4))
     all_goals go_wp2_with fail
     go_roundg 4
     case measure => omega
     case rel => exact ⟨1, by omega, by go_num, hG, HB4, HX4⟩
    ·rw [if_neg h0] at hE1
     obtain ⟨h1, h2⟩ := Prod.mk.inj hE1
     subst h1 h2
     clear hE1
     have h0f : (handM s o.l0 != 0) = true := by simp [h0]
     generalize handM s o.l0 = er at *
     go_wp2_with fail
     go_region_held3 (fun w' => w'.cell? ⟨w.heap.size, 1, none⟩ = some (.slice VA vn vm) ∧ w'.cell? ⟨w.heap.size, 2, none⟩ = some (.slice a.a0 o.l0.length a.m0))
      (first | (with_reducible exact ⟨s1, s2⟩) | go_keep)
      (first
       | (go_at_call 44; refine (HJ.out _ ?_).mono ?_; (repeat with_reducible first | exact HB.out | apply bDrew | apply bAlloc); rintro e w4 ⟨rfl, hb4⟩; have HB4 := Lib.hid (bCall (by (repeat with_reducible first | exact HB.out | apply bDrew | apply bAlloc)) hb4); have HX4 := Lib.hid ((hb4.block _ (by simpa using hx)).trans (show _ from HX.out)); clear s0 s1 s2 s3 s4 s5 s6 s7 s8; obtain ⟨s0, s1, s2, s3, s4, s5, s6, s7, s8⟩ := cells9 HX4.out; have hx4 := blkLt HX4.out; clear hb4))
     all_goals go_wp2_with fail
     exact bodyPost_ret (v := .tuple #[.int .i64 0, .int .i64 er]) (by simp [results, Tryz.results21, go_sem]) rfl ⟨rfl, HB4.out⟩
   | 1, hj =>
    obtain rfl : gk = 4 := by omega
    have hE1 : (if handM s o.l1 = 0 then chkL s (o.list.drop 2) 2 else ((1 : Int), handM s o.l1)) = (ri, re) := hE.out
    have HJ := Lib.hid (fun wx (h : Below w.heap.size w wx) => HH.out wx o.l1 a.a1 a.m1 h HO.out.r1 HO.out.n1)
    clear hE
    by_cases h0 : handM s o.l1 = 0
    ·rw [if_pos h0] at hE1
     rw [h0] at HJ
     have hG := Lib.hid hE1
     clear hE1 h0
     go_wp2_with fail
     go_region_held3 (fun w' => w'.cell? ⟨w.heap.size, 1, none⟩ = some (.slice VA vn vm) ∧ w'.cell? ⟨w.heap.size, 3, none⟩ = some (.slice a.a1 o.l1.length a.m1))
      (first | (with_reducible exact ⟨s1, s3⟩) | go_keep)
      (first
       | (go_at_call 44; refine (HJ.out _ ?_).mono ?_; (repeat with_reducible first | exact HB.out | apply bDrew | apply bAlloc); rintro e w4 ⟨rfl, hb4⟩; have HB4 := Lib.hid (bCall (by (repeat with_reducible first | exact HB.out | apply bDrew | apply bAlloc)) hb4); have HX4 := Lib.hid ((hb4.block _ (by simpa using hx)).trans (show _ from HX.out)); clear s0 s1 s2 s3 s4 s5 s6 s7 s8; obtain ⟨s0, s1, s2, s3, s4, s5, s6, s7, s8⟩ := cells9 HX4.out; have hx4 := blkLt HX4.out; clear hb4))
     all_goals go_wp2_with fail
     go_roundg 3
     case measure => omega
     case rel => exact ⟨2, by omega, by go_num, hG, HB4, HX4⟩
    ·rw [if_neg h0] at hE1
     obtain ⟨h1, h2⟩ := Prod.mk.inj hE1
     subst h1 h2
     clear hE1
     have h0f : (handM s o.l1 != 0) = true := by simp [h0]
     generalize handM s o.l1 = er at *
     go_wp2_with fail
     go_region_held3 (fun w' => w'.cell? ⟨w.heap.size, 1, none⟩ = some (.slice VA vn vm) ∧ w'.cell? ⟨w.heap.size, 3, none⟩ = some (.slice a.a1 o.l1.length a.m1))
      (first | (with_reducible exact ⟨s1, s3⟩) | go_keep)
      (first
       | (go_at_call 44; refine (HJ.out _ ?_).mono ?_; (repeat with_reducible first | exact HB.out | apply bDrew | apply bAlloc); rintro e w4 ⟨rfl, hb4⟩; have HB4 := Lib.hid (bCall (by (repeat with_reducible first | exact HB.out | apply bDrew | apply bAlloc)) hb4); have HX4 := Lib.hid ((hb4.block _ (by simpa using hx)).trans (show _ from HX.out)); clear s0 s1 s2 s3 s4 s5 s6 s7 s8; obtain ⟨s0, s1, s2, s3, s4, s5, s6, s7, s8⟩ := cells9 HX4.out; have hx4 := blkLt HX4.out; clear hb4))
     all_goals go_wp2_with fail
     exact bodyPost_ret (v := .tuple #[.int .i64 1, .int .i64 er]) (by simp [results, Tryz.results21, go_sem]) rfl ⟨rfl, HB4.out⟩
   | 2, hj =>
    obtain rfl : gk = 3 := by omega
    have hE1 : (if handM s o.l2 = 0 then chkL s (o.list.drop 3) 3 else ((2 : Int), handM s o.l2)) = (ri, re) := hE.out
    have HJ := Lib.hid (fun wx (h : Below w.heap.size w wx) => HH.out wx o.l2 a.a2 a.m2 h HO.out.r2 HO.out.n2)
    clear hE
    by_cases h0 : handM s o.l2 = 0
    ·rw [if_pos h0] at hE1
     rw [h0] at HJ
     have hG := Lib.hid hE1
     clear hE1 h0
     go_wp2_with fail
     go_region_held3 (fun w' => w'.cell? ⟨w.heap.size, 1, none⟩ = some (.slice VA vn vm) ∧ w'.cell? ⟨w.heap.size, 4, none⟩ = some (.slice a.a2 o.l2.length a.m2))
      (first | (with_reducible exact ⟨s1, s4⟩) | go_keep)
      (first
       | (go_at_call 44; refine (HJ.out _ ?_).mono ?_; (repeat with_reducible first | exact HB.out | apply bDrew | apply bAlloc); rintro e w4 ⟨rfl, hb4⟩; have HB4 := Lib.hid (bCall (by (repeat with_reducible first | exact HB.out | apply bDrew | apply bAlloc)) hb4); have HX4 := Lib.hid ((hb4.block _ (by simpa using hx)).trans (show _ from HX.out)); clear s0 s1 s2 s3 s4 s5 s6 s7 s8; obtain ⟨s0, s1, s2, s3, s4, s5, s6, s7, s8⟩ := cells9 HX4.out; have hx4 := blkLt HX4.out; clear hb4))
     all_goals go_wp2_with fail
     go_roundg 2
     case measure => omega
     case rel => exact ⟨3, by omega, by go_num, hG, HB4, HX4⟩
    ·rw [if_neg h0] at hE1
     obtain ⟨h1, h2⟩ := Prod.mk.inj hE1
     subst h1 h2
     clear hE1
     have h0f : (handM s o.l2 != 0) = true := by simp [h0]
     generalize handM s o.l2 = er at *
     go_wp2_with fail
     go_region_held3 (fun w' => w'.cell? ⟨w.heap.size, 1, none⟩ = some (.slice VA vn vm) ∧ w'.cell? ⟨w.heap.size, 4, none⟩ = some (.slice a.a2 o.l2.length a.m2))
      (first | (with_reducible exact ⟨s1, s4⟩) | go_keep)
      (first
       | (go_at_call 44; refine (HJ.out _ ?_).mono ?_; (repeat with_reducible first | exact HB.out | apply bDrew | apply bAlloc); rintro e w4 ⟨rfl, hb4⟩; have HB4 := Lib.hid (bCall (by (repeat with_reducible first | exact HB.out | apply bDrew | apply bAlloc)) hb4); have HX4 := Lib.hid ((hb4.block _ (by simpa using hx)).trans (show _ from HX.out)); clear s0 s1 s2 s3 s4 s5 s6 s7 s8; obtain ⟨s0, s1, s2, s3, s4, s5, s6, s7, s8⟩ := cells9 HX4.out; have hx4 := blkLt HX4.out; clear hb4))
     all_goals go_wp2_with fail
     exact bodyPost_ret (v := .tuple #[.int .i64 2, .int .i64 er]) (by simp [results, Tryz.results21, go_sem]) rfl ⟨rfl, HB4.out⟩
   | 3, hj =>
    obtain rfl : gk = 2 := by omega
    have hE1 : (if handM s o.l3 = 0 then chkL s (o.list.drop 4) 4 else ((3 : Int), handM s o.l3)) = (ri, re) := hE.out
    have HJ := Lib.hid (fun wx (h : Below w.heap.size w wx) => HH.out wx o.l3 a.a3 a.m3 h HO.out.r3 HO.out.n3)
    clear hE
    by_cases h0 : handM s o.l3 = 0
    ·rw [if_pos h0] at hE1
     rw [h0] at HJ
     have hG := Lib.hid hE1
     clear hE1 h0
     go_wp2_with fail
     go_region_held3 (fun w' => w'.cell? ⟨w.heap.size, 1, none⟩ = some (.slice VA vn vm) ∧ w'.cell? ⟨w.heap.size, 5, none⟩ = some (.slice a.a3 o.l3.length a.m3))
      (first | (with_reducible exact ⟨s1, s5⟩) | go_keep)
      (first
       | (go_at_call 44; refine (HJ.out _ ?_).mono ?_; (repeat with_reducible first | exact HB.out | apply bDrew | apply bAlloc); rintro e w4 ⟨rfl, hb4⟩; have HB4 := Lib.hid (bCall (by (repeat with_reducible first | exact HB.out | apply bDrew | apply bAlloc)) hb4); have HX4 := Lib.hid ((hb4.block _ (by simpa using hx)).trans (show _ from HX.out)); clear s0 s1 s2 s3 s4 s5 s6 s7 s8; obtain ⟨s0, s1, s2, s3, s4, s5, s6, s7, s8⟩ := cells9 HX4.out; have hx4 := blkLt HX4.out; clear hb4))
     all_goals go_wp2_with fail
     go_roundg 1
     case measure => omega
     case rel => exact ⟨4, by omega, by go_num, hG, HB4, HX4⟩
    ·rw [if_neg h0] at hE1
     obtain ⟨h1, h2⟩ := Prod.mk.inj hE1
     subst h1 h2
     clear hE1
     have h0f : (handM s o.l3 != 0) = true := by simp [h0]
     generalize handM s o.l3 = er at *
     go_wp2_with fail
     go_region_held3 (fun w' => w'.cell? ⟨w.heap.size, 1, none⟩ = some (.slice VA vn vm) ∧ w'.cell? ⟨w.heap.size, 5, none⟩ = some (.slice a.a3 o.l3.length a.m3))
      (first | (with_reducible exact ⟨s1, s5⟩) | go_keep)
      (first
       | (go_at_call 44; refine (HJ.out _ ?_).mono ?_; (repeat with_reducible first | exact HB.out | apply bDrew | apply bAlloc); rintro e w4 ⟨rfl, hb4⟩; have HB4 := Lib.hid (bCall (by (repeat with_reducible first | exact HB.out | apply bDrew | apply bAlloc)) hb4); have HX4 := Lib.hid ((hb4.block _ (by simpa using hx)).trans (show _ from HX.out)); clear s0 s1 s2 s3 s4 s5 s6 s7 s8; obtain ⟨s0, s1, s2, s3, s4, s5, s6, s7, s8⟩ := cells9 HX4.out; have hx4 := blkLt HX4.out; clear hb4))
     all_goals go_wp2_with fail
     exact bodyPost_ret (v := .tuple #[.int .i64 3, .int .i64 er]) (by simp [results, Tryz.results21, go_sem]) rfl ⟨rfl, HB4.out⟩
   | 4, hj =>
    obtain rfl : gk = 1 := by omega
    have hE1 : (if handM s o.l4 = 0 then chkL s (o.list.drop 5) 5 else ((4 : Int), handM s o.l4)) = (ri, re) := hE.out
    have HJ := Lib.hid (fun wx (h : Below w.heap.size w wx) => HH.out wx o.l4 a.a4 a.m4 h HO.out.r4 HO.out.n4)
    clear hE
    by_cases h0 : handM s o.l4 = 0
    ·rw [if_pos h0] at hE1
     rw [h0] at HJ
     have hG := Lib.hid hE1
     clear hE1 h0
     go_wp2_with fail
     go_region_held3 (fun w' => w'.cell? ⟨w.heap.size, 1, none⟩ = some (.slice VA vn vm) ∧ w'.cell? ⟨w.heap.size, 6, none⟩ = some (.slice a.a4 o.l4.length a.m4))
      (first | (with_reducible exact ⟨s1, s6⟩) | go_keep)
      (first
       | (go_at_call 44; refine (HJ.out _ ?_).mono ?_; (repeat with_reducible first | exact HB.out | apply bDrew | apply bAlloc); rintro e w4 ⟨rfl, hb4⟩; have HB4 := Lib.hid (bCall (by (repeat with_reducible first | exact HB.out | apply bDrew | apply bAlloc)) hb4); have HX4 := Lib.hid ((hb4.block _ (by simpa using hx)).trans (show _ from HX.out)); clear s0 s1 s2 s3 s4 s5 s6 s7 s8; obtain ⟨s0, s1, s2, s3, s4, s5, s6, s7, s8⟩ := cells9 HX4.out; have hx4 := blkLt HX4.out; clear hb4))
     all_goals go_wp2_with fail
     go_roundg 0
     case measure => omega
     case rel => exact ⟨5, by omega, by go_num, hG, HB4, HX4⟩
    ·rw [if_neg h0] at hE1
     obtain ⟨h1, h2⟩ := Prod.mk.inj hE1
     subst h1 h2
     clear hE1
     have h0f : (handM s o.l4 != 0) = true := by simp [h0]
     generalize handM s o.l4 = er at *
     go_wp2_with fail
     go_region_held3 (fun w' => w'.cell? ⟨w.heap.size, 1, none⟩ = some (.slice VA vn vm) ∧ w'.cell? ⟨w.heap.size, 6, none⟩ = some (.slice a.a4 o.l4.length a.m4))
      (first | (with_reducible exact ⟨s1, s6⟩) | go_keep)
      (first
       | (go_at_call 44; refine (HJ.out _ ?_).mono ?_; (repeat with_reducible first | exact HB.out | apply bDrew | apply bAlloc); rintro e w4 ⟨rfl, hb4⟩; have HB4 := Lib.hid (bCall (by (repeat with_reducible first | exact HB.out | apply bDrew | apply bAlloc)) hb4); have HX4 := Lib.hid ((hb4.block _ (by simpa using hx)).trans (show _ from HX.out)); clear s0 s1 s2 s3 s4 s5 s6 s7 s8; obtain ⟨s0, s1, s2, s3, s4, s5, s6, s7, s8⟩ := cells9 HX4.out; have hx4 := blkLt HX4.out; clear hb4))
     all_goals go_wp2_with fail
     exact bodyPost_ret (v := .tuple #[.int .i64 4, .int .i64 er]) (by simp [results, Tryz.results21, go_sem]) rfl ⟨rfl, HB4.out⟩
   | 5, hj =>
    obtain rfl : gk = 0 := by omega
    have hE1 : ((-1 : Int), (0 : Int)) = (ri, re) := hE.out
    obtain ⟨h1, h2⟩ := Prod.mk.inj hE1
    subst h1 h2
    clear hE hE1
    go_wp2_with fail
    exact bodyPost_ret (v := .tuple #[.int .i64 (-1), .int .i64 0]) (by simp [results, Tryz.results21, go_sem]) rfl ⟨rfl, HB.out⟩
   | j + 6, hj => omega
end Go.Proofs.YtamfgjinfcknfaaGreatDoor.U
