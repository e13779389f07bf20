/- Law package 04: the reference's Infer and Check; the law UnitsMatchesReference returns true. Condition: the listed package-level variables hold what the text lays. -/
import Derived.Test.YtmofclpheioepaaDoorUyH
namespace Go.Proofs.YtmofclpheioepaaDoor
open Go.RowKit
set_option linter.unusedVariables false
set_option linter.unusedSimpArgs false

set_option maxHeartbeats 4000000 in
set_option maxRecDepth 100000 in
theorem InferR_any (vs : List Vr) (VA A : Option Addr) (vm c : Nat) (t : Ex) (w : World) (hV : VarsR w vs VA) (hlen : vs.length ≤ maxLen) (hK : KidsE w t.kids A) :
    Calls Tryd.prog 12 #[.slice VA vs.length vm, ev t A c] w (VV (.tuple #[pv (inferM (vs.map (·.u)) t).1, .int .i64 (inferM (vs.map (·.u)) t).2]) w) := by
  obtain ⟨W2, hW2⟩ : ∃ W2, W2 = (w.alloc (.cells (eArr t A c) 29)).alloc (.cells (pArr ⟨0, 0, 0⟩) 34) := ⟨_, rfl⟩
  have HW : Hid (Below w.heap.size w W2) := Lib.hid (by rw [hW2]; exact bAlloc (bAlloc (Below.refl _ _)))
  have HE : Hid (W2.heap[w.heap.size]? = some (.cells (eArr t A c) 29 (0, 0))) := Lib.hid (by rw [hW2]; exact (Below.heap_alloc _ _ _ (by simp)).trans (newBlk _ _ _ rfl))
  have HR0 : Hid (W2.heap[w.heap.size + 1]? = some (.cells (pArr ⟨0, 0, 0⟩) 34 (0, 0))) := Lib.hid (by rw [hW2]; exact newBlk _ _ _ (by simp))
  have HB := Lib.hid (Below.refl W2.heap.size W2)
  obtain ⟨⟨e0, e1, e2, e3⟩, -⟩ := cells4 HE.out
  have el := blkLt HE.out
  have rl := blkLt HR0.out
  have HVs := Lib.hid (fun wx (h : Below W2.heap.size W2 wx) => VarsR_any vs VA vm wx (hV.below (bCall HW.out h)) hlen)
  have HSz := Lib.hid (fun wx (h : Below W2.heap.size W2 wx) => Size_any t wx 60 A c (by decide) (by decide) (hK.below (bCall HW.out h)))
  have hr := rsE_min t 60 (by decide)
  rw [varsM_scope] at HVs
  rcases hc : scopeM (vs.map (·.u)) with _ | s
  · rw [inferM_none hc]
    rw [hc] at HVs
    have HVs : Hid (∀ wx, Below W2.heap.size W2 wx → Calls Tryd.prog 32 #[.slice VA vs.length vm] wx (BB false wx)) := HVs
    clear hV hK hlen hr hc HSz
    generalize vs.length = vn at *
    go_enter Tryd.func12, Tryd.ntmps12
    go_upto_region 1 with fail
    rw [← hW2]
    clear hW2
    go_wp2_with (first
      | (go_at_call 32; refine (HVs.out _ HB.out).mono ?_; rintro e wn ⟨rfl, hbn⟩; have HB := Lib.hid (bCall HB.out hbn); obtain ⟨⟨e0, e1, e2, e3⟩, -⟩ := cells4 ((HB.out.block _ el).trans HE.out); have HR := Lib.hid ((HB.out.block _ rl).trans HR0.out); obtain ⟨⟨r0, r1, r2⟩, d0, d1, d2⟩ := cells3 HR.out; have el' := Nat.lt_of_lt_of_le el HB.out.size; have rl' := Nat.lt_of_lt_of_le rl HB.out.size; clear hbn))
    obtain ⟨f0, f1, f2⟩ := res3 (x := .int .i64 0) (y := .int .i64 0) (z := .int .i64 0) HR.out
    exact bodyPost_ret (v := .tuple #[.agg #[.int .i64 0, .int .i64 0, .int .i64 0], .int .i64 1]) (by simp [results, Tryd.results12, go_sem, f0, f1, f2]) rfl ⟨rfl, below3 (bCall HW.out HB.out) (Nat.le_add_right w.heap.size 1)⟩
  · rw [hc] at HVs
    have HVs : Hid (∀ wx, Below W2.heap.size W2 wx → Calls Tryd.prog 32 #[.slice VA vs.length vm] wx (BB true wx)) := HVs
    generalize hrs : rsE t 60 = rs at *
    by_cases hl : 60 < t.size
    · rw [inferM_long hc hl]
      have d1 : decide (rs > 60) = true := by simp; omega
      clear hV hK hlen hr hc
      generalize vs.length = vn at *
      go_enter Tryd.func12, Tryd.ntmps12
      go_upto_region 1 with fail
      rw [← hW2]
      clear hW2
      go_wp2_with (first
        | (go_at_call 32; refine (HVs.out _ HB.out).mono ?_; rintro e wn ⟨rfl, hbn⟩; have HB := Lib.hid (bCall HB.out hbn); obtain ⟨⟨e0, e1, e2, e3⟩, -⟩ := cells4 ((HB.out.block _ el).trans HE.out); have HR := Lib.hid ((HB.out.block _ rl).trans HR0.out); obtain ⟨⟨r0, r1, r2⟩, d0, d1, d2⟩ := cells3 HR.out; have el' := Nat.lt_of_lt_of_le el HB.out.size; have rl' := Nat.lt_of_lt_of_le rl HB.out.size; clear hbn)
        | (go_at_call 10; refine (HSz.out _ HB.out).mono ?_; rintro e wn ⟨rfl, hbn⟩; have HB := Lib.hid (bCall HB.out hbn); obtain ⟨⟨e0, e1, e2, e3⟩, -⟩ := cells4 ((HB.out.block _ el).trans HE.out); have HR := Lib.hid ((HB.out.block _ rl).trans HR0.out); obtain ⟨⟨r0, r1, r2⟩, d0, d1, d2⟩ := cells3 HR.out; have el' := Nat.lt_of_lt_of_le el HB.out.size; have rl' := Nat.lt_of_lt_of_le rl HB.out.size; clear hbn))
      obtain ⟨f0, f1, f2⟩ := res3 (x := .int .i64 0) (y := .int .i64 0) (z := .int .i64 0) HR.out
      exact bodyPost_ret (v := .tuple #[.agg #[.int .i64 0, .int .i64 0, .int .i64 0], .int .i64 2]) (by simp [results, Tryd.results12, go_sem, f0, f1, f2]) rfl ⟨rfl, below3 (bCall HW.out HB.out) (Nat.le_add_right w.heap.size 1)⟩
    · rw [inferM_ok hc hl]
      have d1 : decide (rs > 60) = false := by simp; omega
      have HX := Lib.hid (fun wx (h : Below W2.heap.size W2 wx) => exprR_any hc VA vm t wx A c (hV.below (bCall HW.out h)) (hK.below (bCall HW.out h)) (by omega))
      obtain ⟨⟨p, er⟩, hp⟩ : ∃ q, resP (inf s t) = q := ⟨_, rfl⟩
      rw [hp] at HX ⊢
      clear hV hK hlen hr hc hp
      generalize vs.length = vn at *
      go_enter Tryd.func12, Tryd.ntmps12
      go_upto_region 1 with fail
      rw [← hW2]
      clear hW2
      go_wp2_with (first
        | (go_at_call 32; refine (HVs.out _ HB.out).mono ?_; rintro e wn ⟨rfl, hbn⟩; have HB := Lib.hid (bCall HB.out hbn); obtain ⟨⟨e0, e1, e2, e3⟩, -⟩ := cells4 ((HB.out.block _ el).trans HE.out); have HR := Lib.hid ((HB.out.block _ rl).trans HR0.out); obtain ⟨⟨r0, r1, r2⟩, d0, d1, d2⟩ := cells3 HR.out; have el' := Nat.lt_of_lt_of_le el HB.out.size; have rl' := Nat.lt_of_lt_of_le rl HB.out.size; clear hbn)
        | (go_at_call 10; refine (HSz.out _ HB.out).mono ?_; rintro e wn ⟨rfl, hbn⟩; have HB := Lib.hid (bCall HB.out hbn); obtain ⟨⟨e0, e1, e2, e3⟩, -⟩ := cells4 ((HB.out.block _ el).trans HE.out); have HR := Lib.hid ((HB.out.block _ rl).trans HR0.out); obtain ⟨⟨r0, r1, r2⟩, d0, d1, d2⟩ := cells3 HR.out; have el' := Nat.lt_of_lt_of_le el HB.out.size; have rl' := Nat.lt_of_lt_of_le rl HB.out.size; clear hbn)
        | (go_at_call 33; refine (HX.out _ HB.out).mono ?_; rintro e wn ⟨rfl, hbn⟩; have HB := Lib.hid (bCall HB.out hbn); obtain ⟨⟨e0, e1, e2, e3⟩, -⟩ := cells4 ((HB.out.block _ el).trans HE.out); have HR := Lib.hid ((HB.out.block _ rl).trans HR0.out); obtain ⟨⟨r0, r1, r2⟩, d0, d1, d2⟩ := cells3 HR.out; have el' := Nat.lt_of_lt_of_le el HB.out.size; have rl' := Nat.lt_of_lt_of_le rl HB.out.size; clear hbn))
      obtain ⟨f0, f1, f2⟩ := res3 (x := .int .i64 p.a) (y := .int .i64 p.b) (z := .int .i64 p.c) HR.out
      exact bodyPost_ret (v := .tuple #[.agg #[.int .i64 p.a, .int .i64 p.b, .int .i64 p.c], .int .i64 er]) (by simp [results, Tryd.results12, go_sem, f0, f1, f2]) rfl ⟨rfl, below3 (bCall HW.out HB.out) (Nat.le_add_right w.heap.size 1)⟩
set_option maxHeartbeats 4000000 in
set_option maxRecDepth 100000 in
theorem CheckR_any (x : ByteArray) (vs : List Vr) (VA : Option Addr) (vm : Nat) (o : On) (a : OnA) (wi pa : Int) (w : World) (hV : VarsR w vs VA) (hlen : vs.length ≤ maxLen) (hO : OnR w o a) :
    Calls Tryd.prog 14 #[pgv x VA vs.length vm o a wi pa] w (VV (.tuple #[.int .i64 (checkM (vs.map (·.u)) o.list).1, .int .i64 (checkM (vs.map (·.u)) o.list).2]) w) := by
  have HB := Lib.hid ((Below.refl w.heap.size w).alloc (Nat.le_refl _) (.cells (pgArr x VA vs.length vm o a wi pa) 26))
  have HX := Lib.hid (newBlk w (.cells (pgArr x VA vs.length vm o a wi pa) 26) _ rfl)
  have HVs := Lib.hid (fun wx (h : Below w.heap.size w wx) => VarsR_any vs VA vm wx (hV.below h) hlen)
  rw [varsM_scope] at HVs
  have HO := Lib.hid hO
  have HV := Lib.hid hV
  obtain ⟨s0, s1, s2, s3, s4, s5, s6, s7, s8⟩ := cells9 HX.out
  have hx := blkLt HX.out
  rcases hc : scopeM (vs.map (·.u)) with _ | s
  · rw [hc] at HVs
    have hck : checkM (vs.map (·.u)) o.list = (0, 1) := by unfold checkM; rw [hc]
    rw [hck]
    clear hck
    have HVs : Hid (∀ wx, Below w.heap.size w wx → Calls Tryd.prog 32 #[.slice VA vs.length vm] wx (BB false wx)) := HVs
    clear hV hO hc hlen
    generalize vs.length = vn at *
    go_enter Tryd.func14, Tryd.ntmps14
    go_wp2_with (first
      | (go_at_call 32; refine (HVs.out _ HB.out).mono ?_; rintro e wn ⟨rfl, hbn⟩; have HX := Lib.hid ((hbn.block _ hx).trans HX.out); have HB := Lib.hid (bCall HB.out hbn); clear s0 s1 s2 s3 s4 s5 s6 s7 s8 hx; obtain ⟨s0, s1, s2, s3, s4, s5, s6, s7, s8⟩ := cells9 HX.out; have hx := blkLt HX.out; clear hbn))
    exact bodyPost_ret (v := .tuple #[.int .i64 0, .int .i64 1]) (by simp [results, Tryd.results14, go_sem]) rfl ⟨rfl, HB.out⟩
  · rw [hc] at HVs
    have HVs : Hid (∀ wx, Below w.heap.size w wx → Calls Tryd.prog 32 #[.slice VA vs.length vm] wx (BB true wx)) := HVs
    have HH := Lib.hid (fun (wx : World) (l : List St) (A : Option Addr) (m : Nat) (hb : Below w.heap.size w wx) (hR : StsR w l A) (hn : l.length ≤ maxLen) => HandlerR_any hc VA vm l A m wx (HV.out.below hb) (hR.below hb) hn)
    have hck : checkM (vs.map (·.u)) o.list = chkL s o.list 0 := by unfold checkM; rw [hc]
    rw [hck]
    clear hck
    obtain ⟨⟨ri, re⟩, hr⟩ : ∃ r, chkL s o.list 0 = r := ⟨_, rfl⟩
    rw [hr]
    have hE0 : Hid (chkL s (o.list.drop 0) 0 = (ri, re)) := Lib.hid hr
    clear hV hO hc hlen hr HV
    generalize vs.length = vn at *
    go_enter Tryd.func14, Tryd.ntmps14
    go_wp2_with (first
      | (go_at_call 32; refine (HVs.out _ HB.out).mono ?_; rintro e wn ⟨rfl, hbn⟩; have HX := Lib.hid ((hbn.block _ hx).trans HX.out); have HB := Lib.hid (bCall HB.out hbn); clear s0 s1 s2 s3 s4 s5 s6 s7 s8 hx; obtain ⟨s0, s1, s2, s3, s4, s5, s6, s7, s8⟩ := cells9 HX.out; have hx := blkLt HX.out; clear hbn))
    go_loopg [5] 5 (fun gk i wr => ∃ (j : Nat), j + gk = 5 ∧ i = .int .i64 j ∧ Hid (chkL s (o.list.drop j) j = (ri, re)) ∧ Hid (Below w.heap.size w wr) ∧ Hid (wr.heap[w.heap.size]? = some (.cells (pgArr x VA vn vm o a wi pa) 26 (0, 0))))
    case atStart => exact ⟨0, rfl, rfl, hE0, HB, HX⟩
    case round =>
      obtain ⟨j, hj, rfl, hE, HB, HX⟩ := hrel
      clear s0 s1 s2 s3 s4 s5 s6 s7 s8 hx HVs hE0
      obtain ⟨s0, s1, s2, s3, s4, s5, s6, s7, s8⟩ := cells9 HX.out
      have hx := blkLt HX.out
      match j, hj with
      | 0, hj =>
        obtain rfl : gk = 5 := by omega
        have hE1 : (if handM s o.l0 = 0 then chkL s (o.list.drop 1) 1 else ((0 : Int), handM s o.l0)) = (ri, re) := hE.out
        have HJ := Lib.hid (fun wx (h : Below w.heap.size w wx) => HH.out wx o.l0 a.a0 a.m0 h HO.out.r0 HO.out.n0)
        clear hE
        by_cases h0 : handM s o.l0 = 0
        · rw [if_pos h0] at hE1
          rw [h0] at HJ
          have hG := Lib.hid hE1
          clear hE1 h0
          go_wp2_with fail
          go_region_held3 (fun w' => w'.cell? ⟨w.heap.size, 1, none⟩ = some (.slice VA vn vm) ∧ w'.cell? ⟨w.heap.size, 2, none⟩ = some (.slice a.a0 o.l0.length a.m0))
            (first | (with_reducible exact ⟨s1, s2⟩) | go_keep)
            (first
              | (go_at_call 35; refine (HJ.out _ ?_).mono ?_; (repeat with_reducible first | exact HB.out | apply bDrew | apply bAlloc); rintro e w4 ⟨rfl, hb4⟩; have HB4 := Lib.hid (bCall (by (repeat with_reducible first | exact HB.out | apply bDrew | apply bAlloc)) hb4); have HX4 := Lib.hid ((hb4.block _ (by simpa using hx)).trans (show _ from HX.out)); clear s0 s1 s2 s3 s4 s5 s6 s7 s8; obtain ⟨s0, s1, s2, s3, s4, s5, s6, s7, s8⟩ := cells9 HX4.out; have hx4 := blkLt HX4.out; clear hb4))
          all_goals go_wp2_with fail
          go_roundg 4
          case measure => omega
          case rel => exact ⟨1, by omega, by go_num, hG, HB4, HX4⟩
        · rw [if_neg h0] at hE1
          obtain ⟨h1, h2⟩ := Prod.mk.inj hE1
          subst h1 h2
          clear hE1
          have h0f : (handM s o.l0 != 0) = true := by simp [h0]
          generalize handM s o.l0 = er at *
          go_wp2_with fail
          go_region_held3 (fun w' => w'.cell? ⟨w.heap.size, 1, none⟩ = some (.slice VA vn vm) ∧ w'.cell? ⟨w.heap.size, 2, none⟩ = some (.slice a.a0 o.l0.length a.m0))
            (first | (with_reducible exact ⟨s1, s2⟩) | go_keep)
            (first
              | (go_at_call 35; refine (HJ.out _ ?_).mono ?_; (repeat with_reducible first | exact HB.out | apply bDrew | apply bAlloc); rintro e w4 ⟨rfl, hb4⟩; have HB4 := Lib.hid (bCall (by (repeat with_reducible first | exact HB.out | apply bDrew | apply bAlloc)) hb4); have HX4 := Lib.hid ((hb4.block _ (by simpa using hx)).trans (show _ from HX.out)); clear s0 s1 s2 s3 s4 s5 s6 s7 s8; obtain ⟨s0, s1, s2, s3, s4, s5, s6, s7, s8⟩ := cells9 HX4.out; have hx4 := blkLt HX4.out; clear hb4))
          all_goals go_wp2_with fail
          exact bodyPost_ret (v := .tuple #[.int .i64 0, .int .i64 er]) (by simp [results, Tryd.results14, go_sem]) rfl ⟨rfl, HB4.out⟩
      | 1, hj =>
        obtain rfl : gk = 4 := by omega
        have hE1 : (if handM s o.l1 = 0 then chkL s (o.list.drop 2) 2 else ((1 : Int), handM s o.l1)) = (ri, re) := hE.out
        have HJ := Lib.hid (fun wx (h : Below w.heap.size w wx) => HH.out wx o.l1 a.a1 a.m1 h HO.out.r1 HO.out.n1)
        clear hE
        by_cases h0 : handM s o.l1 = 0
        · rw [if_pos h0] at hE1
          rw [h0] at HJ
          have hG := Lib.hid hE1
          clear hE1 h0
          go_wp2_with fail
          go_region_held3 (fun w' => w'.cell? ⟨w.heap.size, 1, none⟩ = some (.slice VA vn vm) ∧ w'.cell? ⟨w.heap.size, 3, none⟩ = some (.slice a.a1 o.l1.length a.m1))
            (first | (with_reducible exact ⟨s1, s3⟩) | go_keep)
            (first
              | (go_at_call 35; refine (HJ.out _ ?_).mono ?_; (repeat with_reducible first | exact HB.out | apply bDrew | apply bAlloc); rintro e w4 ⟨rfl, hb4⟩; have HB4 := Lib.hid (bCall (by (repeat with_reducible first | exact HB.out | apply bDrew | apply bAlloc)) hb4); have HX4 := Lib.hid ((hb4.block _ (by simpa using hx)).trans (show _ from HX.out)); clear s0 s1 s2 s3 s4 s5 s6 s7 s8; obtain ⟨s0, s1, s2, s3, s4, s5, s6, s7, s8⟩ := cells9 HX4.out; have hx4 := blkLt HX4.out; clear hb4))
          all_goals go_wp2_with fail
          go_roundg 3
          case measure => omega
          case rel => exact ⟨2, by omega, by go_num, hG, HB4, HX4⟩
        · rw [if_neg h0] at hE1
          obtain ⟨h1, h2⟩ := Prod.mk.inj hE1
          subst h1 h2
          clear hE1
          have h0f : (handM s o.l1 != 0) = true := by simp [h0]
          generalize handM s o.l1 = er at *
          go_wp2_with fail
          go_region_held3 (fun w' => w'.cell? ⟨w.heap.size, 1, none⟩ = some (.slice VA vn vm) ∧ w'.cell? ⟨w.heap.size, 3, none⟩ = some (.slice a.a1 o.l1.length a.m1))
            (first | (with_reducible exact ⟨s1, s3⟩) | go_keep)
            (first
              | (go_at_call 35; refine (HJ.out _ ?_).mono ?_; (repeat with_reducible first | exact HB.out | apply bDrew | apply bAlloc); rintro e w4 ⟨rfl, hb4⟩; have HB4 := Lib.hid (bCall (by (repeat with_reducible first | exact HB.out | apply bDrew | apply bAlloc)) hb4); have HX4 := Lib.hid ((hb4.block _ (by simpa using hx)).trans (show _ from HX.out)); clear s0 s1 s2 s3 s4 s5 s6 s7 s8; obtain ⟨s0, s1, s2, s3, s4, s5, s6, s7, s8⟩ := cells9 HX4.out; have hx4 := blkLt HX4.out; clear hb4))
          all_goals go_wp2_with fail
          exact bodyPost_ret (v := .tuple #[.int .i64 1, .int .i64 er]) (by simp [results, Tryd.results14, go_sem]) rfl ⟨rfl, HB4.out⟩
      | 2, hj =>
        obtain rfl : gk = 3 := by omega
        have hE1 : (if handM s o.l2 = 0 then chkL s (o.list.drop 3) 3 else ((2 : Int), handM s o.l2)) = (ri, re) := hE.out
        have HJ := Lib.hid (fun wx (h : Below w.heap.size w wx) => HH.out wx o.l2 a.a2 a.m2 h HO.out.r2 HO.out.n2)
        clear hE
        by_cases h0 : handM s o.l2 = 0
        · rw [if_pos h0] at hE1
          rw [h0] at HJ
          have hG := Lib.hid hE1
          clear hE1 h0
          go_wp2_with fail
          go_region_held3 (fun w' => w'.cell? ⟨w.heap.size, 1, none⟩ = some (.slice VA vn vm) ∧ w'.cell? ⟨w.heap.size, 4, none⟩ = some (.slice a.a2 o.l2.length a.m2))
            (first | (with_reducible exact ⟨s1, s4⟩) | go_keep)
            (first
              | (go_at_call 35; refine (HJ.out _ ?_).mono ?_; (repeat with_reducible first | exact HB.out | apply bDrew | apply bAlloc); rintro e w4 ⟨rfl, hb4⟩; have HB4 := Lib.hid (bCall (by (repeat with_reducible first | exact HB.out | apply bDrew | apply bAlloc)) hb4); have HX4 := Lib.hid ((hb4.block _ (by simpa using hx)).trans (show _ from HX.out)); clear s0 s1 s2 s3 s4 s5 s6 s7 s8; obtain ⟨s0, s1, s2, s3, s4, s5, s6, s7, s8⟩ := cells9 HX4.out; have hx4 := blkLt HX4.out; clear hb4))
          all_goals go_wp2_with fail
          go_roundg 2
          case measure => omega
          case rel => exact ⟨3, by omega, by go_num, hG, HB4, HX4⟩
        · rw [if_neg h0] at hE1
          obtain ⟨h1, h2⟩ := Prod.mk.inj hE1
          subst h1 h2
          clear hE1
          have h0f : (handM s o.l2 != 0) = true := by simp [h0]
          generalize handM s o.l2 = er at *
          go_wp2_with fail
          go_region_held3 (fun w' => w'.cell? ⟨w.heap.size, 1, none⟩ = some (.slice VA vn vm) ∧ w'.cell? ⟨w.heap.size, 4, none⟩ = some (.slice a.a2 o.l2.length a.m2))
            (first | (with_reducible exact ⟨s1, s4⟩) | go_keep)
            (first
              | (go_at_call 35; refine (HJ.out _ ?_).mono ?_; (repeat with_reducible first | exact HB.out | apply bDrew | apply bAlloc); rintro e w4 ⟨rfl, hb4⟩; have HB4 := Lib.hid (bCall (by (repeat with_reducible first | exact HB.out | apply bDrew | apply bAlloc)) hb4); have HX4 := Lib.hid ((hb4.block _ (by simpa using hx)).trans (show _ from HX.out)); clear s0 s1 s2 s3 s4 s5 s6 s7 s8; obtain ⟨s0, s1, s2, s3, s4, s5, s6, s7, s8⟩ := cells9 HX4.out; have hx4 := blkLt HX4.out; clear hb4))
          all_goals go_wp2_with fail
          exact bodyPost_ret (v := .tuple #[.int .i64 2, .int .i64 er]) (by simp [results, Tryd.results14, go_sem]) rfl ⟨rfl, HB4.out⟩
      | 3, hj =>
        obtain rfl : gk = 2 := by omega
        have hE1 : (if handM s o.l3 = 0 then chkL s (o.list.drop 4) 4 else ((3 : Int), handM s o.l3)) = (ri, re) := hE.out
        have HJ := Lib.hid (fun wx (h : Below w.heap.size w wx) => HH.out wx o.l3 a.a3 a.m3 h HO.out.r3 HO.out.n3)
        clear hE
        by_cases h0 : handM s o.l3 = 0
        · rw [if_pos h0] at hE1
          rw [h0] at HJ
          have hG := Lib.hid hE1
          clear hE1 h0
          go_wp2_with fail
          go_region_held3 (fun w' => w'.cell? ⟨w.heap.size, 1, none⟩ = some (.slice VA vn vm) ∧ w'.cell? ⟨w.heap.size, 5, none⟩ = some (.slice a.a3 o.l3.length a.m3))
            (first | (with_reducible exact ⟨s1, s5⟩) | go_keep)
            (first
              | (go_at_call 35; refine (HJ.out _ ?_).mono ?_; (repeat with_reducible first | exact HB.out | apply bDrew | apply bAlloc); rintro e w4 ⟨rfl, hb4⟩; have HB4 := Lib.hid (bCall (by (repeat with_reducible first | exact HB.out | apply bDrew | apply bAlloc)) hb4); have HX4 := Lib.hid ((hb4.block _ (by simpa using hx)).trans (show _ from HX.out)); clear s0 s1 s2 s3 s4 s5 s6 s7 s8; obtain ⟨s0, s1, s2, s3, s4, s5, s6, s7, s8⟩ := cells9 HX4.out; have hx4 := blkLt HX4.out; clear hb4))
          all_goals go_wp2_with fail
          go_roundg 1
          case measure => omega
          case rel => exact ⟨4, by omega, by go_num, hG, HB4, HX4⟩
        · rw [if_neg h0] at hE1
          obtain ⟨h1, h2⟩ := Prod.mk.inj hE1
          subst h1 h2
          clear hE1
          have h0f : (handM s o.l3 != 0) = true := by simp [h0]
          generalize handM s o.l3 = er at *
          go_wp2_with fail
          go_region_held3 (fun w' => w'.cell? ⟨w.heap.size, 1, none⟩ = some (.slice VA vn vm) ∧ w'.cell? ⟨w.heap.size, 5, none⟩ = some (.slice a.a3 o.l3.length a.m3))
            (first | (with_reducible exact ⟨s1, s5⟩) | go_keep)
            (first
              | (go_at_call 35; refine (HJ.out _ ?_).mono ?_; (repeat with_reducible first | exact HB.out | apply bDrew | apply bAlloc); rintro e w4 ⟨rfl, hb4⟩; have HB4 := Lib.hid (bCall (by (repeat with_reducible first | exact HB.out | apply bDrew | apply bAlloc)) hb4); have HX4 := Lib.hid ((hb4.block _ (by simpa using hx)).trans (show _ from HX.out)); clear s0 s1 s2 s3 s4 s5 s6 s7 s8; obtain ⟨s0, s1, s2, s3, s4, s5, s6, s7, s8⟩ := cells9 HX4.out; have hx4 := blkLt HX4.out; clear hb4))
          all_goals go_wp2_with fail
          exact bodyPost_ret (v := .tuple #[.int .i64 3, .int .i64 er]) (by simp [results, Tryd.results14, go_sem]) rfl ⟨rfl, HB4.out⟩
      | 4, hj =>
        obtain rfl : gk = 1 := by omega
        have hE1 : (if handM s o.l4 = 0 then chkL s (o.list.drop 5) 5 else ((4 : Int), handM s o.l4)) = (ri, re) := hE.out
        have HJ := Lib.hid (fun wx (h : Below w.heap.size w wx) => HH.out wx o.l4 a.a4 a.m4 h HO.out.r4 HO.out.n4)
        clear hE
        by_cases h0 : handM s o.l4 = 0
        · rw [if_pos h0] at hE1
          rw [h0] at HJ
          have hG := Lib.hid hE1
          clear hE1 h0
          go_wp2_with fail
          go_region_held3 (fun w' => w'.cell? ⟨w.heap.size, 1, none⟩ = some (.slice VA vn vm) ∧ w'.cell? ⟨w.heap.size, 6, none⟩ = some (.slice a.a4 o.l4.length a.m4))
            (first | (with_reducible exact ⟨s1, s6⟩) | go_keep)
            (first
              | (go_at_call 35; refine (HJ.out _ ?_).mono ?_; (repeat with_reducible first | exact HB.out | apply bDrew | apply bAlloc); rintro e w4 ⟨rfl, hb4⟩; have HB4 := Lib.hid (bCall (by (repeat with_reducible first | exact HB.out | apply bDrew | apply bAlloc)) hb4); have HX4 := Lib.hid ((hb4.block _ (by simpa using hx)).trans (show _ from HX.out)); clear s0 s1 s2 s3 s4 s5 s6 s7 s8; obtain ⟨s0, s1, s2, s3, s4, s5, s6, s7, s8⟩ := cells9 HX4.out; have hx4 := blkLt HX4.out; clear hb4))
          all_goals go_wp2_with fail
          go_roundg 0
          case measure => omega
          case rel => exact ⟨5, by omega, by go_num, hG, HB4, HX4⟩
        · rw [if_neg h0] at hE1
          obtain ⟨h1, h2⟩ := Prod.mk.inj hE1
          subst h1 h2
          clear hE1
          have h0f : (handM s o.l4 != 0) = true := by simp [h0]
          generalize handM s o.l4 = er at *
          go_wp2_with fail
          go_region_held3 (fun w' => w'.cell? ⟨w.heap.size, 1, none⟩ = some (.slice VA vn vm) ∧ w'.cell? ⟨w.heap.size, 6, none⟩ = some (.slice a.a4 o.l4.length a.m4))
            (first | (with_reducible exact ⟨s1, s6⟩) | go_keep)
            (first
              | (go_at_call 35; refine (HJ.out _ ?_).mono ?_; (repeat with_reducible first | exact HB.out | apply bDrew | apply bAlloc); rintro e w4 ⟨rfl, hb4⟩; have HB4 := Lib.hid (bCall (by (repeat with_reducible first | exact HB.out | apply bDrew | apply bAlloc)) hb4); have HX4 := Lib.hid ((hb4.block _ (by simpa using hx)).trans (show _ from HX.out)); clear s0 s1 s2 s3 s4 s5 s6 s7 s8; obtain ⟨s0, s1, s2, s3, s4, s5, s6, s7, s8⟩ := cells9 HX4.out; have hx4 := blkLt HX4.out; clear hb4))
          all_goals go_wp2_with fail
          exact bodyPost_ret (v := .tuple #[.int .i64 4, .int .i64 er]) (by simp [results, Tryd.results14, go_sem]) rfl ⟨rfl, HB4.out⟩
      | 5, hj =>
        obtain rfl : gk = 0 := by omega
        have hE1 : ((-1 : Int), (0 : Int)) = (ri, re) := hE.out
        obtain ⟨h1, h2⟩ := Prod.mk.inj hE1
        subst h1 h2
        clear hE hE1
        go_wp2_with fail
        exact bodyPost_ret (v := .tuple #[.int .i64 (-1), .int .i64 0]) (by simp [results, Tryd.results14, go_sem]) rfl ⟨rfl, HB.out⟩
      | j + 6, hj => omega
set_option maxHeartbeats 4000000 in
set_option maxRecDepth 100000 in
theorem UMatches_any (x : ByteArray) (vs : List Vr) (VA : Option Addr) (vm : Nat) (o : On) (a : OnA) (wi pa : Int) (t : Ex) (A : Option Addr) (c : Nat) (k : Int) (w : World) (hL : LaidW w) (hV : VarsR w vs VA) (hlen : vs.length ≤ maxLen) (hO : OnR w o a) (hK : KidsE w t.kids A) :
    Calls Tryd.prog 3 #[pgv x VA vs.length vm o a wi pa, ev t A c, .int .i64 k] w (BB true w) := by
  obtain ⟨W2, hW2⟩ : ∃ W2, W2 = (w.alloc (.cells (pgArr x VA vs.length vm o a wi pa) 26)).alloc (.cells (eArr t A c) 29) := ⟨_, rfl⟩
  have hb0 : Below w.heap.size w W2 := by rw [hW2]; exact bAlloc (bAlloc (Below.refl _ _))
  have HX0 : Hid (W2.heap[w.heap.size]? = some (.cells (pgArr x VA vs.length vm o a wi pa) 26 (0, 0))) := Lib.hid (by rw [hW2]; exact (Below.heap_alloc _ _ _ (by simp)).trans (newBlk _ _ _ rfl))
  have HE : Hid (W2.heap[w.heap.size + 1]? = some (.cells (eArr t A c) 29 (0, 0))) := Lib.hid (by rw [hW2]; exact newBlk _ _ _ (by simp))
  have HLc := Lib.hid (hL.below hb0)
  have HW := Lib.hid hb0
  have HB := Lib.hid (Below.refl W2.heap.size W2)
  have HFew := Lib.hid (fun wx (h : Below W2.heap.size W2 wx) => Few_any x VA vs.length vm o a wi pa wx (hO.below (bCall hb0 h)))
  have HSz := Lib.hid (fun wx (h : Below W2.heap.size W2 wx) => Size_any t wx 150 A c (by decide) (by decide) (hK.below (bCall hb0 h)))
  have HI1 := Lib.hid (fun wx (h : Below W2.heap.size W2 wx) => Infer_any vs VA A vm c t wx (HLc.out.below h) (hV.below (bCall hb0 h)) (hK.below (bCall hb0 h)))
  have HI2 := Lib.hid (fun wx (h : Below W2.heap.size W2 wx) => InferR_any vs VA A vm c t wx (hV.below (bCall hb0 h)) hlen (hK.below (bCall hb0 h)))
  have HC1 := Lib.hid (fun wx (h : Below W2.heap.size W2 wx) => Check_any x vs VA vm o a wi pa wx (HLc.out.below h) (hV.below (bCall hb0 h)) (hO.below (bCall hb0 h)))
  have HC2 := Lib.hid (fun wx (h : Below W2.heap.size W2 wx) => CheckR_any x vs VA vm o a wi pa wx (hV.below (bCall hb0 h)) hlen (hO.below (bCall hb0 h)))
  have HO1 := Lib.hid (fun wx (h : Below W2.heap.size W2 wx) => Of_any k wx (HLc.out.below h))
  have HO2 := Lib.hid (OfR_any k)
  generalize inferM (vs.map (·.u)) t = ri at *
  generalize checkM (vs.map (·.u)) o.list = rc at *
  generalize ofM k = ro at *
  generalize rsE t 150 = rs at *
  obtain ⟨p, er⟩ := ri
  obtain ⟨ci, ce⟩ := rc
  obtain ⟨q, oe⟩ := ro
  have HI1 : Hid (∀ wx, Below W2.heap.size W2 wx → Calls Tryd.prog 11 #[.slice VA vs.length vm, ev t A c] wx (VV (.tuple #[pv p, .int .i64 er]) wx)) := HI1
  have HI2 : Hid (∀ wx, Below W2.heap.size W2 wx → Calls Tryd.prog 12 #[.slice VA vs.length vm, ev t A c] wx (VV (.tuple #[pv p, .int .i64 er]) wx)) := HI2
  have HC1 : Hid (∀ wx, Below W2.heap.size W2 wx → Calls Tryd.prog 13 #[pgv x VA vs.length vm o a wi pa] wx (VV (.tuple #[.int .i64 ci, .int .i64 ce]) wx)) := HC1
  have HC2 : Hid (∀ wx, Below W2.heap.size W2 wx → Calls Tryd.prog 14 #[pgv x VA vs.length vm o a wi pa] wx (VV (.tuple #[.int .i64 ci, .int .i64 ce]) wx)) := HC2
  have HO1 : Hid (∀ wx, Below W2.heap.size W2 wx → Calls Tryd.prog 15 #[.int .i64 k] wx (VV (.tuple #[pv q, .int .i64 oe]) wx)) := HO1
  have HO2 : Hid (∀ wx, Calls Tryd.prog 16 #[.int .i64 k] wx (VV (.tuple #[pv q, .int .i64 oe]) wx)) := HO2
  obtain ⟨s0, s1, s2, s3, s4, s5, s6, s7, s8⟩ := cells9 HX0.out
  obtain ⟨⟨e0, e1, e2, e3⟩, -⟩ := cells4 HE.out
  have xl := blkLt HX0.out
  have el := blkLt HE.out
  clear hL hV hO hK hb0
  cases hf : fewM vs.length x.size o with
  | false =>
    rw [hf] at HFew
    clear hf HSz HI1 HI2 HC1 HC2 HO1 HO2
    generalize vs.length = vn at *
    go_enter Tryd.func3, Tryd.ntmps3
    go_upto_region 1 with fail
    rw [← hW2]
    clear hW2
    go_wp2_with (first
      | (go_at_call 8; refine (head_any _ ?_).mono ?_; (exact HLc.out.below (by (repeat with_reducible first | exact HB.out | apply bDrew | apply bAlloc))); rintro e wn ⟨rfl, hbn⟩; have HB := Lib.hid (bCall (by (repeat with_reducible first | exact HB.out | apply bDrew | apply bAlloc)) hbn); have HX := Lib.hid ((HB.out.block _ xl).trans HX0.out); obtain ⟨s0, s1, s2, s3, s4, s5, s6, s7, s8⟩ := cells9 HX.out; obtain ⟨⟨e0, e1, e2, e3⟩, -⟩ := cells4 ((HB.out.block _ el).trans HE.out); have el' := Nat.lt_of_lt_of_le el HB.out.size; have xl' := Nat.lt_of_lt_of_le xl HB.out.size; clear hbn)
      | (go_at_call 9; refine (HFew.out _ ?_).mono ?_; (repeat with_reducible first | exact HB.out | apply bDrew | apply bAlloc); rintro e wn ⟨rfl, hbn⟩; have HB := Lib.hid (bCall (by (repeat with_reducible first | exact HB.out | apply bDrew | apply bAlloc)) hbn); have HX := Lib.hid ((HB.out.block _ xl).trans HX0.out); obtain ⟨s0, s1, s2, s3, s4, s5, s6, s7, s8⟩ := cells9 HX.out; obtain ⟨⟨e0, e1, e2, e3⟩, -⟩ := cells4 ((HB.out.block _ el).trans HE.out); have el' := Nat.lt_of_lt_of_le el HB.out.size; have xl' := Nat.lt_of_lt_of_le xl HB.out.size; clear hbn))
    go_ret
    exact ⟨rfl, bCall HW.out HB.out⟩
  | true =>
    rw [hf] at HFew
    clear hf
    generalize vs.length = vn at *
    by_cases h1 : rs > 150
    · have d1 : decide (rs > 150) = true := by simp; omega
      clear HI1 HI2 HC1 HC2 HO1 HO2
      go_enter Tryd.func3, Tryd.ntmps3
      go_upto_region 1 with fail
      rw [← hW2]
      clear hW2
      go_wp2_with (first
        | (go_at_call 8; refine (head_any _ ?_).mono ?_; (exact HLc.out.below (by (repeat with_reducible first | exact HB.out | apply bDrew | apply bAlloc))); rintro e wn ⟨rfl, hbn⟩; have HB := Lib.hid (bCall (by (repeat with_reducible first | exact HB.out | apply bDrew | apply bAlloc)) hbn); have HX := Lib.hid ((HB.out.block _ xl).trans HX0.out); obtain ⟨s0, s1, s2, s3, s4, s5, s6, s7, s8⟩ := cells9 HX.out; obtain ⟨⟨e0, e1, e2, e3⟩, -⟩ := cells4 ((HB.out.block _ el).trans HE.out); have el' := Nat.lt_of_lt_of_le el HB.out.size; have xl' := Nat.lt_of_lt_of_le xl HB.out.size; clear hbn)
        | (go_at_call 9; refine (HFew.out _ ?_).mono ?_; (repeat with_reducible first | exact HB.out | apply bDrew | apply bAlloc); rintro e wn ⟨rfl, hbn⟩; have HB := Lib.hid (bCall (by (repeat with_reducible first | exact HB.out | apply bDrew | apply bAlloc)) hbn); have HX := Lib.hid ((HB.out.block _ xl).trans HX0.out); obtain ⟨s0, s1, s2, s3, s4, s5, s6, s7, s8⟩ := cells9 HX.out; obtain ⟨⟨e0, e1, e2, e3⟩, -⟩ := cells4 ((HB.out.block _ el).trans HE.out); have el' := Nat.lt_of_lt_of_le el HB.out.size; have xl' := Nat.lt_of_lt_of_le xl HB.out.size; clear hbn)
        | (go_at_call 10; refine (HSz.out _ ?_).mono ?_; (repeat with_reducible first | exact HB.out | apply bDrew | apply bAlloc); rintro e wn ⟨rfl, hbn⟩; have HB := Lib.hid (bCall (by (repeat with_reducible first | exact HB.out | apply bDrew | apply bAlloc)) hbn); have HX := Lib.hid ((HB.out.block _ xl).trans HX0.out); obtain ⟨s0, s1, s2, s3, s4, s5, s6, s7, s8⟩ := cells9 HX.out; obtain ⟨⟨e0, e1, e2, e3⟩, -⟩ := cells4 ((HB.out.block _ el).trans HE.out); have el' := Nat.lt_of_lt_of_le el HB.out.size; have xl' := Nat.lt_of_lt_of_le xl HB.out.size; clear hbn))
      go_ret
      exact ⟨rfl, bCall HW.out HB.out⟩
    · have d1 : decide (rs > 150) = false := by simp; omega
      have heq1 := fun w => run_u_sameE p w
      have heq2 := fun w => run_u_sameE q w
      go_enter Tryd.func3, Tryd.ntmps3
      go_upto_region 1 with fail
      rw [← hW2]
      clear hW2
      go_wp2_with (first
        | (go_at_call 8; refine (head_any _ ?_).mono ?_; (exact HLc.out.below (by (repeat with_reducible first | exact HB.out | apply bDrew | apply bAlloc))); rintro e wn ⟨rfl, hbn⟩; have HB := Lib.hid (bCall (by (repeat with_reducible first | exact HB.out | apply bDrew | apply bAlloc)) hbn); have HX := Lib.hid ((HB.out.block _ xl).trans HX0.out); obtain ⟨s0, s1, s2, s3, s4, s5, s6, s7, s8⟩ := cells9 HX.out; obtain ⟨⟨e0, e1, e2, e3⟩, -⟩ := cells4 ((HB.out.block _ el).trans HE.out); have el' := Nat.lt_of_lt_of_le el HB.out.size; have xl' := Nat.lt_of_lt_of_le xl HB.out.size; clear hbn)
        | (go_at_call 9; refine (HFew.out _ ?_).mono ?_; (repeat with_reducible first | exact HB.out | apply bDrew | apply bAlloc); rintro e wn ⟨rfl, hbn⟩; have HB := Lib.hid (bCall (by (repeat with_reducible first | exact HB.out | apply bDrew | apply bAlloc)) hbn); have HX := Lib.hid ((HB.out.block _ xl).trans HX0.out); obtain ⟨s0, s1, s2, s3, s4, s5, s6, s7, s8⟩ := cells9 HX.out; obtain ⟨⟨e0, e1, e2, e3⟩, -⟩ := cells4 ((HB.out.block _ el).trans HE.out); have el' := Nat.lt_of_lt_of_le el HB.out.size; have xl' := Nat.lt_of_lt_of_le xl HB.out.size; clear hbn)
        | (go_at_call 10; refine (HSz.out _ ?_).mono ?_; (repeat with_reducible first | exact HB.out | apply bDrew | apply bAlloc); rintro e wn ⟨rfl, hbn⟩; have HB := Lib.hid (bCall (by (repeat with_reducible first | exact HB.out | apply bDrew | apply bAlloc)) hbn); have HX := Lib.hid ((HB.out.block _ xl).trans HX0.out); obtain ⟨s0, s1, s2, s3, s4, s5, s6, s7, s8⟩ := cells9 HX.out; obtain ⟨⟨e0, e1, e2, e3⟩, -⟩ := cells4 ((HB.out.block _ el).trans HE.out); have el' := Nat.lt_of_lt_of_le el HB.out.size; have xl' := Nat.lt_of_lt_of_le xl HB.out.size; clear hbn)
        | (go_at_call 11; refine (HI1.out _ ?_).mono ?_; (repeat with_reducible first | exact HB.out | apply bDrew | apply bAlloc); rintro e wi ⟨rfl, hbn⟩; have HB := Lib.hid (bCall (by (repeat with_reducible first | exact HB.out | apply bDrew | apply bAlloc)) hbn); have HX := Lib.hid ((HB.out.block _ xl).trans HX0.out); obtain ⟨s0, s1, s2, s3, s4, s5, s6, s7, s8⟩ := cells9 HX.out; obtain ⟨⟨e0, e1, e2, e3⟩, -⟩ := cells4 ((HB.out.block _ el).trans HE.out); have el' := Nat.lt_of_lt_of_le el HB.out.size; have xl' := Nat.lt_of_lt_of_le xl HB.out.size; clear hbn)
        | (go_at_call 12; refine (HI2.out _ ?_).mono ?_; (repeat with_reducible first | exact HB.out | apply bDrew | apply bAlloc); rintro e wj ⟨rfl, hbn⟩; have HU1 := Lib.hid ((hbn.block _ (by simp)).trans (newBlk _ _ _ rfl)); have HB := Lib.hid (bCall (by (repeat with_reducible first | exact HB.out | apply bDrew | apply bAlloc)) hbn); have HX := Lib.hid ((HB.out.block _ xl).trans HX0.out); obtain ⟨s0, s1, s2, s3, s4, s5, s6, s7, s8⟩ := cells9 HX.out; obtain ⟨⟨e0, e1, e2, e3⟩, -⟩ := cells4 ((HB.out.block _ el).trans HE.out); have el' := Nat.lt_of_lt_of_le el HB.out.size; have xl' := Nat.lt_of_lt_of_le xl HB.out.size; clear hbn)
        | (go_at_call 13; refine (HC1.out _ ?_).mono ?_; (repeat with_reducible first | exact HB.out | apply bDrew | apply bAlloc); rintro e wn ⟨rfl, hbn⟩; have HU2 := Lib.hid ((hbn.block _ (by simp)).trans (newBlk _ _ _ rfl)); have HU1 := Lib.hid ((hbn.block _ (by have := blkLt HU1.out; simp; omega)).trans ((Below.heap_alloc _ _ _ (blkLt HU1.out)).trans HU1.out)); have HB := Lib.hid (bCall (by (repeat with_reducible first | exact HB.out | apply bDrew | apply bAlloc)) hbn); have HX := Lib.hid ((HB.out.block _ xl).trans HX0.out); obtain ⟨s0, s1, s2, s3, s4, s5, s6, s7, s8⟩ := cells9 HX.out; obtain ⟨⟨e0, e1, e2, e3⟩, -⟩ := cells4 ((HB.out.block _ el).trans HE.out); have el' := Nat.lt_of_lt_of_le el HB.out.size; have xl' := Nat.lt_of_lt_of_le xl HB.out.size; clear hbn)
        | (go_at_call 14; refine (HC2.out _ ?_).mono ?_; (repeat with_reducible first | exact HB.out | apply bDrew | apply bAlloc); rintro e wn ⟨rfl, hbn⟩; have HU1 := Lib.hid ((hbn.block _ (blkLt HU1.out)).trans HU1.out); have HU2 := Lib.hid ((hbn.block _ (blkLt HU2.out)).trans HU2.out); have HB := Lib.hid (bCall (by (repeat with_reducible first | exact HB.out | apply bDrew | apply bAlloc)) hbn); have HX := Lib.hid ((HB.out.block _ xl).trans HX0.out); obtain ⟨s0, s1, s2, s3, s4, s5, s6, s7, s8⟩ := cells9 HX.out; obtain ⟨⟨e0, e1, e2, e3⟩, -⟩ := cells4 ((HB.out.block _ el).trans HE.out); have el' := Nat.lt_of_lt_of_le el HB.out.size; have xl' := Nat.lt_of_lt_of_le xl HB.out.size; clear hbn)
        | (go_at_call 15; refine (HO1.out _ ?_).mono ?_; (repeat with_reducible first | exact HB.out | apply bDrew | apply bAlloc); rintro e wk ⟨rfl, hbn⟩; have HU1 := Lib.hid ((hbn.block _ (blkLt HU1.out)).trans HU1.out); have HU2 := Lib.hid ((hbn.block _ (blkLt HU2.out)).trans HU2.out); have HB := Lib.hid (bCall (by (repeat with_reducible first | exact HB.out | apply bDrew | apply bAlloc)) hbn); have HX := Lib.hid ((HB.out.block _ xl).trans HX0.out); obtain ⟨s0, s1, s2, s3, s4, s5, s6, s7, s8⟩ := cells9 HX.out; obtain ⟨⟨e0, e1, e2, e3⟩, -⟩ := cells4 ((HB.out.block _ el).trans HE.out); have el' := Nat.lt_of_lt_of_le el HB.out.size; have xl' := Nat.lt_of_lt_of_le xl HB.out.size; clear hbn)
        | (go_at_call 16; refine (HO2.out _).mono ?_; rintro e wl ⟨rfl, hbn⟩; have HU3 := Lib.hid ((hbn.block _ (by simp)).trans (newBlk _ _ _ rfl)); have HU1 := Lib.hid ((hbn.block _ (by have := blkLt HU1.out; simp; omega)).trans ((Below.heap_alloc _ _ _ (blkLt HU1.out)).trans HU1.out)); have HU2 := Lib.hid ((hbn.block _ (by have := blkLt HU2.out; simp; omega)).trans ((Below.heap_alloc _ _ _ (blkLt HU2.out)).trans HU2.out)); have HB := Lib.hid (bCall (by (repeat with_reducible first | exact HB.out | apply bDrew | apply bAlloc)) hbn); obtain ⟨⟨a0, a1, a2⟩, -⟩ := cells3 HU1.out; have al := blkLt HU1.out; obtain ⟨⟨b0, b1, b2⟩, -⟩ := cells3 HU2.out; have bl := blkLt HU2.out; obtain ⟨⟨c0, c1, c2⟩, -⟩ := cells3 HU3.out; have cl := blkLt HU3.out; have HX := Lib.hid ((HB.out.block _ xl).trans HX0.out); obtain ⟨s0, s1, s2, s3, s4, s5, s6, s7, s8⟩ := cells9 HX.out; obtain ⟨⟨e0, e1, e2, e3⟩, -⟩ := cells4 ((HB.out.block _ el).trans HE.out); have el' := Nat.lt_of_lt_of_le el HB.out.size; have xl' := Nat.lt_of_lt_of_le xl HB.out.size; clear hbn))
      go_ret
      exact ⟨ret_bl (by simp), bCall HW.out (by (repeat with_reducible first | exact HB.out | apply bDrew | apply bAlloc))⟩
end Go.Proofs.YtmofclpheioepaaDoor
