/- Texts of one proof: KxC. -/
import Derived.Test.YtljknappbnoikaaGreatDoorYn
import Derived.Test.YtljknappbnoikaaGreatDoorZe
set_option linter.unusedVariables false
set_option linter.unusedSimpArgs false
set_option maxRecDepth 100000
set_option maxHeartbeats 8000000
namespace Go.Proofs.YtljknappbnoikaaGreatDoor
open Go.RowKit
namespace K
open U (Ex St Vr VarsR kbL)
open C (v5 valPM v5_val)
theorem CodeParts_any (x : ByteArray) (vs : List Vr) (VA : Option Addr) (vm : Nat) (o : U.On) (a : U.OnA) (wi pa u1 u2 : Int) (w : World) (hu1 : 0 ≤ u1 ∧ u1 < 256) (hu2 : 0 ≤ u2 ∧ u2 < 256) (hP : LaidW w) (hw : 8 < w.heap.size) (hL : U.LaidW w) (hLO : LaidO w) (hE : LaidE w)
  (hV : VarsR w vs VA) (hlen : vs.length ≤ maxLen) (hO : U.OnR w o a) (hkb : ∀ l ∈ o.list, kbL l) (hx : x.size ≤ maxLen) (hv : ∀ v ∈ vs, v.x.size ≤ maxLen) :
  Calls Tryz.prog 4 #[U.pgv x VA vs.length vm o a wi pa, .int .u8 u1, .int .u8 u2] w (GG (.bool true) w) := by
 obtain ⟨W1, hW1⟩ : ∃ W1, W1 = w.alloc (.cells (U.pgArr x VA vs.length vm o a wi pa) 26) := ⟨_, rfl⟩
 have HG1 := Lib.hid (show Gr w W1 by rw [hW1]; exact grAlloc _ _)
 have HP1 := Lib.hid (show W1.heap[w.heap.size]? = some (.cells (U.pgArr x VA vs.length vm o a wi pa) 26 (0, 0)) by rw [hW1]; exact nBlk _ _ _ rfl)
 have HD := Lib.hid (fun (wx : World) (hg : Gr w wx) => head_any wx (hP.below hg hw) (Nat.lt_of_lt_of_le hw hg.size) (hL.below hg) (hLO.gr hg) (hE.gr hg))
 have HF := Lib.hid (fun (wx : World) (hg : Gr w wx) => C.RFew_any x vs VA vm o a wi pa wx (hV.below hg) hlen (hO.below hg) hkb)
 have HV := Lib.hid (fun (wx : World) (hg : Gr w wx) => C.R5Valid_any x vs VA vm o a wi pa wx (hV.below hg) hlen (hO.below hg) hx hv)
 obtain ⟨k1, hk1, hk15⟩ : ∃ k : Nat, u1 % 5 = k ∧ k < 5 := ⟨(u1 % 5).toNat, by omega, by omega⟩
 obtain ⟨k2, hk2, hk25⟩ : ∃ k : Nat, u2 % 5 = k ∧ k < 5 := ⟨(u2 % 5).toNat, by omega, by omega⟩
 have HC := Lib.hid (fun (p : U.On) (q : U.OnA) (wx : World) (hg : Gr w wx) (hp : U.OnR wx p q) => Compile_any x vs VA vm p q wi pa wx (hP.below hg hw) (Nat.lt_of_lt_of_le hw hg.size) (hL.below hg) (hV.below hg) hp hx hv (hLO.gr hg))
 have HY := Lib.hid (fun (p : U.On) (q : U.OnA) (wx : World) (hg : Gr w wx) (hp : U.OnR wx p q) => C.R5Valid_any x vs VA vm p q wi pa wx (hV.below hg) hlen hp hx hv)
 have HO := Lib.hid hO
 obtain ⟨V, hVV⟩ : ∃ V, v5 nm5 x vs o.list wi pa = V := ⟨_, rfl⟩
 rw [hVV] at HV
 have e1 : u1.tmod 5 = (k1 : Int) := by rw [Int.tmod_eq_emod_of_nonneg hu1.1]; exact hk1
 have e2 : u2.tmod 5 = (k2 : Int) := by rw [Int.tmod_eq_emod_of_nonneg hu2.1]; exact hk2
 have E := Lib.hid (And.intro (And.intro e1 hk1) (And.intro e2 hk2))
 have U1 := Lib.hid hu1
 have U2 := Lib.hid hu2
 clear hP hw hL hLO hE hV hO hkb hx hv e1 e2 hk1 hk2 hu1 hu2
 go_enter Tryz.func4, Tryz.ntmps4
 go_upto_region 1 with fail
 rw [← hW1]
 clear hW1
 go_upto_region 2 with (go_at_call 5; refine (HD.out _ HG1.out).mono ?_; rintro e w2 ⟨rfl, hg2⟩; have HP2 := Lib.hid (grBlk hg2 HP1.out); have HG2 := Lib.hid (HG1.out.tr hg2); clear hg2)
 obtain ⟨p0, p1, p2, p3, p4, p5, p6, p7, p8⟩ := U.cells9 HP2.out
 go_wp2_with fail
 refine (HF.out _ HG2.out).mono ?_
 rintro e w3 ⟨⟨b, rfl⟩, hg3⟩
 have HP3 := Lib.hid (grBlk hg3 HP2.out)
 have HG3 := Lib.hid (HG2.out.tr hg3)
 clear hg3 p0 p1 p2 p3 p4 p5 p6 p7 p8
 obtain ⟨p0, p1, p2, p3, p4, p5, p6, p7, p8⟩ := U.cells9 HP3.out
 cases b with
 | false =>
  go_wp2_with fail
  go_ret
  exact ⟨rfl, HG3.out⟩
 | true =>
  cases V with
  | false =>
   go_wp2_with (go_at_call 13; refine (HV.out _ HG3.out).mono ?_; rintro e w4 ⟨rfl, hg4⟩; have HG4 := Lib.hid (HG3.out.tr hg4); clear hg4)
   go_ret
   exact ⟨rfl, HG4.out⟩
  | true =>
   have hval := Lib.hid (v5_val (fun y hy => nm5_name hy) hVV)
   clear hVV
   go_upto_region 4 with (go_at_call 13; refine (HV.out _ HG3.out).mono ?_; rintro e w4 ⟨rfl, hg4⟩; have HP4 := Lib.hid (grBlk hg4 HP3.out); have HG4 := Lib.hid (HG3.out.tr hg4); clear hg4 p0 p1 p2 p3 p4 p5 p6 p7 p8; obtain ⟨p0, p1, p2, p3, p4, p5, p6, p7, p8⟩ := U.cells9 HP4.out)
   clear p0 p1 p2 p3 p4 p5 p6 p7 p8 HV HF HD HP1 HP2 HP3
   obtain ⟨A1, m1, c1, hs1, hl1⟩ := pg_onK HP4.out HO.out k1 hk15
   obtain ⟨A2, m2, c2, hs2, hl2⟩ := pg_onK HP4.out HO.out k2 hk25
   obtain ⟨l1, hl1e⟩ : ∃ l1, hdl o.list k1 = l1 := ⟨_, rfl⟩
   obtain ⟨l2, hl2e⟩ : ∃ l2, hdl o.list k2 = l2 := ⟨_, rfl⟩
   rw [hl1e] at c1 hs1 hl1
   rw [hl2e] at c2 hs2 hl2
   have HS1 := Lib.hid (And.intro hs1 hl1)
   have HS2 := Lib.hid (And.intro hs2 hl2)
   have HM := Lib.hid (And.intro hl1e hl2e)
   clear hs1 hl1 hs2 hl2 hl1e hl2e
   go_cut [8, 9] (fun s1 s2 wx => s1 = .slice A1 l1.length m1 ∧ s2 = .slice A2 l2.length m2 ∧ Hid (wx.heap[w.heap.size]? = some (.cells (U.pgArr x VA vs.length vm o a wi pa) 26 (0, 0))) ∧ Hid (Gr w wx))
   case first =>
    obtain ⟨⟨e1, e2⟩, e3, e4⟩ := E.out
    have q1 : IntKind.i64.wrap (k1 : Int) = k1 := IntWalk.i64_in _ (by omega)
    have q2 : IntKind.i64.wrap (k2 : Int) = k2 := IntWalk.i64_in _ (by omega)
    have r1 : IntKind.i64.wrap u1 = u1 := IntWalk.i64_in _ (by have := U1.out; omega)
    have r2 : IntKind.i64.wrap u2 = u2 := IntWalk.i64_in _ (by have := U2.out; omega)
    refine wp_region_G (S := fun wq => Gr w4 wq) (by kernel_rfl) (grDrew _) (fun hHeld => ?_)
    have hSG : Hid (∀ wp wq : World, Gr w4 wp → Gr wp wq → Gr w4 wq) := Lib.hid (fun _ _ h k => h.tr k)
    have hmv := Lib.hid (fun (wq : World) (hq : Gr w4 wq) => And.intro (grCell hq c1) (grCell hq c2))
    first
     | (refine tk hSG 0 (v := ?_) rfl (by kernel_rfl) (fun _ _ _ h => h) (by rfl) ?_ hHeld ?_; rotate_left; focus (intro w' hSw; obtain ⟨c1, c2⟩ := hmv.out _ hSw; go_simp; (try with_reducible rfl)))
     | refine tn hSG 0 rfl (by kernel_rfl) (fun _ _ _ h => h) (by rfl) hHeld ?_
    (try simp only [zq1, zq2, zq3, Act.put, zq4, zq5, zq6])
    first
     | (refine tk hSG 1 (v := ?_) rfl (by kernel_rfl) (fun _ _ _ h => h) (by rfl) ?_ hHeld ?_; rotate_left; focus (intro w' hSw; obtain ⟨c1, c2⟩ := hmv.out _ hSw; go_simp; (try with_reducible rfl)))
     | refine tn hSG 1 rfl (by kernel_rfl) (fun _ _ _ h => h) (by rfl) hHeld ?_
    (try simp only [zq1, zq2, zq3, Act.put, zq4, zq5, zq6])
    refine tk hSG 2 (v := .int .i64 k1) rfl (by kernel_rfl) (fun _ _ _ h => h) (by rfl) ?_ hHeld ?_
    focus (intro w' hSw; obtain ⟨c1, c2⟩ := hmv.out _ hSw; go_simp)
    (try simp only [zq1, zq2, zq3, Act.put, zq4, zq5, zq6])
    first
     | (refine tk hSG 3 (v := ?_) rfl (by kernel_rfl) (fun _ _ _ h => h) (by rfl) ?_ hHeld ?_; rotate_left; focus (intro w' hSw; obtain ⟨c1, c2⟩ := hmv.out _ hSw; go_simp; (try with_reducible rfl)))
     | refine tn hSG 3 rfl (by kernel_rfl) (fun _ _ _ h => h) (by rfl) hHeld ?_
    (try simp only [zq1, zq2, zq3, Act.put, zq4, zq5, zq6])
    refine tk hSG 4 (v := .pointer (some ⟨w.heap.size, 2 + k1, none⟩)) rfl (by kernel_rfl) (fun _ _ _ h => h) (by rfl) ?_ hHeld ?_
    focus (intro w' hSw; obtain ⟨c1, c2⟩ := hmv.out _ hSw; go_simp; intro hq; omega)
    (try simp only [zq1, zq2, zq3, Act.put, zq4, zq5, zq6])
    first
     | (refine tk hSG 5 (v := ?_) rfl (by kernel_rfl) (fun _ _ _ h => h) (by rfl) ?_ hHeld ?_; rotate_left; focus (intro w' hSw; obtain ⟨c1, c2⟩ := hmv.out _ hSw; go_simp; (try with_reducible rfl)))
     | refine tn hSG 5 rfl (by kernel_rfl) (fun _ _ _ h => h) (by rfl) hHeld ?_
    (try simp only [zq1, zq2, zq3, Act.put, zq4, zq5, zq6])
    first
     | (refine tk hSG 6 (v := ?_) rfl (by kernel_rfl) (fun _ _ _ h => h) (by rfl) ?_ hHeld ?_; rotate_left; focus (intro w' hSw; obtain ⟨c1, c2⟩ := hmv.out _ hSw; go_simp; (try with_reducible rfl)))
     | refine tn hSG 6 rfl (by kernel_rfl) (fun _ _ _ h => h) (by rfl) hHeld ?_
    (try simp only [zq1, zq2, zq3, Act.put, zq4, zq5, zq6])
    first
     | (refine tk hSG 7 (v := ?_) rfl (by kernel_rfl) (fun _ _ _ h => h) (by rfl) ?_ hHeld ?_; rotate_left; focus (intro w' hSw; obtain ⟨c1, c2⟩ := hmv.out _ hSw; go_simp; (try with_reducible rfl)))
     | refine tn hSG 7 rfl (by kernel_rfl) (fun _ _ _ h => h) (by rfl) hHeld ?_
    (try simp only [zq1, zq2, zq3, Act.put, zq4, zq5, zq6])
    refine tk hSG 8 (v := .int .i64 k2) rfl (by kernel_rfl) (fun _ _ _ h => h) (by rfl) ?_ hHeld ?_
    focus (intro w' hSw; obtain ⟨c1, c2⟩ := hmv.out _ hSw; go_simp)
    (try simp only [zq1, zq2, zq3, Act.put, zq4, zq5, zq6])
    first
     | (refine tk hSG 9 (v := ?_) rfl (by kernel_rfl) (fun _ _ _ h => h) (by rfl) ?_ hHeld ?_; rotate_left; focus (intro w' hSw; obtain ⟨c1, c2⟩ := hmv.out _ hSw; go_simp; (try with_reducible rfl)))
     | refine tn hSG 9 rfl (by kernel_rfl) (fun _ _ _ h => h) (by rfl) hHeld ?_
    (try simp only [zq1, zq2, zq3, Act.put, zq4, zq5, zq6])
    refine tk hSG 10 (v := .pointer (some ⟨w.heap.size, 2 + k2, none⟩)) rfl (by kernel_rfl) (fun _ _ _ h => h) (by rfl) ?_ hHeld ?_
    focus (intro w' hSw; obtain ⟨c1, c2⟩ := hmv.out _ hSw; go_simp; intro hq; omega)
    (try simp only [zq1, zq2, zq3, Act.put, zq4, zq5, zq6])
    first
     | (refine tk hSG 11 (v := ?_) rfl (by kernel_rfl) (fun _ _ _ h => h) (by rfl) ?_ hHeld ?_; rotate_left; focus (intro w' hSw; obtain ⟨c1, c2⟩ := hmv.out _ hSw; go_simp; (try with_reducible rfl)))
     | refine tn hSG 11 rfl (by kernel_rfl) (fun _ _ _ h => h) (by rfl) hHeld ?_
    (try simp only [zq1, zq2, zq3, Act.put, zq4, zq5, zq6])
    first
     | (refine tk hSG 12 (v := ?_) rfl (by kernel_rfl) (fun _ _ _ h => h) (by rfl) ?_ hHeld ?_; rotate_left; focus (intro w' hSw; obtain ⟨c1, c2⟩ := hmv.out _ hSw; go_simp; (try with_reducible rfl)))
     | refine tn hSG 12 rfl (by kernel_rfl) (fun _ _ _ h => h) (by rfl) hHeld ?_
    (try simp only [zq1, zq2, zq3, Act.put, zq4, zq5, zq6])
    first
     | (refine tk hSG 13 (v := ?_) rfl (by kernel_rfl) (fun _ _ _ h => h) (by rfl) ?_ hHeld ?_; rotate_left; focus (intro w' hSw; obtain ⟨c1, c2⟩ := hmv.out _ hSw; go_simp; (try with_reducible rfl)))
     | refine tn hSG 13 rfl (by kernel_rfl) (fun _ _ _ h => h) (by rfl) hHeld ?_
    (try simp only [zq1, zq2, zq3, Act.put, zq4, zq5, zq6])
    refine wpAnyG_done (by kernel_rfl) (fun w5 hgD => ?_) _
    have hg5 : Gr w4 w5 := (grDrew w4).tr hgD
    clear hgD hSG hHeld
    go_wp2_with fail
    go_meet
    exact ⟨rfl, rfl, Lib.hid (grBlk hg5 HP4.out), Lib.hid (HG4.out.tr hg5)⟩
   case rest =>
    clear HP4 HG4 c1 c2 E U1 U2
    obtain ⟨rfl, rfl, HP, HG⟩ := hcut
    obtain ⟨ca, R1⟩ := RowSt.of HS1.out.1
    obtain ⟨cb, R2⟩ := RowSt.of HS2.out.1
    have R1 := Lib.hid R1
    have R2 := Lib.hid R2
    have hop := valPM_op hval.out
    have n1 : Hid (l1.length ≤ 12200) := Lib.hid (by have h := (hop l1 (HM.out.1 ▸ hdl_mem hk15)).2; have := lnL_ge l1; omega)
    have n2 : Hid (l2.length ≤ 12200) := Lib.hid (by have h := (hop l2 (HM.out.2 ▸ hdl_mem hk25)).2; have := lnL_ge l2; omega)
    clear hop
    obtain ⟨L, hL⟩ : ∃ L, l1 ++ l2 = L := ⟨_, rfl⟩
    have HL := Lib.hid hL
    clear hL
    obtain ⟨p0, p1, p2, p3, p4, p5, p6, p7, p8⟩ := U.cells9 HP.out
    go_upto_region 5 with fail
    go_cut [10] (fun s1 wx => ∃ (bq : Nat) (A5 : Option Addr) (c5 : Nat), s1 = .pointer (some ⟨bq, 0, none⟩) ∧ Hid (wx.heap[bq]? = some (.cells (U.pgArr x VA vs.length vm (onW L) (anW A5 c5) wi pa) 26 (0, 0))) ∧ Hid (U.StsR wx L A5) ∧ Hid (wx.heap[w.heap.size]? = some (.cells (U.pgArr x VA vs.length vm o a wi pa) 26 (0, 0))) ∧ Hid (Gr w wx))
    case first =>
     refine wp_region_X (S := fun wq => Gr wc wq) [] (by kernel_rfl) (grDrew _) (fun hHeld => ?_)
     have hSG : Hid (∀ wp wq : World, Gr wc wp → Gr wp wq → Gr wc wq) := Lib.hid (fun _ _ h k => h.tr k)
     have hmv := Lib.hid (fun (wq : World) (hq : Gr wc wq) => And.intro (grCell hq p0) (And.intro (grCell hq p1) (And.intro (grCell hq p2) (And.intro (grCell hq p3) (And.intro (grCell hq p4) (And.intro (grCell hq p5) (And.intro (grCell hq p6) (And.intro (grCell hq p7) (grCell hq p8)))))))))
     first
      | (refine xk hSG 0 [6, 8] (v := ?_) rfl (by kernel_rfl) (fun _ _ _ h => h) (by rfl) ?_ hHeld ?_; rotate_left; focus (intro w' hSw; obtain ⟨p0, p1, p2, p3, p4, p5, p6, p7, p8⟩ := hmv.out _ hSw; go_simp; (try with_reducible rfl)))
      | refine xn hSG 0 [6, 8] rfl (by kernel_rfl) (fun _ _ _ h => h) (by rfl) hHeld ?_
     (try simp only [zq1, zq2, zq3, Act.put, zq4, zq5, zq6])
     first
      | (refine xk hSG 2 [3, 5, 6, 8] (v := ?_) rfl (by kernel_rfl) (fun _ _ _ h => h) (by rfl) ?_ hHeld ?_; rotate_left; focus (intro w' hSw; obtain ⟨p0, p1, p2, p3, p4, p5, p6, p7, p8⟩ := hmv.out _ hSw; go_simp; (try with_reducible rfl)))
      | refine xn hSG 2 [3, 5, 6, 8] rfl (by kernel_rfl) (fun _ _ _ h => h) (by rfl) hHeld ?_
     (try simp only [zq1, zq2, zq3, Act.put, zq4, zq5, zq6])
     first
      | (refine xk hSG 4 [5, 6, 8] (v := ?_) rfl (by kernel_rfl) (fun _ _ _ h => h) (by rfl) ?_ hHeld ?_; rotate_left; focus (intro w' hSw; obtain ⟨p0, p1, p2, p3, p4, p5, p6, p7, p8⟩ := hmv.out _ hSw; go_simp; (try with_reducible rfl)))
      | refine xn hSG 4 [5, 6, 8] rfl (by kernel_rfl) (fun _ _ _ h => h) (by rfl) hHeld ?_
     (try simp only [zq1, zq2, zq3, Act.put, zq4, zq5, zq6])
     refine wpAnyX_two (i := 1) (j := 7) (by kernel_rfl) rfl rfl (fun v1 hg K hK => ?_) (fun v7 hg K hK => ?_)
     ·skip
      have hgS := hSG.out _ _ hHeld.out hg
      go_simp
      have O := Lib.hid (World.ownsRow_made (base := wc.heap.size) (size := 13) (e := 69) v1 #[] 0 hgS.size (by unfold maxLen; omega) rfl)
      refine hK.out _ _ (hgS.tr (grAlloc _ _)) (fun hHeld => ?_)
      (try simp only [zq1, zq2, zq3, Act.put, zq4, zq5, zq6])
      clear hK K hg hgS
      refine wpAnyX_two (i := 3) (j := 7) (by kernel_rfl) rfl rfl (fun v3 hg K hK => ?_) (fun v7 hg K hK => ?_)
      ·skip
       have hgS := hSG.out _ _ hHeld.out hg
       have hO := owns_gr O.out hg
       refine step_append_st rfl _ _ rfl wc.heap.size _ 0 [] (by rfl) hO l1 A1 m1 ca (by rfl) R1.out (HG.out.tr hgS) (by have := n1.out; have := n2.out; omega) hgS.size ?_
       intro u w' hown hgrow
       have g6 := gbBelow (B := wc.heap.size) hgrow hgS.size (fun k e => (World.ownsRow.lt hO k e).1)
       have g7 := Below.trans hgS g6
       simp only [Nat.zero_add, List.nil_append] at hown
       have O := Lib.hid hown
       refine hK.out _ _ g7 (fun hHeld => ?_)
       (try simp only [zq1, zq2, zq3, Act.put, zq4, zq5, zq6])
       clear hK K hg hgS hown hgrow hO g6 g7
       refine wpAnyX_two (i := 5) (j := 7) (by kernel_rfl) rfl rfl (fun v5 hg K hK => ?_) (fun v7 hg K hK => ?_)
       ·skip
        have hgS := hSG.out _ _ hHeld.out hg
        have hO := owns_gr O.out hg
        refine step_append_st rfl _ _ rfl wc.heap.size _ l1.length ca (by rfl) hO l2 A2 m2 cb (by rfl) R2.out (HG.out.tr hgS) (by have := n1.out; have := n2.out; omega) hgS.size ?_
        intro u w' hown hgrow
        have g6 := gbBelow (B := wc.heap.size) hgrow hgS.size (fun k e => (World.ownsRow.lt hO k e).1)
        have g7 := Below.trans hgS g6
        obtain ⟨A5, c5, hv5, hs5⟩ := own_sts hown rfl R1.out R2.out (HG.out.tr g7)
        rw [HL.out] at hv5 hs5
        subst hv5
        have O := Lib.hid hown
        clear hs5
        refine hK.out _ _ g7 (fun hHeld => ?_)
        (try simp only [zq1, zq2, zq3, Act.put, zq4, zq5, zq6])
        clear hK K hg hgS hown hgrow hO g6 g7
        refine wpAnyX_two (i := 6) (j := 7) (by kernel_rfl) rfl rfl (fun v6 hg K hK => ?_) (fun v7 hg K hK => ?_)
        ·skip
         have hgS := hSG.out _ _ hHeld.out hg
         go_simp
         go_at_call 14
         refine (with_any x VA vs.length vm o a wi pa L A5 c5 _).mono ?_
         rintro e w6 ⟨rfl, hg6⟩
         have O := Lib.hid (owns_gr (owns_gr O.out hg) hg6)
         refine hK.out _ _ (hgS.tr hg6) (fun hHeld => ?_)
         (try simp only [zq1, zq2, zq3, Act.put, zq4, zq5, zq6])
         clear hK K hg hgS hg6
         refine wpAnyX_one (i := 7) (by kernel_rfl) rfl (fun v7 hg K hK => ?_)
         have hgS := hSG.out _ _ hHeld.out hg
         go_simp
         have Zb := Lib.hid hgS.size
         have Z := Lib.hid (nBlk v7 (.cells #[.string ⟨#[]⟩, nilS, nilS, nilS, nilS, nilS, nilS, .int .i64 0, .int .i64 0] 26) _ rfl)
         have O := Lib.hid (owns_gr (owns_gr O.out hg) (grAlloc v7 (.cells #[.string ⟨#[]⟩, nilS, nilS, nilS, nilS, nilS, nilS, .int .i64 0, .int .i64 0] 26)))
         refine hK.out _ _ (hgS.tr (grAlloc _ _)) (fun hHeld => ?_)
         (try simp only [zq1, zq2, zq3, Act.put, zq4, zq5, zq6])
         clear hK K hg hgS
         refine wpAnyX_one (i := 8) (by kernel_rfl) rfl (fun v8 hg K hK => ?_)
         have hgS := hSG.out _ _ hHeld.out hg
         have Zv := grBlk hg Z.out
         have O8 := owns_gr O.out hg
         obtain ⟨z0, z1, z2, z3, z4, z5, z6, z7, z8⟩ := U.cells9 Zv
         have f0 := frz Zv 0
         have f1 := frz Zv 1
         have f2 := frz Zv 2
         have f3 := frz Zv 3
         have f4 := frz Zv 4
         have f5 := frz Zv 5
         have f6 := frz Zv 6
         have f7 := frz Zv 7
         have f8 := frz Zv 8
         have zl := blkLt Zv
         have Z9 := Lib.hid (set9 (v0 := .string x) (v1 := .slice VA vs.length vm) (v2 := .slice (anW A5 c5).a0 (onW L).l0.length (anW A5 c5).m0) (v3 := .slice (anW A5 c5).a1 (onW L).l1.length (anW A5 c5).m1) (v4 := .slice (anW A5 c5).a2 (onW L).l2.length (anW A5 c5).m2) (v5 := .slice (anW A5 c5).a3 (onW L).l3.length (anW A5 c5).m3) (v6 := .slice (anW A5 c5).a4 (onW L).l4.length (anW A5 c5).m4) (v7 := .int .i64 wi) (v8 := .int .i64 pa) hgS Zb.out Zv)
         have O9 := Lib.hid (own9 (v0 := .string x) (v1 := .slice VA vs.length vm) (v2 := .slice (anW A5 c5).a0 (onW L).l0.length (anW A5 c5).m0) (v3 := .slice (anW A5 c5).a1 (onW L).l1.length (anW A5 c5).m1) (v4 := .slice (anW A5 c5).a2 (onW L).l2.length (anW A5 c5).m2) (v5 := .slice (anW A5 c5).a3 (onW L).l3.length (anW A5 c5).m3) (v6 := .slice (anW A5 c5).a4 (onW L).l4.length (anW A5 c5).m4) (v7 := .int .i64 wi) (v8 := .int .i64 pa) O8 (row_ne O8 Zv))
         clear Zv hg O8 O Z Zb
         go_simp
         refine hK.out _ _ Z9.out.2 (fun hHeld => ?_)
         clear hK K hgS z0 z1 z2 z3 z4 z5 z6 z7 z8 f0 f1 f2 f3 f4 f5 f6 f7 f8 zl
         refine wpAnyX_done (by kernel_rfl) (fun w9 hg => ?_) _
         have O := owns_gr O9.out hg
         have hgW := HG.out.tr (Gr.tr Z9.out.2 hg)
         obtain ⟨A6, c6, hv6, hs6⟩ := own_sts O rfl R1.out R2.out hgW
         rw [HL.out] at hv6 hs6
         injection hv6 with q1 q2 q3
         subst q1
         have hz := grBlk hg Z9.out.1
         have hp := grBlk (Gr.tr Z9.out.2 hg) HP.out
         clear hHeld hSG O O9 Z9 hg
         go_wp2_with fail
         go_meet
         exact ⟨_, A5, c5, rfl, Lib.hid hz, Lib.hid hs6, Lib.hid hp, Lib.hid hgW⟩
        ·skip
         have hgS := hSG.out _ _ hHeld.out hg
         go_simp
         have Zb := Lib.hid hgS.size
         have Z := Lib.hid (nBlk v7 (.cells #[.string ⟨#[]⟩, nilS, nilS, nilS, nilS, nilS, nilS, .int .i64 0, .int .i64 0] 26) _ rfl)
         have O := Lib.hid (owns_gr (owns_gr O.out hg) (grAlloc v7 (.cells #[.string ⟨#[]⟩, nilS, nilS, nilS, nilS, nilS, nilS, .int .i64 0, .int .i64 0] 26)))
         refine hK.out _ _ (hgS.tr (grAlloc _ _)) (fun hHeld => ?_)
         (try simp only [zq1, zq2, zq3, Act.put, zq4, zq5, zq6])
         clear hK K hg hgS
         refine wpAnyX_one (i := 6) (by kernel_rfl) rfl (fun v6 hg K hK => ?_)
         have hgS := hSG.out _ _ hHeld.out hg
         have Zv := grBlk hg Z.out
         go_simp
         go_at_call 14
         refine (with_any x VA vs.length vm o a wi pa L A5 c5 _).mono ?_
         rintro e w6 ⟨rfl, hg6⟩
         have O := Lib.hid (owns_gr (owns_gr O.out hg) hg6)
         have Z := Lib.hid (grBlk hg6 Zv)
         clear Zv
         refine hK.out _ _ (hgS.tr hg6) (fun hHeld => ?_)
         (try simp only [zq1, zq2, zq3, Act.put, zq4, zq5, zq6])
         clear hK K hg hgS hg6
         refine wpAnyX_one (i := 8) (by kernel_rfl) rfl (fun v8 hg K hK => ?_)
         have hgS := hSG.out _ _ hHeld.out hg
         have Zv := grBlk hg Z.out
         have O8 := owns_gr O.out hg
         obtain ⟨z0, z1, z2, z3, z4, z5, z6, z7, z8⟩ := U.cells9 Zv
         have f0 := frz Zv 0
         have f1 := frz Zv 1
         have f2 := frz Zv 2
         have f3 := frz Zv 3
         have f4 := frz Zv 4
         have f5 := frz Zv 5
         have f6 := frz Zv 6
         have f7 := frz Zv 7
         have f8 := frz Zv 8
         have zl := blkLt Zv
         have Z9 := Lib.hid (set9 (v0 := .string x) (v1 := .slice VA vs.length vm) (v2 := .slice (anW A5 c5).a0 (onW L).l0.length (anW A5 c5).m0) (v3 := .slice (anW A5 c5).a1 (onW L).l1.length (anW A5 c5).m1) (v4 := .slice (anW A5 c5).a2 (onW L).l2.length (anW A5 c5).m2) (v5 := .slice (anW A5 c5).a3 (onW L).l3.length (anW A5 c5).m3) (v6 := .slice (anW A5 c5).a4 (onW L).l4.length (anW A5 c5).m4) (v7 := .int .i64 wi) (v8 := .int .i64 pa) hgS Zb.out Zv)
         have O9 := Lib.hid (own9 (v0 := .string x) (v1 := .slice VA vs.length vm) (v2 := .slice (anW A5 c5).a0 (onW L).l0.length (anW A5 c5).m0) (v3 := .slice (anW A5 c5).a1 (onW L).l1.length (anW A5 c5).m1) (v4 := .slice (anW A5 c5).a2 (onW L).l2.length (anW A5 c5).m2) (v5 := .slice (anW A5 c5).a3 (onW L).l3.length (anW A5 c5).m3) (v6 := .slice (anW A5 c5).a4 (onW L).l4.length (anW A5 c5).m4) (v7 := .int .i64 wi) (v8 := .int .i64 pa) O8 (row_ne O8 Zv))
         clear Zv hg O8 O Z Zb
         go_simp
         refine hK.out _ _ Z9.out.2 (fun hHeld => ?_)
         clear hK K hgS z0 z1 z2 z3 z4 z5 z6 z7 z8 f0 f1 f2 f3 f4 f5 f6 f7 f8 zl
         refine wpAnyX_done (by kernel_rfl) (fun w9 hg => ?_) _
         have O := owns_gr O9.out hg
         have hgW := HG.out.tr (Gr.tr Z9.out.2 hg)
         obtain ⟨A6, c6, hv6, hs6⟩ := own_sts O rfl R1.out R2.out hgW
         rw [HL.out] at hv6 hs6
         injection hv6 with q1 q2 q3
         subst q1
         have hz := grBlk hg Z9.out.1
         have hp := grBlk (Gr.tr Z9.out.2 hg) HP.out
         clear hHeld hSG O O9 Z9 hg
         go_wp2_with fail
         go_meet
         exact ⟨_, A5, c5, rfl, Lib.hid hz, Lib.hid hs6, Lib.hid hp, Lib.hid hgW⟩
       ·skip
        have hgS := hSG.out _ _ hHeld.out hg
        go_simp
        have Zb := Lib.hid hgS.size
        have Z := Lib.hid (nBlk v7 (.cells #[.string ⟨#[]⟩, nilS, nilS, nilS, nilS, nilS, nilS, .int .i64 0, .int .i64 0] 26) _ rfl)
        have O := Lib.hid (owns_gr (owns_gr O.out hg) (grAlloc v7 (.cells #[.string ⟨#[]⟩, nilS, nilS, nilS, nilS, nilS, nilS, .int .i64 0, .int .i64 0] 26)))
        refine hK.out _ _ (hgS.tr (grAlloc _ _)) (fun hHeld => ?_)
        (try simp only [zq1, zq2, zq3, Act.put, zq4, zq5, zq6])
        clear hK K hg hgS
        refine wpAnyX_one (i := 5) (by kernel_rfl) rfl (fun v5 hg K hK => ?_)
        have hgS := hSG.out _ _ hHeld.out hg
        have hO := owns_gr O.out hg
        have Zv := grBlk hg Z.out
        refine step_append_st rfl _ _ rfl wc.heap.size _ l1.length ca (by rfl) hO l2 A2 m2 cb (by rfl) R2.out (HG.out.tr hgS) (by have := n1.out; have := n2.out; omega) hgS.size ?_
        intro u w' hown hgrow
        have Z := Lib.hid (zKeep hgrow (row_ne hO Zv) Zv)
        clear Zv
        have g6 := gbBelow (B := wc.heap.size) hgrow hgS.size (fun k e => (World.ownsRow.lt hO k e).1)
        have g7 := Below.trans hgS g6
        obtain ⟨A5, c5, hv5, hs5⟩ := own_sts hown rfl R1.out R2.out (HG.out.tr g7)
        rw [HL.out] at hv5 hs5
        subst hv5
        have O := Lib.hid hown
        clear hs5
        refine hK.out _ _ g7 (fun hHeld => ?_)
        (try simp only [zq1, zq2, zq3, Act.put, zq4, zq5, zq6])
        clear hK K hg hgS hown hgrow hO g6 g7
        refine wpAnyX_one (i := 6) (by kernel_rfl) rfl (fun v6 hg K hK => ?_)
        have hgS := hSG.out _ _ hHeld.out hg
        have Zv := grBlk hg Z.out
        go_simp
        go_at_call 14
        refine (with_any x VA vs.length vm o a wi pa L A5 c5 _).mono ?_
        rintro e w6 ⟨rfl, hg6⟩
        have O := Lib.hid (owns_gr (owns_gr O.out hg) hg6)
        have Z := Lib.hid (grBlk hg6 Zv)
        clear Zv
        refine hK.out _ _ (hgS.tr hg6) (fun hHeld => ?_)
        (try simp only [zq1, zq2, zq3, Act.put, zq4, zq5, zq6])
        clear hK K hg hgS hg6
        refine wpAnyX_one (i := 8) (by kernel_rfl) rfl (fun v8 hg K hK => ?_)
        have hgS := hSG.out _ _ hHeld.out hg
        have Zv := grBlk hg Z.out
        have O8 := owns_gr O.out hg
        obtain ⟨z0, z1, z2, z3, z4, z5, z6, z7, z8⟩ := U.cells9 Zv
        have f0 := frz Zv 0
        have f1 := frz Zv 1
        have f2 := frz Zv 2
        have f3 := frz Zv 3
        have f4 := frz Zv 4
        have f5 := frz Zv 5
        have f6 := frz Zv 6
        have f7 := frz Zv 7
        have f8 := frz Zv 8
        have zl := blkLt Zv
        have Z9 := Lib.hid (set9 (v0 := .string x) (v1 := .slice VA vs.length vm) (v2 := .slice (anW A5 c5).a0 (onW L).l0.length (anW A5 c5).m0) (v3 := .slice (anW A5 c5).a1 (onW L).l1.length (anW A5 c5).m1) (v4 := .slice (anW A5 c5).a2 (onW L).l2.length (anW A5 c5).m2) (v5 := .slice (anW A5 c5).a3 (onW L).l3.length (anW A5 c5).m3) (v6 := .slice (anW A5 c5).a4 (onW L).l4.length (anW A5 c5).m4) (v7 := .int .i64 wi) (v8 := .int .i64 pa) hgS Zb.out Zv)
        have O9 := Lib.hid (own9 (v0 := .string x) (v1 := .slice VA vs.length vm) (v2 := .slice (anW A5 c5).a0 (onW L).l0.length (anW A5 c5).m0) (v3 := .slice (anW A5 c5).a1 (onW L).l1.length (anW A5 c5).m1) (v4 := .slice (anW A5 c5).a2 (onW L).l2.length (anW A5 c5).m2) (v5 := .slice (anW A5 c5).a3 (onW L).l3.length (anW A5 c5).m3) (v6 := .slice (anW A5 c5).a4 (onW L).l4.length (anW A5 c5).m4) (v7 := .int .i64 wi) (v8 := .int .i64 pa) O8 (row_ne O8 Zv))
        clear Zv hg O8 O Z Zb
        go_simp
        refine hK.out _ _ Z9.out.2 (fun hHeld => ?_)
        clear hK K hgS z0 z1 z2 z3 z4 z5 z6 z7 z8 f0 f1 f2 f3 f4 f5 f6 f7 f8 zl
        refine wpAnyX_done (by kernel_rfl) (fun w9 hg => ?_) _
        have O := owns_gr O9.out hg
        have hgW := HG.out.tr (Gr.tr Z9.out.2 hg)
        obtain ⟨A6, c6, hv6, hs6⟩ := own_sts O rfl R1.out R2.out hgW
        rw [HL.out] at hv6 hs6
        injection hv6 with q1 q2 q3
        subst q1
        have hz := grBlk hg Z9.out.1
        have hp := grBlk (Gr.tr Z9.out.2 hg) HP.out
        clear hHeld hSG O O9 Z9 hg
        go_wp2_with fail
        go_meet
        exact ⟨_, A5, c5, rfl, Lib.hid hz, Lib.hid hs6, Lib.hid hp, Lib.hid hgW⟩
      ·skip
       have hgS := hSG.out _ _ hHeld.out hg
       go_simp
       have Zb := Lib.hid hgS.size
       have Z := Lib.hid (nBlk v7 (.cells #[.string ⟨#[]⟩, nilS, nilS, nilS, nilS, nilS, nilS, .int .i64 0, .int .i64 0] 26) _ rfl)
       have O := Lib.hid (owns_gr (owns_gr O.out hg) (grAlloc v7 (.cells #[.string ⟨#[]⟩, nilS, nilS, nilS, nilS, nilS, nilS, .int .i64 0, .int .i64 0] 26)))
       refine hK.out _ _ (hgS.tr (grAlloc _ _)) (fun hHeld => ?_)
       (try simp only [zq1, zq2, zq3, Act.put, zq4, zq5, zq6])
       clear hK K hg hgS
       refine wpAnyX_one (i := 3) (by kernel_rfl) rfl (fun v3 hg K hK => ?_)
       have hgS := hSG.out _ _ hHeld.out hg
       have hO := owns_gr O.out hg
       have Zv := grBlk hg Z.out
       refine step_append_st rfl _ _ rfl wc.heap.size _ 0 [] (by rfl) hO l1 A1 m1 ca (by rfl) R1.out (HG.out.tr hgS) (by have := n1.out; have := n2.out; omega) hgS.size ?_
       intro u w' hown hgrow
       have Z := Lib.hid (zKeep hgrow (row_ne hO Zv) Zv)
       clear Zv
       have g6 := gbBelow (B := wc.heap.size) hgrow hgS.size (fun k e => (World.ownsRow.lt hO k e).1)
       have g7 := Below.trans hgS g6
       simp only [Nat.zero_add, List.nil_append] at hown
       have O := Lib.hid hown
       refine hK.out _ _ g7 (fun hHeld => ?_)
       (try simp only [zq1, zq2, zq3, Act.put, zq4, zq5, zq6])
       clear hK K hg hgS hown hgrow hO g6 g7
       refine wpAnyX_one (i := 5) (by kernel_rfl) rfl (fun v5 hg K hK => ?_)
       have hgS := hSG.out _ _ hHeld.out hg
       have hO := owns_gr O.out hg
       have Zv := grBlk hg Z.out
       refine step_append_st rfl _ _ rfl wc.heap.size _ l1.length ca (by rfl) hO l2 A2 m2 cb (by rfl) R2.out (HG.out.tr hgS) (by have := n1.out; have := n2.out; omega) hgS.size ?_
       intro u w' hown hgrow
       have Z := Lib.hid (zKeep hgrow (row_ne hO Zv) Zv)
       clear Zv
       have g6 := gbBelow (B := wc.heap.size) hgrow hgS.size (fun k e => (World.ownsRow.lt hO k e).1)
       have g7 := Below.trans hgS g6
       obtain ⟨A5, c5, hv5, hs5⟩ := own_sts hown rfl R1.out R2.out (HG.out.tr g7)
       rw [HL.out] at hv5 hs5
       subst hv5
       have O := Lib.hid hown
       clear hs5
       refine hK.out _ _ g7 (fun hHeld => ?_)
       (try simp only [zq1, zq2, zq3, Act.put, zq4, zq5, zq6])
       clear hK K hg hgS hown hgrow hO g6 g7
       refine wpAnyX_one (i := 6) (by kernel_rfl) rfl (fun v6 hg K hK => ?_)
       have hgS := hSG.out _ _ hHeld.out hg
       have Zv := grBlk hg Z.out
       go_simp
       go_at_call 14
       refine (with_any x VA vs.length vm o a wi pa L A5 c5 _).mono ?_
       rintro e w6 ⟨rfl, hg6⟩
       have O := Lib.hid (owns_gr (owns_gr O.out hg) hg6)
       have Z := Lib.hid (grBlk hg6 Zv)
       clear Zv
       refine hK.out _ _ (hgS.tr hg6) (fun hHeld => ?_)
       (try simp only [zq1, zq2, zq3, Act.put, zq4, zq5, zq6])
       clear hK K hg hgS hg6
       refine wpAnyX_one (i := 8) (by kernel_rfl) rfl (fun v8 hg K hK => ?_)
       have hgS := hSG.out _ _ hHeld.out hg
       have Zv := grBlk hg Z.out
       have O8 := owns_gr O.out hg
       obtain ⟨z0, z1, z2, z3, z4, z5, z6, z7, z8⟩ := U.cells9 Zv
       have f0 := frz Zv 0
       have f1 := frz Zv 1
       have f2 := frz Zv 2
       have f3 := frz Zv 3
       have f4 := frz Zv 4
       have f5 := frz Zv 5
       have f6 := frz Zv 6
       have f7 := frz Zv 7
       have f8 := frz Zv 8
       have zl := blkLt Zv
       have Z9 := Lib.hid (set9 (v0 := .string x) (v1 := .slice VA vs.length vm) (v2 := .slice (anW A5 c5).a0 (onW L).l0.length (anW A5 c5).m0) (v3 := .slice (anW A5 c5).a1 (onW L).l1.length (anW A5 c5).m1) (v4 := .slice (anW A5 c5).a2 (onW L).l2.length (anW A5 c5).m2) (v5 := .slice (anW A5 c5).a3 (onW L).l3.length (anW A5 c5).m3) (v6 := .slice (anW A5 c5).a4 (onW L).l4.length (anW A5 c5).m4) (v7 := .int .i64 wi) (v8 := .int .i64 pa) hgS Zb.out Zv)
       have O9 := Lib.hid (own9 (v0 := .string x) (v1 := .slice VA vs.length vm) (v2 := .slice (anW A5 c5).a0 (onW L).l0.length (anW A5 c5).m0) (v3 := .slice (anW A5 c5).a1 (onW L).l1.length (anW A5 c5).m1) (v4 := .slice (anW A5 c5).a2 (onW L).l2.length (anW A5 c5).m2) (v5 := .slice (anW A5 c5).a3 (onW L).l3.length (anW A5 c5).m3) (v6 := .slice (anW A5 c5).a4 (onW L).l4.length (anW A5 c5).m4) (v7 := .int .i64 wi) (v8 := .int .i64 pa) O8 (row_ne O8 Zv))
       clear Zv hg O8 O Z Zb
       go_simp
       refine hK.out _ _ Z9.out.2 (fun hHeld => ?_)
       clear hK K hgS z0 z1 z2 z3 z4 z5 z6 z7 z8 f0 f1 f2 f3 f4 f5 f6 f7 f8 zl
       refine wpAnyX_done (by kernel_rfl) (fun w9 hg => ?_) _
       have O := owns_gr O9.out hg
       have hgW := HG.out.tr (Gr.tr Z9.out.2 hg)
       obtain ⟨A6, c6, hv6, hs6⟩ := own_sts O rfl R1.out R2.out hgW
       rw [HL.out] at hv6 hs6
       injection hv6 with q1 q2 q3
       subst q1
       have hz := grBlk hg Z9.out.1
       have hp := grBlk (Gr.tr Z9.out.2 hg) HP.out
       clear hHeld hSG O O9 Z9 hg
       go_wp2_with fail
       go_meet
       exact ⟨_, A5, c5, rfl, Lib.hid hz, Lib.hid hs6, Lib.hid hp, Lib.hid hgW⟩
     ·skip
      have hgS := hSG.out _ _ hHeld.out hg
      go_simp
      have Zb := Lib.hid hgS.size
      have Z := Lib.hid (nBlk v7 (.cells #[.string ⟨#[]⟩, nilS, nilS, nilS, nilS, nilS, nilS, .int .i64 0, .int .i64 0] 26) _ rfl)
      refine hK.out _ _ (hgS.tr (grAlloc _ _)) (fun hHeld => ?_)
      (try simp only [zq1, zq2, zq3, Act.put, zq4, zq5, zq6])
      clear hK K hg hgS
      refine wpAnyX_one (i := 1) (by kernel_rfl) rfl (fun v1 hg K hK => ?_)
      have hgS := hSG.out _ _ hHeld.out hg
      go_simp
      have Zv := grBlk hg Z.out
      have O := Lib.hid (World.ownsRow_made (base := wc.heap.size) (size := 13) (e := 69) v1 #[] 0 hgS.size (by unfold maxLen; omega) rfl)
      have Z := Lib.hid (grBlk (grAlloc v1 (.cells #[] 69)) Zv)
      clear Zv
      refine hK.out _ _ (hgS.tr (grAlloc _ _)) (fun hHeld => ?_)
      (try simp only [zq1, zq2, zq3, Act.put, zq4, zq5, zq6])
      clear hK K hg hgS
      refine wpAnyX_one (i := 3) (by kernel_rfl) rfl (fun v3 hg K hK => ?_)
      have hgS := hSG.out _ _ hHeld.out hg
      have hO := owns_gr O.out hg
      have Zv := grBlk hg Z.out
      refine step_append_st rfl _ _ rfl wc.heap.size _ 0 [] (by rfl) hO l1 A1 m1 ca (by rfl) R1.out (HG.out.tr hgS) (by have := n1.out; have := n2.out; omega) hgS.size ?_
      intro u w' hown hgrow
      have Z := Lib.hid (zKeep hgrow (row_ne hO Zv) Zv)
      clear Zv
      have g6 := gbBelow (B := wc.heap.size) hgrow hgS.size (fun k e => (World.ownsRow.lt hO k e).1)
      have g7 := Below.trans hgS g6
      simp only [Nat.zero_add, List.nil_append] at hown
      have O := Lib.hid hown
      refine hK.out _ _ g7 (fun hHeld => ?_)
      (try simp only [zq1, zq2, zq3, Act.put, zq4, zq5, zq6])
      clear hK K hg hgS hown hgrow hO g6 g7
      refine wpAnyX_one (i := 5) (by kernel_rfl) rfl (fun v5 hg K hK => ?_)
      have hgS := hSG.out _ _ hHeld.out hg
      have hO := owns_gr O.out hg
      have Zv := grBlk hg Z.out
      refine step_append_st rfl _ _ rfl wc.heap.size _ l1.length ca (by rfl) hO l2 A2 m2 cb (by rfl) R2.out (HG.out.tr hgS) (by have := n1.out; have := n2.out; omega) hgS.size ?_
      intro u w' hown hgrow
      have Z := Lib.hid (zKeep hgrow (row_ne hO Zv) Zv)
      clear Zv
      have g6 := gbBelow (B := wc.heap.size) hgrow hgS.size (fun k e => (World.ownsRow.lt hO k e).1)
      have g7 := Below.trans hgS g6
      obtain ⟨A5, c5, hv5, hs5⟩ := own_sts hown rfl R1.out R2.out (HG.out.tr g7)
      rw [HL.out] at hv5 hs5
      subst hv5
      have O := Lib.hid hown
      clear hs5
      refine hK.out _ _ g7 (fun hHeld => ?_)
      (try simp only [zq1, zq2, zq3, Act.put, zq4, zq5, zq6])
      clear hK K hg hgS hown hgrow hO g6 g7
      refine wpAnyX_one (i := 6) (by kernel_rfl) rfl (fun v6 hg K hK => ?_)
      have hgS := hSG.out _ _ hHeld.out hg
      have Zv := grBlk hg Z.out
      go_simp
      go_at_call 14
      refine (with_any x VA vs.length vm o a wi pa L A5 c5 _).mono ?_
      rintro e w6 ⟨rfl, hg6⟩
      have O := Lib.hid (owns_gr (owns_gr O.out hg) hg6)
      have Z := Lib.hid (grBlk hg6 Zv)
      clear Zv
      refine hK.out _ _ (hgS.tr hg6) (fun hHeld => ?_)
      (try simp only [zq1, zq2, zq3, Act.put, zq4, zq5, zq6])
      clear hK K hg hgS hg6
      refine wpAnyX_one (i := 8) (by kernel_rfl) rfl (fun v8 hg K hK => ?_)
      have hgS := hSG.out _ _ hHeld.out hg
      have Zv := grBlk hg Z.out
      have O8 := owns_gr O.out hg
      obtain ⟨z0, z1, z2, z3, z4, z5, z6, z7, z8⟩ := U.cells9 Zv
      have f0 := frz Zv 0
      have f1 := frz Zv 1
      have f2 := frz Zv 2
      have f3 := frz Zv 3
      have f4 := frz Zv 4
      have f5 := frz Zv 5
      have f6 := frz Zv 6
      have f7 := frz Zv 7
      have f8 := frz Zv 8
      have zl := blkLt Zv
      have Z9 := Lib.hid (set9 (v0 := .string x) (v1 := .slice VA vs.length vm) (v2 := .slice (anW A5 c5).a0 (onW L).l0.length (anW A5 c5).m0) (v3 := .slice (anW A5 c5).a1 (onW L).l1.length (anW A5 c5).m1) (v4 := .slice (anW A5 c5).a2 (onW L).l2.length (anW A5 c5).m2) (v5 := .slice (anW A5 c5).a3 (onW L).l3.length (anW A5 c5).m3) (v6 := .slice (anW A5 c5).a4 (onW L).l4.length (anW A5 c5).m4) (v7 := .int .i64 wi) (v8 := .int .i64 pa) hgS Zb.out Zv)
      have O9 := Lib.hid (own9 (v0 := .string x) (v1 := .slice VA vs.length vm) (v2 := .slice (anW A5 c5).a0 (onW L).l0.length (anW A5 c5).m0) (v3 := .slice (anW A5 c5).a1 (onW L).l1.length (anW A5 c5).m1) (v4 := .slice (anW A5 c5).a2 (onW L).l2.length (anW A5 c5).m2) (v5 := .slice (anW A5 c5).a3 (onW L).l3.length (anW A5 c5).m3) (v6 := .slice (anW A5 c5).a4 (onW L).l4.length (anW A5 c5).m4) (v7 := .int .i64 wi) (v8 := .int .i64 pa) O8 (row_ne O8 Zv))
      clear Zv hg O8 O Z Zb
      go_simp
      refine hK.out _ _ Z9.out.2 (fun hHeld => ?_)
      clear hK K hgS z0 z1 z2 z3 z4 z5 z6 z7 z8 f0 f1 f2 f3 f4 f5 f6 f7 f8 zl
      refine wpAnyX_done (by kernel_rfl) (fun w9 hg => ?_) _
      have O := owns_gr O9.out hg
      have hgW := HG.out.tr (Gr.tr Z9.out.2 hg)
      obtain ⟨A6, c6, hv6, hs6⟩ := own_sts O rfl R1.out R2.out hgW
      rw [HL.out] at hv6 hs6
      injection hv6 with q1 q2 q3
      subst q1
      have hz := grBlk hg Z9.out.1
      have hp := grBlk (Gr.tr Z9.out.2 hg) HP.out
      clear hHeld hSG O O9 Z9 hg
      go_wp2_with fail
      go_meet
      exact ⟨_, A5, c5, rfl, Lib.hid hz, Lib.hid hs6, Lib.hid hp, Lib.hid hgW⟩
    case rest =>
     clear p0 p1 p2 p3 p4 p5 p6 p7 p8 HP HG
     obtain ⟨bq, A5, c5, rfl, HQ, S5, HP, HG⟩ := hcut
     have hv1 : valPM x vs (onW l1).list wi pa = true := val_on hval.out (onW_mem (HM.out.1 ▸ hdl_mem hk15))
     have hv2 : valPM x vs (onW l2).list wi pa = true := val_on hval.out (onW_mem (HM.out.2 ▸ hdl_mem hk25))
     have HC1 := Lib.hid (fun (wx : World) (hg : Gr w wx) => show Calls Tryz.prog 8 #[U.pgv x VA vs.length vm (onW l1) (anW A1 m1) wi pa] wx (CmpQ true (onW l1).list wx) by
      have h := HC.out (onW l1) (anW A1 m1) wx hg (onW_R (HS1.out.1.below hg) HS1.out.2)
      rw [hv1] at h
      exact h)
     have HC2 := Lib.hid (fun (wx : World) (hg : Gr w wx) => show Calls Tryz.prog 8 #[U.pgv x VA vs.length vm (onW l2) (anW A2 m2) wi pa] wx (CmpQ true (onW l2).list wx) by
      have h := HC.out (onW l2) (anW A2 m2) wx hg (onW_R (HS2.out.1.below hg) HS2.out.2)
      rw [hv2] at h
      exact h)
     have nL : L.length ≤ maxLen := by have := n1.out; have := n2.out; rw [← HL.out, List.length_append]; unfold maxLen; omega
     have HC3 := Lib.hid (fun (wx : World) (hg : Gr w wx) (hs : U.StsR wx L A5) => HC.out (onW L) (anW A5 c5) wx hg (onW_R hs nL))
     have HY3 := Lib.hid (fun (wx : World) (hg : Gr w wx) (hs : U.StsR wx L A5) => HY.out (onW L) (anW A5 c5) wx hg (onW_R hs nL))
     rw [← C.val_iff] at HY3
     obtain ⟨VZ, hVZ⟩ : ∃ VZ, valPM x vs (onW L).list wi pa = VZ := ⟨_, rfl⟩
     rw [hVZ] at HC3 HY3
     clear hVZ hv1 hv2 HC HY nL
     go_upto_region 6 with fail
     go_cut [11, 12] (fun s1 s2 wx => ∃ (bx : Nat) (ex : Int) (h0 h1 h2 h3 h4 : Hd), s1 = .pointer (some ⟨bx, 0, none⟩) ∧ s2 = .int .i64 ex ∧ Hid (CmpU true (onW l1).list ex h0 h1 h2 h3 h4) ∧ Hid (wx.heap[bx]? = some (.cells (cdA h0 h1 h2 h3 h4) 30 (0, 0))) ∧ Hid (InsR wx h0.l h0.A) ∧ Hid (wx.heap[bq]? = some (.cells (U.pgArr x VA vs.length vm (onW L) (anW A5 c5) wi pa) 26 (0, 0))) ∧ Hid (U.StsR wx L A5) ∧ Hid (wx.heap[w.heap.size]? = some (.cells (U.pgArr x VA vs.length vm o a wi pa) 26 (0, 0))) ∧ Hid (Gr w wx))
     case first =>
      obtain ⟨p0, p1, p2, p3, p4, p5, p6, p7, p8⟩ := U.cells9 HP.out
      go_wp2_with (first
       | (go_at_call 14; refine (with_any x VA vs.length vm o a wi pa l1 A1 m1 _).mono ?_; rintro e wn ⟨rfl, hgn⟩; replace HQ := Lib.hid (grBlk hgn HQ.out); replace HP := Lib.hid (grBlk hgn HP.out); replace S5 := Lib.hid (S5.out.below hgn); replace HG := Lib.hid (HG.out.tr hgn); clear hgn)
       | (go_at_call 8; refine (HC1.out _ HG.out).mono ?_; rintro e wn hcm; obtain ⟨ex, h0, h1, h2, h3, h4, rfl, hU, hR, hgn⟩ := hcm.uni; replace HQ := Lib.hid (grBlk hgn HQ.out); replace HP := Lib.hid (grBlk hgn HP.out); replace S5 := Lib.hid (S5.out.below hgn); replace HG := Lib.hid (HG.out.tr hgn); have hU := Lib.hid hU; have hR := Lib.hid hR; clear hgn hcm))
      go_meet
      exact ⟨_, ex, h0, h1, h2, h3, h4, rfl, rfl, hU, Lib.hid (nBlk _ _ _ rfl), Lib.hid ((hR.out h0 (List.mem_cons_self ..)).gr (grAlloc _ _)), Lib.hid (grBlk (grAlloc _ _) HQ.out), Lib.hid (S5.out.below (grAlloc _ _)), Lib.hid (grBlk (grAlloc _ _) HP.out), Lib.hid (HG.out.tr (grAlloc _ _))⟩
     case rest =>
      obtain ⟨bx, ex, h0, h1, h2, h3, h4, rfl, rfl, UX, HX, RX, HQ, S5, HP, HG⟩ := hcut
      clear HC1
      go_upto_region 7 with fail
      go_cut [13, 14] (fun s1 s2 wx => ∃ (by' : Nat) (ey : Int) (g0 g1 g2 g3 g4 : Hd), s1 = .pointer (some ⟨by', 0, none⟩) ∧ s2 = .int .i64 ey ∧ Hid (CmpU true (onW l2).list ey g0 g1 g2 g3 g4) ∧ Hid (wx.heap[by']? = some (.cells (cdA g0 g1 g2 g3 g4) 30 (0, 0))) ∧ Hid (InsR wx g0.l g0.A) ∧ Hid (wx.heap[bx]? = some (.cells (cdA h0 h1 h2 h3 h4) 30 (0, 0))) ∧ Hid (InsR wx h0.l h0.A) ∧ Hid (wx.heap[bq]? = some (.cells (U.pgArr x VA vs.length vm (onW L) (anW A5 c5) wi pa) 26 (0, 0))) ∧ Hid (U.StsR wx L A5) ∧ Hid (wx.heap[w.heap.size]? = some (.cells (U.pgArr x VA vs.length vm o a wi pa) 26 (0, 0))) ∧ Hid (Gr w wx))
      case first =>
       obtain ⟨p0, p1, p2, p3, p4, p5, p6, p7, p8⟩ := U.cells9 HP.out
       go_wp2_with (first
        | (go_at_call 14; refine (with_any x VA vs.length vm o a wi pa l2 A2 m2 _).mono ?_; rintro e wn ⟨rfl, hgn⟩; replace HQ := Lib.hid (grBlk hgn HQ.out); replace HP := Lib.hid (grBlk hgn HP.out); replace S5 := Lib.hid (S5.out.below hgn); replace HX := Lib.hid (grBlk hgn HX.out); replace RX := Lib.hid (RX.out.gr hgn); replace HG := Lib.hid (HG.out.tr hgn); clear hgn)
        | (go_at_call 8; refine (HC2.out _ HG.out).mono ?_; rintro e wn hcm; obtain ⟨ey, g0, g1, g2, g3, g4, rfl, hU, hR, hgn⟩ := hcm.uni; replace HQ := Lib.hid (grBlk hgn HQ.out); replace HP := Lib.hid (grBlk hgn HP.out); replace S5 := Lib.hid (S5.out.below hgn); replace HX := Lib.hid (grBlk hgn HX.out); replace RX := Lib.hid (RX.out.gr hgn); replace HG := Lib.hid (HG.out.tr hgn); have hU := Lib.hid hU; have hR := Lib.hid hR; clear hgn hcm))
       go_meet
       exact ⟨_, ey, g0, g1, g2, g3, g4, rfl, rfl, hU, Lib.hid (nBlk _ _ _ rfl), Lib.hid ((hR.out g0 (List.mem_cons_self ..)).gr (grAlloc _ _)), Lib.hid (grBlk (grAlloc _ _) HX.out), Lib.hid (RX.out.gr (grAlloc _ _)), Lib.hid (grBlk (grAlloc _ _) HQ.out), Lib.hid (S5.out.below (grAlloc _ _)), Lib.hid (grBlk (grAlloc _ _) HP.out), Lib.hid (HG.out.tr (grAlloc _ _))⟩
      case rest =>
       clear HX RX HQ S5 HP HG HC2
       obtain ⟨by', ey, g0, g1, g2, g3, g4, rfl, rfl, UY, HYb, RY, HX, RX, HQ, S5, HP, HG⟩ := hcut
       go_upto_region 8 with fail
       go_cut [15, 16] (fun s1 s2 wx => ∃ (bz : Nat) (ez : Int) (e0 e1 e2 e3 e4 : Hd), s1 = .pointer (some ⟨bz, 0, none⟩) ∧ s2 = .int .i64 ez ∧ Hid (CmpU VZ (onW L).list ez e0 e1 e2 e3 e4) ∧ Hid (wx.heap[bz]? = some (.cells (cdA e0 e1 e2 e3 e4) 30 (0, 0))) ∧ Hid (InsR wx e0.l e0.A) ∧ Hid (wx.heap[by']? = some (.cells (cdA g0 g1 g2 g3 g4) 30 (0, 0))) ∧ Hid (InsR wx g0.l g0.A) ∧ Hid (wx.heap[bx]? = some (.cells (cdA h0 h1 h2 h3 h4) 30 (0, 0))) ∧ Hid (InsR wx h0.l h0.A) ∧ Hid (wx.heap[bq]? = some (.cells (U.pgArr x VA vs.length vm (onW L) (anW A5 c5) wi pa) 26 (0, 0))) ∧ Hid (U.StsR wx L A5) ∧ Hid (Gr w wx))
       case first =>
        obtain ⟨p0, p1, p2, p3, p4, p5, p6, p7, p8⟩ := U.cells9 HQ.out
        go_wp2_with (go_at_call 8; refine (HC3.out _ HG.out S5.out).mono ?_; rintro e wn hcm; obtain ⟨ez, e0, e1, e2, e3, e4, rfl, hU, hR, hgn⟩ := hcm.uni; replace HQ := Lib.hid (grBlk hgn HQ.out); replace S5 := Lib.hid (S5.out.below hgn); replace HX := Lib.hid (grBlk hgn HX.out); replace RX := Lib.hid (RX.out.gr hgn); replace HYb := Lib.hid (grBlk hgn HYb.out); replace RY := Lib.hid (RY.out.gr hgn); replace HG := Lib.hid (HG.out.tr hgn); have hU := Lib.hid hU; have hR := Lib.hid hR; clear hgn hcm)
        go_meet
        exact ⟨_, ez, e0, e1, e2, e3, e4, rfl, rfl, hU, Lib.hid (nBlk _ _ _ rfl), Lib.hid ((hR.out e0 (List.mem_cons_self ..)).gr (grAlloc _ _)), Lib.hid (grBlk (grAlloc _ _) HYb.out), Lib.hid (RY.out.gr (grAlloc _ _)), Lib.hid (grBlk (grAlloc _ _) HX.out), Lib.hid (RX.out.gr (grAlloc _ _)), Lib.hid (grBlk (grAlloc _ _) HQ.out), Lib.hid (S5.out.below (grAlloc _ _)), Lib.hid (HG.out.tr (grAlloc _ _))⟩
       case rest =>
        clear HYb RY HX RX HQ S5 HP HG HC3
        obtain ⟨bz, ez, e0, e1, e2, e3, e4, rfl, rfl, UZ, HZ, RZ, HYb, RY, HX, RX, HQ, S5, HG⟩ := hcut
        go_upto_region 9 with fail
        obtain ⟨nz, hnz⟩ : ∃ nz, decide (ez ≠ 0) = nz := ⟨_, rfl⟩
        have hXY : Hid (ez = 0 → VZ = true ∧ ex = 0 ∧ ey = 0) := Lib.hid (fun h => by
         obtain ⟨q1, q2, -⟩ := UZ.out.ok h
         obtain ⟨r1, r2⟩ := long_both (HL.out.symm ▸ q2)
         exact ⟨q1, UX.out.no rfl r1, UY.out.no rfl r2⟩)
        have hZ0 : Hid (VZ = false → ez ≠ 0) := Lib.hid (fun h e => by rw [(UZ.out.ok e).1] at h; cases h)
        go_cut [83] (fun s1 wx => s1 = .bool nz ∧ Hid (wx.heap[bz]? = some (.cells (cdA e0 e1 e2 e3 e4) 30 (0, 0))) ∧ Hid (InsR wx e0.l e0.A) ∧ Hid (wx.heap[by']? = some (.cells (cdA g0 g1 g2 g3 g4) 30 (0, 0))) ∧ Hid (InsR wx g0.l g0.A) ∧ Hid (wx.heap[bx]? = some (.cells (cdA h0 h1 h2 h3 h4) 30 (0, 0))) ∧ Hid (InsR wx h0.l h0.A) ∧ Hid (Gr w wx))
        case first =>
         obtain ⟨p0, p1, p2, p3, p4, p5, p6, p7, p8⟩ := U.cells9 HQ.out
         have HYv := Lib.hid (HY3.out _ HG.out S5.out)
         clear HY3 UX UY UZ
         by_cases hez : ez = 0
         ·obtain ⟨rfl, rfl, rfl⟩ := hXY.out hez
          obtain rfl : nz = false := by rw [← hnz]; simp [hez]
          subst hez
          clear hXY hZ0 hnz
          go_wp2_with (go_at_call 13; refine HYv.out.mono ?_; rintro e wn ⟨rfl, hgn⟩; replace HX := Lib.hid (grBlk hgn HX.out); replace RX := Lib.hid (RX.out.gr hgn); replace HYb := Lib.hid (grBlk hgn HYb.out); replace RY := Lib.hid (RY.out.gr hgn); replace HZ := Lib.hid (grBlk hgn HZ.out); replace RZ := Lib.hid (RZ.out.gr hgn); replace HG := Lib.hid (HG.out.tr hgn); clear hgn)
          go_meet
          exact ⟨rfl, HZ, RZ, HYb, RY, HX, RX, HG⟩
         ·obtain rfl : nz = true := by rw [← hnz]; simp [hez]
          clear hXY hZ0 hnz
          cases VZ with
          | false =>
           go_wp2_with (go_at_call 13; refine HYv.out.mono ?_; rintro e wn ⟨rfl, hgn⟩; replace HX := Lib.hid (grBlk hgn HX.out); replace RX := Lib.hid (RX.out.gr hgn); replace HYb := Lib.hid (grBlk hgn HYb.out); replace RY := Lib.hid (RY.out.gr hgn); replace HZ := Lib.hid (grBlk hgn HZ.out); replace RZ := Lib.hid (RZ.out.gr hgn); replace HG := Lib.hid (HG.out.tr hgn); clear hgn)
           go_meet
           exact ⟨rfl, HZ, RZ, HYb, RY, HX, RX, HG⟩
          | true =>
           by_cases hex : ex = 0
           ·subst hex
            by_cases hey : ey = 0
            ·subst hey
             have tz : (ez != 0) = true := by rw [bne_iff_ne]; exact hez
             go_wp2_with (go_at_call 13; refine HYv.out.mono ?_; rintro e wn ⟨rfl, hgn⟩; replace HX := Lib.hid (grBlk hgn HX.out); replace RX := Lib.hid (RX.out.gr hgn); replace HYb := Lib.hid (grBlk hgn HYb.out); replace RY := Lib.hid (RY.out.gr hgn); replace HZ := Lib.hid (grBlk hgn HZ.out); replace RZ := Lib.hid (RZ.out.gr hgn); replace HG := Lib.hid (HG.out.tr hgn); clear hgn)
             go_meet
             exact ⟨rfl, HZ, RZ, HYb, RY, HX, RX, HG⟩
            ·go_wp2_with (go_at_call 13; refine HYv.out.mono ?_; rintro e wn ⟨rfl, hgn⟩; replace HX := Lib.hid (grBlk hgn HX.out); replace RX := Lib.hid (RX.out.gr hgn); replace HYb := Lib.hid (grBlk hgn HYb.out); replace RY := Lib.hid (RY.out.gr hgn); replace HZ := Lib.hid (grBlk hgn HZ.out); replace RZ := Lib.hid (RZ.out.gr hgn); replace HG := Lib.hid (HG.out.tr hgn); clear hgn)
             go_meet
             exact ⟨rfl, HZ, RZ, HYb, RY, HX, RX, HG⟩
           ·go_wp2_with (go_at_call 13; refine HYv.out.mono ?_; rintro e wn ⟨rfl, hgn⟩; replace HX := Lib.hid (grBlk hgn HX.out); replace RX := Lib.hid (RX.out.gr hgn); replace HYb := Lib.hid (grBlk hgn HYb.out); replace RY := Lib.hid (RY.out.gr hgn); replace HZ := Lib.hid (grBlk hgn HZ.out); replace RZ := Lib.hid (RZ.out.gr hgn); replace HG := Lib.hid (HG.out.tr hgn); clear hgn)
            go_meet
            exact ⟨rfl, HZ, RZ, HYb, RY, HX, RX, HG⟩
        case rest =>
         clear HZ RZ HYb RY HX RX HQ S5 HG HY3
         obtain ⟨rfl, HZ, RZ, HYb, RY, HX, RX, HG⟩ := hcut
         by_cases hez : ez = 0
         rotate_left
         ·obtain rfl : nz = true := by rw [← hnz]; simp [hez]
          clear hXY hZ0 hnz UX UY UZ
          go_wp2_with fail
          go_ret
          exact ⟨rfl, HG.out⟩
         ·obtain rfl : nz = false := by rw [← hnz]; simp [hez]
          obtain ⟨lx, xA, xc⟩ := h0
          obtain ⟨ly, yA, yc⟩ := g0
          obtain ⟨lz, zA, zc⟩ := e0
          have q0 := hXY.out hez
          have qx := (UX.out.ok q0.2.1).2.2
          have qy := (UY.out.ok q0.2.2).2.2
          have qz := (UZ.out.ok hez).2.2
          simp only [onW, U.On.list, List.map_cons] at qx qy qz
          injection qx with qx _
          injection qy with qy _
          injection qz with qz _
          have hop2 := (valPM_op hval.out l2 (HM.out.2 ▸ hdl_mem hk25)).1
          have hb1 := (valPM_op hval.out l1 (HM.out.1 ▸ hdl_mem hk15)).2
          have hb2 := (valPM_op hval.out l2 (HM.out.2 ▸ hdl_mem hk25)).2
          have hlx : lx.length = lnL l1 := by rw [qx]; exact cL_len _ _
          have hly : ly.length = lnL l2 := by rw [qy]; exact cL_len _ _
          have hzz : lz = lx ++ ly.map (shI lx.length) := by rw [qz, qx, qy, ← HL.out, cL_both _ _ hop2, cL_len]
          have bj : ∀ q ∈ ly, (q.op = 12 ∨ q.op = 13) → 0 ≤ q.n ∧ q.n ≤ 100000 := fun q hq ho => by
           rw [qy] at hq
           have := cL_jump l2 0 hop2 q hq ho
           omega
          have FA := Lib.hid (And.intro (And.intro hlx hly) (And.intro hzz (And.intro bj (And.intro hb1 hb2))))
          subst hez
          clear hXY hZ0 hnz UX UY UZ qx qy qz q0 hop2 hb1 hb2 hlx hly hzz bj hval HM HS1 HS2 R1 R2 HO
          go_upto_region 11 with fail
          have hgE := Lib.hid (grAlloc wc (.cells #[] 41))
          have hOE := Lib.hid (World.ownsRow_made (base := wc.heap.size) (size := 3) (e := 41) wc #[] 0 (Nat.le_refl _) (by unfold maxLen; omega) rfl)
          obtain ⟨z0, z1, z2, z3, z4⟩ := cells5k HX.out
          have hRE := Lib.hid (RX.out.gr hgE.out)
          have nx : lx.length ≤ 12200 := by have := FA.out; omega
          have ny : ly.length ≤ 12200 := by have := FA.out; omega
          have zl := blkLt HX.out
          go_upto_region 12 with (at_builtin; refine wpList_append_hd rfl _ _ rfl wc.heap.size _ 0 [] rfl hOE.out ⟨lx, xA, xc⟩ (by rfl) hRE.out (by simp only; omega) hgE.out.size ?_)
          intro v15 w15 hown15 hgrow15
          have hown15 : w15.ownsRow wc.heap.size 41 3 v15 lx.length (insC lx) := by have q := hown15; simpa using q
          have hgW := Lib.hid (hgE.out.trans (gbBelow (B := wc.heap.size) hgrow15 hgE.out.size (fun k e => by simp [Value.ownBlock] at e; omega)))
          obtain ⟨Aw, cw, hvw, -, -⟩ := own_ins hown15 rfl
          subst hvw
          have O := Lib.hid hown15
          have NX := Lib.hid nx
          have NY := Lib.hid ny
          clear hown15 hgrow15 hgE hOE hRE z0 z1 z2 z3 z4 zl nx ny HX RX
          go_upto_region 13 with fail
          obtain ⟨y9, y1, y2, y3, y4⟩ := cells5k (grBlk hgW.out HYb.out)
          have y0 : w15.cell? ⟨by', 0, none⟩ = some (.slice yA ly.length yc) := y9
          clear y9
          go_wp2_with fail
          clear y0 y1 y2 y3 y4
          go_loopg [17, 108] ly.length (fun gk v i wr => ∃ j : Nat, j + gk = ly.length ∧ i = .int .i64 j ∧ Hid (wr.ownsRow wc.heap.size 41 3 v (lx.length + j) (insC (lx ++ (ly.take j).map (shI lx.length)))) ∧ Hid (Gr wc wr))
          case atStart => exact ⟨0, by omega, rfl, Lib.hid (by have q := O.out; simpa using q), hgW⟩
          case round =>
           clear O hgW
           obtain ⟨j, hj, rfl, OJ, GJ⟩ := hrel
           by_cases hjl : j < ly.length
           ·obtain ⟨g, o', hA, hat⟩ := (RY.out.gr GJ.out).addr (by show 0 < ly.length; omega)
            subst hA
            obtain ⟨q, hq⟩ : ∃ q, ly[j]? = some q := ⟨_, List.getElem?_eq_getElem hjl⟩
            obtain ⟨i0, i1, i2⟩ := hat j q hq
            have hbj := Lib.hid (FA.out.2.2.1 q (List.mem_of_getElem? hq))
            have HT : Hid (ly.take (j + 1) = ly.take j ++ [q]) := Lib.hid (by rw [List.take_add_one, hq]; rfl)
            clear hat hq
            by_cases h12 : q.op = 12 ∨ q.op = 13
            ·have sh := Lib.hid (show shI lx.length q = ⟨q.op, q.n + lx.length, q.r⟩ from if_pos h12)
             have qn : IntKind.i64.wrap (q.n + lx.length) = q.n + lx.length := IntWalk.i64_in _ (by have := hbj.out h12; have := NX.out; omega)
             rcases h12 with h12 | h12
             ·have t12 : (q.op == 12) = true := by rw [beq_iff_eq]; exact h12
              clear h12
              go_upto_region 19 with (at_builtin; refine wpList_append_hd rfl _ _ rfl wc.heap.size _ (lx.length + j) (insC (lx ++ (ly.take j).map (shI lx.length))) rfl (owns_gr (owns_gr OJ.out (grAlloc _ _)) (grAlloc _ _)) ⟨[⟨q.op, q.n + lx.length, q.r⟩], some ⟨wr.heap.size + 1, 0, none⟩, 1⟩ (by rfl) (ins1j (nBlk _ _ _ (by simp))) (by have := NX.out; have := NY.out; simp only [List.length_singleton]; omega) (Gr.tr GJ.out (Gr.tr (grAlloc _ _) (grAlloc _ _))).size ?_)
              intro v19 w19 hown19 hgrow19
              have e19 : insC (lx ++ (ly.take (j + 1)).map (shI lx.length)) = insC (lx ++ (ly.take j).map (shI lx.length)) ++ insC [⟨q.op, q.n + lx.length, q.r⟩] := by rw [HT.out, List.map_append, ← List.append_assoc, insC_app, List.map_cons, List.map_nil, sh.out]
              have O19 : Hid (w19.ownsRow wc.heap.size 41 3 v19 (lx.length + (j + 1)) (insC (lx ++ (ly.take (j + 1)).map (shI lx.length)))) := Lib.hid (by rw [e19]; first | exact hown19 | (rw [List.map_take]; exact hown19))
              have g2 := Gr.tr GJ.out (Gr.tr (grAlloc wr (.cells #[.int .i64 q.op, .int .i64 (q.n + lx.length), .int .i64 q.r] 41)) (grAlloc _ (.cells #[.int .i64 q.op, .int .i64 (q.n + lx.length), .int .i64 q.r] 41)))
              have G19 := Lib.hid (Below.trans g2 (gbBelow (B := wc.heap.size) hgrow19 g2.size (fun k e => (World.ownsRow.lt OJ.out k e).1)))
              have qj : IntKind.i64.wrap ((j : Int) + 1) = (j : Int) + 1 := IntWalk.i64_in _ (by have := NY.out; omega)
              clear e19 hown19 hgrow19 g2 sh HT OJ GJ i0 i1 i2 hbj
              go_wp2_with fail
              go_roundg (ly.length - (j + 1))
              case measure => omega
              case rel => exact ⟨j + 1, by omega, by go_num, O19, G19⟩
             ·have t12 : (q.op == 12) = false := by rw [beq_eq_false_iff_ne]; omega
              have t13 : (q.op == 13) = true := by rw [beq_iff_eq]; exact h12
              clear h12
              go_upto_region 19 with (at_builtin; refine wpList_append_hd rfl _ _ rfl wc.heap.size _ (lx.length + j) (insC (lx ++ (ly.take j).map (shI lx.length))) rfl (owns_gr (owns_gr OJ.out (grAlloc _ _)) (grAlloc _ _)) ⟨[⟨q.op, q.n + lx.length, q.r⟩], some ⟨wr.heap.size + 1, 0, none⟩, 1⟩ (by rfl) (ins1j (nBlk _ _ _ (by simp))) (by have := NX.out; have := NY.out; simp only [List.length_singleton]; omega) (Gr.tr GJ.out (Gr.tr (grAlloc _ _) (grAlloc _ _))).size ?_)
              intro v19 w19 hown19 hgrow19
              have e19 : insC (lx ++ (ly.take (j + 1)).map (shI lx.length)) = insC (lx ++ (ly.take j).map (shI lx.length)) ++ insC [⟨q.op, q.n + lx.length, q.r⟩] := by rw [HT.out, List.map_append, ← List.append_assoc, insC_app, List.map_cons, List.map_nil, sh.out]
              have O19 : Hid (w19.ownsRow wc.heap.size 41 3 v19 (lx.length + (j + 1)) (insC (lx ++ (ly.take (j + 1)).map (shI lx.length)))) := Lib.hid (by rw [e19]; first | exact hown19 | (rw [List.map_take]; exact hown19))
              have g2 := Gr.tr GJ.out (Gr.tr (grAlloc wr (.cells #[.int .i64 q.op, .int .i64 (q.n + lx.length), .int .i64 q.r] 41)) (grAlloc _ (.cells #[.int .i64 q.op, .int .i64 (q.n + lx.length), .int .i64 q.r] 41)))
              have G19 := Lib.hid (Below.trans g2 (gbBelow (B := wc.heap.size) hgrow19 g2.size (fun k e => (World.ownsRow.lt OJ.out k e).1)))
              have qj : IntKind.i64.wrap ((j : Int) + 1) = (j : Int) + 1 := IntWalk.i64_in _ (by have := NY.out; omega)
              clear e19 hown19 hgrow19 g2 sh HT OJ GJ i0 i1 i2 hbj
              go_wp2_with fail
              go_roundg (ly.length - (j + 1))
              case measure => omega
              case rel => exact ⟨j + 1, by omega, by go_num, O19, G19⟩
            ·have sh := Lib.hid (show shI lx.length q = ⟨q.op, q.n, q.r⟩ from if_neg h12)
             have t12 : (q.op == 12) = false := by rw [beq_eq_false_iff_ne]; omega
             have t13 : (q.op == 13) = false := by rw [beq_eq_false_iff_ne]; omega
             clear h12
             go_upto_region 19 with (at_builtin; refine wpList_append_hd rfl _ _ rfl wc.heap.size _ (lx.length + j) (insC (lx ++ (ly.take j).map (shI lx.length))) rfl (owns_gr (owns_gr OJ.out (grAlloc _ _)) (grAlloc _ _)) ⟨[⟨q.op, q.n, q.r⟩], some ⟨wr.heap.size + 1, 0, none⟩, 1⟩ (by rfl) (ins1j (nBlk _ _ _ (by simp))) (by have := NX.out; have := NY.out; simp only [List.length_singleton]; omega) (Gr.tr GJ.out (Gr.tr (grAlloc _ _) (grAlloc _ _))).size ?_)
             intro v19 w19 hown19 hgrow19
             have e19 : insC (lx ++ (ly.take (j + 1)).map (shI lx.length)) = insC (lx ++ (ly.take j).map (shI lx.length)) ++ insC [⟨q.op, q.n, q.r⟩] := by rw [HT.out, List.map_append, ← List.append_assoc, insC_app, List.map_cons, List.map_nil, sh.out]
             have O19 : Hid (w19.ownsRow wc.heap.size 41 3 v19 (lx.length + (j + 1)) (insC (lx ++ (ly.take (j + 1)).map (shI lx.length)))) := Lib.hid (by rw [e19]; first | exact hown19 | (rw [List.map_take]; exact hown19))
             have g2 := Gr.tr GJ.out (Gr.tr (grAlloc wr (.cells #[.int .i64 q.op, .int .i64 (q.n), .int .i64 q.r] 41)) (grAlloc _ (.cells #[.int .i64 q.op, .int .i64 (q.n), .int .i64 q.r] 41)))
             have G19 := Lib.hid (Below.trans g2 (gbBelow (B := wc.heap.size) hgrow19 g2.size (fun k e => (World.ownsRow.lt OJ.out k e).1)))
             have qj : IntKind.i64.wrap ((j : Int) + 1) = (j : Int) + 1 := IntWalk.i64_in _ (by have := NY.out; omega)
             clear e19 hown19 hgrow19 g2 sh HT OJ GJ i0 i1 i2 hbj
             go_wp2_with fail
             go_roundg (ly.length - (j + 1))
             case measure => omega
             case rel => exact ⟨j + 1, by omega, by go_num, O19, G19⟩
           ·obtain rfl : j = ly.length := by omega
            have e : lx ++ (ly.take ly.length).map (shI lx.length) = lz := by rw [List.take_length]; exact FA.out.2.1.symm
            have elen : lx.length + ly.length = lz.length := by rw [FA.out.2.1, List.length_append, List.length_map]
            rw [e, elen] at OJ
            obtain ⟨Af, cf, hvf, hRf, -⟩ := own_ins OJ.out rfl
            subst hvf
            obtain ⟨z0, z1, z2, z3, z4⟩ := cells5k (grBlk GJ.out HZ.out)
            have hsame := SameInstrs_any lz lz zA Af zc cf _ (RZ.out.gr GJ.out) hRf (by have := NX.out; have := NY.out; omega)
            have hs1 : sameL lz lz = true := sameL_iff.2 rfl
            rw [hs1] at hsame
            have HSm := Lib.hid hsame
            have HGJ := Lib.hid (HG.out.tr GJ.out)
            clear hsame hs1 e elen OJ hRf hjl hj FA NX NY
            go_wp2_with (go_at_call 15; refine HSm.out.mono ?_; rintro e wn ⟨rfl, hgn⟩)
            go_ret
            exact ⟨rfl, HGJ.out.tr hgn⟩
end K
end Go.Proofs.YtljknappbnoikaaGreatDoor
