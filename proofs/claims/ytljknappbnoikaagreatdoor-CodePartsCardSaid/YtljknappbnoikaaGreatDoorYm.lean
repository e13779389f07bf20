/- Texts of one proof: VxE. -/
import Derived.Test.YtljknappbnoikaaGreatDoorYe
import Derived.Test.YtljknappbnoikaaGreatDoorYf
import Derived.Test.YtljknappbnoikaaGreatDoorYl
set_option linter.unusedVariables false
set_option linter.unusedSimpArgs false
set_option maxRecDepth 100000
set_option maxHeartbeats 8000000
namespace Go.Proofs.YtljknappbnoikaaGreatDoor
open Go.RowKit
namespace C
open U (Ex St StsR Vr VarsR VrAt newBlk blkLt kbS kbL CheckR_any checkM cells9 pgArr pgv)
def SomeB (w : World) (e : Ending) (w' : World) : Prop := (∃ b, e = .returned (.bool b)) ∧ Below w.heap.size w w'
theorem RFew_any (x : ByteArray) (vs : List Vr) (VA : Option Addr) (vm : Nat) (o : U.On) (a : U.OnA) (wi pa : Int) (w : World) (hV : VarsR w vs VA) (hlen : vs.length ≤ maxLen) (hO : U.OnR w o a) (hk : ∀ l ∈ o.list, kbL l) :
  Calls Tryz.prog 6 #[pgv x VA vs.length vm o a wi pa] w (SomeB w) := by
 have HB := Lib.hid (grAlloc w (.cells (pgArr x VA vs.length vm o a wi pa) 26))
 have HX := Lib.hid (newBlk w (.cells (pgArr x VA vs.length vm o a wi pa) 26) _ rfl)
 have HV := Lib.hid hV
 have HO := Lib.hid hO
 have HK := Lib.hid hk
 obtain ⟨s0, s1, s2, s3, s4, s5, s6, s7, s8⟩ := cells9 HX.out
 clear hV hO hk s0 s2 s3 s4 s5 s6 s7 s8
 go_enter Tryz.func6, Tryz.ntmps6
 go_wp2
 go_loopg [3] (vs.length) (fun gk i wr => ∃ (k : Nat), k + gk = vs.length ∧ i = .int .i64 k ∧ Hid (wr.heap[w.heap.size]? = some (.cells (pgArr x VA vs.length vm o a wi pa) 26 (0, 0))) ∧ Hid (Below w.heap.size w wr))
 case atStart => exact ⟨0, by omega, rfl, HX, HB⟩
 case round =>
  obtain ⟨k, hk, rfl, hX, hW⟩ := hrel
  clear s1 HX HB
  obtain ⟨s0, s1, s2, s3, s4, s5, s6, s7, s8⟩ := cells9 hX.out
  clear s2 s3 s4 s5 s6 s7 s8
  by_cases hlt : k < vs.length
  ·obtain ⟨g, rfl⟩ : ∃ g, gk = g + 1 := ⟨gk - 1, by omega⟩
   have hk64 : (k : Int) + 1 < 9223372036854775808 := by unfold maxLen at hlen; omega
   obtain ⟨ga, oa, rfl, hat⟩ := (HV.out.below hW.out).addr (by omega)
   obtain ⟨e0, -, -, -, -⟩ := hat _ _ (List.getElem?_eq_getElem hlt)
   clear hat s0
   generalize vs[k].x = y at *
   by_cases hy : y.size ≤ 40
   ·have t1 : decide ((y.size : Int) > 40) = false := by simp; omega
    clear hy
    go_wp2
    go_roundg g
    case measure => omega
    case rel => exact ⟨k + 1, by omega, by go_num, hX, hW⟩
   ·have t1 : decide ((y.size : Int) > 40) = true := by simp; omega
    clear hy
    go_wp2
    go_ret
    exact ⟨⟨_, rfl⟩, hW.out⟩
  ·clear s0
   go_wp2
   go_loopg [4, 5] 5 (fun gk n i wx => ∃ (j : Nat) (mv : Int), j + gk = 5 ∧ i = .int .i64 j ∧ n = .int .i64 mv ∧ 0 ≤ mv ∧ mv ≤ 10000 * j ∧ Hid (wx.heap[w.heap.size]? = some (.cells (pgArr x VA vs.length vm o a wi pa) 26 (0, 0))) ∧ Hid (Below w.heap.size w wx))
   case atStart => exact ⟨0, 0, by omega, rfl, rfl, by omega, by omega, hX, hW⟩
   case round =>
    obtain ⟨j, mv, hj, rfl, rfl, hm0, hm1, hX2, hW2⟩ := hrel
    clear s1 hX hW
    obtain ⟨s0, s1, s2, s3, s4, s5, s6, s7, s8⟩ := cells9 hX2.out
    by_cases hj5 : j < 5
    ·obtain ⟨g2, rfl⟩ : ∃ g, gk = g + 1 := ⟨gk - 1, by omega⟩
     have h5 : j = 0 ∨ j = 1 ∨ j = 2 ∨ j = 3 ∨ j = 4 := by omega
     rcases h5 with rfl | rfl | rfl | rfl | rfl
     ·have HS := True.intro
      have hr := HO.out.r0
      have hn := HO.out.n0
      have hkb := HK.out o.l0 (by simp [U.On.list])
      have HC := Lib.hid (fun (wx : World) (hg : Gr w wx) => size_of o.l0 wx a.a0 a.m0 3000 200 (hr.below hg) hn hkb (by decide) (by decide) (by decide) (by decide))
      clear HS hr hn hkb
      go_wp2_with (go_at_call 17; refine (HC.out _ hW2.out).mono ?_; rintro e w2 ⟨⟨v, rfl, hv0, hv1⟩, hb2⟩; have hv2 : v ≤ 9003 := hv1; have hq := IntWalk.i64_in (mv + v) (by omega); have hX3 := Lib.hid (grBlk hb2 hX2.out); have hW3 := Lib.hid (Gr.tr hW2.out hb2); clear hb2 hv1 s0 s1 s2 s3 s4 s5 s6 s7 s8)
      go_roundg g2
      case measure => omega
      case rel => exact ⟨1, mv + v, by omega, by go_num, by go_num, by omega, by omega, hX3, hW3⟩
     ·have HS := True.intro
      have hr := HO.out.r1
      have hn := HO.out.n1
      have hkb := HK.out o.l1 (by simp [U.On.list])
      have HC := Lib.hid (fun (wx : World) (hg : Gr w wx) => size_of o.l1 wx a.a1 a.m1 3000 200 (hr.below hg) hn hkb (by decide) (by decide) (by decide) (by decide))
      clear HS hr hn hkb
      go_wp2_with (go_at_call 17; refine (HC.out _ hW2.out).mono ?_; rintro e w2 ⟨⟨v, rfl, hv0, hv1⟩, hb2⟩; have hv2 : v ≤ 9003 := hv1; have hq := IntWalk.i64_in (mv + v) (by omega); have hX3 := Lib.hid (grBlk hb2 hX2.out); have hW3 := Lib.hid (Gr.tr hW2.out hb2); clear hb2 hv1 s0 s1 s2 s3 s4 s5 s6 s7 s8)
      go_roundg g2
      case measure => omega
      case rel => exact ⟨2, mv + v, by omega, by go_num, by go_num, by omega, by omega, hX3, hW3⟩
     ·have HS := True.intro
      have hr := HO.out.r2
      have hn := HO.out.n2
      have hkb := HK.out o.l2 (by simp [U.On.list])
      have HC := Lib.hid (fun (wx : World) (hg : Gr w wx) => size_of o.l2 wx a.a2 a.m2 3000 200 (hr.below hg) hn hkb (by decide) (by decide) (by decide) (by decide))
      clear HS hr hn hkb
      go_wp2_with (go_at_call 17; refine (HC.out _ hW2.out).mono ?_; rintro e w2 ⟨⟨v, rfl, hv0, hv1⟩, hb2⟩; have hv2 : v ≤ 9003 := hv1; have hq := IntWalk.i64_in (mv + v) (by omega); have hX3 := Lib.hid (grBlk hb2 hX2.out); have hW3 := Lib.hid (Gr.tr hW2.out hb2); clear hb2 hv1 s0 s1 s2 s3 s4 s5 s6 s7 s8)
      go_roundg g2
      case measure => omega
      case rel => exact ⟨3, mv + v, by omega, by go_num, by go_num, by omega, by omega, hX3, hW3⟩
     ·have HS := True.intro
      have hr := HO.out.r3
      have hn := HO.out.n3
      have hkb := HK.out o.l3 (by simp [U.On.list])
      have HC := Lib.hid (fun (wx : World) (hg : Gr w wx) => size_of o.l3 wx a.a3 a.m3 3000 200 (hr.below hg) hn hkb (by decide) (by decide) (by decide) (by decide))
      clear HS hr hn hkb
      go_wp2_with (go_at_call 17; refine (HC.out _ hW2.out).mono ?_; rintro e w2 ⟨⟨v, rfl, hv0, hv1⟩, hb2⟩; have hv2 : v ≤ 9003 := hv1; have hq := IntWalk.i64_in (mv + v) (by omega); have hX3 := Lib.hid (grBlk hb2 hX2.out); have hW3 := Lib.hid (Gr.tr hW2.out hb2); clear hb2 hv1 s0 s1 s2 s3 s4 s5 s6 s7 s8)
      go_roundg g2
      case measure => omega
      case rel => exact ⟨4, mv + v, by omega, by go_num, by go_num, by omega, by omega, hX3, hW3⟩
     ·have HS := True.intro
      have hr := HO.out.r4
      have hn := HO.out.n4
      have hkb := HK.out o.l4 (by simp [U.On.list])
      have HC := Lib.hid (fun (wx : World) (hg : Gr w wx) => size_of o.l4 wx a.a4 a.m4 3000 200 (hr.below hg) hn hkb (by decide) (by decide) (by decide) (by decide))
      clear HS hr hn hkb
      go_wp2_with (go_at_call 17; refine (HC.out _ hW2.out).mono ?_; rintro e w2 ⟨⟨v, rfl, hv0, hv1⟩, hb2⟩; have hv2 : v ≤ 9003 := hv1; have hq := IntWalk.i64_in (mv + v) (by omega); have hX3 := Lib.hid (grBlk hb2 hX2.out); have hW3 := Lib.hid (Gr.tr hW2.out hb2); clear hb2 hv1 s0 s1 s2 s3 s4 s5 s6 s7 s8)
      go_roundg g2
      case measure => omega
      case rel => exact ⟨5, mv + v, by omega, by go_num, by go_num, by omega, by omega, hX3, hW3⟩
    ·obtain rfl : j = 5 := by omega
     clear s2 s3 s4 s5 s6 s7 s8
     by_cases t1 : vs.length ≤ 20
     ·have t1 : decide ((vs.length : Int) ≤ 20) = true := by simp; omega
      by_cases t2 : x.size ≤ 40
      ·have t2 : decide ((x.size : Int) ≤ 40) = true := by simp; omega
       by_cases t3 : mv ≤ 3000
       ·have t3 : decide (mv ≤ 3000) = true := by simp; omega
        go_wp2
        go_ret
        exact ⟨⟨_, rfl⟩, hW2.out⟩
       ·have t3 : decide (mv ≤ 3000) = false := by simp; omega
        go_wp2
        go_ret
        exact ⟨⟨_, rfl⟩, hW2.out⟩
      ·have t2 : decide ((x.size : Int) ≤ 40) = false := by simp; omega
       go_wp2
       go_ret
       exact ⟨⟨_, rfl⟩, hW2.out⟩
     ·have t1 : decide ((vs.length : Int) ≤ 20) = false := by simp; omega
      go_wp2
      go_ret
      exact ⟨⟨_, rfl⟩, hW2.out⟩
theorem R5Valid_any (x : ByteArray) (vs : List Vr) (VA : Option Addr) (vm : Nat) (o : U.On) (a : U.OnA) (wi pa : Int) (w : World) (hV : VarsR w vs VA) (hlen : vs.length ≤ maxLen) (hO : U.OnR w o a) (hx : x.size ≤ maxLen) (hv : ∀ v ∈ vs, v.x.size ≤ maxLen) :
  Calls Tryz.prog 13 #[pgv x VA vs.length vm o a wi pa] w (V1 (.bool (v5 nm5 x vs o.list wi pa)) w) := by
 have HB := Lib.hid (grAlloc w (.cells (pgArr x VA vs.length vm o a wi pa) 26))
 have HX := Lib.hid (newBlk w (.cells (pgArr x VA vs.length vm o a wi pa) 26) _ rfl)
 have HV := Lib.hid hV
 have HN := Lib.hid (fun wx => RName_any x wx hx)
 have HVr := Lib.hid (fun (v : Vr) (hm : v ∈ vs) (wx : World) => RVar_any v wx (hv v hm))
 have HFi := Lib.hid (fun (wx : World) (hg : Gr w wx) (y : ByteArray) => RFind_any vs VA vm y wx (hV.below hg) hlen)
 have HUs := Lib.hid (fun (wx : World) (hg : Gr w wx) (k un : Int) => RUses_any vs VA vm k un wx (hV.below hg))
 have HCk := Lib.hid (fun (wx : World) (hg : Gr w wx) => CheckR_any x vs VA vm o a wi pa wx (hV.below hg) hlen (hO.below hg))
 obtain ⟨s0, s1, s2, s3, s4, s5, s6, s7, s8⟩ := cells9 HX.out
 obtain ⟨r, hr⟩ : ∃ r, v5 nm5 x vs o.list wi pa = r := ⟨_, rfl⟩
 rw [hr]
 generalize hck : checkM (vs.map (·.u)) o.list = ck at *
 have HR : Hid (((nm5 x && (decide (1 ≤ vs.length) && decide (vs.length ≤ 12))) && (okVars nm5 vs (vs.drop 0) 0 && (decide (ck.1 = -1) && (decide (ck.2 = 0) && (usesB vs wi 1 && (decide (pa = -1) || usesB vs pa 4)))))) = r) := Lib.hid (by rw [← hr, ← hck]; rfl)
 obtain ⟨c1, c2⟩ := ck
 simp only at HR
 clear hV hO hx hv hr hck s2 s3 s4 s5 s6 s7 s8
 go_enter Tryz.func13, Tryz.ntmps13
 cases hnm : nm5 x with
 | false =>
  rw [hnm] at HN HR
  obtain rfl : false = r := by have h := HR.out; simpa using h
  clear HR hnm
  go_wp2_with (go_at_call 25; refine (HN.out _).mono ?_; rintro e w1 ⟨rfl, hb1⟩; have HB := Lib.hid (Gr.tr HB.out hb1); clear hb1)
  go_ret
  exact ⟨rfl, HB.out⟩
 | true =>
  rw [hnm] at HN HR
  by_cases hl1 : 1 ≤ vs.length
  ·by_cases hl2 : vs.length ≤ 12
   ·have t1 : decide ((vs.length : Int) < 1) = false := by simp; omega
    have t2 : decide ((vs.length : Int) > 12) = false := by simp; omega
    have HR := Lib.hid (by have h := HR.out; simpa only [decide_eq_true hl1, decide_eq_true hl2, Bool.true_and] using h)
    clear hnm
    go_wp2_with (go_at_call 25; refine (HN.out _).mono ?_; rintro e w1 ⟨rfl, hb1⟩; have HB := Lib.hid (Gr.tr HB.out hb1); have HX := Lib.hid (grBlk hb1 HX.out); clear hb1 s0 s1; obtain ⟨s0, s1, s2, s3, s4, s5, s6, s7, s8⟩ := cells9 HX.out; clear s0 s2 s3 s4 s5 s6 s7 s8)
    go_loopg [3] (vs.length) (fun gk i wr => ∃ (k : Nat), k + gk = vs.length ∧ i = .int .i64 k ∧ Hid ((okVars nm5 vs (vs.drop k) k && (decide (c1 = -1) && (decide (c2 = 0) && (usesB vs wi 1 && (decide (pa = -1) || usesB vs pa 4))))) = r) ∧ Hid (wr.heap[w.heap.size]? = some (.cells (pgArr x VA vs.length vm o a wi pa) 26 (0, 0))) ∧ Hid (Below w.heap.size w wr))
    case atStart => exact ⟨0, by omega, rfl, HR, HX, HB⟩
    case round =>
     obtain ⟨k, hk, rfl, hM, hX, hW⟩ := hrel
     clear s1 HX HB HR HN
     obtain ⟨s0, s1, s2, s3, s4, s5, s6, s7, s8⟩ := cells9 hX.out
     by_cases hlt : k < vs.length
     ·obtain ⟨g, rfl⟩ : ∃ g, gk = g + 1 := ⟨gk - 1, by omega⟩
      obtain ⟨ga, oa, rfl, hat⟩ := (HV.out.below hW.out).addr (by omega)
      obtain ⟨e0, e1, e2, e3, e4⟩ := hat _ _ (List.getElem?_eq_getElem hlt)
      have HVk := Lib.hid (HVr.out vs[k] (List.getElem_mem hlt))
      have hM1 := hM.out
      rw [List.drop_eq_getElem_cons hlt, okVars] at hM1
      clear hat hM s2 s3 s4 s5 s6 s7 s8 s0
      generalize vs[k] = v at *
      cases hvb : varB nm5 v with
      | false =>
       rw [hvb] at HVk hM1
       obtain rfl : false = r := by simpa using hM1
       clear hM1 hvb
       go_upto_region 6 with fail
       refine wp_region_G (S := fun wq => Gr wr wq) (by kernel_rfl) (grDrew _) (fun hHeld => ?_)
       have hSG : Hid (∀ wp wq : World, Gr wr wp → Gr wp wq → Gr wr wq) := Lib.hid (fun _ _ h k => h.tr k)
       have hmv := Lib.hid (fun (wq : World) (hq : Gr wr wq) => And.intro (grCell hq s1) (And.intro (grCell hq e0) (And.intro (grCell hq e1) (And.intro (grCell hq e2) (And.intro (grCell hq e3) (grCell hq e4))))))
       first
        | (refine tk hSG 0 (v := ?_) rfl (by kernel_rfl) (fun _ _ _ h => h) (by rfl) ?_ hHeld ?_; rotate_left; focus (intro w' hSw; obtain ⟨s1, e0, e1, e2, e3, e4⟩ := hmv.out _ hSw; go_simp; (try with_reducible rfl)))
        | refine tn hSG 0 rfl (by kernel_rfl) (fun _ _ _ h => h) (by rfl) hHeld ?_
       (try simp only [zq1, zq2, zq3, Act.put, zq4, zq5, zq6])
       first
        | (refine tk hSG 1 (v := ?_) rfl (by kernel_rfl) (fun _ _ _ h => h) (by rfl) ?_ hHeld ?_; rotate_left; focus (intro w' hSw; obtain ⟨s1, e0, e1, e2, e3, e4⟩ := hmv.out _ hSw; go_simp; (try with_reducible rfl)))
        | refine tn hSG 1 rfl (by kernel_rfl) (fun _ _ _ h => h) (by rfl) hHeld ?_
       (try simp only [zq1, zq2, zq3, Act.put, zq4, zq5, zq6])
       first
        | (refine tk hSG 2 (v := ?_) rfl (by kernel_rfl) (fun _ _ _ h => h) (by rfl) ?_ hHeld ?_; rotate_left; focus (intro w' hSw; obtain ⟨s1, e0, e1, e2, e3, e4⟩ := hmv.out _ hSw; go_simp; (try with_reducible rfl)))
        | refine tn hSG 2 rfl (by kernel_rfl) (fun _ _ _ h => h) (by rfl) hHeld ?_
       (try simp only [zq1, zq2, zq3, Act.put, zq4, zq5, zq6])
       refine tk hSG 3 (v := .pointer (some ⟨ga, oa + k * 5, none⟩)) rfl (by kernel_rfl) (fun _ _ _ h => h) (by rfl) ?_ hHeld ?_
       focus (intro w' hSw; obtain ⟨s1, e0, e1, e2, e3, e4⟩ := hmv.out _ hSw; go_simp; (try (intro hq; omega)))
       (try simp only [zq1, zq2, zq3, Act.put, zq4, zq5, zq6])
       first
        | (refine tk hSG 4 (v := ?_) rfl (by kernel_rfl) (fun _ _ _ h => h) (by rfl) ?_ hHeld ?_; rotate_left; focus (intro w' hSw; obtain ⟨s1, e0, e1, e2, e3, e4⟩ := hmv.out _ hSw; go_simp; (try with_reducible rfl)))
        | refine tn hSG 4 rfl (by kernel_rfl) (fun _ _ _ h => h) (by rfl) hHeld ?_
       (try simp only [zq1, zq2, zq3, Act.put, zq4, zq5, zq6])
       refine tc hSG 5 (v := .bool false) rfl (by kernel_rfl) (fun _ _ _ h => h) (by rfl) ?_ hHeld ?_
       focus (intro wz hSw K hK; obtain ⟨s1, e0, e1, e2, e3, e4⟩ := hmv.out _ hSw; go_simp; go_at_call 26; refine (HVk.out _).mono ?_; rintro e w2 ⟨rfl, hb2⟩; exact hK.out _ hb2)
       (try simp only [zq1, zq2, zq3, Act.put, zq4, zq5, zq6])
       first
        | (refine tk hSG 6 (v := ?_) rfl (by kernel_rfl) (fun _ _ _ h => h) (by rfl) ?_ hHeld ?_; rotate_left; focus (intro w' hSw; obtain ⟨s1, e0, e1, e2, e3, e4⟩ := hmv.out _ hSw; go_simp; (try with_reducible rfl)))
        | refine tn hSG 6 rfl (by kernel_rfl) (fun _ _ _ h => h) (by rfl) hHeld ?_
       (try simp only [zq1, zq2, zq3, Act.put, zq4, zq5, zq6])
       first
        | (refine tk hSG 7 (v := ?_) rfl (by kernel_rfl) (fun _ _ _ h => h) (by rfl) ?_ hHeld ?_; rotate_left; focus (intro w' hSw; obtain ⟨s1, e0, e1, e2, e3, e4⟩ := hmv.out _ hSw; go_simp; (try with_reducible rfl)))
        | refine tn hSG 7 rfl (by kernel_rfl) (fun _ _ _ h => h) (by rfl) hHeld ?_
       (try simp only [zq1, zq2, zq3, Act.put, zq4, zq5, zq6])
       first
        | (refine tk hSG 8 (v := ?_) rfl (by kernel_rfl) (fun _ _ _ h => h) (by rfl) ?_ hHeld ?_; rotate_left; focus (intro w' hSw; obtain ⟨s1, e0, e1, e2, e3, e4⟩ := hmv.out _ hSw; go_simp; (try with_reducible rfl)))
        | refine tn hSG 8 rfl (by kernel_rfl) (fun _ _ _ h => h) (by rfl) hHeld ?_
       (try simp only [zq1, zq2, zq3, Act.put, zq4, zq5, zq6])
       first
        | (refine tk hSG 9 (v := ?_) rfl (by kernel_rfl) (fun _ _ _ h => h) (by rfl) ?_ hHeld ?_; rotate_left; focus (intro w' hSw; obtain ⟨s1, e0, e1, e2, e3, e4⟩ := hmv.out _ hSw; go_simp; (try with_reducible rfl)))
        | refine tn hSG 9 rfl (by kernel_rfl) (fun _ _ _ h => h) (by rfl) hHeld ?_
       (try simp only [zq1, zq2, zq3, Act.put, zq4, zq5, zq6])
       first
        | (refine tk hSG 10 (v := ?_) rfl (by kernel_rfl) (fun _ _ _ h => h) (by rfl) ?_ hHeld ?_; rotate_left; focus (intro w' hSw; obtain ⟨s1, e0, e1, e2, e3, e4⟩ := hmv.out _ hSw; go_simp; (try with_reducible rfl)))
        | refine tn hSG 10 rfl (by kernel_rfl) (fun _ _ _ h => h) (by rfl) hHeld ?_
       (try simp only [zq1, zq2, zq3, Act.put, zq4, zq5, zq6])
       first
        | (refine tk hSG 11 (v := ?_) rfl (by kernel_rfl) (fun _ _ _ h => h) (by rfl) ?_ hHeld ?_; rotate_left; focus (intro w' hSw; obtain ⟨s1, e0, e1, e2, e3, e4⟩ := hmv.out _ hSw; go_simp; (try with_reducible rfl)))
        | refine tn hSG 11 rfl (by kernel_rfl) (fun _ _ _ h => h) (by rfl) hHeld ?_
       (try simp only [zq1, zq2, zq3, Act.put, zq4, zq5, zq6])
       first
        | (refine tk hSG 12 (v := ?_) rfl (by kernel_rfl) (fun _ _ _ h => h) (by rfl) ?_ hHeld ?_; rotate_left; focus (intro w' hSw; obtain ⟨s1, e0, e1, e2, e3, e4⟩ := hmv.out _ hSw; go_simp; (try with_reducible rfl)))
        | refine tn hSG 12 rfl (by kernel_rfl) (fun _ _ _ h => h) (by rfl) hHeld ?_
       (try simp only [zq1, zq2, zq3, Act.put, zq4, zq5, zq6])
       first
        | (refine tk hSG 13 (v := ?_) rfl (by kernel_rfl) (fun _ _ _ h => h) (by rfl) ?_ hHeld ?_; rotate_left; focus (intro w' hSw; obtain ⟨s1, e0, e1, e2, e3, e4⟩ := hmv.out _ hSw; go_simp; (try with_reducible rfl)))
        | refine tn hSG 13 rfl (by kernel_rfl) (fun _ _ _ h => h) (by rfl) hHeld ?_
       (try simp only [zq1, zq2, zq3, Act.put, zq4, zq5, zq6])
       first
        | (refine tk hSG 14 (v := ?_) rfl (by kernel_rfl) (fun _ _ _ h => h) (by rfl) ?_ hHeld ?_; rotate_left; focus (intro w' hSw; obtain ⟨s1, e0, e1, e2, e3, e4⟩ := hmv.out _ hSw; go_simp; (try with_reducible rfl)))
        | refine tn hSG 14 rfl (by kernel_rfl) (fun _ _ _ h => h) (by rfl) hHeld ?_
       (try simp only [zq1, zq2, zq3, Act.put, zq4, zq5, zq6])
       first
        | (refine tk hSG 15 (v := ?_) rfl (by kernel_rfl) (fun _ _ _ h => h) (by rfl) ?_ hHeld ?_; rotate_left; focus (intro w' hSw; obtain ⟨s1, e0, e1, e2, e3, e4⟩ := hmv.out _ hSw; go_simp; (try with_reducible rfl)))
        | refine tn hSG 15 rfl (by kernel_rfl) (fun _ _ _ h => h) (by rfl) hHeld ?_
       (try simp only [zq1, zq2, zq3, Act.put, zq4, zq5, zq6])
       first
        | (refine tk hSG 16 (v := ?_) rfl (by kernel_rfl) (fun _ _ _ h => h) (by rfl) ?_ hHeld ?_; rotate_left; focus (intro w' hSw; obtain ⟨s1, e0, e1, e2, e3, e4⟩ := hmv.out _ hSw; go_simp; (try with_reducible rfl)))
        | refine tn hSG 16 rfl (by kernel_rfl) (fun _ _ _ h => h) (by rfl) hHeld ?_
       (try simp only [zq1, zq2, zq3, Act.put, zq4, zq5, zq6])
       first
        | (refine tk hSG 17 (v := ?_) rfl (by kernel_rfl) (fun _ _ _ h => h) (by rfl) ?_ hHeld ?_; rotate_left; focus (intro w' hSw; obtain ⟨s1, e0, e1, e2, e3, e4⟩ := hmv.out _ hSw; go_simp; (try with_reducible rfl)))
        | refine tn hSG 17 rfl (by kernel_rfl) (fun _ _ _ h => h) (by rfl) hHeld ?_
       (try simp only [zq1, zq2, zq3, Act.put, zq4, zq5, zq6])
       first
        | (refine tk hSG 18 (v := ?_) rfl (by kernel_rfl) (fun _ _ _ h => h) (by rfl) ?_ hHeld ?_; rotate_left; focus (intro w' hSw; obtain ⟨s1, e0, e1, e2, e3, e4⟩ := hmv.out _ hSw; go_simp; (try with_reducible rfl)))
        | refine tn hSG 18 rfl (by kernel_rfl) (fun _ _ _ h => h) (by rfl) hHeld ?_
       (try simp only [zq1, zq2, zq3, Act.put, zq4, zq5, zq6])
       first
        | (refine tk hSG 19 (v := ?_) rfl (by kernel_rfl) (fun _ _ _ h => h) (by rfl) ?_ hHeld ?_; rotate_left; focus (intro w' hSw; obtain ⟨s1, e0, e1, e2, e3, e4⟩ := hmv.out _ hSw; go_simp; (try with_reducible rfl)))
        | refine tn hSG 19 rfl (by kernel_rfl) (fun _ _ _ h => h) (by rfl) hHeld ?_
       (try simp only [zq1, zq2, zq3, Act.put, zq4, zq5, zq6])
       refine wpAnyG_done (by kernel_rfl) (fun w5 hgD => ?_) _
       have hg5 : Gr wr w5 := (grDrew wr).tr hgD
       clear hgD hSG hHeld
       have HB5 := Lib.hid (Gr.tr hW.out hg5)
       clear s1 e0 e1 e2 e3 e4 hg5
       go_wp2
       go_ret
       exact ⟨rfl, HB5.out⟩
      | true =>
       rw [hvb] at HVk hM1
       generalize hix : idx (vs.map (·.x)) v.x = ix at *
       have HFk : Hid (∀ wx, Gr w wx → Calls Tryz.prog 27 #[.slice (some ⟨ga, oa, none⟩) vs.length vm, .string v.x] wx (fun e w' => e = .returned (.int .i64 ix) ∧ wx = w')) := Lib.hid (fun wx hg => by have := HFi.out wx hg v.x; rw [hix] at this; exact this)
       clear hix hvb
       by_cases hik : ix = (k : Int)
       ·subst hik
        have hM2 := Lib.hid (by simpa only [decide_true, Bool.true_and] using hM1)
        have tnq : ((k : Int) != (k : Int)) = false := by simp
        clear hM1
        go_upto_region 6 with fail
        refine wp_region_G (S := fun wq => Gr wr wq) (by kernel_rfl) (grDrew _) (fun hHeld => ?_)
        have hSG : Hid (∀ wp wq : World, Gr wr wp → Gr wp wq → Gr wr wq) := Lib.hid (fun _ _ h k => h.tr k)
        have hmv := Lib.hid (fun (wq : World) (hq : Gr wr wq) => And.intro (grCell hq s1) (And.intro (grCell hq e0) (And.intro (grCell hq e1) (And.intro (grCell hq e2) (And.intro (grCell hq e3) (grCell hq e4))))))
        first
         | (refine tk hSG 0 (v := ?_) rfl (by kernel_rfl) (fun _ _ _ h => h) (by rfl) ?_ hHeld ?_; rotate_left; focus (intro w' hSw; obtain ⟨s1, e0, e1, e2, e3, e4⟩ := hmv.out _ hSw; go_simp; (try with_reducible rfl)))
         | refine tn hSG 0 rfl (by kernel_rfl) (fun _ _ _ h => h) (by rfl) hHeld ?_
        (try simp only [zq1, zq2, zq3, Act.put, zq4, zq5, zq6])
        first
         | (refine tk hSG 1 (v := ?_) rfl (by kernel_rfl) (fun _ _ _ h => h) (by rfl) ?_ hHeld ?_; rotate_left; focus (intro w' hSw; obtain ⟨s1, e0, e1, e2, e3, e4⟩ := hmv.out _ hSw; go_simp; (try with_reducible rfl)))
         | refine tn hSG 1 rfl (by kernel_rfl) (fun _ _ _ h => h) (by rfl) hHeld ?_
        (try simp only [zq1, zq2, zq3, Act.put, zq4, zq5, zq6])
        first
         | (refine tk hSG 2 (v := ?_) rfl (by kernel_rfl) (fun _ _ _ h => h) (by rfl) ?_ hHeld ?_; rotate_left; focus (intro w' hSw; obtain ⟨s1, e0, e1, e2, e3, e4⟩ := hmv.out _ hSw; go_simp; (try with_reducible rfl)))
         | refine tn hSG 2 rfl (by kernel_rfl) (fun _ _ _ h => h) (by rfl) hHeld ?_
        (try simp only [zq1, zq2, zq3, Act.put, zq4, zq5, zq6])
        refine tk hSG 3 (v := .pointer (some ⟨ga, oa + k * 5, none⟩)) rfl (by kernel_rfl) (fun _ _ _ h => h) (by rfl) ?_ hHeld ?_
        focus (intro w' hSw; obtain ⟨s1, e0, e1, e2, e3, e4⟩ := hmv.out _ hSw; go_simp; (try (intro hq; omega)))
        (try simp only [zq1, zq2, zq3, Act.put, zq4, zq5, zq6])
        first
         | (refine tk hSG 4 (v := ?_) rfl (by kernel_rfl) (fun _ _ _ h => h) (by rfl) ?_ hHeld ?_; rotate_left; focus (intro w' hSw; obtain ⟨s1, e0, e1, e2, e3, e4⟩ := hmv.out _ hSw; go_simp; (try with_reducible rfl)))
         | refine tn hSG 4 rfl (by kernel_rfl) (fun _ _ _ h => h) (by rfl) hHeld ?_
        (try simp only [zq1, zq2, zq3, Act.put, zq4, zq5, zq6])
        refine tc hSG 5 (v := .bool true) rfl (by kernel_rfl) (fun _ _ _ h => h) (by rfl) ?_ hHeld ?_
        focus (intro wz hSw K hK; obtain ⟨s1, e0, e1, e2, e3, e4⟩ := hmv.out _ hSw; go_simp; go_at_call 26; refine (HVk.out _).mono ?_; rintro e w2 ⟨rfl, hb2⟩; exact hK.out _ hb2)
        (try simp only [zq1, zq2, zq3, Act.put, zq4, zq5, zq6])
        first
         | (refine tk hSG 6 (v := ?_) rfl (by kernel_rfl) (fun _ _ _ h => h) (by rfl) ?_ hHeld ?_; rotate_left; focus (intro w' hSw; obtain ⟨s1, e0, e1, e2, e3, e4⟩ := hmv.out _ hSw; go_simp; (try with_reducible rfl)))
         | refine tn hSG 6 rfl (by kernel_rfl) (fun _ _ _ h => h) (by rfl) hHeld ?_
        (try simp only [zq1, zq2, zq3, Act.put, zq4, zq5, zq6])
        first
         | (refine tk hSG 7 (v := ?_) rfl (by kernel_rfl) (fun _ _ _ h => h) (by rfl) ?_ hHeld ?_; rotate_left; focus (intro w' hSw; obtain ⟨s1, e0, e1, e2, e3, e4⟩ := hmv.out _ hSw; go_simp; (try with_reducible rfl)))
         | refine tn hSG 7 rfl (by kernel_rfl) (fun _ _ _ h => h) (by rfl) hHeld ?_
        (try simp only [zq1, zq2, zq3, Act.put, zq4, zq5, zq6])
        first
         | (refine tk hSG 8 (v := ?_) rfl (by kernel_rfl) (fun _ _ _ h => h) (by rfl) ?_ hHeld ?_; rotate_left; focus (intro w' hSw; obtain ⟨s1, e0, e1, e2, e3, e4⟩ := hmv.out _ hSw; go_simp; (try with_reducible rfl)))
         | refine tn hSG 8 rfl (by kernel_rfl) (fun _ _ _ h => h) (by rfl) hHeld ?_
        (try simp only [zq1, zq2, zq3, Act.put, zq4, zq5, zq6])
        first
         | (refine tk hSG 9 (v := ?_) rfl (by kernel_rfl) (fun _ _ _ h => h) (by rfl) ?_ hHeld ?_; rotate_left; focus (intro w' hSw; obtain ⟨s1, e0, e1, e2, e3, e4⟩ := hmv.out _ hSw; go_simp; (try with_reducible rfl)))
         | refine tn hSG 9 rfl (by kernel_rfl) (fun _ _ _ h => h) (by rfl) hHeld ?_
        (try simp only [zq1, zq2, zq3, Act.put, zq4, zq5, zq6])
        first
         | (refine tk hSG 10 (v := ?_) rfl (by kernel_rfl) (fun _ _ _ h => h) (by rfl) ?_ hHeld ?_; rotate_left; focus (intro w' hSw; obtain ⟨s1, e0, e1, e2, e3, e4⟩ := hmv.out _ hSw; go_simp; (try with_reducible rfl)))
         | refine tn hSG 10 rfl (by kernel_rfl) (fun _ _ _ h => h) (by rfl) hHeld ?_
        (try simp only [zq1, zq2, zq3, Act.put, zq4, zq5, zq6])
        first
         | (refine tk hSG 11 (v := ?_) rfl (by kernel_rfl) (fun _ _ _ h => h) (by rfl) ?_ hHeld ?_; rotate_left; focus (intro w' hSw; obtain ⟨s1, e0, e1, e2, e3, e4⟩ := hmv.out _ hSw; go_simp; (try with_reducible rfl)))
         | refine tn hSG 11 rfl (by kernel_rfl) (fun _ _ _ h => h) (by rfl) hHeld ?_
        (try simp only [zq1, zq2, zq3, Act.put, zq4, zq5, zq6])
        first
         | (refine tk hSG 12 (v := ?_) rfl (by kernel_rfl) (fun _ _ _ h => h) (by rfl) ?_ hHeld ?_; rotate_left; focus (intro w' hSw; obtain ⟨s1, e0, e1, e2, e3, e4⟩ := hmv.out _ hSw; go_simp; (try with_reducible rfl)))
         | refine tn hSG 12 rfl (by kernel_rfl) (fun _ _ _ h => h) (by rfl) hHeld ?_
        (try simp only [zq1, zq2, zq3, Act.put, zq4, zq5, zq6])
        refine tk hSG 13 (v := .pointer (some ⟨ga, oa + k * 5, none⟩)) rfl (by kernel_rfl) (fun _ _ _ h => h) (by rfl) ?_ hHeld ?_
        focus (intro w' hSw; obtain ⟨s1, e0, e1, e2, e3, e4⟩ := hmv.out _ hSw; go_simp; (try (intro hq; omega)))
        (try simp only [zq1, zq2, zq3, Act.put, zq4, zq5, zq6])
        first
         | (refine tk hSG 14 (v := ?_) rfl (by kernel_rfl) (fun _ _ _ h => h) (by rfl) ?_ hHeld ?_; rotate_left; focus (intro w' hSw; obtain ⟨s1, e0, e1, e2, e3, e4⟩ := hmv.out _ hSw; go_simp; (try with_reducible rfl)))
         | refine tn hSG 14 rfl (by kernel_rfl) (fun _ _ _ h => h) (by rfl) hHeld ?_
        (try simp only [zq1, zq2, zq3, Act.put, zq4, zq5, zq6])
        first
         | (refine tk hSG 15 (v := ?_) rfl (by kernel_rfl) (fun _ _ _ h => h) (by rfl) ?_ hHeld ?_; rotate_left; focus (intro w' hSw; obtain ⟨s1, e0, e1, e2, e3, e4⟩ := hmv.out _ hSw; go_simp; (try with_reducible rfl)))
         | refine tn hSG 15 rfl (by kernel_rfl) (fun _ _ _ h => h) (by rfl) hHeld ?_
        (try simp only [zq1, zq2, zq3, Act.put, zq4, zq5, zq6])
        refine tc hSG 16 (v := .int .i64 k) rfl (by kernel_rfl) (fun _ _ _ h => h) (by rfl) ?_ hHeld ?_
        focus (intro wz hSw K hK; obtain ⟨s1, e0, e1, e2, e3, e4⟩ := hmv.out _ hSw; go_simp; go_at_call 27; refine (HFk.out _ (Gr.tr hW.out hSw)).mono ?_; rintro e w2 ⟨rfl, hw2⟩; have hb2 : Gr wz w2 := hw2 ▸ Below.refl _ _; exact hK.out _ hb2)
        (try simp only [zq1, zq2, zq3, Act.put, zq4, zq5, zq6])
        first
         | (refine tk hSG 17 (v := ?_) rfl (by kernel_rfl) (fun _ _ _ h => h) (by rfl) ?_ hHeld ?_; rotate_left; focus (intro w' hSw; obtain ⟨s1, e0, e1, e2, e3, e4⟩ := hmv.out _ hSw; go_simp; (try with_reducible rfl)))
         | refine tn hSG 17 rfl (by kernel_rfl) (fun _ _ _ h => h) (by rfl) hHeld ?_
        (try simp only [zq1, zq2, zq3, Act.put, zq4, zq5, zq6])
        first
         | (refine tk hSG 18 (v := ?_) rfl (by kernel_rfl) (fun _ _ _ h => h) (by rfl) ?_ hHeld ?_; rotate_left; focus (intro w' hSw; obtain ⟨s1, e0, e1, e2, e3, e4⟩ := hmv.out _ hSw; go_simp; (try with_reducible rfl)))
         | refine tn hSG 18 rfl (by kernel_rfl) (fun _ _ _ h => h) (by rfl) hHeld ?_
        (try simp only [zq1, zq2, zq3, Act.put, zq4, zq5, zq6])
        first
         | (refine tk hSG 19 (v := ?_) rfl (by kernel_rfl) (fun _ _ _ h => h) (by rfl) ?_ hHeld ?_; rotate_left; focus (intro w' hSw; obtain ⟨s1, e0, e1, e2, e3, e4⟩ := hmv.out _ hSw; go_simp; (try with_reducible rfl)))
         | refine tn hSG 19 rfl (by kernel_rfl) (fun _ _ _ h => h) (by rfl) hHeld ?_
        (try simp only [zq1, zq2, zq3, Act.put, zq4, zq5, zq6])
        refine wpAnyG_done (by kernel_rfl) (fun w5 hgD => ?_) _
        have hg5 : Gr wr w5 := (grDrew wr).tr hgD
        clear hgD hSG hHeld
        have HB5 := Lib.hid (Gr.tr hW.out hg5)
        have HX5 := Lib.hid (grBlk hg5 hX.out)
        clear s1 e0 e1 e2 e3 e4 hg5
        go_wp2
        go_roundg g
        case measure => omega
        case rel => exact ⟨k + 1, by omega, by go_num, hM2, HX5, HB5⟩
       ·obtain rfl : false = r := by simpa [hik] using hM1
        have tnq : (ix != (k : Int)) = true := by simp [hik]
        clear hM1
        go_upto_region 6 with fail
        refine wp_region_G (S := fun wq => Gr wr wq) (by kernel_rfl) (grDrew _) (fun hHeld => ?_)
        have hSG : Hid (∀ wp wq : World, Gr wr wp → Gr wp wq → Gr wr wq) := Lib.hid (fun _ _ h k => h.tr k)
        have hmv := Lib.hid (fun (wq : World) (hq : Gr wr wq) => And.intro (grCell hq s1) (And.intro (grCell hq e0) (And.intro (grCell hq e1) (And.intro (grCell hq e2) (And.intro (grCell hq e3) (grCell hq e4))))))
        first
         | (refine tk hSG 0 (v := ?_) rfl (by kernel_rfl) (fun _ _ _ h => h) (by rfl) ?_ hHeld ?_; rotate_left; focus (intro w' hSw; obtain ⟨s1, e0, e1, e2, e3, e4⟩ := hmv.out _ hSw; go_simp; (try with_reducible rfl)))
         | refine tn hSG 0 rfl (by kernel_rfl) (fun _ _ _ h => h) (by rfl) hHeld ?_
        (try simp only [zq1, zq2, zq3, Act.put, zq4, zq5, zq6])
        first
         | (refine tk hSG 1 (v := ?_) rfl (by kernel_rfl) (fun _ _ _ h => h) (by rfl) ?_ hHeld ?_; rotate_left; focus (intro w' hSw; obtain ⟨s1, e0, e1, e2, e3, e4⟩ := hmv.out _ hSw; go_simp; (try with_reducible rfl)))
         | refine tn hSG 1 rfl (by kernel_rfl) (fun _ _ _ h => h) (by rfl) hHeld ?_
        (try simp only [zq1, zq2, zq3, Act.put, zq4, zq5, zq6])
        first
         | (refine tk hSG 2 (v := ?_) rfl (by kernel_rfl) (fun _ _ _ h => h) (by rfl) ?_ hHeld ?_; rotate_left; focus (intro w' hSw; obtain ⟨s1, e0, e1, e2, e3, e4⟩ := hmv.out _ hSw; go_simp; (try with_reducible rfl)))
         | refine tn hSG 2 rfl (by kernel_rfl) (fun _ _ _ h => h) (by rfl) hHeld ?_
        (try simp only [zq1, zq2, zq3, Act.put, zq4, zq5, zq6])
        refine tk hSG 3 (v := .pointer (some ⟨ga, oa + k * 5, none⟩)) rfl (by kernel_rfl) (fun _ _ _ h => h) (by rfl) ?_ hHeld ?_
        focus (intro w' hSw; obtain ⟨s1, e0, e1, e2, e3, e4⟩ := hmv.out _ hSw; go_simp; (try (intro hq; omega)))
        (try simp only [zq1, zq2, zq3, Act.put, zq4, zq5, zq6])
        first
         | (refine tk hSG 4 (v := ?_) rfl (by kernel_rfl) (fun _ _ _ h => h) (by rfl) ?_ hHeld ?_; rotate_left; focus (intro w' hSw; obtain ⟨s1, e0, e1, e2, e3, e4⟩ := hmv.out _ hSw; go_simp; (try with_reducible rfl)))
         | refine tn hSG 4 rfl (by kernel_rfl) (fun _ _ _ h => h) (by rfl) hHeld ?_
        (try simp only [zq1, zq2, zq3, Act.put, zq4, zq5, zq6])
        refine tc hSG 5 (v := .bool true) rfl (by kernel_rfl) (fun _ _ _ h => h) (by rfl) ?_ hHeld ?_
        focus (intro wz hSw K hK; obtain ⟨s1, e0, e1, e2, e3, e4⟩ := hmv.out _ hSw; go_simp; go_at_call 26; refine (HVk.out _).mono ?_; rintro e w2 ⟨rfl, hb2⟩; exact hK.out _ hb2)
        (try simp only [zq1, zq2, zq3, Act.put, zq4, zq5, zq6])
        first
         | (refine tk hSG 6 (v := ?_) rfl (by kernel_rfl) (fun _ _ _ h => h) (by rfl) ?_ hHeld ?_; rotate_left; focus (intro w' hSw; obtain ⟨s1, e0, e1, e2, e3, e4⟩ := hmv.out _ hSw; go_simp; (try with_reducible rfl)))
         | refine tn hSG 6 rfl (by kernel_rfl) (fun _ _ _ h => h) (by rfl) hHeld ?_
        (try simp only [zq1, zq2, zq3, Act.put, zq4, zq5, zq6])
        first
         | (refine tk hSG 7 (v := ?_) rfl (by kernel_rfl) (fun _ _ _ h => h) (by rfl) ?_ hHeld ?_; rotate_left; focus (intro w' hSw; obtain ⟨s1, e0, e1, e2, e3, e4⟩ := hmv.out _ hSw; go_simp; (try with_reducible rfl)))
         | refine tn hSG 7 rfl (by kernel_rfl) (fun _ _ _ h => h) (by rfl) hHeld ?_
        (try simp only [zq1, zq2, zq3, Act.put, zq4, zq5, zq6])
        first
         | (refine tk hSG 8 (v := ?_) rfl (by kernel_rfl) (fun _ _ _ h => h) (by rfl) ?_ hHeld ?_; rotate_left; focus (intro w' hSw; obtain ⟨s1, e0, e1, e2, e3, e4⟩ := hmv.out _ hSw; go_simp; (try with_reducible rfl)))
         | refine tn hSG 8 rfl (by kernel_rfl) (fun _ _ _ h => h) (by rfl) hHeld ?_
        (try simp only [zq1, zq2, zq3, Act.put, zq4, zq5, zq6])
        first
         | (refine tk hSG 9 (v := ?_) rfl (by kernel_rfl) (fun _ _ _ h => h) (by rfl) ?_ hHeld ?_; rotate_left; focus (intro w' hSw; obtain ⟨s1, e0, e1, e2, e3, e4⟩ := hmv.out _ hSw; go_simp; (try with_reducible rfl)))
         | refine tn hSG 9 rfl (by kernel_rfl) (fun _ _ _ h => h) (by rfl) hHeld ?_
        (try simp only [zq1, zq2, zq3, Act.put, zq4, zq5, zq6])
        first
         | (refine tk hSG 10 (v := ?_) rfl (by kernel_rfl) (fun _ _ _ h => h) (by rfl) ?_ hHeld ?_; rotate_left; focus (intro w' hSw; obtain ⟨s1, e0, e1, e2, e3, e4⟩ := hmv.out _ hSw; go_simp; (try with_reducible rfl)))
         | refine tn hSG 10 rfl (by kernel_rfl) (fun _ _ _ h => h) (by rfl) hHeld ?_
        (try simp only [zq1, zq2, zq3, Act.put, zq4, zq5, zq6])
        first
         | (refine tk hSG 11 (v := ?_) rfl (by kernel_rfl) (fun _ _ _ h => h) (by rfl) ?_ hHeld ?_; rotate_left; focus (intro w' hSw; obtain ⟨s1, e0, e1, e2, e3, e4⟩ := hmv.out _ hSw; go_simp; (try with_reducible rfl)))
         | refine tn hSG 11 rfl (by kernel_rfl) (fun _ _ _ h => h) (by rfl) hHeld ?_
        (try simp only [zq1, zq2, zq3, Act.put, zq4, zq5, zq6])
        first
         | (refine tk hSG 12 (v := ?_) rfl (by kernel_rfl) (fun _ _ _ h => h) (by rfl) ?_ hHeld ?_; rotate_left; focus (intro w' hSw; obtain ⟨s1, e0, e1, e2, e3, e4⟩ := hmv.out _ hSw; go_simp; (try with_reducible rfl)))
         | refine tn hSG 12 rfl (by kernel_rfl) (fun _ _ _ h => h) (by rfl) hHeld ?_
        (try simp only [zq1, zq2, zq3, Act.put, zq4, zq5, zq6])
        refine tk hSG 13 (v := .pointer (some ⟨ga, oa + k * 5, none⟩)) rfl (by kernel_rfl) (fun _ _ _ h => h) (by rfl) ?_ hHeld ?_
        focus (intro w' hSw; obtain ⟨s1, e0, e1, e2, e3, e4⟩ := hmv.out _ hSw; go_simp; (try (intro hq; omega)))
        (try simp only [zq1, zq2, zq3, Act.put, zq4, zq5, zq6])
        first
         | (refine tk hSG 14 (v := ?_) rfl (by kernel_rfl) (fun _ _ _ h => h) (by rfl) ?_ hHeld ?_; rotate_left; focus (intro w' hSw; obtain ⟨s1, e0, e1, e2, e3, e4⟩ := hmv.out _ hSw; go_simp; (try with_reducible rfl)))
         | refine tn hSG 14 rfl (by kernel_rfl) (fun _ _ _ h => h) (by rfl) hHeld ?_
        (try simp only [zq1, zq2, zq3, Act.put, zq4, zq5, zq6])
        first
         | (refine tk hSG 15 (v := ?_) rfl (by kernel_rfl) (fun _ _ _ h => h) (by rfl) ?_ hHeld ?_; rotate_left; focus (intro w' hSw; obtain ⟨s1, e0, e1, e2, e3, e4⟩ := hmv.out _ hSw; go_simp; (try with_reducible rfl)))
         | refine tn hSG 15 rfl (by kernel_rfl) (fun _ _ _ h => h) (by rfl) hHeld ?_
        (try simp only [zq1, zq2, zq3, Act.put, zq4, zq5, zq6])
        refine tc hSG 16 (v := .int .i64 ix) rfl (by kernel_rfl) (fun _ _ _ h => h) (by rfl) ?_ hHeld ?_
        focus (intro wz hSw K hK; obtain ⟨s1, e0, e1, e2, e3, e4⟩ := hmv.out _ hSw; go_simp; go_at_call 27; refine (HFk.out _ (Gr.tr hW.out hSw)).mono ?_; rintro e w2 ⟨rfl, hw2⟩; have hb2 : Gr wz w2 := hw2 ▸ Below.refl _ _; exact hK.out _ hb2)
        (try simp only [zq1, zq2, zq3, Act.put, zq4, zq5, zq6])
        first
         | (refine tk hSG 17 (v := ?_) rfl (by kernel_rfl) (fun _ _ _ h => h) (by rfl) ?_ hHeld ?_; rotate_left; focus (intro w' hSw; obtain ⟨s1, e0, e1, e2, e3, e4⟩ := hmv.out _ hSw; go_simp; (try with_reducible rfl)))
         | refine tn hSG 17 rfl (by kernel_rfl) (fun _ _ _ h => h) (by rfl) hHeld ?_
        (try simp only [zq1, zq2, zq3, Act.put, zq4, zq5, zq6])
        first
         | (refine tk hSG 18 (v := ?_) rfl (by kernel_rfl) (fun _ _ _ h => h) (by rfl) ?_ hHeld ?_; rotate_left; focus (intro w' hSw; obtain ⟨s1, e0, e1, e2, e3, e4⟩ := hmv.out _ hSw; go_simp; (try with_reducible rfl)))
         | refine tn hSG 18 rfl (by kernel_rfl) (fun _ _ _ h => h) (by rfl) hHeld ?_
        (try simp only [zq1, zq2, zq3, Act.put, zq4, zq5, zq6])
        first
         | (refine tk hSG 19 (v := ?_) rfl (by kernel_rfl) (fun _ _ _ h => h) (by rfl) ?_ hHeld ?_; rotate_left; focus (intro w' hSw; obtain ⟨s1, e0, e1, e2, e3, e4⟩ := hmv.out _ hSw; go_simp; (try with_reducible rfl)))
         | refine tn hSG 19 rfl (by kernel_rfl) (fun _ _ _ h => h) (by rfl) hHeld ?_
        (try simp only [zq1, zq2, zq3, Act.put, zq4, zq5, zq6])
        refine wpAnyG_done (by kernel_rfl) (fun w5 hgD => ?_) _
        have hg5 : Gr wr w5 := (grDrew wr).tr hgD
        clear hgD hSG hHeld
        have HB5 := Lib.hid (Gr.tr hW.out hg5)
        clear s1 e0 e1 e2 e3 e4 hg5
        go_wp2
        go_ret
        exact ⟨rfl, HB5.out⟩
     ·have hF : Hid ((decide (c1 = -1) && (decide (c2 = 0) && (usesB vs wi 1 && (decide (pa = -1) || usesB vs pa 4)))) = r) := Lib.hid (by have := hM.out; rw [List.drop_eq_nil_of_le (by omega), okVars] at this; simpa only [Bool.true_and] using this)
      clear hM t1 t2 hl1 hl2
      have HU1 := Lib.hid (fun wx hg => HUs.out wx hg wi 1)
      have HU2 := Lib.hid (fun wx hg => HUs.out wx hg pa 4)
      clear HUs
      generalize usesB vs wi 1 = u1 at *
      generalize usesB vs pa 4 = u2 at *
      clear HV HFi HVr
      generalize vs.length = vn at *
      have t3 : decide ((k : Int) < (vn : Int)) = false := by simp; omega
      by_cases h1 : c1 = -1
      ·subst h1
       by_cases h2 : c2 = 0
       ·subst h2
        cases u1 with
        | false =>
         obtain rfl : false = r := by have h := hF.out; simpa using h
         clear hF
         go_wp2_with (first
          | (go_at_call 28; refine (HCk.out _ hW.out).mono ?_; rintro e w2 ⟨rfl, hb2⟩; have hW := Lib.hid (Gr.tr hW.out hb2); have hX := Lib.hid (grBlk hb2 hX.out); clear hb2 s0 s1 s2 s3 s4 s5 s6 s7 s8; obtain ⟨s0, s1, s2, s3, s4, s5, s6, s7, s8⟩ := cells9 hX.out)
          | (go_at_call_of 29 (Value.int IntKind.i64 1); refine (HU1.out _ hW.out).mono ?_; rintro e w3 ⟨rfl, hw3⟩; subst hw3)
          | (go_at_call_of 29 (Value.int IntKind.i64 4); refine (HU2.out _ hW.out).mono ?_; rintro e w4 ⟨rfl, hw4⟩; subst hw4))
         go_ret
         exact ⟨rfl, hW.out⟩
        | true =>
         by_cases h3 : pa = -1
         ·subst h3
          obtain rfl : true = r := by have h := hF.out; simpa using h
          clear hF
          go_wp2_with (first
           | (go_at_call 28; refine (HCk.out _ hW.out).mono ?_; rintro e w2 ⟨rfl, hb2⟩; have hW := Lib.hid (Gr.tr hW.out hb2); have hX := Lib.hid (grBlk hb2 hX.out); clear hb2 s0 s1 s2 s3 s4 s5 s6 s7 s8; obtain ⟨s0, s1, s2, s3, s4, s5, s6, s7, s8⟩ := cells9 hX.out)
           | (go_at_call_of 29 (Value.int IntKind.i64 1); refine (HU1.out _ hW.out).mono ?_; rintro e w3 ⟨rfl, hw3⟩; subst hw3)
           | (go_at_call_of 29 (Value.int IntKind.i64 4); refine (HU2.out _ hW.out).mono ?_; rintro e w4 ⟨rfl, hw4⟩; subst hw4))
          go_ret
          exact ⟨rfl, hW.out⟩
         ·have t5 : (pa == -1) = false := by simp [h3]
          cases u2 with
          | false =>
           obtain rfl : false = r := by have h := hF.out; simpa [h3] using h
           clear hF
           go_wp2_with (first
            | (go_at_call 28; refine (HCk.out _ hW.out).mono ?_; rintro e w2 ⟨rfl, hb2⟩; have hW := Lib.hid (Gr.tr hW.out hb2); have hX := Lib.hid (grBlk hb2 hX.out); clear hb2 s0 s1 s2 s3 s4 s5 s6 s7 s8; obtain ⟨s0, s1, s2, s3, s4, s5, s6, s7, s8⟩ := cells9 hX.out)
            | (go_at_call_of 29 (Value.int IntKind.i64 1); refine (HU1.out _ hW.out).mono ?_; rintro e w3 ⟨rfl, hw3⟩; subst hw3)
            | (go_at_call_of 29 (Value.int IntKind.i64 4); refine (HU2.out _ hW.out).mono ?_; rintro e w4 ⟨rfl, hw4⟩; subst hw4))
           go_ret
           exact ⟨rfl, hW.out⟩
          | true =>
           obtain rfl : true = r := by have h := hF.out; simpa [h3] using h
           clear hF
           go_wp2_with (first
            | (go_at_call 28; refine (HCk.out _ hW.out).mono ?_; rintro e w2 ⟨rfl, hb2⟩; have hW := Lib.hid (Gr.tr hW.out hb2); have hX := Lib.hid (grBlk hb2 hX.out); clear hb2 s0 s1 s2 s3 s4 s5 s6 s7 s8; obtain ⟨s0, s1, s2, s3, s4, s5, s6, s7, s8⟩ := cells9 hX.out)
            | (go_at_call_of 29 (Value.int IntKind.i64 1); refine (HU1.out _ hW.out).mono ?_; rintro e w3 ⟨rfl, hw3⟩; subst hw3)
            | (go_at_call_of 29 (Value.int IntKind.i64 4); refine (HU2.out _ hW.out).mono ?_; rintro e w4 ⟨rfl, hw4⟩; subst hw4))
           go_ret
           exact ⟨rfl, hW.out⟩
       ·have t4 : (c2 == 0) = false := by simp [h2]
        obtain rfl : false = r := by have h := hF.out; simpa [h2] using h
        clear hF
        go_wp2_with (first
         | (go_at_call 28; refine (HCk.out _ hW.out).mono ?_; rintro e w2 ⟨rfl, hb2⟩; have hW := Lib.hid (Gr.tr hW.out hb2); have hX := Lib.hid (grBlk hb2 hX.out); clear hb2 s0 s1 s2 s3 s4 s5 s6 s7 s8; obtain ⟨s0, s1, s2, s3, s4, s5, s6, s7, s8⟩ := cells9 hX.out)
         | (go_at_call_of 29 (Value.int IntKind.i64 1); refine (HU1.out _ hW.out).mono ?_; rintro e w3 ⟨rfl, hw3⟩; subst hw3)
         | (go_at_call_of 29 (Value.int IntKind.i64 4); refine (HU2.out _ hW.out).mono ?_; rintro e w4 ⟨rfl, hw4⟩; subst hw4))
        go_ret
        exact ⟨rfl, hW.out⟩
      ·have t4 : (c1 == -1) = false := by simp [h1]
       obtain rfl : false = r := by have h := hF.out; simpa [h1] using h
       clear hF
       go_wp2_with (first
        | (go_at_call 28; refine (HCk.out _ hW.out).mono ?_; rintro e w2 ⟨rfl, hb2⟩; have hW := Lib.hid (Gr.tr hW.out hb2); have hX := Lib.hid (grBlk hb2 hX.out); clear hb2 s0 s1 s2 s3 s4 s5 s6 s7 s8; obtain ⟨s0, s1, s2, s3, s4, s5, s6, s7, s8⟩ := cells9 hX.out)
        | (go_at_call_of 29 (Value.int IntKind.i64 1); refine (HU1.out _ hW.out).mono ?_; rintro e w3 ⟨rfl, hw3⟩; subst hw3)
        | (go_at_call_of 29 (Value.int IntKind.i64 4); refine (HU2.out _ hW.out).mono ?_; rintro e w4 ⟨rfl, hw4⟩; subst hw4))
       go_ret
       exact ⟨rfl, hW.out⟩
   ·obtain rfl : false = r := by have h := HR.out; simpa [hl2] using h
    have t1 : decide ((vs.length : Int) < 1) = false := by simp; omega
    have t2 : decide ((vs.length : Int) > 12) = true := by simp; omega
    clear HR hnm
    go_wp2_with (go_at_call 25; refine (HN.out _).mono ?_; rintro e w1 ⟨rfl, hb1⟩; have HB := Lib.hid (Gr.tr HB.out hb1); have HX := Lib.hid (grBlk hb1 HX.out); clear hb1 s0 s1; obtain ⟨s0, s1, s2, s3, s4, s5, s6, s7, s8⟩ := cells9 HX.out; clear s0 s2 s3 s4 s5 s6 s7 s8)
    go_ret
    exact ⟨rfl, HB.out⟩
  ·obtain rfl : false = r := by have h := HR.out; simpa [hl1] using h
   have t1 : decide ((vs.length : Int) < 1) = true := by simp; omega
   clear HR hnm
   go_wp2_with (go_at_call 25; refine (HN.out _).mono ?_; rintro e w1 ⟨rfl, hb1⟩; have HB := Lib.hid (Gr.tr HB.out hb1); have HX := Lib.hid (grBlk hb1 HX.out); clear hb1 s0 s1; obtain ⟨s0, s1, s2, s3, s4, s5, s6, s7, s8⟩ := cells9 HX.out; clear s0 s2 s3 s4 s5 s6 s7 s8)
   go_ret
   exact ⟨rfl, HB.out⟩
end C
end Go.Proofs.YtljknappbnoikaaGreatDoor
