/- Texts of one proof: VxD, UxV. -/
import Derived.Test.YtljknappbnoikaaGreatDoorYe
import Derived.Test.YtljknappbnoikaaGreatDoorZn
import Derived.Test.YtljknappbnoikaaGreatDoorZe
import Derived.Test.YtljknappbnoikaaGreatDoorZp
set_option linter.unusedVariables false
set_option linter.unusedSimpArgs false
set_option maxRecDepth 100000
set_option maxHeartbeats 8000000
namespace Go.Proofs.YtljknappbnoikaaGreatDoor
open Go.RowKit
namespace C
open U (Ex St StsR StR StAt ev eArr KidsE newBlk blkLt rsE rsE_range Size_any kbS kbL kbS_mk kbL_mem)
theorem ret_bz {a b : Bool} (h : a = b) : Ending.returned (.bool a) = .returned (.bool b) := by rw [h]
def SomeI (lo hi : Int) (w : World) (e : Ending) (w' : World) : Prop := (∃ n, e = .returned (.int .i64 n) ∧ lo ≤ n ∧ n ≤ hi) ∧ Below w.heap.size w w'
mutual
def flE : Ex → Int → Bool
 | .mk _ _ _ ks, d => !decide (d = 0) && flK ks (d - 1)
def flK : List Ex → Int → Bool
 | [], _ => true
 | t :: ts, d => flE t d && flK ts d
end
theorem flE_eq (t : Ex) (d : Int) : flE t d = (!decide (d = 0) && flK t.kids (d - 1)) := by cases t; rw [flE]; rfl
def FlatC (t : Ex) : Prop := ∀ (w : World) (d : Int) (A : Option Addr) (c : Nat), 0 ≤ d → d ≤ 1000 → t.kids.length ≤ maxLen → KidsE w t.kids A → Calls Tryz.prog 32 #[ev t A c, .int .i64 d] w (V1 (.bool (flE t d)) w)
theorem flat_step (t : Ex) (ih : ∀ u ∈ t.kids, FlatC u) : FlatC t := by
 intro w d A c h0 h1 hkl hK
 have IH := Lib.hid ih
 have hKH := Lib.hid hK
 have HX := Lib.hid (newBlk w (.cells (eArr t A c) 66) _ rfl)
 have HB0 := Lib.hid (grAlloc w (.cells (eArr t A c) 66))
 rw [flE_eq]
 clear ih hK
 by_cases hd : d = 0
 ·subst hd
  rw [decide_eq_true rfl]
  go_enter Tryz.func32, Tryz.ntmps32
  go_wp2
  go_ret
  exact ⟨rfl, HB0.out⟩
 ·rw [decide_eq_false hd]
  have hdf : (d == 0) = false := by simp [hd]
  have q0 : IntKind.i64.wrap (d - 1) = d - 1 := IntWalk.i64_in _ (by omega)
  obtain ⟨r, hr⟩ : ∃ r, (!false && flK t.kids (d - 1)) = r := ⟨_, rfl⟩
  rw [hr]
  have HR : Hid (flK (t.kids.drop 0) (d - 1) = r) := Lib.hid (by simpa using hr)
  clear hr
  go_enter Tryz.func32, Tryz.ntmps32
  go_wp2
  go_loopg [5] (t.kids.length) (fun gk i wr => ∃ (k : Nat), k + gk = t.kids.length ∧ i = .int .i64 k ∧ Hid (flK (t.kids.drop k) (d - 1) = r) ∧ Hid (wr.heap[w.heap.size]? = some (.cells (eArr t A c) 66 (0, 0))) ∧ Hid (Below w.heap.size w wr))
  case atStart => exact ⟨0, by omega, rfl, HR, HX, HB0⟩
  case round =>
   obtain ⟨k, hk, rfl, hM, hB, hW⟩ := hrel
   obtain ⟨⟨b0, b1, b2, b3⟩, -⟩ := C.cells4C hB.out
   have hxb := blkLt hB.out
   clear b0 b1 b2 HX HB0 HR
   by_cases hlt : k < t.kids.length
   ·obtain ⟨g, rfl⟩ : ∃ g, gk = g + 1 := ⟨gk - 1, by omega⟩
    have hKw : KidsE wr t.kids A := hKH.out.below hW.out
    have hk64 : (k : Int) + 1 < 9223372036854775808 := by unfold maxLen at hkl; omega
    obtain ⟨ga, oa, rfl⟩ := hKw.addr (by omega)
    obtain ⟨A1, c1, ⟨e0, e1, e2, e3⟩, hkl1, hK1⟩ := (hKw.get _ _ _ k _ (List.getElem?_eq_getElem hlt)).cells
    have hmem : t.kids[k] ∈ t.kids := List.getElem_mem hlt
    have hI := Lib.hid (IH.out _ hmem wr (d - 1) A1 c1 (by omega) (by omega) hkl1 hK1)
    have hM1 := hM.out
    rw [List.drop_eq_getElem_cons hlt, flK] at hM1
    clear hK1 hKw hmem hM
    generalize t.kids[k] = u at *
    have hlt2 : k < t.kids.length := hlt
    cases hf : flE u (d - 1) with
    | false =>
     rw [hf] at hI hM1
     obtain rfl : false = r := by simpa using hM1
     clear hf hM1
     go_wp2_with (go_at_call 32; refine hI.out.mono ?_; rintro e w2 ⟨rfl, hb2⟩; have hW2 := Lib.hid (Gr.tr hW.out hb2); clear hb2 e0 e1 e2 e3)
     go_ret
     exact ⟨rfl, hW2.out⟩
    | true =>
     rw [hf] at hI hM1
     have hM2 := Lib.hid (by rw [Bool.true_and] at hM1; exact hM1)
     clear hf hM1
     go_wp2_with (go_at_call 32; refine hI.out.mono ?_; rintro e w2 ⟨rfl, hb2⟩; have hB2 := Lib.hid (grBlk hb2 hB.out); have hW2 := Lib.hid (Gr.tr hW.out hb2); clear hb2 e0 e1 e2 e3)
     go_roundg g
     case measure => omega
     case rel => exact ⟨k + 1, by omega, by go_num, hM2, hB2, hW2⟩
   ·have hF : Hid (true = r) := Lib.hid (by have := hM.out; rw [List.drop_eq_nil_of_le (by omega), flK] at this; exact this)
    clear hM
    go_wp2
    go_ret
    exact ⟨ret_bz hF.out, hW.out⟩
mutual
theorem flat_any : ∀ t : Ex, FlatC t
 | .mk _ _ _ kids => flat_step _ (flat_all kids)
theorem flat_all : ∀ (ts : List Ex), ∀ u ∈ ts, FlatC u
 | [], u, hu => by cases hu
 | t :: ts, u, hu => by
  rcases List.mem_cons.1 hu with h | h
  ·rw [h]; exact flat_any t
  ·exact flat_all ts u h
end
def hiZ (b : Int) : Int := if 0 ≤ b then 3 * b + 3 else 0
theorem hiZ_pos {b : Int} (h : 0 ≤ b) : hiZ b = 3 * b + 3 := if_pos h
def SizeC (l : List St) : Prop := ∀ (w : World) (A : Option Addr) (m : Nat) (b d : Int), StsR w l A → l.length ≤ maxLen → kbL l → -100000 ≤ b → b ≤ 3000 → 0 ≤ d → d ≤ 200 →
  Calls Tryz.prog 17 #[.slice A l.length m, .int .i64 b, .int .i64 d] w (SomeI 0 (hiZ b) w)
theorem z_next {b n1 n2 n3 v1 v2 : Int} (h0 : 0 ≤ b) (h1 : 3 ≤ n1) (h2 : n1 ≤ 3 * b + 3) (k1 : 0 ≤ v1) (k2 : v1 ≤ hiZ (b - n1)) (e2 : n2 = n1 + v1) (l1 : 0 ≤ v2) (l2 : v2 ≤ hiZ (b - n2)) (e3 : n3 = n2 + v2) : 0 ≤ n3 ∧ n3 ≤ 3 * b + 3 := by
 unfold hiZ at k2 l2
 split at k2 <;> split at l2 <;> omega
theorem z_mid {b n1 v1 : Int} (h0 : 0 ≤ b) (h1 : 3 ≤ n1) (h2 : n1 ≤ 3 * b + 3) (k1 : 0 ≤ v1) (k2 : v1 ≤ hiZ (b - n1)) : 0 ≤ n1 + v1 ∧ n1 + v1 ≤ 3 * b + 3 := by
 unfold hiZ at k2
 split at k2 <;> omega
theorem size_step (l : List St) (ih : ∀ x ∈ l, SizeC x.th ∧ SizeC x.el) : SizeC l := by
 intro w A m b d hR hlen hkb hb0 hb1 hd0 hd1
 have IH := Lib.hid ih
 have HR := Lib.hid hR
 have HK := Lib.hid hkb
 have q1 : IntKind.i64.wrap (b + 1) = b + 1 := IntWalk.i64_in _ (by omega)
 have q2 : IntKind.i64.wrap (d - 1) = d - 1 := IntWalk.i64_in _ (by omega)
 clear ih hR hkb
 go_enter Tryz.func17, Tryz.ntmps17
 go_wp2
 go_loopg [7, 8] (l.length) (fun gk n i wr => ∃ (k : Nat) (mv : Int), k + gk = l.length ∧ i = .int .i64 k ∧ n = .int .i64 mv ∧ 0 ≤ mv ∧ mv ≤ hiZ b ∧ Hid (Below w.heap.size w wr))
 case atStart => exact ⟨0, 0, by omega, rfl, rfl, by omega, by unfold hiZ; split <;> omega, Lib.hid (Below.refl _ _)⟩
 case round =>
  obtain ⟨k, mv, hk, rfl, rfl, hm0, hm1, hW⟩ := hrel
  by_cases hneg : mv ≤ b
  ·have hbp : 0 ≤ b := by omega
   rw [hiZ_pos hbp] at hm1
   by_cases hlt : k < l.length
   ·obtain ⟨g, rfl⟩ : ∃ g, gk = g + 1 := ⟨gk - 1, by omega⟩
    have hk64 : (k : Int) + 1 < 9223372036854775808 := by unfold maxLen at hlen; omega
    have hRw : StsR wr l A := HR.out.below hW.out
    obtain ⟨ga, oa, rfl⟩ := hRw.addr (by omega)
    obtain ⟨A1, c1, B1, d1, T1, m1, E1, n1, hS, hKA, hKB, hT, hE, hlt1, hle1⟩ := (hRw.get _ _ _ k _ (List.getElem?_eq_getElem hlt)).cells
    have hI := IH.out _ (List.getElem_mem hlt)
    obtain ⟨ka, kb, kt, ke⟩ := kbS_mk (kbL_mem HK.out _ (List.getElem_mem hlt))
    have HFA := Lib.hid (fun (w2 : World) (h : Gr wr w2) => flat_any l[k].a w2 200 A1 c1 (by decide) (by decide) ka (hKA.below h))
    have HFB := Lib.hid (fun (w2 : World) (h : Gr wr w2) => flat_any l[k].b w2 200 B1 d1 (by decide) (by decide) kb (hKB.below h))
    have HSA := Lib.hid (fun (w2 : World) (h : Gr wr w2) => Size_any l[k].a w2 b A1 c1 hbp (by omega) (hKA.below h))
    have HSB := Lib.hid (fun (w2 : World) (h : Gr wr w2) => Size_any l[k].b w2 b B1 d1 hbp (by omega) (hKB.below h))
    have HT := Lib.hid (fun (w2 : World) (h : Gr wr w2) (b' d' : Int) (h1 : -100000 ≤ b') (h2 : b' ≤ 3000) (h3 : 0 ≤ d') (h4 : d' ≤ 200) => hI.1 w2 T1 m1 b' d' (hT.below h) hlt1 kt h1 h2 h3 h4)
    have HE := Lib.hid (fun (w2 : World) (h : Gr wr w2) (b' d' : Int) (h1 : -100000 ≤ b') (h2 : b' ≤ 3000) (h3 : 0 ≤ d') (h4 : d' ≤ 200) => hI.2 w2 E1 n1 b' d' (hE.below h) hle1 ke h1 h2 h3 h4)
    have hra := rsE_range l[k].a b hbp
    have hrb := rsE_range l[k].b b hbp
    have HS := Lib.hid hS
    clear hI hKA hKB hT hE ka kb kt ke hRw
    generalize l[k] = u at *
    generalize rsE u.a b = ra at *
    generalize rsE u.b b = rb at *
    generalize flE u.a 200 = fa at *
    generalize flE u.b 200 = fb at *
    obtain ⟨f0, f1, f2, f3, f4, f5, f6, f7, f8, f9, f10, f11, f12⟩ := hS
    have hgl := World.block_lt_of_cell? _ _ f0
    clear f0 f1 f2
    by_cases hdz : d = 0
    ·subst hdz
     clear f3 f4 f5 f6 f7 f8 f9 f10 f11 f12
     go_wp2
     go_ret
     exact ⟨⟨b + 1, rfl, by omega, by rw [hiZ_pos hbp]; omega⟩, hW.out⟩
    ·have hdf : (d == 0) = false := by simp [hdz]
     cases fa with
     | false =>
      clear f7 f8 f9 f10 f11 f12
      go_wp2_with (go_at_call 32; refine (HFA.out _ (Below.refl _ _)).mono ?_; rintro e w2 ⟨rfl, hb2⟩; have hW2 := Lib.hid (Gr.tr hW.out hb2); clear hb2 f3 f4 f5 f6)
      go_ret
      exact ⟨⟨b + 1, rfl, by omega, by rw [hiZ_pos hbp]; omega⟩, hW2.out⟩
     | true =>
      cases fb with
      | false =>
       go_wp2_with (first
        | (go_at_call_of 32 (Value.slice A1 u.a.kids.length (u.a.kids.length + c1)); refine (HFA.out _ (Below.refl _ _)).mono ?_; rintro e w2 ⟨rfl, hb2⟩; have hW2 := Lib.hid (Gr.tr hW.out hb2); have hG2 := Lib.hid hb2; have hSS := HS.out.keep (hb2.block _ hgl); obtain ⟨-, -, -, -, -, -, -, y7, y8, y9, y10, -, -⟩ := hSS; clear hb2)
        | (go_at_call_of 32 (Value.slice B1 u.b.kids.length (u.b.kids.length + d1)); refine (HFB.out _ hG2.out).mono ?_; rintro e w3 ⟨rfl, hb3⟩; have hW3 := Lib.hid (Gr.tr hW2.out hb3); clear hb3))
       go_ret
       exact ⟨⟨b + 1, rfl, by omega, by rw [hiZ_pos hbp]; omega⟩, hW3.out⟩
      | true =>
       go_upto_region 7 with (first
        | (go_at_call_of 32 (Value.slice A1 u.a.kids.length (u.a.kids.length + c1)); refine (HFA.out _ (Below.refl _ _)).mono ?_; rintro e w2 ⟨rfl, hb2⟩; have hG2 := Lib.hid hb2; have hSS := HS.out.keep (hb2.block _ hgl); obtain ⟨-, -, -, -, -, -, -, y7, y8, y9, y10, -, -⟩ := hSS; clear hb2)
        | (go_at_call_of 32 (Value.slice B1 u.b.kids.length (u.b.kids.length + d1)); refine (HFB.out _ hG2.out).mono ?_; rintro e w3 ⟨rfl, hb3⟩; have hG3 := Lib.hid (Gr.tr hG2.out hb3); have hSS := HS.out.keep (hG3.out.block _ hgl); clear hb3 y7 y8 y9 y10))
       clear f3 f4 f5 f6 f7 f8 f9 f10 f11 f12
       obtain ⟨-, -, -, f3, f4, f5, f6, f7, f8, f9, f10, -, -⟩ := hSS
       have q3 : IntKind.i64.wrap (mv + 1) = mv + 1 := IntWalk.i64_in _ (by omega)
       have q4 : IntKind.i64.wrap (mv + 1 + ra) = mv + 1 + ra := IntWalk.i64_in _ (by omega)
       have q5 : IntKind.i64.wrap (mv + 1 + ra + rb) = mv + 1 + ra + rb := IntWalk.i64_in _ (by omega)
       refine wp_region_G (S := fun wq => Gr w3 wq) (by kernel_rfl) (grDrew _) (fun hHeld => ?_)
       have hSG : Hid (∀ wp wq : World, Gr w3 wp → Gr wp wq → Gr w3 wq) := Lib.hid (fun _ _ h k => h.tr k)
       have hmv := Lib.hid (fun (wq : World) (hq : Gr w3 wq) => And.intro (grCell hq f3) (And.intro (grCell hq f4) (And.intro (grCell hq f5) (And.intro (grCell hq f6) (And.intro (grCell hq f7) (And.intro (grCell hq f8) (And.intro (grCell hq f9) (grCell hq f10))))))))
       first
        | (refine tk hSG 0 (v := ?_) rfl (by kernel_rfl) (fun _ _ _ h => h) (by rfl) ?_ hHeld ?_; rotate_left; focus (intro w' hSw; obtain ⟨f3, f4, f5, f6, f7, f8, f9, f10⟩ := hmv.out _ hSw; go_simp; (try with_reducible rfl)))
        | refine tn hSG 0 rfl (by kernel_rfl) (fun _ _ _ h => h) (by rfl) hHeld ?_
       (try simp only [zq1, zq2, zq3, Act.put, zq4, zq5, zq6])
       first
        | (refine tk hSG 1 (v := ?_) rfl (by kernel_rfl) (fun _ _ _ h => h) (by rfl) ?_ hHeld ?_; rotate_left; focus (intro w' hSw; obtain ⟨f3, f4, f5, f6, f7, f8, f9, f10⟩ := hmv.out _ hSw; go_simp; (try with_reducible rfl)))
        | refine tn hSG 1 rfl (by kernel_rfl) (fun _ _ _ h => h) (by rfl) hHeld ?_
       (try simp only [zq1, zq2, zq3, Act.put, zq4, zq5, zq6])
       first
        | (refine tk hSG 2 (v := ?_) rfl (by kernel_rfl) (fun _ _ _ h => h) (by rfl) ?_ hHeld ?_; rotate_left; focus (intro w' hSw; obtain ⟨f3, f4, f5, f6, f7, f8, f9, f10⟩ := hmv.out _ hSw; go_simp; (try with_reducible rfl)))
        | refine tn hSG 2 rfl (by kernel_rfl) (fun _ _ _ h => h) (by rfl) hHeld ?_
       (try simp only [zq1, zq2, zq3, Act.put, zq4, zq5, zq6])
       first
        | (refine tk hSG 3 (v := ?_) rfl (by kernel_rfl) (fun _ _ _ h => h) (by rfl) ?_ hHeld ?_; rotate_left; focus (intro w' hSw; obtain ⟨f3, f4, f5, f6, f7, f8, f9, f10⟩ := hmv.out _ hSw; go_simp; (try with_reducible rfl)))
        | refine tn hSG 3 rfl (by kernel_rfl) (fun _ _ _ h => h) (by rfl) hHeld ?_
       (try simp only [zq1, zq2, zq3, Act.put, zq4, zq5, zq6])
       refine tk hSG 4 (v := .pointer (some ⟨ga, oa + k * 13, none⟩)) rfl (by kernel_rfl) (fun _ _ _ h => h) (by rfl) ?_ hHeld ?_
       focus (intro w' hSw; obtain ⟨f3, f4, f5, f6, f7, f8, f9, f10⟩ := hmv.out _ hSw; go_simp; (try (intro hq; omega)))
       (try simp only [zq1, zq2, zq3, Act.put, zq4, zq5, zq6])
       first
        | (refine tk hSG 5 (v := ?_) rfl (by kernel_rfl) (fun _ _ _ h => h) (by rfl) ?_ hHeld ?_; rotate_left; focus (intro w' hSw; obtain ⟨f3, f4, f5, f6, f7, f8, f9, f10⟩ := hmv.out _ hSw; go_simp; (try with_reducible rfl)))
        | refine tn hSG 5 rfl (by kernel_rfl) (fun _ _ _ h => h) (by rfl) hHeld ?_
       (try simp only [zq1, zq2, zq3, Act.put, zq4, zq5, zq6])
       first
        | (refine tk hSG 6 (v := ?_) rfl (by kernel_rfl) (fun _ _ _ h => h) (by rfl) ?_ hHeld ?_; rotate_left; focus (intro w' hSw; obtain ⟨f3, f4, f5, f6, f7, f8, f9, f10⟩ := hmv.out _ hSw; go_simp; (try with_reducible rfl)))
        | refine tn hSG 6 rfl (by kernel_rfl) (fun _ _ _ h => h) (by rfl) hHeld ?_
       (try simp only [zq1, zq2, zq3, Act.put, zq4, zq5, zq6])
       first
        | (refine tk hSG 7 (v := ?_) rfl (by kernel_rfl) (fun _ _ _ h => h) (by rfl) ?_ hHeld ?_; rotate_left; focus (intro w' hSw; obtain ⟨f3, f4, f5, f6, f7, f8, f9, f10⟩ := hmv.out _ hSw; go_simp; (try with_reducible rfl)))
        | refine tn hSG 7 rfl (by kernel_rfl) (fun _ _ _ h => h) (by rfl) hHeld ?_
       (try simp only [zq1, zq2, zq3, Act.put, zq4, zq5, zq6])
       refine tc hSG 8 (v := .int .i64 ra) rfl (by kernel_rfl) (fun _ _ _ h => h) (by rfl) ?_ hHeld ?_
       focus (intro wz hSw K hK; obtain ⟨f3, f4, f5, f6, f7, f8, f9, f10⟩ := hmv.out _ hSw; go_simp; go_at_call 33; refine (HSA.out _ (Gr.tr hG3.out hSw)).mono ?_; rintro e w2 ⟨rfl, hb2⟩; exact hK.out _ hb2)
       (try simp only [zq1, zq2, zq3, Act.put, zq4, zq5, zq6])
       first
        | (refine tk hSG 9 (v := ?_) rfl (by kernel_rfl) (fun _ _ _ h => h) (by rfl) ?_ hHeld ?_; rotate_left; focus (intro w' hSw; obtain ⟨f3, f4, f5, f6, f7, f8, f9, f10⟩ := hmv.out _ hSw; go_simp; (try with_reducible rfl)))
        | refine tn hSG 9 rfl (by kernel_rfl) (fun _ _ _ h => h) (by rfl) hHeld ?_
       (try simp only [zq1, zq2, zq3, Act.put, zq4, zq5, zq6])
       first
        | (refine tk hSG 10 (v := ?_) rfl (by kernel_rfl) (fun _ _ _ h => h) (by rfl) ?_ hHeld ?_; rotate_left; focus (intro w' hSw; obtain ⟨f3, f4, f5, f6, f7, f8, f9, f10⟩ := hmv.out _ hSw; go_simp; (try with_reducible rfl)))
        | refine tn hSG 10 rfl (by kernel_rfl) (fun _ _ _ h => h) (by rfl) hHeld ?_
       (try simp only [zq1, zq2, zq3, Act.put, zq4, zq5, zq6])
       first
        | (refine tk hSG 11 (v := ?_) rfl (by kernel_rfl) (fun _ _ _ h => h) (by rfl) ?_ hHeld ?_; rotate_left; focus (intro w' hSw; obtain ⟨f3, f4, f5, f6, f7, f8, f9, f10⟩ := hmv.out _ hSw; go_simp; (try with_reducible rfl)))
        | refine tn hSG 11 rfl (by kernel_rfl) (fun _ _ _ h => h) (by rfl) hHeld ?_
       (try simp only [zq1, zq2, zq3, Act.put, zq4, zq5, zq6])
       refine tk hSG 12 (v := .pointer (some ⟨ga, oa + k * 13, none⟩)) rfl (by kernel_rfl) (fun _ _ _ h => h) (by rfl) ?_ hHeld ?_
       focus (intro w' hSw; obtain ⟨f3, f4, f5, f6, f7, f8, f9, f10⟩ := hmv.out _ hSw; go_simp; (try (intro hq; omega)))
       (try simp only [zq1, zq2, zq3, Act.put, zq4, zq5, zq6])
       first
        | (refine tk hSG 13 (v := ?_) rfl (by kernel_rfl) (fun _ _ _ h => h) (by rfl) ?_ hHeld ?_; rotate_left; focus (intro w' hSw; obtain ⟨f3, f4, f5, f6, f7, f8, f9, f10⟩ := hmv.out _ hSw; go_simp; (try with_reducible rfl)))
        | refine tn hSG 13 rfl (by kernel_rfl) (fun _ _ _ h => h) (by rfl) hHeld ?_
       (try simp only [zq1, zq2, zq3, Act.put, zq4, zq5, zq6])
       first
        | (refine tk hSG 14 (v := ?_) rfl (by kernel_rfl) (fun _ _ _ h => h) (by rfl) ?_ hHeld ?_; rotate_left; focus (intro w' hSw; obtain ⟨f3, f4, f5, f6, f7, f8, f9, f10⟩ := hmv.out _ hSw; go_simp; (try with_reducible rfl)))
        | refine tn hSG 14 rfl (by kernel_rfl) (fun _ _ _ h => h) (by rfl) hHeld ?_
       (try simp only [zq1, zq2, zq3, Act.put, zq4, zq5, zq6])
       first
        | (refine tk hSG 15 (v := ?_) rfl (by kernel_rfl) (fun _ _ _ h => h) (by rfl) ?_ hHeld ?_; rotate_left; focus (intro w' hSw; obtain ⟨f3, f4, f5, f6, f7, f8, f9, f10⟩ := hmv.out _ hSw; go_simp; (try with_reducible rfl)))
        | refine tn hSG 15 rfl (by kernel_rfl) (fun _ _ _ h => h) (by rfl) hHeld ?_
       (try simp only [zq1, zq2, zq3, Act.put, zq4, zq5, zq6])
       refine tc hSG 16 (v := .int .i64 rb) rfl (by kernel_rfl) (fun _ _ _ h => h) (by rfl) ?_ hHeld ?_
       focus (intro wz hSw K hK; obtain ⟨f3, f4, f5, f6, f7, f8, f9, f10⟩ := hmv.out _ hSw; go_simp; go_at_call 33; refine (HSB.out _ (Gr.tr hG3.out hSw)).mono ?_; rintro e w2 ⟨rfl, hb2⟩; exact hK.out _ hb2)
       (try simp only [zq1, zq2, zq3, Act.put, zq4, zq5, zq6])
       first
        | (refine tk hSG 17 (v := ?_) rfl (by kernel_rfl) (fun _ _ _ h => h) (by rfl) ?_ hHeld ?_; rotate_left; focus (intro w' hSw; obtain ⟨f3, f4, f5, f6, f7, f8, f9, f10⟩ := hmv.out _ hSw; go_simp; (try with_reducible rfl)))
        | refine tn hSG 17 rfl (by kernel_rfl) (fun _ _ _ h => h) (by rfl) hHeld ?_
       (try simp only [zq1, zq2, zq3, Act.put, zq4, zq5, zq6])
       first
        | (refine tk hSG 18 (v := ?_) rfl (by kernel_rfl) (fun _ _ _ h => h) (by rfl) ?_ hHeld ?_; rotate_left; focus (intro w' hSw; obtain ⟨f3, f4, f5, f6, f7, f8, f9, f10⟩ := hmv.out _ hSw; go_simp; (try with_reducible rfl)))
        | refine tn hSG 18 rfl (by kernel_rfl) (fun _ _ _ h => h) (by rfl) hHeld ?_
       (try simp only [zq1, zq2, zq3, Act.put, zq4, zq5, zq6])
       refine wpAnyG_done (by kernel_rfl) (fun w5 hgD => ?_) _
       have hg5 : Gr w3 w5 := (grDrew w3).tr hgD
       clear hgD hSG hHeld
       have hG5 := Lib.hid (Gr.tr hG3.out hg5)
       have hSS := HS.out.keep (hG5.out.block _ hgl)
       clear f3 f4 f5 f6 f7 f8 f9 f10 hg5
       obtain ⟨-, -, -, -, -, -, -, -, -, -, -, f11, -⟩ := hSS
       have hN0 : 3 ≤ mv + 1 + ra + rb ∧ mv + 1 + ra + rb ≤ 3 * b + 3 := by omega
       clear q3 q4 q5
       generalize mv + 1 + ra + rb = N1 at *
       have q6 : IntKind.i64.wrap (b - N1) = b - N1 := IntWalk.i64_in _ (by omega)
       go_wp2_with (first
        | (go_at_call_of 17 (Value.slice T1 u.th.length m1); refine (HT.out _ hG5.out (b - N1) (d - 1) (by omega) (by omega) (by omega) (by omega)).mono ?_; rintro e w6 ⟨⟨v1, rfl, hv0, hv1⟩, hb6⟩; have hz1 := z_mid hbp hN0.1 hN0.2 hv0 hv1; have q7 : IntKind.i64.wrap (N1 + v1) = N1 + v1 := IntWalk.i64_in _ (by omega); have q8 : IntKind.i64.wrap (b - (N1 + v1)) = b - (N1 + v1) := IntWalk.i64_in _ (by omega); have hG6 := Lib.hid (Gr.tr hG5.out hb6); have hSS := HS.out.keep (hG6.out.block _ hgl); clear hb6 f11; obtain ⟨-, -, -, -, -, -, -, -, -, -, -, -, f12⟩ := hSS)
        | (go_at_call_of 17 (Value.slice E1 u.el.length n1); refine (HE.out _ hG6.out (b - (N1 + v1)) (d - 1) (by omega) (by omega) (by omega) (by omega)).mono ?_; rintro e w7 ⟨⟨v2, rfl, hu0, hu1⟩, hb7⟩; have hz2 := z_next hbp hN0.1 hN0.2 hv0 hv1 rfl hu0 hu1 rfl; have q9 : IntKind.i64.wrap (N1 + v1 + v2) = N1 + v1 + v2 := IntWalk.i64_in _ (by omega); have hW7 := Lib.hid (Gr.tr hW.out (Gr.tr hG6.out hb7)); clear hb7 f12))
       go_roundg g
       case measure => omega
       case rel => exact ⟨k + 1, N1 + v1 + v2, by omega, by go_num, rfl, hz2.1, by rw [hiZ_pos hbp]; exact hz2.2, hW7⟩
   ·clear HR HK IH
    have hzb : mv ≤ hiZ b := by rw [hiZ_pos hbp]; exact hm1
    go_wp2
    go_ret
    exact ⟨⟨mv, rfl, hm0, hzb⟩, hW.out⟩
  ·have hng : decide (mv ≤ b) = false := by simp; omega
   by_cases hlt : k < l.length
   all_goals
    go_wp2
    go_ret
    exact ⟨⟨mv, rfl, hm0, hm1⟩, hW.out⟩
mutual
theorem size_any : ∀ x : St, SizeC x.th ∧ SizeC x.el
 | .mk _ _ _ _ _ th el => ⟨size_step th (size_all th), size_step el (size_all el)⟩
theorem size_all : ∀ (l : List St), ∀ x ∈ l, SizeC x.th ∧ SizeC x.el
 | [], x, hx => by cases hx
 | y :: ys, x, hx => by
  rcases List.mem_cons.1 hx with h | h
  ·rw [h]; exact size_any y
  ·exact size_all ys x h
end
theorem size_of (l : List St) : SizeC l := size_step l (size_all l)
end C
end Go.Proofs.YtljknappbnoikaaGreatDoor
namespace Go.Proofs.YtljknappbnoikaaGreatDoor.U
open Go.RowKit
theorem ret_bl {a b : Bool} (h : a = b) : Ending.returned (.bool a) = .returned (.bool b) := by rw [h]
theorem ret_v {a b : Int} (h : a = b) : Ending.returned (.int .i64 a) = .returned (.int .i64 b) := by rw [h]
mutual
def mnS : St → Int → Int → Int
 | .mk k _ _ _ _ th el, b, n =>
  if k = 2 then (let n2 := IntKind.i64.wrap (IntKind.i64.wrap (n + 1) + mnL th (IntKind.i64.wrap (b - IntKind.i64.wrap (n + 1))) 0); IntKind.i64.wrap (n2 + mnL el (IntKind.i64.wrap (b - n2)) 0)) else IntKind.i64.wrap (n + 1)
def mnL : List St → Int → Int → Int
 | [], _, n => n
 | x :: xs, b, n => if n ≤ b then mnL xs b (mnS x b n) else n
end
theorem mnL_drop (l : List St) (k : Nat) (hk : k < l.length) (b n : Int) (h : n ≤ b) : mnL (l.drop k) b n = mnL (l.drop (k + 1)) b (mnS l[k] b n) := by
 rw [List.drop_eq_getElem_cons hk, mnL, if_pos h]
theorem mnL_stop (l : List St) (k : Nat) (b n : Int) (h : b < n) : mnL (l.drop k) b n = n := by
 cases hd : l.drop k with
 | nil => rfl
 | cons t us => rw [mnL, if_neg (by omega)]
theorem mnS_two {x : St} (h : x.kind = 2) (b n : Int) {n1 n2 n3 : Int} (h1 : n1 = IntKind.i64.wrap (n + 1)) (h2 : n2 = IntKind.i64.wrap (n1 + mnL x.th (IntKind.i64.wrap (b - n1)) 0)) (h3 : n3 = IntKind.i64.wrap (n2 + mnL x.el (IntKind.i64.wrap (b - n2)) 0)) : mnS x b n = n3 := by
 obtain ⟨k, v, r, a, c, th, el⟩ := x
 subst h1 h2 h3
 simp only [St.kind] at h
 rw [mnS, if_pos h]
 rfl
theorem mnS_one {x : St} (h : ¬ x.kind = 2) (b n : Int) : mnS x b n = IntKind.i64.wrap (n + 1) := by
 obtain ⟨k, v, r, a, c, th, el⟩ := x
 simp only [St.kind] at h
 rw [mnS, if_neg h]
def ManyC (l : List St) : Prop := ∀ (w : World) (A : Option Addr) (m : Nat) (b : Int), StsR w l A → l.length ≤ maxLen → Calls Tryz.prog 67 #[.slice A l.length m, .int .i64 b] w (VV (.int .i64 (mnL l b 0)) w)
theorem Many_step (l : List St) (ih : ∀ x ∈ l, ManyC x.th ∧ ManyC x.el) : ManyC l := by
 intro w A m b hR hlen
 have IH := Lib.hid ih
 have HR := Lib.hid hR
 obtain ⟨r, hr⟩ : ∃ r, mnL l b 0 = r := ⟨_, rfl⟩
 rw [hr]
 have HM : Hid (mnL (l.drop 0) b 0 = r) := Lib.hid hr
 clear ih hR hr
 go_enter Tryz.func67, Tryz.ntmps67
 go_wp2
 go_loopg [5, 6] (l.length) (fun gk n i wr => ∃ (k : Nat) (mv : Int), k + gk = l.length ∧ i = .int .i64 k ∧ n = .int .i64 mv ∧ Hid (mnL (l.drop k) b mv = r) ∧ Hid (Below w.heap.size w wr))
 case atStart => exact ⟨0, 0, by omega, rfl, rfl, HM, Lib.hid (Below.refl _ _)⟩
 case round =>
  obtain ⟨k, mv, hk, rfl, rfl, hM, hW⟩ := hrel
  by_cases hneg : mv ≤ b
  ·by_cases hlt : k < l.length
   ·obtain ⟨g, rfl⟩ : ∃ g, gk = g + 1 := ⟨gk - 1, by omega⟩
    have hk64 : (k : Int) + 1 < 9223372036854775808 := by unfold maxLen at hlen; omega
    have hM1 := hM.out
    rw [mnL_drop _ _ hlt _ _ hneg] at hM1
    have hRw : StsR wr l A := HR.out.below hW.out
    obtain ⟨ga, oa, rfl⟩ := hRw.addr (by omega)
    obtain ⟨A1, c1, B1, d1, T1, m1, E1, n1, hS, -, -, hT, hE, hlt1, hle1⟩ := (hRw.get _ _ _ k _ (List.getElem?_eq_getElem hlt)).cells
    have hI := IH.out _ (List.getElem_mem hlt)
    have HT := Lib.hid (fun (w2 : World) (h : Below wr.heap.size wr w2) (b : Int) => hI.1 w2 T1 m1 b (hT.below h) hlt1)
    have HE := Lib.hid (fun (w2 : World) (h : Below wr.heap.size wr w2) (b : Int) => hI.2 w2 E1 n1 b (hE.below h) hle1)
    have hgl := World.block_lt_of_cell? _ _ hS.1
    have HS := Lib.hid hS
    obtain ⟨e0, -, -, -, -, -, -, -, -, -, -, e11, -⟩ := hS
    have hM1 := Lib.hid hM1
    clear hM hRw hI hT hE
    generalize l[k] = u at *
    by_cases hkd : u.kind = 2
    ·obtain ⟨q1, hq1⟩ : ∃ q, IntKind.i64.wrap (mv + 1) = q := ⟨_, rfl⟩
     obtain ⟨b1, hb1⟩ : ∃ q, IntKind.i64.wrap (b - q1) = q := ⟨_, rfl⟩
     obtain ⟨q2, hq2⟩ : ∃ q, mnL u.th b1 0 = q := ⟨_, rfl⟩
     obtain ⟨q3, hq3⟩ : ∃ q, IntKind.i64.wrap (q1 + q2) = q := ⟨_, rfl⟩
     obtain ⟨b3, hb3⟩ : ∃ q, IntKind.i64.wrap (b - q3) = q := ⟨_, rfl⟩
     obtain ⟨q4, hq4⟩ : ∃ q, mnL u.el b3 0 = q := ⟨_, rfl⟩
     obtain ⟨q5, hq5⟩ : ∃ q, IntKind.i64.wrap (q3 + q4) = q := ⟨_, rfl⟩
     have hU : mnS u b mv = q5 := mnS_two (n1 := q1) (n2 := q3) (n3 := q5) hkd b mv hq1.symm (by rw [hb1, hq2, hq3]) (by rw [hb3, hq4, hq5])
     rw [hU] at hM1
     have HT1 := Lib.hid (fun w2 h => by have := HT.out w2 h b1; rw [hq2] at this; exact this)
     have HE1 := Lib.hid (fun w2 h => by have := HE.out w2 h b3; rw [hq4] at this; exact this)
     clear hU HT HE hq2 hq4
     go_wp2_with (first
      | (go_at_call_of 67 (Value.slice T1 u.th.length m1); refine (HT1.out _ (Below.refl _ _)).mono ?_; rintro e w2 ⟨rfl, hb2⟩; have HB2 := Lib.hid hb2; have e12 := (HS.out.keep (hb2.block _ hgl)).2.2.2.2.2.2.2.2.2.2.2.2; clear hb2)
      | (go_at_call_of 67 (Value.slice E1 u.el.length n1); refine (HE1.out _ HB2.out).mono ?_; rintro e w3 ⟨rfl, hb3⟩; have hW2 := Lib.hid (hW.out.trans ((HB2.out.trans (hb3.mono HB2.out.size)).mono hW.out.size)); clear hb3))
     go_roundg g
     case measure => omega
     case rel => exact ⟨k + 1, q5, by omega, by go_num, rfl, hM1, hW2⟩
    ·obtain ⟨q1, hq1⟩ : ∃ q, IntKind.i64.wrap (mv + 1) = q := ⟨_, rfl⟩
     have hM1 := Lib.hid (by have := hM1.out; rw [mnS_one hkd, hq1] at this; exact this)
     have hkf : (u.kind == 2) = false := by simp [hkd]
     clear HT HE
     go_wp2_with fail
     go_roundg g
     case measure => omega
     case rel => exact ⟨k + 1, q1, by omega, by go_num, rfl, hM1, hW⟩
   ·have hF : Hid (mv = r) := by have := hM.out; rw [List.drop_eq_nil_of_le (by omega), mnL] at this; exact Lib.hid this
    clear hM
    go_wp2
    go_ret
    exact ⟨ret_v hF.out, hW.out⟩
  ·have hF : Hid (mv = r) := by have := hM.out; rw [mnL_stop _ _ _ _ (by omega)] at this; exact Lib.hid this
   have hng : decide (mv ≤ b) = false := by simp; omega
   clear hM
   by_cases hlt : k < l.length
   all_goals
    go_wp2
    go_ret
    exact ⟨ret_v hF.out, hW.out⟩
mutual
theorem Many_any : ∀ x : St, ManyC x.th ∧ ManyC x.el
 | .mk _ _ _ _ _ th el => ⟨Many_step th (Many_all th), Many_step el (Many_all el)⟩
theorem Many_all : ∀ (l : List St), ∀ x ∈ l, ManyC x.th ∧ ManyC x.el
 | [], x, hx => by cases hx
 | y :: ys, x, hx => by
  rcases List.mem_cons.1 hx with h | h
  ·rw [h]; exact Many_any y
  ·exact Many_all ys x h
end
theorem Many_of (l : List St) : ManyC l := Many_step l (Many_all l)
end Go.Proofs.YtljknappbnoikaaGreatDoor.U
