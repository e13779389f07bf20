/- Texts of one proof: KzP. -/
import Derived.Test.YtamfgjinfcknfaaGreatDoorZv
import Derived.Test.YtamfgjinfcknfaaGreatDoorYb
import Derived.Test.YtamfgjinfcknfaaGreatDoorZq
set_option linter.unusedVariables false
set_option linter.unusedSimpArgs false
set_option maxRecDepth 100000
set_option maxHeartbeats 8000000
namespace Go.Proofs.YtamfgjinfcknfaaGreatDoor
open Go.RowKit
namespace K
open U (Ex St szK KidsE ev eArr StsR sArr)
def NodesC (t : Ex) : Prop := ∀ (w : World) (A : Option Addr) (c : Nat), KidsE w t.kids A → t.size ≤ 50000 → Calls Tryz.prog 26 #[ev t A c] w (GG (.int .i64 t.size) w)
theorem nodes_step (t : Ex) (ih : ∀ k ∈ t.kids, NodesC k) : NodesC t := by
 intro w A c hK hlen
 obtain ⟨op, n, u, ks⟩ := t
 simp only [Ex.kids] at hK ih
 rw [Ex.size] at hlen ⊢
 have hkl := szK_ge ks
 obtain ⟨W1, hW1⟩ : ∃ W1, W1 = w.alloc (.cells #[.int .i64 op, .int .i64 n, .int .i64 u, .slice A ks.length (ks.length + c)] 63) := ⟨_, rfl⟩
 have hg1 := Lib.hid (show Gr w W1 by rw [hW1]; exact grAlloc _ _)
 have hb1 := Lib.hid (show W1.heap[w.heap.size]? = some (.cells #[.int .i64 op, .int .i64 n, .int .i64 u, .slice A ks.length (ks.length + c)] 63 (0, 0)) by rw [hW1]; exact nBlk _ _ _ rfl)
 obtain ⟨y0, y1, y2, y3⟩ := cells4k hb1.out
 have HK := Lib.hid hK
 have IH := Lib.hid ih
 obtain ⟨R, hR⟩ : ∃ R, 1 + szK ks = R := ⟨_, rfl⟩
 rw [hR] at hlen ⊢
 have h0 := Lib.hid (show 1 + szK (ks.drop 0) = R by simpa using hR)
 show Calls Tryz.prog 26 #[.agg #[.int .i64 op, .int .i64 n, .int .i64 u, .slice A ks.length (ks.length + c)]] w _
 clear hK ih
 have hkR : ks.length ≤ 50000 := by omega
 clear hR
 go_enter Tryz.func26, Tryz.ntmps26
 go_upto_region 1 with fail
 rw [← hW1]
 clear hW1
 go_upto_region 3 with fail
 go_loopg [3, 4] (ks.length) (fun gk v i wr => ∃ (k acc : Nat), k + gk = ks.length ∧ i = .int .i64 k ∧ v = .int .i64 acc ∧ Hid (acc + szK (ks.drop k) = R) ∧ Hid (wr.heap[w.heap.size]? = some (.cells #[.int .i64 op, .int .i64 n, .int .i64 u, .slice A ks.length (ks.length + c)] 63 (0, 0))) ∧ Hid (Gr w wr))
 case atStart => exact ⟨0, 1, by omega, rfl, rfl, h0, hb1, hg1⟩
 case round =>
  obtain ⟨k, acc, hk, rfl, rfl, hc, hb, hG⟩ := hrel
  clear h0 hb1 hg1 y0 y1 y2 y3
  obtain ⟨y0, y1, y2, y3⟩ := cells4k hb.out
  by_cases hlt : k < ks.length
  ·obtain ⟨gq, rfl⟩ : ∃ g, gk = g + 1 := ⟨gk - 1, by omega⟩
   obtain ⟨ga, oa, rfl⟩ := U.KidsE.addr HK.out (by omega)
   obtain ⟨A1, c1, ⟨e0, e1, e2, e3⟩, hl1, hK1⟩ := (U.KidsE.get _ _ _ HK.out k _ (List.getElem?_eq_getElem hlt)).cells
   have hmem : ks[k] ∈ ks := List.getElem_mem hlt
   have hcx := hc.out
   rw [szK_drop hlt] at hcx
   have hi := IH.out _ hmem
   generalize ks[k] = x at *
   have hq := Lib.hid (hi wr A1 c1 (KidsE.gr hK1 hG.out) (by omega))
   have e0 := grCell hG.out e0
   have e1 := grCell hG.out e1
   have e2 := grCell hG.out e2
   have e3 := grCell hG.out e3
   have q1 : IntKind.i64.wrap ((acc : Int) + (x.size : Int)) = ((acc + x.size : Nat) : Int) := by rw [IntWalk.i64_in _ (by omega)]; omega
   have hcn := Lib.hid (show acc + x.size + szK (ks.drop (k + 1)) = R by omega)
   clear hi hmem hK1 hl1 hc hcx
   go_wp2_with (go_at_call 26; refine hq.out.mono ?_; rintro e w8 ⟨rfl, hg8⟩; have hb8 := Lib.hid (grBlk hg8 hb.out); have hG8 := Lib.hid (hG.out.tr hg8); clear hg8)
   go_roundg gq
   case measure => omega
   case rel => exact ⟨k + 1, acc + x.size, by omega, by go_num, by go_num, hcn, hb8, hG8⟩
  ·obtain rfl : gk = 0 := by omega
   obtain rfl : acc = R := by have := hc.out; rw [List.drop_eq_nil_of_le (by omega), szK] at this; omega
   have hkl : decide ((k : Int) < (ks.length : Int)) = false := by simp; omega
   go_wp2
   go_ret
   exact ⟨rfl, hG.out⟩
mutual
theorem nodes_any : ∀ t : Ex, NodesC t
 | .mk op n u ks => nodes_step _ (nodes_all ks)
theorem nodes_all : ∀ (l : List Ex), ∀ k ∈ l, NodesC k
 | [], k, hk => by cases hk
 | y :: ys, k, hk => by
  rcases List.mem_cons.1 hk with h | h
  ·rw [h]; exact nodes_any y
  ·exact nodes_all ys k h
end
theorem FoL_get {n : Nat} : ∀ {l : List St}, FoL n l → ∀ x ∈ l, FoS n x
 | [], _, x, hx => by cases hx
 | y :: ys, h, x, hx => by
  rw [FoL] at h
  rcases List.mem_cons.1 hx with rfl | hx
  ·exact h.1
  ·exact FoL_get h.2 x hx
theorem FoS_of {n : Nat} {x : St} (h : FoS n x) : x.a.size ≤ 60 ∧ (x.kind = 2 → x.b.size ≤ 60 ∧ FoL n x.th ∧ FoL n x.el) := by
 obtain ⟨k, v, r, a, b, th, el⟩ := x
 rw [FoS] at h
 refine ⟨h.2.1, fun h2 => ?_⟩
 have h2 : k = 2 := h2
 rcases h.2.2 with h1 | h1
 ·omega
 ·exact h1.2.2.2
def SizeC (n : Nat) (ss : List St) : Prop := ∀ (w : World) (A : Option Addr) (m : Nat), StsR w ss A → FoL n ss → lnL ss ≤ 50000 → Calls Tryz.prog 12 #[.slice A ss.length m] w (GG (.int .i64 (lnL ss)) w)
theorem StsR.gr {w w' : World} {l : List St} {A : Option Addr} (h : StsR w l A) (hg : Gr w w') : StsR w' l A := U.StsR.below h hg
theorem size_step (nv : Nat) (ss : List St) (ih : ∀ x ∈ ss, SizeC nv x.th ∧ SizeC nv x.el) : SizeC nv ss := by
 intro w A m hR hF hlen
 obtain ⟨R, hRR⟩ : ∃ R, lnL ss = R := ⟨_, rfl⟩
 have h0 := Lib.hid (show 0 + lnL (ss.drop 0) = R by simpa using hRR)
 have hsl := cL_length_le ss
 rw [hRR] at hlen hsl ⊢
 have HR := Lib.hid hR
 have HF := Lib.hid hF
 have IH := Lib.hid ih
 have hg0 := Lib.hid (Below.refl w.heap.size w)
 clear hR hF ih hRR
 go_enter Tryz.func12, Tryz.ntmps12
 go_wp2_with fail
 go_loopg [3, 8] (ss.length) (fun gk v i wr => ∃ (k acc : Nat), k + gk = ss.length ∧ i = .int .i64 k ∧ v = .int .i64 acc ∧ Hid (acc + lnL (ss.drop k) = R) ∧ Hid (Gr w wr))
 case atStart => exact ⟨0, 0, by omega, rfl, rfl, h0, hg0⟩
 case round =>
  obtain ⟨k, acc, hk, rfl, rfl, hc, hG⟩ := hrel
  clear h0 hg0
  by_cases hlt : k < ss.length
  ·obtain ⟨gq, rfl⟩ : ∃ g, gk = g + 1 := ⟨gk - 1, by omega⟩
   obtain ⟨ga, oa, rfl⟩ := HR.out.addr (by omega)
   have hx := HR.out.get _ _ _ k _ (List.getElem?_eq_getElem hlt)
   have hmem : ss[k] ∈ ss := List.getElem_mem hlt
   have hcx := hc.out
   rw [lnL_drop hlt] at hcx
   have hi := IH.out _ hmem
   have hfx := FoS_of (FoL_get HF.out _ hmem)
   generalize ss[k] = x at *
   obtain ⟨A, c, Bk, d, T, m2, E, n2, hat, hKa, hKb, hTh, hEl, hlth, hlel⟩ := hx.cells
   obtain ⟨e0, e1, e2, e3, e4, e5, e6, e7, e8, e9, ea, eb, ec⟩ := hat
   have e0 := grCell hG.out e0
   have e1 := grCell hG.out e1
   have e2 := grCell hG.out e2
   have e3 := grCell hG.out e3
   have e4 := grCell hG.out e4
   have e5 := grCell hG.out e5
   have e6 := grCell hG.out e6
   have e7 := grCell hG.out e7
   have e8 := grCell hG.out e8
   have e9 := grCell hG.out e9
   have ea := grCell hG.out ea
   have eb := grCell hG.out eb
   have ec := grCell hG.out ec
   obtain ⟨W5, hW5⟩ : ∃ W5, W5 = wr.alloc (.cells (sArr x A c Bk d T m2 E n2) 65) := ⟨_, rfl⟩
   have hg5 := Lib.hid (show Gr wr W5 by rw [hW5]; exact grAlloc _ _)
   have hb5 := Lib.hid (show W5.heap[wr.heap.size]? = some (.cells (sArr x A c Bk d T m2 E n2) 65 (0, 0)) by rw [hW5]; exact nBlk _ _ _ rfl)
   have hG5 := Lib.hid (hG.out.tr hg5.out)
   have hNa := Lib.hid (nodes_any x.a W5 A c (KidsE.gr hKa hG5.out) (by omega))
   have hxl := Lib.hid hcx
   by_cases hk2 : x.kind = 2
   ·obtain ⟨hzb, hft, hfe⟩ := hfx.2 hk2
    have hln := lnS_if hk2
    have hNb := Lib.hid (fun (wx : World) (hg : Gr W5 wx) => nodes_any x.b wx Bk d (KidsE.gr hKb (hG5.out.tr hg)) (by omega))
    have hSt := Lib.hid (fun (wx : World) (hg : Gr W5 wx) => hi.1 wx T m2 (StsR.gr hTh (hG5.out.tr hg)) hft (by omega))
    have hSe := Lib.hid (fun (wx : World) (hg : Gr W5 wx) => hi.2 wx E n2 (StsR.gr hEl (hG5.out.tr hg)) hfe (by
     by_cases hz : x.el.length = 0
     ·rw [List.eq_nil_of_length_eq_zero hz, lnL]; omega
     ·rw [if_neg hz] at hln; omega))
    have hkb : (x.kind == 2) = true := by rw [beq_iff_eq]; exact hk2
    have hlnH := Lib.hid hln
    obtain ⟨az, haz⟩ : ∃ az, x.a.size = az := ⟨_, rfl⟩
    obtain ⟨bz, hbz⟩ : ∃ bz, x.b.size = bz := ⟨_, rfl⟩
    obtain ⟨tz, htz⟩ : ∃ tz, lnL x.th = tz := ⟨_, rfl⟩
    obtain ⟨ez, hez⟩ : ∃ ez, lnL x.el = ez := ⟨_, rfl⟩
    have hez2 : x.el.length = 0 → ez = 0 := fun h => by rw [← hez, List.eq_nil_of_length_eq_zero h, lnL]
    rw [haz] at hNa
    simp only [hbz] at hNb
    simp only [htz] at hSt
    simp only [hez] at hSe
    rw [haz, hbz, htz, hez] at hln
    have hfin : Hid (acc + lnS x + lnL (ss.drop (k + 1)) = R) := Lib.hid (by omega)
    have hb1 : acc + lnS x ≤ 50000 := by omega
    have hez3 : ez ≤ 50000 := by
     by_cases hz : x.el.length = 0
     ·rw [hez2 hz]; omega
     ·rw [if_neg hz] at hln; omega
    have q1 : IntKind.i64.wrap ((az : Int) + 1) = (az : Int) + 1 := IntWalk.i64_in _ (by omega)
    have q2 : IntKind.i64.wrap ((acc : Int) + ((az : Int) + 1)) = ((acc + (az + 1) : Nat) : Int) := by rw [IntWalk.i64_in _ (by omega)]; omega
    have q3 : IntKind.i64.wrap ((bz : Int) + (tz : Int)) = ((bz + tz : Nat) : Int) := by rw [IntWalk.i64_in _ (by omega)]; omega
    have q4 : IntKind.i64.wrap (((bz + tz : Nat) : Int) + (ez : Int)) = ((bz + tz + ez : Nat) : Int) := by rw [IntWalk.i64_in _ (by omega)]; omega
    have q5 : IntKind.i64.wrap (((acc + (az + 1) : Nat) : Int) + ((bz + tz + ez : Nat) : Int)) = ((acc + (az + 1) + (bz + tz + ez) : Nat) : Int) := by rw [IntWalk.i64_in _ (by omega)]; omega
    have q6 : IntKind.i64.wrap (((acc + (az + 1) + (bz + tz + ez) : Nat) : Int) + 1) = ((acc + (az + 1) + (bz + tz + ez) + 1 : Nat) : Int) := by rw [IntWalk.i64_in _ (by omega)]; omega
    obtain ⟨s1, hs1⟩ : ∃ s1, s1 = acc + (az + 1) := ⟨_, rfl⟩
    obtain ⟨s2, hs2⟩ : ∃ s2, s2 = bz + tz := ⟨_, rfl⟩
    obtain ⟨s3, hs3⟩ : ∃ s3, s3 = s2 + ez := ⟨_, rfl⟩
    obtain ⟨s4, hs4⟩ : ∃ s4, s4 = s1 + s3 := ⟨_, rfl⟩
    rw [← hs1] at q2 q5 q6
    rw [← hs2] at q3 q4 q5 q6
    rw [← hs3] at q4 q5 q6
    rw [← hs4] at q5 q6
    have hs := Lib.hid (And.intro hs1 (And.intro hs2 (And.intro hs3 hs4)))
    have hlz := Lib.hid hln
    clear hi hmem hKa hKb hTh hEl hlth hlel hx hfx hzb hft hfe hln haz hbz htz hez hs1 hs2 hs3 hs4 hk2 hxl hc hcx
    go_upto_region 5 with fail
    rw [← hW5]
    clear hW5 e0 e1 e2 e3 e4 e5 e6 e7 e8 e9 ea eb ec
    obtain ⟨y0, y1, y2, y3, y4, y5, y6, y7, y8, y9, ya, yb, yc⟩ := U.cells13 hb5.out
    go_upto_region 6 with (go_at_call 26; refine hNa.out.mono ?_; rintro e w6 ⟨rfl, hg6⟩; have hb6 := Lib.hid (grBlk hg6 hb5.out); have hg6 := Lib.hid hg6)
    clear y0 y1 y2 y3 y4 y5 y6 y7 y8 y9 ya yb yc
    obtain ⟨y0, y1, y2, y3, y4, y5, y6, y7, y8, y9, ya, yb, yc⟩ := U.cells13 hb6.out
    go_upto_region 7 with fail
    go_cut [3] (fun v wx => v = .int .i64 s4 ∧ Hid (Gr w6 wx))
    case first =>
     refine wp_region_G (S := fun wq => Gr w6 wq) (by kernel_rfl) (grDrew _) (fun hHeld => ?_)
     have hSG : Hid (∀ wp wq : World, Gr w6 wp → Gr wp wq → Gr w6 wq) := Lib.hid (fun _ _ h k => h.tr k)
     have hmv := Lib.hid (fun (wq : World) (hq : Gr w6 wq) => And.intro (grCell hq y7) (And.intro (grCell hq y8) (And.intro (grCell hq y9) (And.intro (grCell hq ya) (And.intro (grCell hq yb) (grCell hq yc))))))
     first
      | (refine tk hSG 0 (v := ?_) rfl (by kernel_rfl) (fun _ _ _ h => h) (by rfl) ?_ hHeld ?_; rotate_left; focus (intro w' hSw; obtain ⟨y7, y8, y9, ya, yb, yc⟩ := hmv.out _ hSw; go_simp; (try with_reducible rfl)))
      | refine tn hSG 0 rfl (by kernel_rfl) (fun _ _ _ h => h) (by rfl) hHeld ?_
     (try simp only [zq1, zq2, zq3, Act.put, zq4, zq5, zq6])
     first
      | (refine tk hSG 1 (v := ?_) rfl (by kernel_rfl) (fun _ _ _ h => h) (by rfl) ?_ hHeld ?_; rotate_left; focus (intro w' hSw; obtain ⟨y7, y8, y9, ya, yb, yc⟩ := hmv.out _ hSw; go_simp; (try with_reducible rfl)))
      | refine tn hSG 1 rfl (by kernel_rfl) (fun _ _ _ h => h) (by rfl) hHeld ?_
     (try simp only [zq1, zq2, zq3, Act.put, zq4, zq5, zq6])
     first
      | (refine tk hSG 2 (v := ?_) rfl (by kernel_rfl) (fun _ _ _ h => h) (by rfl) ?_ hHeld ?_; rotate_left; focus (intro w' hSw; obtain ⟨y7, y8, y9, ya, yb, yc⟩ := hmv.out _ hSw; go_simp; (try with_reducible rfl)))
      | refine tn hSG 2 rfl (by kernel_rfl) (fun _ _ _ h => h) (by rfl) hHeld ?_
     (try simp only [zq1, zq2, zq3, Act.put, zq4, zq5, zq6])
     refine tc hSG 3 (v := .int .i64 bz) rfl (by kernel_rfl) (fun _ _ _ h => h) (by rfl) ?_ hHeld ?_
     focus (intro wz hSw K hK; obtain ⟨y7, y8, y9, ya, yb, yc⟩ := hmv.out _ hSw; go_simp; go_at_call 26; refine (hNb.out _ (hg6.out.tr hSw)).mono ?_; rintro e w2 ⟨rfl, hb2⟩; first | exact hK.out _ hb2 | (have h9 := hK.out _ hb2; (try simp only [zq1, zq2, zq3, Act.put, zq4, zq5, zq6] at h9 ⊢); exact h9) | (have h9 := hK.out _ hb2; go_simp; exact h9))
     (try simp only [zq1, zq2, zq3, Act.put, zq4, zq5, zq6])
     first
      | (refine tk hSG 4 (v := ?_) rfl (by kernel_rfl) (fun _ _ _ h => h) (by rfl) ?_ hHeld ?_; rotate_left; focus (intro w' hSw; obtain ⟨y7, y8, y9, ya, yb, yc⟩ := hmv.out _ hSw; go_simp; (try with_reducible rfl)))
      | refine tn hSG 4 rfl (by kernel_rfl) (fun _ _ _ h => h) (by rfl) hHeld ?_
     (try simp only [zq1, zq2, zq3, Act.put, zq4, zq5, zq6])
     first
      | (refine tk hSG 5 (v := ?_) rfl (by kernel_rfl) (fun _ _ _ h => h) (by rfl) ?_ hHeld ?_; rotate_left; focus (intro w' hSw; obtain ⟨y7, y8, y9, ya, yb, yc⟩ := hmv.out _ hSw; go_simp; (try with_reducible rfl)))
      | refine tn hSG 5 rfl (by kernel_rfl) (fun _ _ _ h => h) (by rfl) hHeld ?_
     (try simp only [zq1, zq2, zq3, Act.put, zq4, zq5, zq6])
     refine tc hSG 6 (v := .int .i64 tz) rfl (by kernel_rfl) (fun _ _ _ h => h) (by rfl) ?_ hHeld ?_
     focus (intro wz hSw K hK; obtain ⟨y7, y8, y9, ya, yb, yc⟩ := hmv.out _ hSw; go_simp; go_at_call 12; refine (hSt.out _ (hg6.out.tr hSw)).mono ?_; rintro e w2 ⟨rfl, hb2⟩; first | exact hK.out _ hb2 | (have h9 := hK.out _ hb2; (try simp only [zq1, zq2, zq3, Act.put, zq4, zq5, zq6] at h9 ⊢); exact h9) | (have h9 := hK.out _ hb2; go_simp; exact h9))
     (try simp only [zq1, zq2, zq3, Act.put, zq4, zq5, zq6])
     first
      | (refine tk hSG 7 (v := ?_) rfl (by kernel_rfl) (fun _ _ _ h => h) (by rfl) ?_ hHeld ?_; rotate_left; focus (intro w' hSw; obtain ⟨y7, y8, y9, ya, yb, yc⟩ := hmv.out _ hSw; go_simp; (try with_reducible rfl)))
      | refine tn hSG 7 rfl (by kernel_rfl) (fun _ _ _ h => h) (by rfl) hHeld ?_
     (try simp only [zq1, zq2, zq3, Act.put, zq4, zq5, zq6])
     first
      | (refine tk hSG 8 (v := ?_) rfl (by kernel_rfl) (fun _ _ _ h => h) (by rfl) ?_ hHeld ?_; rotate_left; focus (intro w' hSw; obtain ⟨y7, y8, y9, ya, yb, yc⟩ := hmv.out _ hSw; go_simp; (try with_reducible rfl)))
      | refine tn hSG 8 rfl (by kernel_rfl) (fun _ _ _ h => h) (by rfl) hHeld ?_
     (try simp only [zq1, zq2, zq3, Act.put, zq4, zq5, zq6])
     first
      | (refine tk hSG 9 (v := ?_) rfl (by kernel_rfl) (fun _ _ _ h => h) (by rfl) ?_ hHeld ?_; rotate_left; focus (intro w' hSw; obtain ⟨y7, y8, y9, ya, yb, yc⟩ := hmv.out _ hSw; go_simp; (try with_reducible rfl)))
      | refine tn hSG 9 rfl (by kernel_rfl) (fun _ _ _ h => h) (by rfl) hHeld ?_
     (try simp only [zq1, zq2, zq3, Act.put, zq4, zq5, zq6])
     refine tc hSG 10 (v := .int .i64 ez) rfl (by kernel_rfl) (fun _ _ _ h => h) (by rfl) ?_ hHeld ?_
     focus (intro wz hSw K hK; obtain ⟨y7, y8, y9, ya, yb, yc⟩ := hmv.out _ hSw; go_simp; go_at_call 12; refine (hSe.out _ (hg6.out.tr hSw)).mono ?_; rintro e w2 ⟨rfl, hb2⟩; first | exact hK.out _ hb2 | (have h9 := hK.out _ hb2; (try simp only [zq1, zq2, zq3, Act.put, zq4, zq5, zq6] at h9 ⊢); exact h9) | (have h9 := hK.out _ hb2; go_simp; exact h9))
     (try simp only [zq1, zq2, zq3, Act.put, zq4, zq5, zq6])
     first
      | (refine tk hSG 11 (v := ?_) rfl (by kernel_rfl) (fun _ _ _ h => h) (by rfl) ?_ hHeld ?_; rotate_left; focus (intro w' hSw; obtain ⟨y7, y8, y9, ya, yb, yc⟩ := hmv.out _ hSw; go_simp; (try with_reducible rfl)))
      | refine tn hSG 11 rfl (by kernel_rfl) (fun _ _ _ h => h) (by rfl) hHeld ?_
     (try simp only [zq1, zq2, zq3, Act.put, zq4, zq5, zq6])
     first
      | (refine tk hSG 12 (v := ?_) rfl (by kernel_rfl) (fun _ _ _ h => h) (by rfl) ?_ hHeld ?_; rotate_left; focus (intro w' hSw; obtain ⟨y7, y8, y9, ya, yb, yc⟩ := hmv.out _ hSw; go_simp; (try with_reducible rfl)))
      | refine tn hSG 12 rfl (by kernel_rfl) (fun _ _ _ h => h) (by rfl) hHeld ?_
     (try simp only [zq1, zq2, zq3, Act.put, zq4, zq5, zq6])
     first
      | (refine tk hSG 13 (v := ?_) rfl (by kernel_rfl) (fun _ _ _ h => h) (by rfl) ?_ hHeld ?_; rotate_left; focus (intro w' hSw; obtain ⟨y7, y8, y9, ya, yb, yc⟩ := hmv.out _ hSw; go_simp; (try with_reducible rfl)))
      | refine tn hSG 13 rfl (by kernel_rfl) (fun _ _ _ h => h) (by rfl) hHeld ?_
     (try simp only [zq1, zq2, zq3, Act.put, zq4, zq5, zq6])
     refine wpAnyG_done (by kernel_rfl) (fun w9 hgD => ?_) _
     have hg9 : Gr w6 w9 := (grDrew w6).tr hgD
     clear hgD hSG hHeld
     go_wp2
     go_meet
     exact ⟨rfl, Lib.hid hg9⟩
    case rest =>
     obtain ⟨rfl, hg9⟩ := hcut
     have hb9 := Lib.hid (grBlk hg9.out hb6.out)
     have hG9 := Lib.hid ((hG5.out.tr hg6.out).tr hg9.out)
     clear y0 y1 y2 y3 y4 y5 y6 y7 y8 y9 ya yb yc
     obtain ⟨y0, y1, y2, y3, y4, y5, y6, y7, y8, y9, ya, yb, yc⟩ := U.cells13 hb9.out
     by_cases hz : x.el.length = 0
     ·have hte : decide (0 < x.el.length) = false := decide_eq_false (by omega)
      have hsum : s4 = acc + lnS x := by have := hlz.out; rw [if_pos hz] at this; have := hs.out; have := hez2 hz; omega
      have hsH := Lib.hid hsum
      clear hz hez2 hsum
      go_wp2
      go_roundg gq
      case measure => omega
      case rel => exact ⟨k + 1, acc + lnS x, by omega, by go_num, by rw [hsH.out], hfin, hG9⟩
     ·have hte : decide (0 < x.el.length) = true := decide_eq_true (by omega)
      have hsum : s4 + 1 = acc + lnS x := by have := hlz.out; rw [if_neg hz] at this; have := hs.out; omega
      have hsH := Lib.hid hsum
      clear hz hez2 hsum
      go_wp2
      go_roundg gq
      case measure => omega
      case rel => exact ⟨k + 1, acc + lnS x, by omega, by go_num, by rw [← hsH.out]; exact congrArg (Value.int .i64) (by omega), hfin, hG9⟩
   ·have hln := lnS_no hk2
    have hkb : (x.kind == 2) = false := by rw [beq_eq_false_iff_ne]; exact hk2
    obtain ⟨az, haz⟩ : ∃ az, x.a.size = az := ⟨_, rfl⟩
    rw [haz] at hNa hln
    have hfin : Hid (acc + lnS x + lnL (ss.drop (k + 1)) = R) := Lib.hid (by omega)
    have q1 : IntKind.i64.wrap ((az : Int) + 1) = (az : Int) + 1 := IntWalk.i64_in _ (by omega)
    have q2 : IntKind.i64.wrap ((acc : Int) + ((az : Int) + 1)) = ((acc + lnS x : Nat) : Int) := by rw [IntWalk.i64_in _ (by omega)]; omega
    clear hi hmem hKa hKb hTh hEl hlth hlel hx hfx hln haz hk2 hxl hc hcx
    go_upto_region 5 with fail
    rw [← hW5]
    clear hW5 e0 e1 e2 e3 e4 e5 e6 e7 e8 e9 ea eb ec
    obtain ⟨y0, y1, y2, y3, y4, y5, y6, y7, y8, y9, ya, yb, yc⟩ := U.cells13 hb5.out
    go_wp2_with (go_at_call 26; refine hNa.out.mono ?_; rintro e w6 ⟨rfl, hg6⟩; have hb6 := Lib.hid (grBlk hg6 hb5.out); have hG6 := Lib.hid (hG5.out.tr hg6); clear hg6 y0 y1 y2 y3 y4 y5 y6 y7 y8 y9 ya yb yc; obtain ⟨y0, y1, y2, y3, y4, y5, y6, y7, y8, y9, ya, yb, yc⟩ := U.cells13 hb6.out)
    go_roundg gq
    case measure => omega
    case rel => exact ⟨k + 1, acc + lnS x, by omega, by go_num, rfl, hfin, hG6⟩
  ·obtain rfl : gk = 0 := by omega
   obtain rfl : acc = R := by have := hc.out; rw [List.drop_eq_nil_of_le (by omega), lnL] at this; omega
   have hkl : decide ((k : Int) < (ss.length : Int)) = false := by simp; omega
   go_wp2
   go_ret
   exact ⟨rfl, hG.out⟩
mutual
theorem size_sub (nv : Nat) : ∀ x : St, SizeC nv x.th ∧ SizeC nv x.el
 | .mk _ _ _ _ _ th el => ⟨size_step nv th (size_all nv th), size_step nv el (size_all nv el)⟩
theorem size_all (nv : Nat) : ∀ (l : List St), ∀ x ∈ l, SizeC nv x.th ∧ SizeC nv x.el
 | [], x, hx => by cases hx
 | y :: ys, x, hx => by
  rcases List.mem_cons.1 hx with h | h
  ·rw [h]; exact size_sub nv y
  ·exact size_all nv ys x h
end
theorem size_any (nv : Nat) (ss : List St) : SizeC nv ss := size_step nv ss (size_all nv ss)
end K
end Go.Proofs.YtamfgjinfcknfaaGreatDoor
