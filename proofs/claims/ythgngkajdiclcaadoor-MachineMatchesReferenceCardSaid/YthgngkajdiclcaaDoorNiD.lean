/- Law 10: the reference's Run and Steps. -/
import Derived.Test.YthgngkajdiclcaaDoorNiC
import Derived.Test.YthgngkajdiclcaaDoorNfD
namespace Go.Proofs.YthgngkajdiclcaaDoor
open Go.RowKit
set_option linter.unusedVariables false
set_option linter.unusedSimpArgs false
namespace N
open K
theorem rsB_in {e i0 i1 i2 i3 : Int} (h : rsB e i0 i1 i2 i3 0 = true) : ∀ n ∈ [i0, i1, i2, i3], vN n = true := by
  unfold rsB at h
  simp only [Bool.and_eq_true] at h
  obtain ⟨h0, h1, h2, h3, -⟩ := h
  have h0 := btw_iff.1 h0
  have h1 := btw_iff.1 h1
  have h2 := btw_iff.1 h2
  have h3 := btw_iff.1 h3
  intro n hn
  simp only [List.mem_cons, List.not_mem_nil, or_false] at hn
  rw [vN_iff]
  rcases hn with rfl | rfl | rfl | rfl <;> omega
/-- what the reference's Run leaves -/
def RrP (rs : List Int) (er : Int) (w : World) (e : Ending) (w' : World) : Prop := (∃ A c, e = .returned (.tuple #[.slice A rs.length c, .int .i64 er]) ∧ IntsR w' rs A) ∧ Gr w w'
set_option maxHeartbeats 4000000 in
set_option maxRecDepth 100000 in
theorem RRun_any (vs : List (Int × Int)) (VA : Option Addr) (vc : Nat) (h0 h1 h2 h3 h4 : Hd) (st : List Int) (SA : Option Addr) (sc : Nat) (e i0 i1 i2 i3 : Int) (w : World) (hV : VsR w vs VA) (hR : ∀ h ∈ [h0, h1, h2, h3, h4], InsR w h.l h.A) (hlen : ∀ h ∈ [h0, h1, h2, h3, h4], h.l.length ≤ 100000) (hS : IntsR w st SA) (hvl : vs.length ≤ 1000) :
    Calls Tryd.prog 10 #[.slice VA vs.length vc, .agg (cdA h0 h1 h2 h3 h4), .slice SA st.length sc, .agg (clA e i0 i1 i2 i3)] w (RrP (runF vs [h0, h1, h2, h3, h4] st e i0 i1 i2 i3).1 (runF vs [h0, h1, h2, h3, h4] st e i0 i1 i2 i3).2 w) := by
  obtain ⟨R, hR0⟩ : ∃ R, runF vs [h0, h1, h2, h3, h4] st e i0 i1 i2 i3 = R := ⟨_, rfl⟩
  rw [hR0]
  obtain ⟨W2, hW2⟩ : ∃ W2, W2 = (w.alloc (.cells (cdA h0 h1 h2 h3 h4) 26)).alloc (.cells (clA e i0 i1 i2 i3) 30) := ⟨_, rfl⟩
  have HG2 := Lib.hid (show Gr w W2 by rw [hW2]; exact (grAlloc _ _).tr (grAlloc _ _))
  have HC2 := Lib.hid (show W2.heap[w.heap.size]? = some (.cells (cdA h0 h1 h2 h3 h4) 26 (0, 0)) by rw [hW2]; exact grBlk (grAlloc _ _) (nBlk _ _ _ rfl))
  have HX2 := Lib.hid (show W2.heap[w.heap.size + 1]? = some (.cells (clA e i0 i1 i2 i3) 30 (0, 0)) by rw [hW2]; exact nBlk _ _ _ (by simp))
  have HF := Lib.hid (fun wx (hg : Gr w wx) => Fits_any vs VA vc h0 h1 h2 h3 h4 st SA sc e i0 i1 i2 i3 wx (hV.gr hg) (fun h hh => (hR h hh).gr hg) hlen (hS.gr hg) hvl)
  unfold runF at hR0
  rcases hfit : fitB vs [h0, h1, h2, h3, h4] st e i0 i1 i2 i3 with _ | _
  · rw [hfit] at HF hR0
    simp only [Bool.false_eq_true, if_false] at hR0
    subst hR0
    clear hfit hV hR hlen hS hvl
    obtain ⟨c0, c1, c2, c3, c4⟩ := cells5k HC2.out
    obtain ⟨x0, x1, x2, x3, x4⟩ := cells5k HX2.out
    generalize vs.length = vl at *
    generalize st.length = sl at *
    go_enter Tryd.func10, Tryd.ntmps10
    go_upto_region 1 with fail
    rw [← hW2]
    clear hW2
    go_wp2_with (go_at_call 25; refine (HF.out _ HG2.out).mono ?_; rintro e w3 ⟨rfl, hg3⟩; have HG3 := Lib.hid (Gr.tr HG2.out hg3); clear hg3)
    go_ret2
    exact ⟨⟨none, 0, rfl, .inl rfl⟩, HG3.out⟩
  · obtain ⟨k, x, H, hek, hkx, hk5, hH, hl4, hstl, htv, hxm⟩ := fit_open rfl hfit
    have hins : ∀ n ∈ [i0, i1, i2, i3], vN n = true := by
      have h := hfit
      unfold fitB at h
      simp only [Bool.and_eq_true] at h
      exact rsB_in h.2
    rw [hfit] at HF hR0
    rw [hek, Int.toNat_natCast, hkx] at hR0
    simp only [if_true, Option.getD_some] at hR0
    subst hek
    have HT := Lib.hid (fun wx (hg : Gr w wx) => Trace_any vs VA vc x.l x.A x.c st SA sc i0 i1 i2 i3 H wx (hV.gr hg) ((hR x hxm).gr hg) (hS.gr hg) hH hl4 hstl htv hvl hins)
    have hcd := Lib.hid (fun (wx : World) (hX : wx.heap[w.heap.size]? = some (.cells (cdA h0 h1 h2 h3 h4) 26 (0, 0))) => cdAt hX hkx)
    obtain ⟨T, hT⟩ : ∃ T, run vs [i0, i1, i2, i3] x.l x.l.length 0 [] st 0 = T := ⟨_, rfl⟩
    unfold run0 at hR0
    rw [hT] at HT hR0
    have hRH := Lib.hid hR0
    clear hT hR0 hfit hV hR hlen hS hvl hkx hH hl4 hstl htv hxm hins
    obtain ⟨xl, XA, xc⟩ := x
    simp only at HT
    obtain ⟨rs, hrs⟩ : ∃ rs, rs = trL T := ⟨_, rfl⟩
    obtain ⟨Tl, Tk, Te⟩ := T
    obtain ⟨c0, c1, c2, c3, c4⟩ := cells5k HC2.out
    obtain ⟨x0, x1, x2, x3, x4⟩ := cells5k HX2.out
    generalize vs.length = vl at *
    generalize st.length = sl at *
    go_enter Tryd.func10, Tryd.ntmps10
    go_upto_region 1 with fail
    rw [← hW2]
    clear hW2
    go_upto_region 4 with (go_at_call 25; refine (HF.out _ HG2.out).mono ?_; rintro e w3 ⟨rfl, hg3⟩; have HG3 := Lib.hid (Gr.tr HG2.out hg3); have HC3 := Lib.hid (grBlk hg3 HC2.out); have HX3 := Lib.hid (grBlk hg3 HX2.out); clear hg3 HF c0 c1 c2 c3 c4 x0 x1 x2 x3 x4)
    obtain ⟨x0, x1, x2, x3, x4⟩ := cells5k HX3.out
    have ck := hcd.out _ HC3.out
    refine wp_region_X (S := fun wq => Gr w3 wq) [] (by kernel_rfl) (grDrew _) (fun hHeld => ?_)
    have hSG : Hid (∀ wp wq : World, Gr w3 wp → Gr wp wq → Gr w3 wq) := Lib.hid (fun _ _ h k => h.tr k)
    have hmv := Lib.hid (fun (wq : World) (hq : Gr w3 wq) => And.intro (grCell hq x0) (And.intro (grCell hq x1) (And.intro (grCell hq x2) (And.intro (grCell hq x3) (And.intro (grCell hq x4) (grCell hq ck))))))
    first
     | (refine xk hSG 0 [9, 10, 11, 12, 13, 14, 15, 16] (v := ?_) rfl (by kernel_rfl) (fun _ _ _ h => h) (by rfl) ?_ hHeld ?_; rotate_left; focus (intro w' hSw; obtain ⟨x0, x1, x2, x3, x4, ck⟩ := hmv.out _ hSw; go_simp; (try with_reducible rfl)))
     | refine xn hSG 0 [9, 10, 11, 12, 13, 14, 15, 16] rfl (by kernel_rfl) (fun _ _ _ h => h) (by rfl) hHeld ?_
    (try simp only [zq1, zq2, zq3, Act.put, zq4, zq5, zq6])
    first
     | (refine xk hSG 1 [2, 4, 5, 9, 10, 11, 12, 13, 14, 15, 16] (v := ?_) rfl (by kernel_rfl) (fun _ _ _ h => h) (by rfl) ?_ hHeld ?_; rotate_left; focus (intro w' hSw; obtain ⟨x0, x1, x2, x3, x4, ck⟩ := hmv.out _ hSw; go_simp; (try with_reducible rfl)))
     | refine xn hSG 1 [2, 4, 5, 9, 10, 11, 12, 13, 14, 15, 16] rfl (by kernel_rfl) (fun _ _ _ h => h) (by rfl) hHeld ?_
    (try simp only [zq1, zq2, zq3, Act.put, zq4, zq5, zq6])
    first
     | (refine xk hSG 2 [4, 5, 9, 10, 11, 12, 13, 14, 15, 16] (v := ?_) rfl (by kernel_rfl) (fun _ _ _ h => h) (by rfl) ?_ hHeld ?_; rotate_left; focus (intro w' hSw; obtain ⟨x0, x1, x2, x3, x4, ck⟩ := hmv.out _ hSw; go_simp; (try with_reducible rfl)))
     | refine xn hSG 2 [4, 5, 9, 10, 11, 12, 13, 14, 15, 16] rfl (by kernel_rfl) (fun _ _ _ h => h) (by rfl) hHeld ?_
    (try simp only [zq1, zq2, zq3, Act.put, zq4, zq5, zq6])
    first
     | (refine xk hSG 3 [4, 5, 9, 10, 11, 12, 13, 14, 15, 16] (v := ?_) rfl (by kernel_rfl) (fun _ _ _ h => h) (by rfl) ?_ hHeld ?_; rotate_left; focus (intro w' hSw; obtain ⟨x0, x1, x2, x3, x4, ck⟩ := hmv.out _ hSw; go_simp; (try with_reducible rfl)))
     | refine xn hSG 3 [4, 5, 9, 10, 11, 12, 13, 14, 15, 16] rfl (by kernel_rfl) (fun _ _ _ h => h) (by rfl) hHeld ?_
    (try simp only [zq1, zq2, zq3, Act.put, zq4, zq5, zq6])
    refine xk hSG 4 [5, 9, 10, 11, 12, 13, 14, 15, 16] (v := .pointer (some ⟨w.heap.size, k, none⟩)) rfl (by kernel_rfl) (fun _ _ _ h => h) (by rfl) ?_ hHeld ?_
    focus (intro w' hSw; obtain ⟨x0, x1, x2, x3, x4, ck⟩ := hmv.out _ hSw; go_simp; (try (intro hq; omega)))
    (try simp only [zq1, zq2, zq3, Act.put, zq4, zq5, zq6])
    first
     | (refine xk hSG 5 [9, 10, 11, 12, 13, 14, 15, 16] (v := ?_) rfl (by kernel_rfl) (fun _ _ _ h => h) (by rfl) ?_ hHeld ?_; rotate_left; focus (intro w' hSw; obtain ⟨x0, x1, x2, x3, x4, ck⟩ := hmv.out _ hSw; go_simp; (try with_reducible rfl)))
     | refine xn hSG 5 [9, 10, 11, 12, 13, 14, 15, 16] rfl (by kernel_rfl) (fun _ _ _ h => h) (by rfl) hHeld ?_
    (try simp only [zq1, zq2, zq3, Act.put, zq4, zq5, zq6])
    first
     | (refine xk hSG 6 [9, 10, 11, 12, 13, 14, 15, 16] (v := ?_) rfl (by kernel_rfl) (fun _ _ _ h => h) (by rfl) ?_ hHeld ?_; rotate_left; focus (intro w' hSw; obtain ⟨x0, x1, x2, x3, x4, ck⟩ := hmv.out _ hSw; go_simp; (try with_reducible rfl)))
     | refine xn hSG 6 [9, 10, 11, 12, 13, 14, 15, 16] rfl (by kernel_rfl) (fun _ _ _ h => h) (by rfl) hHeld ?_
    (try simp only [zq1, zq2, zq3, Act.put, zq4, zq5, zq6])
    first
     | (refine xk hSG 7 [8, 9, 10, 11, 12, 13, 14, 15, 16] (v := ?_) rfl (by kernel_rfl) (fun _ _ _ h => h) (by rfl) ?_ hHeld ?_; rotate_left; focus (intro w' hSw; obtain ⟨x0, x1, x2, x3, x4, ck⟩ := hmv.out _ hSw; go_simp; (try with_reducible rfl)))
     | refine xn hSG 7 [8, 9, 10, 11, 12, 13, 14, 15, 16] rfl (by kernel_rfl) (fun _ _ _ h => h) (by rfl) hHeld ?_
    (try simp only [zq1, zq2, zq3, Act.put, zq4, zq5, zq6])
    first
     | (refine xk hSG 8 [9, 10, 11, 12, 13, 14, 15, 16] (v := ?_) rfl (by kernel_rfl) (fun _ _ _ h => h) (by rfl) ?_ hHeld ?_; rotate_left; focus (intro w' hSw; obtain ⟨x0, x1, x2, x3, x4, ck⟩ := hmv.out _ hSw; go_simp; (try with_reducible rfl)))
     | refine xn hSG 8 [9, 10, 11, 12, 13, 14, 15, 16] rfl (by kernel_rfl) (fun _ _ _ h => h) (by rfl) hHeld ?_
    (try simp only [zq1, zq2, zq3, Act.put, zq4, zq5, zq6])
    refine wpAnyX_one (i := 9) (by kernel_rfl) rfl (fun w5 hg K hK => ?_)
    have hgS := hSG.out _ _ hHeld.out hg
    go_simp
    refine (HT.out _ (HG3.out.tr hgS)).mono ?_
    rintro e w6 ⟨⟨A, c, rfl, hi6⟩, hg6⟩
    have hg6W := hgS.tr hg6
    refine hK.out _ _ hg6W (fun hHeld => ?_)
    have hI6 := Lib.hid hi6
    clear hK K hg hgS hg6 hi6
    first
     | (refine xk hSG 10 [11, 12, 13, 14, 15, 16] (v := ?_) rfl (by kernel_rfl) (fun _ _ _ h => h) (by rfl) ?_ hHeld ?_; rotate_left; focus (intro w' hSw; obtain ⟨x0, x1, x2, x3, x4, ck⟩ := hmv.out _ hSw; go_simp; (try with_reducible rfl)))
     | refine xn hSG 10 [11, 12, 13, 14, 15, 16] rfl (by kernel_rfl) (fun _ _ _ h => h) (by rfl) hHeld ?_
    (try simp only [zq1, zq2, zq3, Act.put, zq4, zq5, zq6])
    first
     | (refine xk hSG 11 [14, 15, 16] (v := ?_) rfl (by kernel_rfl) (fun _ _ _ h => h) (by rfl) ?_ hHeld ?_; rotate_left; focus (intro w' hSw; obtain ⟨x0, x1, x2, x3, x4, ck⟩ := hmv.out _ hSw; go_simp; (try with_reducible rfl)))
     | refine xn hSG 11 [14, 15, 16] rfl (by kernel_rfl) (fun _ _ _ h => h) (by rfl) hHeld ?_
    (try simp only [zq1, zq2, zq3, Act.put, zq4, zq5, zq6])
    first
     | (refine xk hSG 14 [15, 16] (v := ?_) rfl (by kernel_rfl) (fun _ _ _ h => h) (by rfl) ?_ hHeld ?_; rotate_left; focus (intro w' hSw; obtain ⟨x0, x1, x2, x3, x4, ck⟩ := hmv.out _ hSw; go_simp; (try with_reducible rfl)))
     | refine xn hSG 14 [15, 16] rfl (by kernel_rfl) (fun _ _ _ h => h) (by rfl) hHeld ?_
    (try simp only [zq1, zq2, zq3, Act.put, zq4, zq5, zq6])
    first
     | (refine xk hSG 12 [15, 16] (v := ?_) rfl (by kernel_rfl) (fun _ _ _ h => h) (by rfl) ?_ hHeld ?_; rotate_left; focus (intro w' hSw; obtain ⟨x0, x1, x2, x3, x4, ck⟩ := hmv.out _ hSw; go_simp; (try with_reducible rfl)))
     | refine xn hSG 12 [15, 16] rfl (by kernel_rfl) (fun _ _ _ h => h) (by rfl) hHeld ?_
    (try simp only [zq1, zq2, zq3, Act.put, zq4, zq5, zq6])
    first
     | (refine xk hSG 15 [16] (v := ?_) rfl (by kernel_rfl) (fun _ _ _ h => h) (by rfl) ?_ hHeld ?_; rotate_left; focus (intro w' hSw; obtain ⟨x0, x1, x2, x3, x4, ck⟩ := hmv.out _ hSw; go_simp; (try with_reducible rfl)))
     | refine xn hSG 15 [16] rfl (by kernel_rfl) (fun _ _ _ h => h) (by rfl) hHeld ?_
    (try simp only [zq1, zq2, zq3, Act.put, zq4, zq5, zq6])
    first
     | (refine xk hSG 13 [16] (v := ?_) rfl (by kernel_rfl) (fun _ _ _ h => h) (by rfl) ?_ hHeld ?_; rotate_left; focus (intro w' hSw; obtain ⟨x0, x1, x2, x3, x4, ck⟩ := hmv.out _ hSw; go_simp; (try with_reducible rfl)))
     | refine xn hSG 13 [16] rfl (by kernel_rfl) (fun _ _ _ h => h) (by rfl) hHeld ?_
    (try simp only [zq1, zq2, zq3, Act.put, zq4, zq5, zq6])
    first
     | (refine xk hSG 16 [] (v := ?_) rfl (by kernel_rfl) (fun _ _ _ h => h) (by rfl) ?_ hHeld ?_; rotate_left; focus (intro w' hSw; obtain ⟨x0, x1, x2, x3, x4, ck⟩ := hmv.out _ hSw; go_simp; (try with_reducible rfl)))
     | refine xn hSG 16 [] rfl (by kernel_rfl) (fun _ _ _ h => h) (by rfl) hHeld ?_
    (try simp only [zq1, zq2, zq3, Act.put, zq4, zq5, zq6])
    refine wpAnyX_done (by kernel_rfl) (fun w7 hg => ?_) _
    have HG7 := Lib.hid ((HG3.out.tr hg6W).tr hg)
    have hI7 := Lib.hid (hI6.out.gr hg)
    clear hg hg6W hSG hHeld hI6 x0 x1 x2 x3 x4 ck
    rw [← hrs] at hI7 ⊢
    go_wp2
    go_ret2
    have hr := hRH.out
    subst hr
    have e1 : (if Te = 0 then (Tl, (0 : Int)) else ([], Te)) = (rs, Te) := by
      rw [hrs]; unfold trL; simp only
      split
      · rename_i h; rw [h]
      · rfl
    simp only
    rw [e1]
    exact ⟨⟨A, c, rfl, hI7.out⟩, HG7.out⟩
set_option maxHeartbeats 4000000 in
set_option maxRecDepth 100000 in
theorem RSteps_any (vs : List (Int × Int)) (VA : Option Addr) (vc : Nat) (h0 h1 h2 h3 h4 : Hd) (st : List Int) (SA : Option Addr) (sc : Nat) (e i0 i1 i2 i3 : Int) (w : World) (hV : VsR w vs VA) (hR : ∀ h ∈ [h0, h1, h2, h3, h4], InsR w h.l h.A) (hlen : ∀ h ∈ [h0, h1, h2, h3, h4], h.l.length ≤ 100000) (hS : IntsR w st SA) (hvl : vs.length ≤ 1000) :
    Calls Tryd.prog 12 #[.slice VA vs.length vc, .agg (cdA h0 h1 h2 h3 h4), .slice SA st.length sc, .agg (clA e i0 i1 i2 i3)] w (GG (.tuple #[.int .i64 (stepsF vs [h0, h1, h2, h3, h4] st e i0 i1 i2 i3).1, .int .i64 (stepsF vs [h0, h1, h2, h3, h4] st e i0 i1 i2 i3).2]) w) := by
  obtain ⟨R, hR0⟩ : ∃ R, stepsF vs [h0, h1, h2, h3, h4] st e i0 i1 i2 i3 = R := ⟨_, rfl⟩
  rw [hR0]
  obtain ⟨W2, hW2⟩ : ∃ W2, W2 = (w.alloc (.cells (cdA h0 h1 h2 h3 h4) 26)).alloc (.cells (clA e i0 i1 i2 i3) 30) := ⟨_, rfl⟩
  have HG2 := Lib.hid (show Gr w W2 by rw [hW2]; exact (grAlloc _ _).tr (grAlloc _ _))
  have HC2 := Lib.hid (show W2.heap[w.heap.size]? = some (.cells (cdA h0 h1 h2 h3 h4) 26 (0, 0)) by rw [hW2]; exact grBlk (grAlloc _ _) (nBlk _ _ _ rfl))
  have HX2 := Lib.hid (show W2.heap[w.heap.size + 1]? = some (.cells (clA e i0 i1 i2 i3) 30 (0, 0)) by rw [hW2]; exact nBlk _ _ _ (by simp))
  have HF := Lib.hid (fun wx (hg : Gr w wx) => Fits_any vs VA vc h0 h1 h2 h3 h4 st SA sc e i0 i1 i2 i3 wx (hV.gr hg) (fun h hh => (hR h hh).gr hg) hlen (hS.gr hg) hvl)
  unfold stepsF at hR0
  rcases hfit : fitB vs [h0, h1, h2, h3, h4] st e i0 i1 i2 i3 with _ | _
  · rw [hfit] at HF hR0
    simp only [Bool.false_eq_true, if_false] at hR0
    subst hR0
    clear hfit hV hR hlen hS hvl
    obtain ⟨c0, c1, c2, c3, c4⟩ := cells5k HC2.out
    obtain ⟨x0, x1, x2, x3, x4⟩ := cells5k HX2.out
    generalize vs.length = vl at *
    generalize st.length = sl at *
    go_enter Tryd.func12, Tryd.ntmps12
    go_upto_region 1 with fail
    rw [← hW2]
    clear hW2
    go_wp2_with (go_at_call 25; refine (HF.out _ HG2.out).mono ?_; rintro e w3 ⟨rfl, hg3⟩; have HG3 := Lib.hid (Gr.tr HG2.out hg3); clear hg3)
    go_ret2
    exact ⟨rfl, HG3.out⟩
  · obtain ⟨k, x, H, hek, hkx, hk5, hH, hl4, hstl, htv, hxm⟩ := fit_open rfl hfit
    have hins : ∀ n ∈ [i0, i1, i2, i3], vN n = true := by
      have h := hfit
      unfold fitB at h
      simp only [Bool.and_eq_true] at h
      exact rsB_in h.2
    rw [hfit] at HF hR0
    rw [hek, Int.toNat_natCast, hkx] at hR0
    simp only [if_true, Option.getD_some] at hR0
    subst hek
    have HT := Lib.hid (fun wx (hg : Gr w wx) => Trace_any vs VA vc x.l x.A x.c st SA sc i0 i1 i2 i3 H wx (hV.gr hg) ((hR x hxm).gr hg) (hS.gr hg) hH hl4 hstl htv hvl hins)
    have hcd := Lib.hid (fun (wx : World) (hX : wx.heap[w.heap.size]? = some (.cells (cdA h0 h1 h2 h3 h4) 26 (0, 0))) => cdAt hX hkx)
    obtain ⟨T, hT⟩ : ∃ T, run vs [i0, i1, i2, i3] x.l x.l.length 0 [] st 0 = T := ⟨_, rfl⟩
    unfold run0 at hR0
    rw [hT] at HT hR0
    have hRH := Lib.hid hR0
    clear hT hR0 hfit hV hR hlen hS hvl hkx hH hl4 hstl htv hxm hins
    obtain ⟨xl, XA, xc⟩ := x
    simp only at HT
    obtain ⟨rs, hrs⟩ : ∃ rs, rs = trL T := ⟨_, rfl⟩
    obtain ⟨Tl, Tk, Te⟩ := T
    obtain ⟨c0, c1, c2, c3, c4⟩ := cells5k HC2.out
    obtain ⟨x0, x1, x2, x3, x4⟩ := cells5k HX2.out
    generalize vs.length = vl at *
    generalize st.length = sl at *
    go_enter Tryd.func12, Tryd.ntmps12
    go_upto_region 1 with fail
    rw [← hW2]
    clear hW2
    go_upto_region 4 with (go_at_call 25; refine (HF.out _ HG2.out).mono ?_; rintro e w3 ⟨rfl, hg3⟩; have HG3 := Lib.hid (Gr.tr HG2.out hg3); have HC3 := Lib.hid (grBlk hg3 HC2.out); have HX3 := Lib.hid (grBlk hg3 HX2.out); clear hg3 HF c0 c1 c2 c3 c4 x0 x1 x2 x3 x4)
    obtain ⟨x0, x1, x2, x3, x4⟩ := cells5k HX3.out
    have ck := hcd.out _ HC3.out
    refine wp_region_X (S := fun wq => Gr w3 wq) [] (by kernel_rfl) (grDrew _) (fun hHeld => ?_)
    have hSG : Hid (∀ wp wq : World, Gr w3 wp → Gr wp wq → Gr w3 wq) := Lib.hid (fun _ _ h k => h.tr k)
    have hmv := Lib.hid (fun (wq : World) (hq : Gr w3 wq) => And.intro (grCell hq x0) (And.intro (grCell hq x1) (And.intro (grCell hq x2) (And.intro (grCell hq x3) (And.intro (grCell hq x4) (grCell hq ck))))))
    first
     | (refine xk hSG 0 [9, 10, 11, 12, 13, 14, 15, 16] (v := ?_) rfl (by kernel_rfl) (fun _ _ _ h => h) (by rfl) ?_ hHeld ?_; rotate_left; focus (intro w' hSw; obtain ⟨x0, x1, x2, x3, x4, ck⟩ := hmv.out _ hSw; go_simp; (try with_reducible rfl)))
     | refine xn hSG 0 [9, 10, 11, 12, 13, 14, 15, 16] rfl (by kernel_rfl) (fun _ _ _ h => h) (by rfl) hHeld ?_
    (try simp only [zq1, zq2, zq3, Act.put, zq4, zq5, zq6])
    first
     | (refine xk hSG 1 [2, 4, 5, 9, 10, 11, 12, 13, 14, 15, 16] (v := ?_) rfl (by kernel_rfl) (fun _ _ _ h => h) (by rfl) ?_ hHeld ?_; rotate_left; focus (intro w' hSw; obtain ⟨x0, x1, x2, x3, x4, ck⟩ := hmv.out _ hSw; go_simp; (try with_reducible rfl)))
     | refine xn hSG 1 [2, 4, 5, 9, 10, 11, 12, 13, 14, 15, 16] rfl (by kernel_rfl) (fun _ _ _ h => h) (by rfl) hHeld ?_
    (try simp only [zq1, zq2, zq3, Act.put, zq4, zq5, zq6])
    first
     | (refine xk hSG 2 [4, 5, 9, 10, 11, 12, 13, 14, 15, 16] (v := ?_) rfl (by kernel_rfl) (fun _ _ _ h => h) (by rfl) ?_ hHeld ?_; rotate_left; focus (intro w' hSw; obtain ⟨x0, x1, x2, x3, x4, ck⟩ := hmv.out _ hSw; go_simp; (try with_reducible rfl)))
     | refine xn hSG 2 [4, 5, 9, 10, 11, 12, 13, 14, 15, 16] rfl (by kernel_rfl) (fun _ _ _ h => h) (by rfl) hHeld ?_
    (try simp only [zq1, zq2, zq3, Act.put, zq4, zq5, zq6])
    first
     | (refine xk hSG 3 [4, 5, 9, 10, 11, 12, 13, 14, 15, 16] (v := ?_) rfl (by kernel_rfl) (fun _ _ _ h => h) (by rfl) ?_ hHeld ?_; rotate_left; focus (intro w' hSw; obtain ⟨x0, x1, x2, x3, x4, ck⟩ := hmv.out _ hSw; go_simp; (try with_reducible rfl)))
     | refine xn hSG 3 [4, 5, 9, 10, 11, 12, 13, 14, 15, 16] rfl (by kernel_rfl) (fun _ _ _ h => h) (by rfl) hHeld ?_
    (try simp only [zq1, zq2, zq3, Act.put, zq4, zq5, zq6])
    refine xk hSG 4 [5, 9, 10, 11, 12, 13, 14, 15, 16] (v := .pointer (some ⟨w.heap.size, k, none⟩)) rfl (by kernel_rfl) (fun _ _ _ h => h) (by rfl) ?_ hHeld ?_
    focus (intro w' hSw; obtain ⟨x0, x1, x2, x3, x4, ck⟩ := hmv.out _ hSw; go_simp; (try (intro hq; omega)))
    (try simp only [zq1, zq2, zq3, Act.put, zq4, zq5, zq6])
    first
     | (refine xk hSG 5 [9, 10, 11, 12, 13, 14, 15, 16] (v := ?_) rfl (by kernel_rfl) (fun _ _ _ h => h) (by rfl) ?_ hHeld ?_; rotate_left; focus (intro w' hSw; obtain ⟨x0, x1, x2, x3, x4, ck⟩ := hmv.out _ hSw; go_simp; (try with_reducible rfl)))
     | refine xn hSG 5 [9, 10, 11, 12, 13, 14, 15, 16] rfl (by kernel_rfl) (fun _ _ _ h => h) (by rfl) hHeld ?_
    (try simp only [zq1, zq2, zq3, Act.put, zq4, zq5, zq6])
    first
     | (refine xk hSG 6 [9, 10, 11, 12, 13, 14, 15, 16] (v := ?_) rfl (by kernel_rfl) (fun _ _ _ h => h) (by rfl) ?_ hHeld ?_; rotate_left; focus (intro w' hSw; obtain ⟨x0, x1, x2, x3, x4, ck⟩ := hmv.out _ hSw; go_simp; (try with_reducible rfl)))
     | refine xn hSG 6 [9, 10, 11, 12, 13, 14, 15, 16] rfl (by kernel_rfl) (fun _ _ _ h => h) (by rfl) hHeld ?_
    (try simp only [zq1, zq2, zq3, Act.put, zq4, zq5, zq6])
    first
     | (refine xk hSG 7 [8, 9, 10, 11, 12, 13, 14, 15, 16] (v := ?_) rfl (by kernel_rfl) (fun _ _ _ h => h) (by rfl) ?_ hHeld ?_; rotate_left; focus (intro w' hSw; obtain ⟨x0, x1, x2, x3, x4, ck⟩ := hmv.out _ hSw; go_simp; (try with_reducible rfl)))
     | refine xn hSG 7 [8, 9, 10, 11, 12, 13, 14, 15, 16] rfl (by kernel_rfl) (fun _ _ _ h => h) (by rfl) hHeld ?_
    (try simp only [zq1, zq2, zq3, Act.put, zq4, zq5, zq6])
    first
     | (refine xk hSG 8 [9, 10, 11, 12, 13, 14, 15, 16] (v := ?_) rfl (by kernel_rfl) (fun _ _ _ h => h) (by rfl) ?_ hHeld ?_; rotate_left; focus (intro w' hSw; obtain ⟨x0, x1, x2, x3, x4, ck⟩ := hmv.out _ hSw; go_simp; (try with_reducible rfl)))
     | refine xn hSG 8 [9, 10, 11, 12, 13, 14, 15, 16] rfl (by kernel_rfl) (fun _ _ _ h => h) (by rfl) hHeld ?_
    (try simp only [zq1, zq2, zq3, Act.put, zq4, zq5, zq6])
    refine wpAnyX_one (i := 9) (by kernel_rfl) rfl (fun w5 hg K hK => ?_)
    have hgS := hSG.out _ _ hHeld.out hg
    go_simp
    refine (HT.out _ (HG3.out.tr hgS)).mono ?_
    rintro e w6 ⟨⟨A, c, rfl, hi6⟩, hg6⟩
    have hg6W := hgS.tr hg6
    refine hK.out _ _ hg6W (fun hHeld => ?_)
    have hI6 := Lib.hid hi6
    clear hK K hg hgS hg6 hi6
    first
     | (refine xk hSG 10 [11, 12, 13, 14, 15, 16] (v := ?_) rfl (by kernel_rfl) (fun _ _ _ h => h) (by rfl) ?_ hHeld ?_; rotate_left; focus (intro w' hSw; obtain ⟨x0, x1, x2, x3, x4, ck⟩ := hmv.out _ hSw; go_simp; (try with_reducible rfl)))
     | refine xn hSG 10 [11, 12, 13, 14, 15, 16] rfl (by kernel_rfl) (fun _ _ _ h => h) (by rfl) hHeld ?_
    (try simp only [zq1, zq2, zq3, Act.put, zq4, zq5, zq6])
    first
     | (refine xk hSG 11 [14, 15, 16] (v := ?_) rfl (by kernel_rfl) (fun _ _ _ h => h) (by rfl) ?_ hHeld ?_; rotate_left; focus (intro w' hSw; obtain ⟨x0, x1, x2, x3, x4, ck⟩ := hmv.out _ hSw; go_simp; (try with_reducible rfl)))
     | refine xn hSG 11 [14, 15, 16] rfl (by kernel_rfl) (fun _ _ _ h => h) (by rfl) hHeld ?_
    (try simp only [zq1, zq2, zq3, Act.put, zq4, zq5, zq6])
    first
     | (refine xk hSG 14 [15, 16] (v := ?_) rfl (by kernel_rfl) (fun _ _ _ h => h) (by rfl) ?_ hHeld ?_; rotate_left; focus (intro w' hSw; obtain ⟨x0, x1, x2, x3, x4, ck⟩ := hmv.out _ hSw; go_simp; (try with_reducible rfl)))
     | refine xn hSG 14 [15, 16] rfl (by kernel_rfl) (fun _ _ _ h => h) (by rfl) hHeld ?_
    (try simp only [zq1, zq2, zq3, Act.put, zq4, zq5, zq6])
    first
     | (refine xk hSG 12 [15, 16] (v := ?_) rfl (by kernel_rfl) (fun _ _ _ h => h) (by rfl) ?_ hHeld ?_; rotate_left; focus (intro w' hSw; obtain ⟨x0, x1, x2, x3, x4, ck⟩ := hmv.out _ hSw; go_simp; (try with_reducible rfl)))
     | refine xn hSG 12 [15, 16] rfl (by kernel_rfl) (fun _ _ _ h => h) (by rfl) hHeld ?_
    (try simp only [zq1, zq2, zq3, Act.put, zq4, zq5, zq6])
    first
     | (refine xk hSG 15 [16] (v := ?_) rfl (by kernel_rfl) (fun _ _ _ h => h) (by rfl) ?_ hHeld ?_; rotate_left; focus (intro w' hSw; obtain ⟨x0, x1, x2, x3, x4, ck⟩ := hmv.out _ hSw; go_simp; (try with_reducible rfl)))
     | refine xn hSG 15 [16] rfl (by kernel_rfl) (fun _ _ _ h => h) (by rfl) hHeld ?_
    (try simp only [zq1, zq2, zq3, Act.put, zq4, zq5, zq6])
    first
     | (refine xk hSG 13 [16] (v := ?_) rfl (by kernel_rfl) (fun _ _ _ h => h) (by rfl) ?_ hHeld ?_; rotate_left; focus (intro w' hSw; obtain ⟨x0, x1, x2, x3, x4, ck⟩ := hmv.out _ hSw; go_simp; (try with_reducible rfl)))
     | refine xn hSG 13 [16] rfl (by kernel_rfl) (fun _ _ _ h => h) (by rfl) hHeld ?_
    (try simp only [zq1, zq2, zq3, Act.put, zq4, zq5, zq6])
    first
     | (refine xk hSG 16 [] (v := ?_) rfl (by kernel_rfl) (fun _ _ _ h => h) (by rfl) ?_ hHeld ?_; rotate_left; focus (intro w' hSw; obtain ⟨x0, x1, x2, x3, x4, ck⟩ := hmv.out _ hSw; go_simp; (try with_reducible rfl)))
     | refine xn hSG 16 [] rfl (by kernel_rfl) (fun _ _ _ h => h) (by rfl) hHeld ?_
    (try simp only [zq1, zq2, zq3, Act.put, zq4, zq5, zq6])
    refine wpAnyX_done (by kernel_rfl) (fun w7 hg => ?_) _
    have HG7 := Lib.hid ((HG3.out.tr hg6W).tr hg)
    have hI7 := Lib.hid (hI6.out.gr hg)
    clear hg hg6W hSG hHeld hI6 x0 x1 x2 x3 x4 ck
    rw [← hrs] at hI7 ⊢
    go_wp2
    go_ret2
    have hr := hRH.out
    subst hr
    exact ⟨rfl, HG7.out⟩
end N
end Go.Proofs.YthgngkajdiclcaaDoor
