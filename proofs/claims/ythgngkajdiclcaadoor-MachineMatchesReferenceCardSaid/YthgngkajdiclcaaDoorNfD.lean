/- MachineAlone: its contract. Conditions: the laid variables. -/
import Derived.Test.YthgngkajdiclcaaDoorNfC
namespace Go.Proofs.YthgngkajdiclcaaDoor
open Go.RowKit
set_option linter.unusedVariables false
set_option linter.unusedSimpArgs false
namespace N
open K
def al (x : Hd) (k j : Nat) : Hd := if j = k then x else nH
abbrev alL (x : Hd) (k : Nat) : List Hd := [al x k 0, al x k 1, al x k 2, al x k 3, al x k 4]
theorem al_set {x : Hd} {k : Nat} (hk : k < 5) : (cdA nH nH nH nH nH).setIfInBounds k (hdV x) = cdA (al x k 0) (al x k 1) (al x k 2) (al x k 3) (al x k 4) := by
  rcases k with _ | _ | _ | _ | _ | k
  · rfl
  · rfl
  · rfl
  · rfl
  · rfl
  · omega
theorem al_at {x : Hd} {k : Nat} (hk : k < 5) : (alL x k)[k]? = some x := by
  rcases k with _ | _ | _ | _ | _ | k
  · rfl
  · rfl
  · rfl
  · rfl
  · rfl
  · omega
theorem al_or {x : Hd} {k : Nat} : ∀ h ∈ alL x k, h = x ∨ h = nH := by
  intro h hh
  simp only [List.mem_cons, List.not_mem_nil, or_false, al] at hh
  rcases hh with rfl | rfl | rfl | rfl | rfl <;> (split <;> simp)
theorem ver_nil (vars : Int) : verH [] vars = true := by rfl
theorem al_fit {vs : List (Int × Int)} {hs : List Hd} {st : List Int} {i0 i1 i2 i3 : Int} {k : Nat} {x : Hd} (hx : x ∈ hs) (h : fitB vs hs st k i0 i1 i2 i3 = true) : fitB vs (alL x k) st k i0 i1 i2 i3 = true := by
  unfold fitB verC verAll at *
  simp only [Bool.and_eq_true, List.all_eq_true] at *
  refine ⟨⟨⟨h.1.1.1, fun y hy => ?_⟩, h.1.2⟩, h.2⟩
  rcases al_or y hy with rfl | rfl
  · exact h.1.1.2 _ hx
  · exact ver_nil _
theorem al_run {vs : List (Int × Int)} {hs : List Hd} {st : List Int} {i0 i1 i2 i3 : Int} {k : Nat} {x : Hd} (hk : k < 5) (hx : x ∈ hs) (hkx : hs[k]? = some x) (h : fitB vs hs st k i0 i1 i2 i3 = true) : runF vs (alL x k) st k i0 i1 i2 i3 = runF vs hs st k i0 i1 i2 i3 := by
  unfold runF
  rw [h, al_fit hx h, Int.toNat_natCast, al_at hk, hkx]
theorem runF_len {vs : List (Int × Int)} {hs : List Hd} {st : List Int} {e i0 i1 i2 i3 : Int} : (runF vs hs st e i0 i1 i2 i3).1.length ≤ st.length := by
  unfold runF
  split
  · split
    · simp only; unfold run0; rw [run_len]; exact Nat.le_refl _
    · exact Nat.zero_le _
  · exact Nat.zero_le _
theorem ints_self : ∀ l : List Int, eqB l l = true
  | [] => rfl
  | n :: l => by rw [eqB, ints_self l]; simp
theorem intsB_self (l : List Int) : intsB l l = true := by unfold intsB; simp [ints_self]
theorem law_open {vs : List (Int × Int)} {hs : List Hd} {st : List Int} {e i0 i1 i2 i3 : Int} (h : lawF vs hs st e i0 i1 i2 i3 = true) : (∀ x ∈ hs, x.l.length ≤ 4000) ∧ vs.length ≤ 30 ∧ st.length ≤ 30 ∧ fitB vs hs st e i0 i1 i2 i3 = true := by
  unfold lawF at h
  simp only [Bool.and_eq_true, decide_eq_true_eq] at h
  exact ⟨fun x hx => by have := short_all h.1.1.1 x hx; omega, by omega, by omega, h.2⟩
set_option maxHeartbeats 8000000 in
set_option maxRecDepth 100000 in
theorem Alone_any (vs : List (Int × Int)) (VA : Option Addr) (vc : Nat) (h0 h1 h2 h3 h4 : Hd) (st : List Int) (SA : Option Addr) (sc : Nat) (e i0 i1 i2 i3 : Int) (w : World) (hE : LaidE w) (hI : LaidI w) (hV : VsR w vs VA) (hR : ∀ h ∈ [h0, h1, h2, h3, h4], InsR w h.l h.A) (hS : IntsR w st SA) (hn : SA = none → sc = 0) :
    Calls Tryd.prog 6 #[.slice VA vs.length vc, .agg (cdA h0 h1 h2 h3 h4), .slice SA st.length sc, .agg (clA e i0 i1 i2 i3)] w (BB true w) := by
  obtain ⟨W2, hW2⟩ : ∃ W2, W2 = (w.alloc (.cells (cdA h0 h1 h2 h3 h4) 26)).alloc (.cells (clA e i0 i1 i2 i3) 30) := ⟨_, rfl⟩
  have hG2 : Gr w W2 := by rw [hW2]; exact (grAlloc _ _).tr (grAlloc _ _)
  have HG2 := Lib.hid hG2
  have HC2 := Lib.hid (show W2.heap[w.heap.size]? = some (.cells (cdA h0 h1 h2 h3 h4) 26 (0, 0)) by rw [hW2]; exact grBlk (grAlloc _ _) (nBlk _ _ _ rfl))
  have HX2 := Lib.hid (show W2.heap[w.heap.size + 1]? = some (.cells (clA e i0 i1 i2 i3) 30 (0, 0)) by rw [hW2]; exact nBlk _ _ _ (by simp))
  have HHd := Lib.hid (head_any W2 (hE.gr hG2) (hI.gr hG2))
  have HF := Lib.hid (fun wx (hg : Gr w wx) => fitsL_any vs VA vc h0 h1 h2 h3 h4 st SA sc e i0 i1 i2 i3 wx (hV.gr hg) (fun h hh => (hR h hh).gr hg) (hS.gr hg))
  have HE := Lib.hid hE
  have HI := Lib.hid hI
  have HV := Lib.hid hV
  have HR := Lib.hid hR
  have HS := Lib.hid hS
  have hnH := Lib.hid hn
  clear hE hI hV hR hS hn hG2
  go_enter Tryd.func6, Tryd.ntmps6
  go_upto_region 1 with fail
  rw [← hW2]
  clear hW2
  go_upto_region 2 with (go_at_call 7; refine HHd.out.mono ?_; rintro e w3 ⟨rfl, hg3⟩; have HG3 := Lib.hid (Gr.tr HG2.out hg3); have HC3 := Lib.hid (grBlk hg3 HC2.out); have HX3 := Lib.hid (grBlk hg3 HX2.out); clear hg3 HHd)
  obtain ⟨c0, c1, c2, c3, c4⟩ := cells5k HC3.out
  obtain ⟨x0, x1, x2, x3, x4⟩ := cells5k HX3.out
  rcases hok : lawF vs [h0, h1, h2, h3, h4] st e i0 i1 i2 i3 with _ | _
  · rw [hok] at HF
    clear hok
    generalize vs.length = vl at *
    generalize st.length = sl at *
    go_wp2_with (go_at_call 14; refine (HF.out _ HG3.out).mono ?_; rintro e w4 ⟨rfl, hg4⟩; have HG4 := Lib.hid (Gr.tr HG3.out hg4); clear hg4)
    go_ret
    exact ⟨rfl, HG4.out⟩
  · rw [hok] at HF
    obtain ⟨hl4, hvl, hsl, hfit⟩ := law_open hok
    obtain ⟨k, x, H, hek, hkx, hk5, -, -, -, -, hxm⟩ := fit_open rfl hfit
    subst hek
    have hrun := al_run hk5 hxm hkx hfit
    have hRl := runF_len (vs := vs) (hs := [h0, h1, h2, h3, h4]) (st := st) (e := k) (i0 := i0) (i1 := i1) (i2 := i2) (i3 := i3)
    have HR1 := Lib.hid (fun wx (hg : Gr w wx) => Run_any vs VA vc h0 h1 h2 h3 h4 st SA sc k i0 i1 i2 i3 wx (HV.out.gr hg) (fun h hh => (HR.out h hh).gr hg) (fun h hh => by have := hl4 h hh; omega) (HS.out.gr hg) (HE.out.gr hg) (HI.out.gr hg) (by omega) hnH.out)
    have HR2 := Lib.hid (fun wx (hg : Gr w wx) => Run_any vs VA vc (al x k 0) (al x k 1) (al x k 2) (al x k 3) (al x k 4) st SA sc k i0 i1 i2 i3 wx (HV.out.gr hg) (fun h hh => by
      rcases al_or h hh with rfl | rfl
      · exact (HR.out _ hxm).gr hg
      · exact .inl rfl) (fun h hh => by
      rcases al_or h hh with rfl | rfl
      · have := hl4 _ hxm; omega
      · exact Nat.zero_le _) (HS.out.gr hg) (HE.out.gr hg) (HI.out.gr hg) (by omega) hnH.out)
    rw [hrun] at HR2
    obtain ⟨rs, hrs⟩ : ∃ rs, (runF vs [h0, h1, h2, h3, h4] st k i0 i1 i2 i3).1 = rs := ⟨_, rfl⟩
    obtain ⟨er, her⟩ : ∃ er, (runF vs [h0, h1, h2, h3, h4] st k i0 i1 i2 i3).2 = er := ⟨_, rfl⟩
    rw [hrs, her] at HR1 HR2
    rw [hrs] at hRl
    have hrl := Lib.hid (show rs.length ≤ 1000000 by omega)
    have hcd := Lib.hid (fun (wx : World) (hX : wx.heap[w.heap.size]? = some (.cells (cdA h0 h1 h2 h3 h4) 26 (0, 0))) => cdAt hX hkx)
    clear hok hl4 hvl hsl hfit hkx hxm hrun hRl hrs her
    generalize vs.length = vl at *
    generalize st.length = sl at *
    go_upto_region 6 with (go_at_call 14; refine (HF.out _ HG3.out).mono ?_; rintro e w4 ⟨rfl, hg4⟩; have HG4 := Lib.hid (Gr.tr HG3.out hg4); have HC4 := Lib.hid (grBlk hg4 HC3.out); have HX4 := Lib.hid (grBlk hg4 HX3.out); clear hg4 HF)
    clear c0 c1 c2 c3 c4 x0 x1 x2 x3 x4 HC3 HX3 HG3
    obtain ⟨W5, hW5⟩ : ∃ W5, W5 = w4.alloc (.cells (cdA nH nH nH nH nH) 26) := ⟨_, rfl⟩
    have hg5 : Gr w4 W5 := by rw [hW5]; exact grAlloc _ _
    have HG5 := Lib.hid (HG4.out.tr hg5)
    have HC5 := Lib.hid (grBlk hg5 HC4.out)
    have HX5 := Lib.hid (grBlk hg5 HX4.out)
    have HN5 := Lib.hid (show W5.heap[w4.heap.size]? = some (.cells (cdA nH nH nH nH nH) 26 (0, 0)) by rw [hW5]; exact nBlk _ _ _ rfl)
    have hs4 := Lib.hid (show w.heap.size ≤ w4.heap.size from HG4.out.size)
    have hs5 := Lib.hid (show w.heap.size + 1 < w4.heap.size from blkLt HX4.out)
    rw [show w4.alloc (.cells #[.slice none 0 0, .slice none 0 0, .slice none 0 0, .slice none 0 0, .slice none 0 0] 26) = W5 from hW5.symm]
    clear hW5 hg5 HC4 HX4 HG4
    obtain ⟨x0, x1, x2, x3, x4⟩ := cells5k HX5.out
    have ck := hcd.out _ HC5.out
    refine wp_region_X (S := fun wq => Gr W5 wq) [9] (by kernel_rfl) (grDrew _) (fun hHeld => ?_)
    have hSG : Hid (∀ wp wq : World, Gr W5 wp → Gr wp wq → Gr W5 wq) := Lib.hid (fun _ _ h k => h.tr k)
    have hmv := Lib.hid (fun (wq : World) (hq : Gr W5 wq) => And.intro (grCell hq x0) (grCell hq ck))
    first
     | (refine xk hSG 0 [1, 8, 9] (v := ?_) rfl (by kernel_rfl) (fun _ _ _ h => h) (by rfl) ?_ hHeld ?_; rotate_left; focus (intro w' hSw; obtain ⟨x0, ck⟩ := hmv.out _ hSw; go_simp; (try with_reducible rfl)))
     | refine xn hSG 0 [1, 8, 9] rfl (by kernel_rfl) (fun _ _ _ h => h) (by rfl) hHeld ?_
    (try simp only [zq1, zq2, zq3, Act.put, zq4, zq5, zq6])
    first
     | (refine xk hSG 1 [8, 9] (v := ?_) rfl (by kernel_rfl) (fun _ _ _ h => h) (by rfl) ?_ hHeld ?_; rotate_left; focus (intro w' hSw; obtain ⟨x0, ck⟩ := hmv.out _ hSw; go_simp; (try with_reducible rfl)))
     | refine xn hSG 1 [8, 9] rfl (by kernel_rfl) (fun _ _ _ h => h) (by rfl) hHeld ?_
    (try simp only [zq1, zq2, zq3, Act.put, zq4, zq5, zq6])
    first
     | (refine xk hSG 2 [3, 5, 6, 8, 9] (v := ?_) rfl (by kernel_rfl) (fun _ _ _ h => h) (by rfl) ?_ hHeld ?_; rotate_left; focus (intro w' hSw; obtain ⟨x0, ck⟩ := hmv.out _ hSw; go_simp; (try with_reducible rfl)))
     | refine xn hSG 2 [3, 5, 6, 8, 9] rfl (by kernel_rfl) (fun _ _ _ h => h) (by rfl) hHeld ?_
    (try simp only [zq1, zq2, zq3, Act.put, zq4, zq5, zq6])
    first
     | (refine xk hSG 3 [5, 6, 8, 9] (v := ?_) rfl (by kernel_rfl) (fun _ _ _ h => h) (by rfl) ?_ hHeld ?_; rotate_left; focus (intro w' hSw; obtain ⟨x0, ck⟩ := hmv.out _ hSw; go_simp; (try with_reducible rfl)))
     | refine xn hSG 3 [5, 6, 8, 9] rfl (by kernel_rfl) (fun _ _ _ h => h) (by rfl) hHeld ?_
    (try simp only [zq1, zq2, zq3, Act.put, zq4, zq5, zq6])
    first
     | (refine xk hSG 4 [5, 6, 8, 9] (v := ?_) rfl (by kernel_rfl) (fun _ _ _ h => h) (by rfl) ?_ hHeld ?_; rotate_left; focus (intro w' hSw; obtain ⟨x0, ck⟩ := hmv.out _ hSw; go_simp; (try with_reducible rfl)))
     | refine xn hSG 4 [5, 6, 8, 9] rfl (by kernel_rfl) (fun _ _ _ h => h) (by rfl) hHeld ?_
    (try simp only [zq1, zq2, zq3, Act.put, zq4, zq5, zq6])
    refine xk hSG 5 [6, 8, 9] (v := .pointer (some ⟨w.heap.size, k, none⟩)) rfl (by kernel_rfl) (fun _ _ _ h => h) (by rfl) ?_ hHeld ?_
    focus (intro w' hSw; obtain ⟨x0, ck⟩ := hmv.out _ hSw; go_simp; (try (intro hq; omega)))
    (try simp only [zq1, zq2, zq3, Act.put, zq4, zq5, zq6])
    first
     | (refine xk hSG 6 [8, 9] (v := ?_) rfl (by kernel_rfl) (fun _ _ _ h => h) (by rfl) ?_ hHeld ?_; rotate_left; focus (intro w' hSw; obtain ⟨x0, ck⟩ := hmv.out _ hSw; go_simp; (try with_reducible rfl)))
     | refine xn hSG 6 [8, 9] rfl (by kernel_rfl) (fun _ _ _ h => h) (by rfl) hHeld ?_
    (try simp only [zq1, zq2, zq3, Act.put, zq4, zq5, zq6])
    first
     | (refine xk hSG 7 [8, 9] (v := ?_) rfl (by kernel_rfl) (fun _ _ _ h => h) (by rfl) ?_ hHeld ?_; rotate_left; focus (intro w' hSw; obtain ⟨x0, ck⟩ := hmv.out _ hSw; go_simp; (try with_reducible rfl)))
     | refine xn hSG 7 [8, 9] rfl (by kernel_rfl) (fun _ _ _ h => h) (by rfl) hHeld ?_
    (try simp only [zq1, zq2, zq3, Act.put, zq4, zq5, zq6])
    refine xk hSG 8 [9] (v := .pointer (some ⟨w4.heap.size, k, none⟩)) rfl (by kernel_rfl) (fun _ _ _ h => h) (by rfl) ?_ hHeld ?_
    focus (intro w' hSw; obtain ⟨x0, ck⟩ := hmv.out _ hSw; go_simp; (try (intro hq; omega)))
    (try simp only [zq1, zq2, zq3, Act.put, zq4, zq5, zq6])
    refine wpAnyX_oneX (i := 9) (by kernel_rfl) (by kernel_rfl) rfl (fun w6 hg K hK => ?_)
    have hg6 := hHeld.out.tr hg
    have HN6 := grBlk hg6 HN5.out
    obtain ⟨z0, z1, z2, z3, z4⟩ := cells5k HN6
    have cz : ∃ u, w6.cell? ⟨w4.heap.size, k, none⟩ = some u := by
      rw [cell_of_row _ _ k _ _ (0, 0) HN6]
      rcases k with _ | _ | _ | _ | _ | k
      · exact ⟨_, rfl⟩
      · exact ⟨_, rfl⟩
      · exact ⟨_, rfl⟩
      · exact ⟨_, rfl⟩
      · exact ⟨_, rfl⟩
      · omega
    obtain ⟨uz, cz⟩ := cz
    have dz := frz HN6 k
    go_simp
    refine hK.out _ _ ?_
    have HA6 := Lib.hid (show (w6.setCell ⟨w4.heap.size, k, none⟩ (hdV x)).heap[w4.heap.size]? = some (.cells (cdA (al x k 0) (al x k 1) (al x k 2) (al x k 3) (al x k 4)) 26 (0, 0)) by rw [heap_setCell_same _ w4.heap.size k _ _ _ HN6, al_set hk5])
    have HC6 := Lib.hid (oth (i := k) (v := hdV x) (grBlk hg6 HC5.out) (show w.heap.size ≠ w4.heap.size by have := hs5.out; omega))
    have HX6 := Lib.hid (oth (i := k) (v := hdV x) (grBlk hg6 HX5.out) (show w.heap.size + 1 ≠ w4.heap.size by have := hs5.out; omega))
    have HG6 := Lib.hid (belK (i := k) (u := hdV x) (HG5.out.tr hg6) hs4.out)
    clear hK K hg hHeld hSG hg6 HN6 z0 z1 z2 z3 z4 cz dz uz x0 x1 x2 x3 x4 ck HN5 HC5 HX5 HG5
    refine wpAnyX_done (by kernel_rfl) (fun w7 hg => ?_) _
    have HA7 := Lib.hid (grBlk hg HA6.out)
    have HC7 := Lib.hid (grBlk hg HC6.out)
    have HX7 := Lib.hid (grBlk hg HX6.out)
    have HG7 := Lib.hid (Gr.tr HG6.out hg)
    clear hg HA6 HC6 HX6 HG6
    obtain ⟨c0, c1, c2, c3, c4⟩ := cells5k HC7.out
    obtain ⟨x0, x1, x2, x3, x4⟩ := cells5k HX7.out
    go_wp2_with fail
    refine (HR1.out _ HG7.out).mono ?_
    rintro e w8 ⟨⟨A1, k1, rfl, hI1, -⟩, hg8⟩
    have HA8 := Lib.hid (grBlk hg8 HA7.out)
    have HX8 := Lib.hid (grBlk hg8 HX7.out)
    have HG8 := Lib.hid (Gr.tr HG7.out hg8)
    have HI1 := Lib.hid hI1
    clear hg8 hI1 c0 c1 c2 c3 c4 x0 x1 x2 x3 x4 HC7 HX7 HG7 HA7
    obtain ⟨c0, c1, c2, c3, c4⟩ := cells5k HA8.out
    obtain ⟨x0, x1, x2, x3, x4⟩ := cells5k HX8.out
    go_wp2_with fail
    refine (HR2.out _ HG8.out).mono ?_
    rintro e w9 ⟨⟨A2, k2, rfl, hI2, -⟩, hg9⟩
    have HIn := Ints_any rs rs A1 A2 k1 k2 w9 (HI1.out.gr hg9) hI2 hrl.out
    rw [intsB_self] at HIn
    have HIn := Lib.hid HIn
    have HG9 := Lib.hid (Gr.tr HG8.out hg9)
    clear hg9 hI2 c0 c1 c2 c3 c4 x0 x1 x2 x3 x4 HI1
    go_wp2_with (go_at_call 13; refine HIn.out.mono ?_; rintro e wa ⟨rfl, hga⟩; have HGa := Lib.hid (Gr.tr HG9.out hga); clear hga)
    go_ret
    exact ⟨rfl, HGa.out⟩
end N
end Go.Proofs.YthgngkajdiclcaaDoor
