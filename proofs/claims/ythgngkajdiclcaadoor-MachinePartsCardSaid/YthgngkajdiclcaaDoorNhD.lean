/- MachineParts: its contract. Conditions: the laid variables. -/
import Derived.Test.YthgngkajdiclcaaDoorNhC
import Derived.Test.YthgngkajdiclcaaDoorNfD
namespace Go.Proofs.YthgngkajdiclcaaDoor
open Go.RowKit
set_option linter.unusedVariables false
set_option linter.unusedSimpArgs false
namespace N
open K
theorem parts_all {vs : List (Int × Int)} {hs gs : List Hd} {st : List Int} {k : Nat} {i0 i1 i2 i3 : Int} {x y : Hd} (hl : hs.length = 5) (gl : gs.length = 5) (hkx : hs[k]? = some x) (hky : gs[k]? = some y) (hxl : x.l.length ≤ 2000) (hyl : y.l.length ≤ 2000)
    (h : fitB vs hs st k i0 i1 i2 i3 = true) (hd : verC gs vs.length = true) :
    ∃ (rb : List Int) (eb nb : Int), (∀ z : Hd, z.l = jn x.l y.l → runF vs (hs.set k z) st k i0 i1 i2 i3 = (rb, eb) ∧ stepsF vs (hs.set k z) st k i0 i1 i2 i3 = (nb, 0)) ∧
    (((runF vs hs st k i0 i1 i2 i3).2 ≠ 0 ∧ eb = (runF vs hs st k i0 i1 i2 i3).2 ∧ nb = (stepsF vs hs st k i0 i1 i2 i3).1) ∨
     ((runF vs hs st k i0 i1 i2 i3).2 = 0 ∧ runF vs gs (runF vs hs st k i0 i1 i2 i3).1 k i0 i1 i2 i3 = (rb, eb) ∧ ∃ mm, stepsF vs gs (runF vs hs st k i0 i1 i2 i3).1 k i0 i1 i2 i3 = (mm, 0) ∧ nb = (stepsF vs hs st k i0 i1 i2 i3).1 + mm ∧ 0 ≤ mm ∧ mm ≤ 2000)) := by
  have hk5 : k < 5 := by have := (List.getElem?_eq_some_iff.1 hkx).1; omega
  have hff := run_facts hl hkx h
  have h' := h
  unfold fitB at h'
  simp only [Bool.and_eq_true] at h'
  obtain ⟨⟨hv, hs2⟩, hc⟩ := h'
  have hzv : verH (jn x.l y.l) vs.length = true := ver_jn (verC_at hv hkx) (verC_at hd hky) (by omega)
  have hb : ∀ z : Hd, z.l = jn x.l y.l → fitB vs (hs.set k z) st k i0 i1 i2 i3 = true := by
    intro z hz
    unfold fitB
    simp only [Bool.and_eq_true]
    exact ⟨⟨verC_set hv (by rw [hz]; exact hzv), hs2⟩, hc⟩
  have hkz : ∀ z : Hd, (hs.set k z)[k]? = some z := fun z => by rw [List.getElem?_set_self (by omega)]
  obtain ⟨-, H, a1, a2, a3⟩ := ver_spec (verC_at hv hkx)
  obtain ⟨-, G, b1, b2, b3⟩ := ver_spec (verC_at hd hky)
  unfold stB at hs2
  simp only [Bool.and_eq_true, decide_eq_true_eq] at hs2
  have hj := run0_j (ins := [i0, i1, i2, i3]) (a := x.l) (b := y.l) ⟨a1, a2, a3⟩ ⟨b1, b2, b3⟩ (inLB_v hs2.1 hs2.2) hs2.1
  have hR : runF vs hs st k i0 i1 i2 i3 = if (run0 vs [i0, i1, i2, i3] x.l st).2.2 = 0 then ((run0 vs [i0, i1, i2, i3] x.l st).1, 0) else ([], (run0 vs [i0, i1, i2, i3] x.l st).2.2) := by
    unfold runF; rw [h, Int.toNat_natCast, hkx]; rfl
  have hS : stepsF vs hs st k i0 i1 i2 i3 = ((((run0 vs [i0, i1, i2, i3] x.l st).2.1 : Nat) : Int), 0) := by
    unfold stepsF; rw [h, Int.toNat_natCast, hkx]; rfl
  have hR2 : ∀ z : Hd, z.l = jn x.l y.l → runF vs (hs.set k z) st k i0 i1 i2 i3 = if (run0 vs [i0, i1, i2, i3] (jn x.l y.l) st).2.2 = 0 then ((run0 vs [i0, i1, i2, i3] (jn x.l y.l) st).1, 0) else ([], (run0 vs [i0, i1, i2, i3] (jn x.l y.l) st).2.2) := by
    intro z hz
    unfold runF; rw [hb z hz, Int.toNat_natCast, hkz, ← hz]; rfl
  have hS2 : ∀ z : Hd, z.l = jn x.l y.l → stepsF vs (hs.set k z) st k i0 i1 i2 i3 = ((((run0 vs [i0, i1, i2, i3] (jn x.l y.l) st).2.1 : Nat) : Int), 0) := by
    intro z hz
    unfold stepsF; rw [hb z hz, Int.toNat_natCast, hkz, ← hz]; rfl
  by_cases h0 : (run0 vs [i0, i1, i2, i3] x.l st).2.2 = 0
  · rw [if_pos h0] at hR hj
    have hst2 : stB vs (run0 vs [i0, i1, i2, i3] x.l st).1 = true := by
      rcases hff.2.2.2.2 with h5 | h5
      · have := h5.2.1; rw [hR] at this; exact this
      · have := h5.1; rw [hR] at this; simp only at this; omega
    have hg : fitB vs gs (run0 vs [i0, i1, i2, i3] x.l st).1 k i0 i1 i2 i3 = true := by
      unfold fitB
      simp only [Bool.and_eq_true]
      exact ⟨⟨hd, hst2⟩, hc⟩
    obtain ⟨g0, g1, g2, -, -⟩ := run_facts gl hky hg
    have hq : stepsF vs gs (run0 vs [i0, i1, i2, i3] x.l st).1 k i0 i1 i2 i3 = ((((run0 vs [i0, i1, i2, i3] y.l (run0 vs [i0, i1, i2, i3] x.l st).1).2.1 : Nat) : Int), 0) := by
      unfold stepsF; rw [hg, Int.toNat_natCast, hky]; rfl
    have hq2 : runF vs gs (run0 vs [i0, i1, i2, i3] x.l st).1 k i0 i1 i2 i3 = if (run0 vs [i0, i1, i2, i3] y.l (run0 vs [i0, i1, i2, i3] x.l st).1).2.2 = 0 then ((run0 vs [i0, i1, i2, i3] y.l (run0 vs [i0, i1, i2, i3] x.l st).1).1, 0) else ([], (run0 vs [i0, i1, i2, i3] y.l (run0 vs [i0, i1, i2, i3] x.l st).1).2.2) := by
      unfold runF; rw [hg, Int.toNat_natCast, hky]; rfl
    rw [hq] at g0 g1 g2
    rw [hR, hS]
    simp only
    rw [hj] at hR2 hS2
    simp only at hR2 hS2 g1 g2
    rw [hq, hq2]
    obtain ⟨R, hRR⟩ : ∃ R, (if (run0 vs [i0, i1, i2, i3] y.l (run0 vs [i0, i1, i2, i3] x.l st).1).2.2 = 0 then ((run0 vs [i0, i1, i2, i3] y.l (run0 vs [i0, i1, i2, i3] x.l st).1).1, (0 : Int)) else ([], (run0 vs [i0, i1, i2, i3] y.l (run0 vs [i0, i1, i2, i3] x.l st).1).2.2)) = R := ⟨_, rfl⟩
    rw [hRR] at hR2
    obtain ⟨rb, eb⟩ := R
    refine ⟨rb, eb, _, fun z hz => ⟨hR2 z hz, hS2 z hz⟩, .inr ⟨trivial, hRR, _, rfl, by omega, g1, by omega⟩⟩
  · rw [if_neg h0] at hR hj
    rw [hj] at hR2 hS2
    refine ⟨[], (run0 vs [i0, i1, i2, i3] x.l st).2.2, _, fun z hz => ⟨(hR2 z hz).trans (if_neg h0), hS2 z hz⟩, .inl ?_⟩
    rw [hS, hR]
    exact ⟨h0, rfl, rfl⟩
def p5 (z : Hd) (k j : Nat) (h : Hd) : Hd := if j = k then z else h
theorem p5_set {z h0 h1 h2 h3 h4 : Hd} {k : Nat} (hk : k < 5) : (cdA h0 h1 h2 h3 h4).setIfInBounds k (hdV z) = cdA (p5 z k 0 h0) (p5 z k 1 h1) (p5 z k 2 h2) (p5 z k 3 h3) (p5 z k 4 h4) := by
  rcases k with _ | _ | _ | _ | _ | k
  · rfl
  · rfl
  · rfl
  · rfl
  · rfl
  · omega
theorem p5_list {z h0 h1 h2 h3 h4 : Hd} {k : Nat} (hk : k < 5) : [p5 z k 0 h0, p5 z k 1 h1, p5 z k 2 h2, p5 z k 3 h3, p5 z k 4 h4] = [h0, h1, h2, h3, h4].set k z := by
  rcases k with _ | _ | _ | _ | _ | k
  · rfl
  · rfl
  · rfl
  · rfl
  · rfl
  · omega
theorem p5_or {z h0 h1 h2 h3 h4 : Hd} {k : Nat} : ∀ h ∈ [p5 z k 0 h0, p5 z k 1 h1, p5 z k 2 h2, p5 z k 3 h3, p5 z k 4 h4], h = z ∨ h ∈ [h0, h1, h2, h3, h4] := by
  intro h hh
  simp only [List.mem_cons, List.not_mem_nil, or_false, p5] at hh ⊢
  rcases hh with rfl | rfl | rfl | rfl | rfl <;> (split <;> simp)
set_option maxHeartbeats 16000000 in
set_option maxRecDepth 100000 in
theorem Parts_any (vs : List (Int × Int)) (VA : Option Addr) (vc : Nat) (h0 h1 h2 h3 h4 g0 g1 g2 g3 g4 : Hd) (st : List Int) (SA : Option Addr) (sc : Nat) (e i0 i1 i2 i3 : Int) (w : World) (hE : LaidE w) (hI : LaidI w) (hV : VsR w vs VA) (hR : ∀ h ∈ [h0, h1, h2, h3, h4], InsR w h.l h.A) (hRd : ∀ h ∈ [g0, g1, g2, g3, g4], InsR w h.l h.A) (hS : IntsR w st SA) (hn : SA = none → sc = 0) :
    Calls Tryd.prog 5 #[.slice VA vs.length vc, .agg (cdA h0 h1 h2 h3 h4), .agg (cdA g0 g1 g2 g3 g4), .slice SA st.length sc, .agg (clA e i0 i1 i2 i3)] w (BB true w) := by
  obtain ⟨W2, hW2⟩ : ∃ W2, W2 = ((w.alloc (.cells (cdA h0 h1 h2 h3 h4) 26)).alloc (.cells (cdA g0 g1 g2 g3 g4) 26)).alloc (.cells (clA e i0 i1 i2 i3) 30) := ⟨_, rfl⟩
  have hG2 : Gr w W2 := by rw [hW2]; exact ((grAlloc _ _).tr (grAlloc _ _)).tr (grAlloc _ _)
  have HG2 := Lib.hid hG2
  have HC2 := Lib.hid (show W2.heap[w.heap.size]? = some (.cells (cdA h0 h1 h2 h3 h4) 26 (0, 0)) by rw [hW2]; exact grBlk ((grAlloc _ _).tr (grAlloc _ _)) (nBlk _ _ _ rfl))
  have HD2 := Lib.hid (show W2.heap[w.heap.size + 1]? = some (.cells (cdA g0 g1 g2 g3 g4) 26 (0, 0)) by rw [hW2]; exact grBlk (grAlloc _ _) (nBlk _ _ _ (by simp)))
  have HX2 := Lib.hid (show W2.heap[w.heap.size + 1 + 1]? = some (.cells (clA e i0 i1 i2 i3) 30 (0, 0)) by rw [hW2]; exact nBlk _ _ _ (by simp))
  have HHd := Lib.hid (head_any W2 (hE.gr hG2) (hI.gr hG2))
  have HF := Lib.hid (fun wx (hg : Gr w wx) => fitsL_any vs VA vc h0 h1 h2 h3 h4 st SA sc e i0 i1 i2 i3 wx (hV.gr hg) (fun h hh => (hR h hh).gr hg) (hS.gr hg))
  have HSh := Lib.hid (fun wx => Short_any g0 g1 g2 g3 g4 2000 wx)
  have HE := Lib.hid hE
  have HI := Lib.hid hI
  have HV := Lib.hid hV
  have HR := Lib.hid hR
  have HRd := Lib.hid hRd
  have HS := Lib.hid hS
  have hnH := Lib.hid hn
  clear hE hI hV hR hRd hS hn hG2
  go_enter Tryd.func5, Tryd.ntmps5
  go_upto_region 1 with fail
  rw [← hW2]
  clear hW2
  go_upto_region 2 with (go_at_call 7; refine HHd.out.mono ?_; rintro e w3 ⟨rfl, hg3⟩; have HG3 := Lib.hid (Gr.tr HG2.out hg3); have HC3 := Lib.hid (grBlk hg3 HC2.out); have HD3 := Lib.hid (grBlk hg3 HD2.out); have HX3 := Lib.hid (grBlk hg3 HX2.out); clear hg3 HHd)
  obtain ⟨c0, c1, c2, c3, c4⟩ := cells5k HC3.out
  obtain ⟨x0, x1, x2, x3, x4⟩ := cells5k HX3.out
  rcases hok : lawF vs [h0, h1, h2, h3, h4] st e i0 i1 i2 i3 with _ | _
  · rw [hok] at HF
    clear hok
    generalize vs.length = vl at *
    generalize st.length = sl at *
    go_wp2_with (go_at_call 14; refine (HF.out _ HG3.out).mono ?_; rintro e w4 ⟨rfl, hg4⟩; have HG4 := Lib.hid (Gr.tr HG3.out hg4); have HC4 := Lib.hid (grBlk hg4 HC3.out); have HD4 := Lib.hid (grBlk hg4 HD3.out); have HX4 := Lib.hid (grBlk hg4 HX3.out); clear c0 c1 c2 c3 c4 x0 x1 x2 x3 x4; obtain ⟨d0, d1, d2, d3, d4⟩ := cells5k HD4.out; clear hg4 HF)
    go_ret
    exact ⟨rfl, HG4.out⟩
  rw [hok] at HF
  rcases hsh : shortB [g0, g1, g2, g3, g4] 2000 with _ | _
  · rw [hsh] at HSh
    clear hok hsh
    generalize vs.length = vl at *
    generalize st.length = sl at *
    go_wp2_with (first | (go_at_call 14; refine (HF.out _ HG3.out).mono ?_; rintro e w4 ⟨rfl, hg4⟩; have HG4 := Lib.hid (Gr.tr HG3.out hg4); have HC4 := Lib.hid (grBlk hg4 HC3.out); have HD4 := Lib.hid (grBlk hg4 HD3.out); have HX4 := Lib.hid (grBlk hg4 HX3.out); clear c0 c1 c2 c3 c4 x0 x1 x2 x3 x4; obtain ⟨d0, d1, d2, d3, d4⟩ := cells5k HD4.out; clear hg4 HF) | (go_at_call 8; refine (HSh.out _).mono ?_; rintro e w5 ⟨rfl, hg5⟩; have HG5 := Lib.hid (Gr.tr HG4.out hg5); have HC5 := Lib.hid (grBlk hg5 HC4.out); have HD5 := Lib.hid (grBlk hg5 HD4.out); have HX5 := Lib.hid (grBlk hg5 HX4.out); clear d0 d1 d2 d3 d4; obtain ⟨d0, d1, d2, d3, d4⟩ := cells5k HD5.out; clear hg5 HSh))
    go_ret
    exact ⟨rfl, HG5.out⟩
  rw [hsh] at HSh
  have hgl := fun x hx => short_all hsh x hx
  have HVd := Lib.hid (fun wx (hg : Gr w wx) => RVerify_any g0 g1 g2 g3 g4 vs.length wx (fun h hh => (HRd.out h hh).gr hg) (fun h hh => by have := hgl h hh; omega))
  rcases hve : verC [g0, g1, g2, g3, g4] vs.length with _ | _
  · rw [hve] at HVd
    clear hok hsh hgl hve
    generalize vs.length = vl at *
    generalize st.length = sl at *
    go_wp2_with (first | (go_at_call 14; refine (HF.out _ HG3.out).mono ?_; rintro e w4 ⟨rfl, hg4⟩; have HG4 := Lib.hid (Gr.tr HG3.out hg4); have HC4 := Lib.hid (grBlk hg4 HC3.out); have HD4 := Lib.hid (grBlk hg4 HD3.out); have HX4 := Lib.hid (grBlk hg4 HX3.out); clear c0 c1 c2 c3 c4 x0 x1 x2 x3 x4; obtain ⟨d0, d1, d2, d3, d4⟩ := cells5k HD4.out; clear hg4 HF) | (go_at_call 8; refine (HSh.out _).mono ?_; rintro e w5 ⟨rfl, hg5⟩; have HG5 := Lib.hid (Gr.tr HG4.out hg5); have HC5 := Lib.hid (grBlk hg5 HC4.out); have HD5 := Lib.hid (grBlk hg5 HD4.out); have HX5 := Lib.hid (grBlk hg5 HX4.out); clear d0 d1 d2 d3 d4; obtain ⟨d0, d1, d2, d3, d4⟩ := cells5k HD5.out; clear hg5 HSh) | (go_at_call 16; refine (HVd.out _ HG5.out).mono ?_; rintro e w6 ⟨rfl, hg6⟩; have HG6 := Lib.hid (Gr.tr HG5.out hg6); have HC6 := Lib.hid (grBlk hg6 HC5.out); have HD6 := Lib.hid (grBlk hg6 HD5.out); have HX6 := Lib.hid (grBlk hg6 HX5.out); clear d0 d1 d2 d3 d4 hg6 HVd))
    go_ret
    exact ⟨rfl, HG6.out⟩
  rw [hve] at HVd
  obtain ⟨hl4, hvl, hsl, hfit⟩ := law_open hok
  obtain ⟨k, x, H, hek, hkx, hk5, -, -, -, -, hxm⟩ := fit_open rfl hfit
  subst hek
  obtain ⟨y, hky⟩ : ∃ y, [g0, g1, g2, g3, g4][k]? = some y := ⟨_, List.getElem?_eq_getElem (by simpa using hk5)⟩
  have hym : y ∈ [g0, g1, g2, g3, g4] := List.mem_of_getElem? hky
  have hyl : y.l.length ≤ 2000 := by have := hgl y hym; omega
  have hcd := Lib.hid (fun (wx : World) (hX : wx.heap[w.heap.size]? = some (.cells (cdA h0 h1 h2 h3 h4) 26 (0, 0))) => cdAt hX hkx)
  have hdd := Lib.hid (fun (wx : World) (hX : wx.heap[w.heap.size + 1]? = some (.cells (cdA g0 g1 g2 g3 g4) 26 (0, 0))) => cdAt hX hky)
  by_cases hxl : x.l.length ≤ 2000
  · obtain ⟨rb, eb, nb, hall, hcase⟩ := parts_all rfl rfl hkx hky hxl hyl hfit hve
    obtain ⟨f0, f1, f2, f3, f4⟩ := run_facts rfl hkx hfit
    have hRl := runF_len (vs := vs) (hs := [h0, h1, h2, h3, h4]) (st := st) (e := k) (i0 := i0) (i1 := i1) (i2 := i2) (i3 := i3)
    have HR1 := Lib.hid (fun wx (hg : Gr w wx) => Run_any vs VA vc h0 h1 h2 h3 h4 st SA sc k i0 i1 i2 i3 wx (HV.out.gr hg) (fun h hh => (HR.out h hh).gr hg) (fun h hh => by have := hl4 h hh; omega) (HS.out.gr hg) (HE.out.gr hg) (HI.out.gr hg) (by omega) hnH.out)
    have HS1 := Lib.hid (fun wx (hg : Gr w wx) => Steps_any vs VA vc h0 h1 h2 h3 h4 st SA sc k i0 i1 i2 i3 wx (HV.out.gr hg) (fun h hh => (HR.out h hh).gr hg) (fun h hh => by have := hl4 h hh; omega) (HS.out.gr hg) (HE.out.gr hg) (HI.out.gr hg) (by omega) hnH.out)
    have HRb := Lib.hid (fun (z : Hd) (hz : z.l = jn x.l y.l) wx (hg : Gr w wx) (hzR : InsR wx z.l z.A) => Run_any vs VA vc (p5 z k 0 h0) (p5 z k 1 h1) (p5 z k 2 h2) (p5 z k 3 h3) (p5 z k 4 h4) st SA sc k i0 i1 i2 i3 wx (HV.out.gr hg) (fun h hh => by
      rcases p5_or h hh with rfl | hh
      · exact hzR
      · exact (HR.out h hh).gr hg) (fun h hh => by
      rcases p5_or h hh with rfl | hh
      · rw [hz, jn_len]; omega
      · have := hl4 h hh; omega) (HS.out.gr hg) (HE.out.gr hg) (HI.out.gr hg) (by omega) hnH.out)
    have HSb := Lib.hid (fun (z : Hd) (hz : z.l = jn x.l y.l) wx (hg : Gr w wx) (hzR : InsR wx z.l z.A) => Steps_any vs VA vc (p5 z k 0 h0) (p5 z k 1 h1) (p5 z k 2 h2) (p5 z k 3 h3) (p5 z k 4 h4) st SA sc k i0 i1 i2 i3 wx (HV.out.gr hg) (fun h hh => by
      rcases p5_or h hh with rfl | hh
      · exact hzR
      · exact (HR.out h hh).gr hg) (fun h hh => by
      rcases p5_or h hh with rfl | hh
      · rw [hz, jn_len]; omega
      · have := hl4 h hh; omega) (HS.out.gr hg) (HE.out.gr hg) (HI.out.gr hg) (by omega) hnH.out)
    have HRb : Hid (∀ (z : Hd) (hz : z.l = jn x.l y.l) wx (hg : Gr w wx) (hzR : InsR wx z.l z.A), Calls Tryd.prog 9 #[.slice VA vs.length vc, .agg (cdA (p5 z k 0 h0) (p5 z k 1 h1) (p5 z k 2 h2) (p5 z k 3 h3) (p5 z k 4 h4)), .slice SA st.length sc, .agg (clA k i0 i1 i2 i3)] wx (RnP rb eb wx)) := Lib.hid (fun z hz wx hg hzR => by
      have h := HRb.out z hz wx hg hzR
      rw [p5_list hk5, (hall z hz).1] at h
      exact h)
    have HSb : Hid (∀ (z : Hd) (hz : z.l = jn x.l y.l) wx (hg : Gr w wx) (hzR : InsR wx z.l z.A), Calls Tryd.prog 11 #[.slice VA vs.length vc, .agg (cdA (p5 z k 0 h0) (p5 z k 1 h1) (p5 z k 2 h2) (p5 z k 3 h3) (p5 z k 4 h4)), .slice SA st.length sc, .agg (clA k i0 i1 i2 i3)] wx (GG (.tuple #[.int .i64 nb, .int .i64 0]) wx)) := Lib.hid (fun z hz wx hg hzR => by
      have h := HSb.out z hz wx hg hzR
      rw [p5_list hk5, (hall z hz).2] at h
      exact h)
    have hjv : ∀ q ∈ y.l, q.op = 12 ∨ q.op = 13 → 0 ≤ q.n ∧ q.n ≤ 100000 := by
      intro q hq ho
      obtain ⟨j, hj⟩ := List.getElem?_of_mem hq
      obtain ⟨-, G, -, -, b3⟩ := ver_spec (verC_at hve hky)
      have := form_n (b3 j q hj).2 ho
      omega
    have HJ := Lib.hid (fun wx (hg : Gr w wx) => joined_any x.l y.l x.A y.A x.c y.c wx ((HR.out x hxm).gr hg) ((HRd.out y hym).gr hg) (by omega) (by omega) hjv)
    obtain ⟨rs, hrs⟩ : ∃ rs, (runF vs [h0, h1, h2, h3, h4] st k i0 i1 i2 i3).1 = rs := ⟨_, rfl⟩
    obtain ⟨er, her⟩ : ∃ er, (runF vs [h0, h1, h2, h3, h4] st k i0 i1 i2 i3).2 = er := ⟨_, rfl⟩
    obtain ⟨nn, hnn⟩ : ∃ nn, (stepsF vs [h0, h1, h2, h3, h4] st k i0 i1 i2 i3).1 = nn := ⟨_, rfl⟩
    rw [hrs, her] at HR1 hcase
    rw [f0, hnn] at HS1
    rw [hnn] at hcase f1 f2
    rw [hrs] at hRl
    have HRe := Lib.hid (fun wx (A : Option Addr) (c : Nat) (hg : Gr w wx) (hi : IntsR wx rs A) (hc : A = none → c = 0) => Run_any vs VA vc g0 g1 g2 g3 g4 rs A c k i0 i1 i2 i3 wx (HV.out.gr hg) (fun h hh => (HRd.out h hh).gr hg) (fun h hh => by have := hgl h hh; omega) hi (HE.out.gr hg) (HI.out.gr hg) (by omega) hc)
    have HSe := Lib.hid (fun wx (A : Option Addr) (c : Nat) (hg : Gr w wx) (hi : IntsR wx rs A) (hc : A = none → c = 0) => Steps_any vs VA vc g0 g1 g2 g3 g4 rs A c k i0 i1 i2 i3 wx (HV.out.gr hg) (fun h hh => (HRd.out h hh).gr hg) (fun h hh => by have := hgl h hh; omega) hi (HE.out.gr hg) (HI.out.gr hg) (by omega) hc)
    have hrl : Hid (rs.length ≤ 1000000) := Lib.hid (by omega)
    have hrd := runF_len (vs := vs) (hs := [g0, g1, g2, g3, g4]) (st := rs) (e := k) (i0 := i0) (i1 := i1) (i2 := i2) (i3 := i3)
    have hcaseH := Lib.hid hcase
    have hnn0 := Lib.hid (show 0 ≤ nn ∧ nn ≤ 2000 by omega)
    have hrdH := Lib.hid hrd
    have hxlH := Lib.hid hxl
    clear hok hsh hgl hve hl4 hvl hsl hfit hkx hky hxm hym hyl hall f0 f1 f2 f3 f4 hRl hjv hrs her hnn hrd hcase HR HRd HE HI HV HS hnH hxl
    obtain ⟨xl, XA, xc⟩ := x
    obtain ⟨yl, YA, yc⟩ := y
    simp only at hxlH HJ HRb HSb
    have tg : decide ((xl.length : Int) > 2000) = false := by have := hxlH.out; simp; omega
    generalize vs.length = vl at *
    generalize hsn : st.length = sl at *
    clear hsn
    go_upto_region 6 with (first | (go_at_call 14; refine (HF.out _ HG3.out).mono ?_; rintro e w4 ⟨rfl, hg4⟩; have HG4 := Lib.hid (Gr.tr HG3.out hg4); have HC4 := Lib.hid (grBlk hg4 HC3.out); have HD4 := Lib.hid (grBlk hg4 HD3.out); have HX4 := Lib.hid (grBlk hg4 HX3.out); clear c0 c1 c2 c3 c4 x0 x1 x2 x3 x4; obtain ⟨d0, d1, d2, d3, d4⟩ := cells5k HD4.out; clear hg4 HF) | (go_at_call 8; refine (HSh.out _).mono ?_; rintro e w5 ⟨rfl, hg5⟩; have HG5 := Lib.hid (Gr.tr HG4.out hg5); have HC5 := Lib.hid (grBlk hg5 HC4.out); have HD5 := Lib.hid (grBlk hg5 HD4.out); have HX5 := Lib.hid (grBlk hg5 HX4.out); clear d0 d1 d2 d3 d4; obtain ⟨d0, d1, d2, d3, d4⟩ := cells5k HD5.out; clear hg5 HSh) | (go_at_call 16; refine (HVd.out _ HG5.out).mono ?_; rintro e w6 ⟨rfl, hg6⟩; have HG6 := Lib.hid (Gr.tr HG5.out hg6); have HC6 := Lib.hid (grBlk hg6 HC5.out); have HD6 := Lib.hid (grBlk hg6 HD5.out); have HX6 := Lib.hid (grBlk hg6 HX5.out); clear d0 d1 d2 d3 d4 hg6 HVd; obtain ⟨c0, c1, c2, c3, c4⟩ := cells5k HC6.out; obtain ⟨x0, x1, x2, x3, x4⟩ := cells5k HX6.out; have ck := hcd.out _ HC6.out))
    clear tg
    obtain ⟨W7, hW7⟩ : ∃ W7, W7 = w6.alloc (.cells (cdA h0 h1 h2 h3 h4) 26) := ⟨_, rfl⟩
    have hg7 : Gr w6 W7 := by rw [hW7]; exact grAlloc _ _
    have HG7 := Lib.hid (HG6.out.tr hg7)
    have HC7 := Lib.hid (grBlk hg7 HC6.out)
    have HD7 := Lib.hid (grBlk hg7 HD6.out)
    have HX7 := Lib.hid (grBlk hg7 HX6.out)
    have HN7 := Lib.hid (show W7.heap[w6.heap.size]? = some (.cells (cdA h0 h1 h2 h3 h4) 26 (0, 0)) by rw [hW7]; exact nBlk _ _ _ rfl)
    have hs6 := Lib.hid (show w.heap.size ≤ w6.heap.size from HG6.out.size)
    have hs7 := Lib.hid (show w.heap.size + 1 + 1 < w6.heap.size from blkLt HX6.out)
    rw [show w6.alloc (.cells #[hdV h0, hdV h1, hdV h2, hdV h3, hdV h4] 26) = W7 from hW7.symm]
    clear hW7 hg7 HC6 HD6 HX6 HG6 c0 c1 c2 c3 c4 x0 x1 x2 x3 x4 ck
    obtain ⟨x0, x1, x2, x3, x4⟩ := cells5k HX7.out
    have ck := hcd.out _ HC7.out
    have dk := hdd.out _ HD7.out
    refine wp_region_X (S := fun wq => Gr W7 wq) [15] (by kernel_rfl) (grDrew _) (fun hHeld => ?_)
    have hSG : Hid (∀ wp wq : World, Gr W7 wp → Gr wp wq → Gr W7 wq) := Lib.hid (fun _ _ h k => h.tr k)
    have hmv := Lib.hid (fun (wq : World) (hq : Gr W7 wq) => And.intro (grCell hq x0) (And.intro (grCell hq ck) (grCell hq dk)))
    first
     | (refine xk hSG 0 [1, 14, 15] (v := ?_) rfl (by kernel_rfl) (fun _ _ _ h => h) (by rfl) ?_ hHeld ?_; rotate_left; focus (intro w' hSw; obtain ⟨x0, ck, dk⟩ := hmv.out _ hSw; go_simp; (try with_reducible rfl)))
     | refine xn hSG 0 [1, 14, 15] rfl (by kernel_rfl) (fun _ _ _ h => h) (by rfl) hHeld ?_
    (try simp only [zq1, zq2, zq3, Act.put, zq4, zq5, zq6])
    first
     | (refine xk hSG 1 [14, 15] (v := ?_) rfl (by kernel_rfl) (fun _ _ _ h => h) (by rfl) ?_ hHeld ?_; rotate_left; focus (intro w' hSw; obtain ⟨x0, ck, dk⟩ := hmv.out _ hSw; go_simp; (try with_reducible rfl)))
     | refine xn hSG 1 [14, 15] rfl (by kernel_rfl) (fun _ _ _ h => h) (by rfl) hHeld ?_
    (try simp only [zq1, zq2, zq3, Act.put, zq4, zq5, zq6])
    first
     | (refine xk hSG 2 [3, 5, 6, 12, 14, 15] (v := ?_) rfl (by kernel_rfl) (fun _ _ _ h => h) (by rfl) ?_ hHeld ?_; rotate_left; focus (intro w' hSw; obtain ⟨x0, ck, dk⟩ := hmv.out _ hSw; go_simp; (try with_reducible rfl)))
     | refine xn hSG 2 [3, 5, 6, 12, 14, 15] rfl (by kernel_rfl) (fun _ _ _ h => h) (by rfl) hHeld ?_
    (try simp only [zq1, zq2, zq3, Act.put, zq4, zq5, zq6])
    first
     | (refine xk hSG 3 [5, 6, 12, 14, 15] (v := ?_) rfl (by kernel_rfl) (fun _ _ _ h => h) (by rfl) ?_ hHeld ?_; rotate_left; focus (intro w' hSw; obtain ⟨x0, ck, dk⟩ := hmv.out _ hSw; go_simp; (try with_reducible rfl)))
     | refine xn hSG 3 [5, 6, 12, 14, 15] rfl (by kernel_rfl) (fun _ _ _ h => h) (by rfl) hHeld ?_
    (try simp only [zq1, zq2, zq3, Act.put, zq4, zq5, zq6])
    first
     | (refine xk hSG 4 [5, 6, 12, 14, 15] (v := ?_) rfl (by kernel_rfl) (fun _ _ _ h => h) (by rfl) ?_ hHeld ?_; rotate_left; focus (intro w' hSw; obtain ⟨x0, ck, dk⟩ := hmv.out _ hSw; go_simp; (try with_reducible rfl)))
     | refine xn hSG 4 [5, 6, 12, 14, 15] rfl (by kernel_rfl) (fun _ _ _ h => h) (by rfl) hHeld ?_
    (try simp only [zq1, zq2, zq3, Act.put, zq4, zq5, zq6])
    refine xk hSG 5 [6, 12, 14, 15] (v := .pointer (some ⟨w.heap.size, k, none⟩)) rfl (by kernel_rfl) (fun _ _ _ h => h) (by rfl) ?_ hHeld ?_
    focus (intro w' hSw; obtain ⟨x0, ck, dk⟩ := hmv.out _ hSw; go_simp; (try (intro hq; omega)))
    (try simp only [zq1, zq2, zq3, Act.put, zq4, zq5, zq6])
    first
     | (refine xk hSG 6 [12, 14, 15] (v := ?_) rfl (by kernel_rfl) (fun _ _ _ h => h) (by rfl) ?_ hHeld ?_; rotate_left; focus (intro w' hSw; obtain ⟨x0, ck, dk⟩ := hmv.out _ hSw; go_simp; (try with_reducible rfl)))
     | refine xn hSG 6 [12, 14, 15] rfl (by kernel_rfl) (fun _ _ _ h => h) (by rfl) hHeld ?_
    (try simp only [zq1, zq2, zq3, Act.put, zq4, zq5, zq6])
    first
     | (refine xk hSG 7 [8, 10, 11, 12, 14, 15] (v := ?_) rfl (by kernel_rfl) (fun _ _ _ h => h) (by rfl) ?_ hHeld ?_; rotate_left; focus (intro w' hSw; obtain ⟨x0, ck, dk⟩ := hmv.out _ hSw; go_simp; (try with_reducible rfl)))
     | refine xn hSG 7 [8, 10, 11, 12, 14, 15] rfl (by kernel_rfl) (fun _ _ _ h => h) (by rfl) hHeld ?_
    (try simp only [zq1, zq2, zq3, Act.put, zq4, zq5, zq6])
    first
     | (refine xk hSG 8 [10, 11, 12, 14, 15] (v := ?_) rfl (by kernel_rfl) (fun _ _ _ h => h) (by rfl) ?_ hHeld ?_; rotate_left; focus (intro w' hSw; obtain ⟨x0, ck, dk⟩ := hmv.out _ hSw; go_simp; (try with_reducible rfl)))
     | refine xn hSG 8 [10, 11, 12, 14, 15] rfl (by kernel_rfl) (fun _ _ _ h => h) (by rfl) hHeld ?_
    (try simp only [zq1, zq2, zq3, Act.put, zq4, zq5, zq6])
    first
     | (refine xk hSG 9 [10, 11, 12, 14, 15] (v := ?_) rfl (by kernel_rfl) (fun _ _ _ h => h) (by rfl) ?_ hHeld ?_; rotate_left; focus (intro w' hSw; obtain ⟨x0, ck, dk⟩ := hmv.out _ hSw; go_simp; (try with_reducible rfl)))
     | refine xn hSG 9 [10, 11, 12, 14, 15] rfl (by kernel_rfl) (fun _ _ _ h => h) (by rfl) hHeld ?_
    (try simp only [zq1, zq2, zq3, Act.put, zq4, zq5, zq6])
    refine xk hSG 10 [11, 12, 14, 15] (v := .pointer (some ⟨w.heap.size + 1, k, none⟩)) rfl (by kernel_rfl) (fun _ _ _ h => h) (by rfl) ?_ hHeld ?_
    focus (intro w' hSw; obtain ⟨x0, ck, dk⟩ := hmv.out _ hSw; go_simp; (try (intro hq; omega)))
    (try simp only [zq1, zq2, zq3, Act.put, zq4, zq5, zq6])
    first
     | (refine xk hSG 11 [12, 14, 15] (v := ?_) rfl (by kernel_rfl) (fun _ _ _ h => h) (by rfl) ?_ hHeld ?_; rotate_left; focus (intro w' hSw; obtain ⟨x0, ck, dk⟩ := hmv.out _ hSw; go_simp; (try with_reducible rfl)))
     | refine xn hSG 11 [12, 14, 15] rfl (by kernel_rfl) (fun _ _ _ h => h) (by rfl) hHeld ?_
    (try simp only [zq1, zq2, zq3, Act.put, zq4, zq5, zq6])
    first
     | (refine xk hSG 13 [14, 15] (v := ?_) rfl (by kernel_rfl) (fun _ _ _ h => h) (by rfl) ?_ hHeld ?_; rotate_left; focus (intro w' hSw; obtain ⟨x0, ck, dk⟩ := hmv.out _ hSw; go_simp; (try with_reducible rfl)))
     | refine xn hSG 13 [14, 15] rfl (by kernel_rfl) (fun _ _ _ h => h) (by rfl) hHeld ?_
    (try simp only [zq1, zq2, zq3, Act.put, zq4, zq5, zq6])
    refine wpAnyX_one (i := 12) (by kernel_rfl) rfl (fun w8 hg K hK => ?_)
    have hgS := hSG.out _ _ hHeld.out hg
    go_simp
    refine (HJ.out _ (HG7.out.tr hgS)).mono ?_
    rintro e w9 ⟨⟨z, rfl, hz, hzR, hzb⟩, hg9⟩
    have hg9W := hgS.tr hg9
    refine hK.out _ _ hg9W (fun hHeld => ?_)
    have hzH := Lib.hid hz
    have hzR := Lib.hid hzR
    have hzb := Lib.hid (show ∀ ad, z.A = some ad → ad.block ≠ w6.heap.size from fun ad ha => by
      have h1 := hzb ad ha
      have h2 := (blkLt HN7.out)
      have h3 := hgS.size
      omega)
    have hgw := Lib.hid hg9W
    clear hK K hg hgS hg9 hz hg9W HJ
    refine xk hSG 14 [15] (v := .pointer (some ⟨w6.heap.size, k, none⟩)) rfl (by kernel_rfl) (fun _ _ _ h => h) (by rfl) ?_ hHeld ?_
    focus (intro w' hSw; obtain ⟨x0, ck, dk⟩ := hmv.out _ hSw; go_simp; (try (intro hq; omega)))
    (try simp only [zq1, zq2, zq3, Act.put, zq4, zq5, zq6])
    refine wpAnyX_oneX (i := 15) (by kernel_rfl) (by kernel_rfl) rfl (fun wa hg K hK => ?_)
    have hga := hgw.out.tr hg
    have hzRa := hzR.out.gr hg
    have HNa := grBlk hga HN7.out
    obtain ⟨z0, z1, z2, z3, z4⟩ := cells5k HNa
    have cz : ∃ u, wa.cell? ⟨w6.heap.size, k, none⟩ = some u := by
      rw [cell_of_row _ _ k _ _ (0, 0) HNa]
      rcases k with _ | _ | _ | _ | _ | k
      · exact ⟨_, rfl⟩
      · exact ⟨_, rfl⟩
      · exact ⟨_, rfl⟩
      · exact ⟨_, rfl⟩
      · exact ⟨_, rfl⟩
      · omega
    obtain ⟨uz, cz⟩ := cz
    have dz := frz HNa k
    go_simp
    refine hK.out _ _ ?_
    have HNb := Lib.hid (show (wa.setCell ⟨w6.heap.size, k, none⟩ (hdV z)).heap[w6.heap.size]? = some (.cells (cdA (p5 z k 0 h0) (p5 z k 1 h1) (p5 z k 2 h2) (p5 z k 3 h3) (p5 z k 4 h4)) 26 (0, 0)) by rw [heap_setCell_same _ w6.heap.size k _ _ _ HNa, p5_set hk5])
    have HCb := Lib.hid (oth (i := k) (v := hdV z) (grBlk hga HC7.out) (show w.heap.size ≠ w6.heap.size by have := hs7.out; omega))
    have HDb := Lib.hid (oth (i := k) (v := hdV z) (grBlk hga HD7.out) (show w.heap.size + 1 ≠ w6.heap.size by have := hs7.out; omega))
    have HXb := Lib.hid (oth (i := k) (v := hdV z) (grBlk hga HX7.out) (show w.heap.size + 1 + 1 ≠ w6.heap.size by have := hs7.out; omega))
    have HGb := Lib.hid (belK (i := k) (u := hdV z) (HG7.out.tr hga) hs6.out)
    have HZb := Lib.hid (insSet (i := k) (v := hdV z) hzRa hzb.out)
    clear hK K hg hHeld hSG hga hgw hzR hzRa hzb HNa z0 z1 z2 z3 z4 cz dz uz x0 x1 x2 x3 x4 ck dk HN7 HC7 HD7 HX7 HG7
    refine wpAnyX_done (by kernel_rfl) (fun wc hg => ?_) _
    have HNc := Lib.hid (grBlk hg HNb.out)
    have HCc := Lib.hid (grBlk hg HCb.out)
    have HDc := Lib.hid (grBlk hg HDb.out)
    have HXc := Lib.hid (grBlk hg HXb.out)
    have HGc := Lib.hid (Gr.tr HGb.out hg)
    have HZc := Lib.hid (HZb.out.gr hg)
    have HRb := Lib.hid (fun wx (hg : Gr wc wx) => HRb.out z hzH.out wx (HGc.out.tr hg) (HZc.out.gr hg))
    have HSb := Lib.hid (fun wx (hg : Gr wc wx) => HSb.out z hzH.out wx (HGc.out.tr hg) (HZc.out.gr hg))
    clear hg HNb HCb HDb HXb HGb HZb HZc hzH
    generalize p5 z k 0 h0 = b0 at *
    generalize p5 z k 1 h1 = b1 at *
    generalize p5 z k 2 h2 = b2 at *
    generalize p5 z k 3 h3 = b3 at *
    generalize p5 z k 4 h4 = b4 at *
    have hgc0 := Lib.hid (Below.refl wc.heap.size wc)
    obtain ⟨c0, c1, c2, c3, c4⟩ := cells5k HCc.out
    obtain ⟨x0, x1, x2, x3, x4⟩ := cells5k HXc.out
    go_upto_region 8 with (go_at_call 9; refine (HR1.out _ HGc.out).mono ?_; rintro e wd ⟨⟨A1, k1, rfl, hI1, hn1⟩, hgd⟩; have HI1 := Lib.hid hI1; have hn1 := Lib.hid hn1; have HRwd := Lib.hid (show Gr wc wd from hgd); have HGd := Lib.hid (Gr.tr HGc.out hgd); have HCd := Lib.hid (grBlk hgd HCc.out); have HXd := Lib.hid (grBlk hgd HXc.out); clear hgd hI1 c0 c1 c2 c3 c4 x0 x1 x2 x3 x4 HR1)
    obtain ⟨c0, c1, c2, c3, c4⟩ := cells5k HCd.out
    obtain ⟨x0, x1, x2, x3, x4⟩ := cells5k HXd.out
    go_upto_region 9 with (go_at_call 11; refine (HS1.out _ HGd.out).mono ?_; rintro e we ⟨rfl, hge⟩; have HRwe := Lib.hid (HRwd.out.tr hge); have HI2 := Lib.hid (HI1.out.gr hge); have HGe := Lib.hid (Gr.tr HGd.out hge); clear hge c0 c1 c2 c3 c4 x0 x1 x2 x3 x4 HS1)
    obtain ⟨n0, n1, n2, n3, n4⟩ := cells5k (grBlk HRwe.out HNc.out)
    obtain ⟨x0, x1, x2, x3, x4⟩ := cells5k (grBlk HRwe.out HXc.out)
    go_upto_region 10 with (go_at_call 9; refine (HRb.out _ HRwe.out).mono ?_; rintro e wf ⟨⟨A3, k3, rfl, hI3, -⟩, hgf⟩; have HI3 := Lib.hid hI3; have HRwf := Lib.hid (HRwe.out.tr hgf); have HI4 := Lib.hid (HI2.out.gr hgf); have HGf := Lib.hid (Gr.tr HGe.out hgf); clear hgf hI3 n0 n1 n2 n3 n4 x0 x1 x2 x3 x4 HRb)
    obtain ⟨n0, n1, n2, n3, n4⟩ := cells5k (grBlk HRwf.out HNc.out)
    obtain ⟨x0, x1, x2, x3, x4⟩ := cells5k (grBlk HRwf.out HXc.out)
    go_upto_region 11 with (go_at_call 11; refine (HSb.out _ HRwf.out).mono ?_; rintro e wh ⟨rfl, hgh⟩; have HRwh := Lib.hid (HRwf.out.tr hgh); have HI5 := Lib.hid (HI4.out.gr hgh); have HI6 := Lib.hid (HI3.out.gr hgh); have HGh := Lib.hid (Gr.tr HGf.out hgh); clear hgh n0 n1 n2 n3 n4 x0 x1 x2 x3 x4 HSb)
    clear HI1 HI2 HI3 HI4 HGc HGd HGe HGf HCc HCd HXd HNc HRwd HRwe HRwf hs6 hs7 hgc0
    rcases hcaseH.out with ⟨q1, rfl, rfl⟩ | ⟨q1, q2, mm, q3, rfl, q4, q5⟩
    · have tn := decide_eq_true q1
      clear HRe HSe hrdH hcaseH
      go_wp2_with fail
      go_ret
      exact ⟨by simp, HGh.out⟩
    · subst q1
      have HRf := Lib.hid (HRe.out _ A1 k1 HGh.out HI5.out hn1.out)
      rw [q2] at HRf hrdH
      have HSf := Lib.hid (fun wx (hg : Gr w wx) (hw : Gr wh wx) => HSe.out wx A1 k1 hg (HI5.out.gr hw) hn1.out)
      rw [q3] at HSf
      have hrbl : Hid (rb.length ≤ 1000000) := Lib.hid (Nat.le_trans hrdH.out hrl.out)
      have hwr : IntKind.i64.wrap (nn + mm) = nn + mm := IntWalk.i64_in _ (by have := hnn0.out; omega)
      obtain ⟨d0, d1, d2, d3, d4⟩ := cells5k (grBlk HRwh.out HDc.out)
      obtain ⟨x0, x1, x2, x3, x4⟩ := cells5k (grBlk HRwh.out HXc.out)
      clear HRe HSe hrdH hcaseH q2 q3 q4 q5
      go_upto_region 14 with (go_at_call 9; refine HRf.out.mono ?_; rintro e wi ⟨⟨A4, k4, rfl, hI7, -⟩, hgi⟩; have HI7 := Lib.hid hI7; have HI8 := Lib.hid (HI6.out.gr hgi); have HRwi := Lib.hid (show Gr wh wi from hgi); have HGi := Lib.hid (Gr.tr HGh.out hgi); clear hgi hI7 d0 d1 d2 d3 d4 x0 x1 x2 x3 x4 HRf)
      obtain ⟨d0, d1, d2, d3, d4⟩ := cells5k (grBlk (HRwh.out.tr HRwi.out) HDc.out)
      obtain ⟨x0, x1, x2, x3, x4⟩ := cells5k (grBlk (HRwh.out.tr HRwi.out) HXc.out)
      go_upto_region 15 with (go_at_call 11; refine (HSf.out _ HGi.out HRwi.out).mono ?_; rintro e wj ⟨rfl, hgj⟩; have HI9 := Lib.hid (HI7.out.gr hgj); have HIa := Lib.hid (HI8.out.gr hgj); have HGj := Lib.hid (Gr.tr HGi.out hgj); clear hgj d0 d1 d2 d3 d4 x0 x1 x2 x3 x4 HSf)
      have HIn := Ints_any rb rb A3 A4 k3 k4 wj HIa.out HI9.out hrbl.out
      rw [intsB_self] at HIn
      have HIn := Lib.hid HIn
      clear HI5 HI6 HI7 HI8 HI9 HIa HRwi HRwh HDc HXc hrl hrbl
      go_wp2_with (go_at_call 13; refine HIn.out.mono ?_; rintro e wk ⟨rfl, hgk⟩; have HGk := Lib.hid (Gr.tr HGj.out hgk); clear hgk)
      go_ret
      exact ⟨by simp, HGk.out⟩
  · have tg : decide ((x.l.length : Int) > 2000) = true := by simp; omega
    obtain ⟨xl, XA, xc⟩ := x
    simp only at tg hxl
    clear hok hsh hgl hve hl4 hvl hsl hfit hkx hky hxm hym hyl
    generalize vs.length = vl at *
    generalize st.length = sl at *
    go_wp2_with (first | (go_at_call 14; refine (HF.out _ HG3.out).mono ?_; rintro e w4 ⟨rfl, hg4⟩; have HG4 := Lib.hid (Gr.tr HG3.out hg4); have HC4 := Lib.hid (grBlk hg4 HC3.out); have HD4 := Lib.hid (grBlk hg4 HD3.out); have HX4 := Lib.hid (grBlk hg4 HX3.out); clear c0 c1 c2 c3 c4 x0 x1 x2 x3 x4; obtain ⟨d0, d1, d2, d3, d4⟩ := cells5k HD4.out; clear hg4 HF) | (go_at_call 8; refine (HSh.out _).mono ?_; rintro e w5 ⟨rfl, hg5⟩; have HG5 := Lib.hid (Gr.tr HG4.out hg5); have HC5 := Lib.hid (grBlk hg5 HC4.out); have HD5 := Lib.hid (grBlk hg5 HD4.out); have HX5 := Lib.hid (grBlk hg5 HX4.out); clear d0 d1 d2 d3 d4; obtain ⟨d0, d1, d2, d3, d4⟩ := cells5k HD5.out; clear hg5 HSh) | (go_at_call 16; refine (HVd.out _ HG5.out).mono ?_; rintro e w6 ⟨rfl, hg6⟩; have HG6 := Lib.hid (Gr.tr HG5.out hg6); have HC6 := Lib.hid (grBlk hg6 HC5.out); have HD6 := Lib.hid (grBlk hg6 HD5.out); have HX6 := Lib.hid (grBlk hg6 HX5.out); clear d0 d1 d2 d3 d4 hg6 HVd; obtain ⟨c0, c1, c2, c3, c4⟩ := cells5k HC6.out; obtain ⟨x0, x1, x2, x3, x4⟩ := cells5k HX6.out; have ck := hcd.out _ HC6.out))
    go_ret
    exact ⟨rfl, HG6.out⟩
end N
end Go.Proofs.YthgngkajdiclcaaDoor
