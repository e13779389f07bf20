/- MachineMatchesReference: its contract. Conditions: the laid variables. -/
import Derived.Test.YthgngkajdiclcaaDoorNiD
namespace Go.Proofs.YthgngkajdiclcaaDoor
open Go.RowKit
set_option linter.unusedVariables false
set_option linter.unusedSimpArgs false
namespace N
open K
set_option maxHeartbeats 8000000 in
set_option maxRecDepth 100000 in
theorem Match_any (vs : List (Int × Int)) (VA : Option Addr) (vc : Nat) (h0 h1 h2 h3 h4 : Hd) (st : List Int) (SA : Option Addr) (sc : Nat) (e i0 i1 i2 i3 : Int) (w : World) (hE : LaidE w) (hI : LaidI w) (hV : VsR w vs VA) (hR : ∀ h ∈ [h0, h1, h2, h3, h4], InsR w h.l h.A) (hS : IntsR w st SA) (hn : SA = none → sc = 0) :
    Calls Tryd.prog 3 #[.slice VA vs.length vc, .agg (cdA h0 h1 h2 h3 h4), .slice SA st.length sc, .agg (clA e i0 i1 i2 i3)] w (BB true w) := by
  obtain ⟨W2, hW2⟩ : ∃ W2, W2 = (w.alloc (.cells (cdA h0 h1 h2 h3 h4) 26)).alloc (.cells (clA e i0 i1 i2 i3) 30) := ⟨_, rfl⟩
  have hG2 : Gr w W2 := by rw [hW2]; exact (grAlloc _ _).tr (grAlloc _ _)
  have HG2 := Lib.hid hG2
  have HC2 := Lib.hid (show W2.heap[w.heap.size]? = some (.cells (cdA h0 h1 h2 h3 h4) 26 (0, 0)) by rw [hW2]; exact grBlk (grAlloc _ _) (nBlk _ _ _ rfl))
  have HX2 := Lib.hid (show W2.heap[w.heap.size + 1]? = some (.cells (clA e i0 i1 i2 i3) 30 (0, 0)) by rw [hW2]; exact nBlk _ _ _ (by simp))
  have HHd := Lib.hid (head_any W2 (hE.gr hG2) (hI.gr hG2))
  have HSh := Lib.hid (fun wx => Short_any h0 h1 h2 h3 h4 4100 wx)
  have HE := Lib.hid hE
  have HI := Lib.hid hI
  have HV := Lib.hid hV
  have HR := Lib.hid hR
  have HS := Lib.hid hS
  have hnH := Lib.hid hn
  clear hE hI hV hR hS hn hG2
  go_enter Tryd.func3, Tryd.ntmps3
  go_upto_region 1 with fail
  rw [← hW2]
  clear hW2
  go_upto_region 2 with (go_at_call 7; refine HHd.out.mono ?_; rintro e w3 ⟨rfl, hg3⟩; have HG3 := Lib.hid (Gr.tr HG2.out hg3); have HC3 := Lib.hid (grBlk hg3 HC2.out); have HX3 := Lib.hid (grBlk hg3 HX2.out); clear hg3 HHd)
  obtain ⟨c0, c1, c2, c3, c4⟩ := cells5k HC3.out
  rcases hsh : shortB [h0, h1, h2, h3, h4] 4100 with _ | _
  · rw [hsh] at HSh
    clear hsh
    generalize vs.length = vl at *
    generalize st.length = sl at *
    go_wp2_with (go_at_call 8; refine (HSh.out _).mono ?_; rintro e w4 ⟨rfl, hg4⟩; have HG4 := Lib.hid (Gr.tr HG3.out hg4); have HC4 := Lib.hid (grBlk hg4 HC3.out); have HX4 := Lib.hid (grBlk hg4 HX3.out); clear c0 c1 c2 c3 c4 hg4 HSh)
    go_ret
    exact ⟨rfl, HG4.out⟩
  rw [hsh] at HSh
  by_cases b1 : vs.length ≤ 30
  · have tv : decide ((vs.length : Int) > 30) = false := by simp; omega
    by_cases b2 : st.length ≤ 30
    · have ts : decide ((st.length : Int) > 30) = false := by simp; omega
      have hl4 : ∀ h ∈ [h0, h1, h2, h3, h4], h.l.length ≤ 4500 := fun h hh => by have := short_all hsh h hh; omega
      have HR1 := Lib.hid (fun wx (hg : Gr w wx) => Run_any vs VA vc h0 h1 h2 h3 h4 st SA sc e i0 i1 i2 i3 wx (HV.out.gr hg) (fun h hh => (HR.out h hh).gr hg) hl4 (HS.out.gr hg) (HE.out.gr hg) (HI.out.gr hg) (by omega) hnH.out)
      have HS1 := Lib.hid (fun wx (hg : Gr w wx) => Steps_any vs VA vc h0 h1 h2 h3 h4 st SA sc e i0 i1 i2 i3 wx (HV.out.gr hg) (fun h hh => (HR.out h hh).gr hg) hl4 (HS.out.gr hg) (HE.out.gr hg) (HI.out.gr hg) (by omega) hnH.out)
      have HR2 := Lib.hid (fun wx (hg : Gr w wx) => RRun_any vs VA vc h0 h1 h2 h3 h4 st SA sc e i0 i1 i2 i3 wx (HV.out.gr hg) (fun h hh => (HR.out h hh).gr hg) (fun h hh => by have := hl4 h hh; omega) (HS.out.gr hg) (by omega))
      have HS2 := Lib.hid (fun wx (hg : Gr w wx) => RSteps_any vs VA vc h0 h1 h2 h3 h4 st SA sc e i0 i1 i2 i3 wx (HV.out.gr hg) (fun h hh => (HR.out h hh).gr hg) (fun h hh => by have := hl4 h hh; omega) (HS.out.gr hg) (by omega))
      have hRl := runF_len (vs := vs) (hs := [h0, h1, h2, h3, h4]) (st := st) (e := e) (i0 := i0) (i1 := i1) (i2 := i2) (i3 := i3)
      have hrl := Lib.hid (show (runF vs [h0, h1, h2, h3, h4] st e i0 i1 i2 i3).1.length ≤ 1000000 by omega)
      generalize runF vs [h0, h1, h2, h3, h4] st e i0 i1 i2 i3 = RF at *
      generalize stepsF vs [h0, h1, h2, h3, h4] st e i0 i1 i2 i3 = SF at *
      obtain ⟨rs, er⟩ := RF
      obtain ⟨nn, ne⟩ := SF
      simp only at HR1 HR2 HS1 HS2 hrl
      clear hsh b1 b2 hl4 hRl
      generalize vs.length = vl at *
      generalize st.length = sl at *
      go_upto_region 5 with (go_at_call 8; refine (HSh.out _).mono ?_; rintro e w4 ⟨rfl, hg4⟩; have HG4 := Lib.hid (Gr.tr HG3.out hg4); have HC4 := Lib.hid (grBlk hg4 HC3.out); have HX4 := Lib.hid (grBlk hg4 HX3.out); clear c0 c1 c2 c3 c4 hg4 HSh)
      obtain ⟨c0, c1, c2, c3, c4⟩ := cells5k HC4.out
      obtain ⟨x0, x1, x2, x3, x4⟩ := cells5k HX4.out
      go_upto_region 6 with (go_at_call 9; refine (HR1.out _ HG4.out).mono ?_; rintro e w5 ⟨⟨A1, k1, rfl, hI1, -⟩, hg5⟩; have HI1 := Lib.hid hI1; have HG5 := Lib.hid (Gr.tr HG4.out hg5); have HC5 := Lib.hid (grBlk hg5 HC4.out); have HX5 := Lib.hid (grBlk hg5 HX4.out); clear hg5 hI1 c0 c1 c2 c3 c4 x0 x1 x2 x3 x4 HR1)
      obtain ⟨c0, c1, c2, c3, c4⟩ := cells5k HC5.out
      obtain ⟨x0, x1, x2, x3, x4⟩ := cells5k HX5.out
      go_upto_region 7 with (go_at_call 10; refine (HR2.out _ HG5.out).mono ?_; rintro e w6 ⟨⟨A2, k2, rfl, hI2⟩, hg6⟩; have HI2 := Lib.hid hI2; have HI3 := Lib.hid (HI1.out.gr hg6); have HG6 := Lib.hid (Gr.tr HG5.out hg6); have HC6 := Lib.hid (grBlk hg6 HC5.out); have HX6 := Lib.hid (grBlk hg6 HX5.out); clear hg6 hI2 c0 c1 c2 c3 c4 x0 x1 x2 x3 x4 HR2)
      obtain ⟨c0, c1, c2, c3, c4⟩ := cells5k HC6.out
      obtain ⟨x0, x1, x2, x3, x4⟩ := cells5k HX6.out
      go_upto_region 8 with (go_at_call 11; refine (HS1.out _ HG6.out).mono ?_; rintro e w7 ⟨rfl, hg7⟩; have HI4 := Lib.hid (HI3.out.gr hg7); have HI5 := Lib.hid (HI2.out.gr hg7); have HG7 := Lib.hid (Gr.tr HG6.out hg7); have HC7 := Lib.hid (grBlk hg7 HC6.out); have HX7 := Lib.hid (grBlk hg7 HX6.out); clear hg7 c0 c1 c2 c3 c4 x0 x1 x2 x3 x4 HS1)
      obtain ⟨c0, c1, c2, c3, c4⟩ := cells5k HC7.out
      obtain ⟨x0, x1, x2, x3, x4⟩ := cells5k HX7.out
      go_upto_region 9 with (go_at_call 12; refine (HS2.out _ HG7.out).mono ?_; rintro e w8 ⟨rfl, hg8⟩; have HI6 := Lib.hid (HI4.out.gr hg8); have HI7 := Lib.hid (HI5.out.gr hg8); have HG8 := Lib.hid (Gr.tr HG7.out hg8); clear hg8 c0 c1 c2 c3 c4 x0 x1 x2 x3 x4 HS2)
      have HIn := Ints_any rs rs A1 A2 k1 k2 w8 HI6.out HI7.out hrl.out
      rw [intsB_self] at HIn
      have HIn := Lib.hid HIn
      clear HI1 HI2 HI3 HI4 HI5 HI6 HI7 HC4 HC5 HC6 HC7 HX4 HX5 HX6 HX7
      go_wp2_with (go_at_call 13; refine HIn.out.mono ?_; rintro e wk ⟨rfl, hgk⟩; have HGk := Lib.hid (Gr.tr HG8.out hgk); clear hgk)
      go_ret
      exact ⟨by simp, HGk.out⟩
    · have ts : decide ((st.length : Int) > 30) = true := by simp; omega
      clear hsh b1 b2
      generalize vs.length = vl at *
      generalize st.length = sl at *
      go_wp2_with (go_at_call 8; refine (HSh.out _).mono ?_; rintro e w4 ⟨rfl, hg4⟩; have HG4 := Lib.hid (Gr.tr HG3.out hg4); have HC4 := Lib.hid (grBlk hg4 HC3.out); have HX4 := Lib.hid (grBlk hg4 HX3.out); clear c0 c1 c2 c3 c4 hg4 HSh)
      go_ret
      exact ⟨rfl, HG4.out⟩
  · have tv : decide ((vs.length : Int) > 30) = true := by simp; omega
    clear hsh b1
    generalize vs.length = vl at *
    generalize st.length = sl at *
    go_wp2_with (go_at_call 8; refine (HSh.out _).mono ?_; rintro e w4 ⟨rfl, hg4⟩; have HG4 := Lib.hid (Gr.tr HG3.out hg4); have HC4 := Lib.hid (grBlk hg4 HC3.out); have HX4 := Lib.hid (grBlk hg4 HX3.out); clear c0 c1 c2 c3 c4 hg4 HSh)
    go_ret
    exact ⟨rfl, HG4.out⟩
end N
end Go.Proofs.YthgngkajdiclcaaDoor
