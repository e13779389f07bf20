/- Package machine: Run, Steps. Conditions: the laid variables. -/
import Derived.Test.YthgngkajdiclcaaDoorNdE
namespace Go.Proofs.YthgngkajdiclcaaDoor
open Go.RowKit
set_option linter.unusedVariables false
set_option linter.unusedSimpArgs false
namespace N
open K
theorem StO.ints {B b : Nat} {w : World} {st : List Int} {SA : Option Addr} (h : StO B b w st SA) : IntsR w st SA := by
  rcases h with h | ⟨g, cs, T, h1, -, -, h4, h5⟩
  · exact .inl h
  · exact .inr ⟨g, 0, h1, fun i n hi => by rw [Nat.zero_add]; exact (cell_of_row _ _ i _ _ (0, 0) h4).trans (h5 i n hi)⟩
theorem cdAt {w : World} {b : Nat} {h0 h1 h2 h3 h4 : Hd} {T : TypeId} (h : w.heap[b]? = some (.cells (cdA h0 h1 h2 h3 h4) T (0, 0))) {k : Nat} {x : Hd} (hk : [h0, h1, h2, h3, h4][k]? = some x) : w.cell? ⟨b, k, none⟩ = some (hdV x) := by
  rw [cell_of_row _ _ k _ _ (0, 0) h]
  rcases k with _ | _ | _ | _ | _ | k <;> simp at hk <;> subst hk <;> rfl
set_option maxHeartbeats 4000000 in
set_option maxRecDepth 100000 in
theorem Run_any (vs : List (Int × Int)) (VA : Option Addr) (vc : Nat) (h0 h1 h2 h3 h4 : Hd) (st : List Int) (SA : Option Addr) (sc : Nat) (e i0 i1 i2 i3 : Int) (w : World) (hV : VsR w vs VA) (hR : ∀ h ∈ [h0, h1, h2, h3, h4], InsR w h.l h.A) (hlen : ∀ h ∈ [h0, h1, h2, h3, h4], h.l.length ≤ 4500) (hS : IntsR w st SA) (hE : LaidE w) (hI : LaidI w) (hvl : vs.length ≤ 1000) (hn : SA = none → sc = 0) :
    Calls Tryd.prog 9 #[.slice VA vs.length vc, .agg (cdA h0 h1 h2 h3 h4), .slice SA st.length sc, .agg (clA e i0 i1 i2 i3)] w (RnP (runF vs [h0, h1, h2, h3, h4] st e i0 i1 i2 i3).1 (runF vs [h0, h1, h2, h3, h4] st e i0 i1 i2 i3).2 w) := by
  obtain ⟨R, hR0⟩ : ∃ R, runF vs [h0, h1, h2, h3, h4] st e i0 i1 i2 i3 = R := ⟨_, rfl⟩
  rw [hR0]
  obtain ⟨hsL, hhs⟩ : ∃ hsL, hsL = [h0, h1, h2, h3, h4] := ⟨_, rfl⟩
  obtain ⟨W2, hW2⟩ : ∃ W2, W2 = (w.alloc (.cells (cdA h0 h1 h2 h3 h4) 26)).alloc (.cells (clA e i0 i1 i2 i3) 30) := ⟨_, rfl⟩
  have HG2 := Lib.hid (show Gr w W2 by rw [hW2]; exact (grAlloc _ _).tr (grAlloc _ _))
  have HC2 := Lib.hid (show W2.heap[w.heap.size]? = some (.cells (cdA h0 h1 h2 h3 h4) 26 (0, 0)) by rw [hW2]; exact grBlk (grAlloc _ _) (nBlk _ _ _ rfl))
  have HX2 := Lib.hid (show W2.heap[w.heap.size + 1]? = some (.cells (clA e i0 i1 i2 i3) 30 (0, 0)) by rw [hW2]; exact nBlk _ _ _ (by simp))
  have HF := Lib.hid (fun wx (hg : Gr w wx) => fit_any vs VA vc h0 h1 h2 h3 h4 st SA sc e i0 i1 i2 i3 wx (hV.gr hg) (fun h hh => (hR h hh).gr hg) hlen (hS.gr hg) (hE.gr hg) (hI.gr hg) hvl)
  have hcd := Lib.hid (fun (wx : World) (hX : wx.heap[w.heap.size]? = some (.cells (cdA h0 h1 h2 h3 h4) 26 (0, 0))) (k : Nat) (x : Hd) (hk : hsL[k]? = some x) => cdAt hX (k := k) (x := x) (by rw [← hhs]; exact hk))
  have hl5 := Lib.hid (show hsL.length = 5 by rw [hhs]; rfl)
  rw [← hhs] at hR HF hR0
  have HR := Lib.hid hR
  have HV := Lib.hid hV
  have HS := Lib.hid hS
  have hnH := Lib.hid hn
  unfold runF at hR0
  have hRH := Lib.hid hR0
  have hvlH := Lib.hid hvl
  clear hV hR hlen hS hE hI hhs hn hR0 hvl
  obtain ⟨c0, c1, c2, c3, c4⟩ := cells5k HC2.out
  obtain ⟨x0, x1, x2, x3, x4⟩ := cells5k HX2.out
  go_enter Tryd.func9, Tryd.ntmps9
  go_upto_region 1 with fail
  rw [← hW2]
  clear hW2
  rcases hfit : fitB vs hsL st e i0 i1 i2 i3 with _ | _
  · have hRe := hRH.out
    rw [hfit] at hRe HF
    simp only [Bool.false_eq_true, if_false] at hRe
    subst hRe
    clear hRH hfit
    go_wp2_with (go_at_call 22; refine (HF.out _ HG2.out).mono ?_; rintro e w3 ⟨rfl, hg3⟩; have HG3 := Lib.hid (Gr.tr HG2.out hg3); clear hg3)
    go_ret2
    exact ⟨⟨none, 0, rfl, .inl rfl, fun _ => rfl⟩, HG3.out⟩
  · obtain ⟨k, x, H, hek, hkx, hk5, hH, hl4, hstl, htv, hxm⟩ := fit_open hl5.out hfit
    have hRe := hRH.out
    rw [hfit] at hRe HF
    rw [hek, Int.toNat_natCast, hkx] at hRe
    simp only [if_true, Option.getD_some] at hRe
    subst hek
    have hReH := Lib.hid hRe
    clear hRH hfit hRe
    have HN := Lib.hid (fun (wx : World) (hg : Gr w wx) => newMachine_any VA vs.length vc st SA sc k i0 i1 i2 i3 wx (HS.out.gr hg) (by rw [hstl]; have := hvlH.out; omega) hnH.out)
    have HRu := Lib.hid (fun (W0 wx : World) (b : Nat) (A : Option Addr) (cap : Nat) (hgw : Gr w W0) (hb : W0.heap.size ≤ b) (hM : MAt wx b (.slice VA vs.length vc) (.slice A st.length cap) i0 i1 i2 i3 []) (hO : StO W0.heap.size b wx st A) (hG : Gr W0 wx) (hA : ∀ g, A = some ⟨g, 0, none⟩ → g < wx.heap.size) =>
      run_any W0 b hb vs VA vc (HV.out.gr hgw) A cap i0 i1 i2 i3 x.l x.A x.c H hH ((HR.out x hxm).gr hgw) hl4 st hstl htv wx hM hO hG hA)
    have hkxH := Lib.hid hkx
    have hlenR := Lib.hid (run_len (vs := vs) (ins := [i0, i1, i2, i3]) (l := x.l) x.l.length 0 [] st 0)
    clear hH hl4 htv hxm hkx
    obtain ⟨RR, hRR⟩ : ∃ RR, run0 vs [i0, i1, i2, i3] x.l st = RR := ⟨_, rfl⟩
    rw [hRR] at hReH
    have hRRH := Lib.hid (show run vs [i0, i1, i2, i3] x.l x.l.length 0 [] st 0 = RR from hRR)
    rw [hRRH.out] at hlenR HRu
    obtain ⟨rs, kk, er⟩ := RR
    simp only at hReH hlenR
    clear hRR hRRH
    generalize hvn : vs.length = vl at *
    generalize hsn : st.length = sl at *
    have hsnH := Lib.hid hsn
    clear hvn hsn hstl
    go_upto_region 3 with (go_at_call 22; refine (HF.out _ HG2.out).mono ?_; rintro e w3 ⟨rfl, hg3⟩; have HG3 := Lib.hid (Gr.tr HG2.out hg3); have HC3 := Lib.hid (grBlk hg3 HC2.out); have HX3 := Lib.hid (grBlk hg3 HX2.out); clear hg3 HF)
    clear x0 x1 x2 x3 x4 c0 c1 c2 c3 c4
    obtain ⟨x0, x1, x2, x3, x4⟩ := cells5k HX3.out
    go_wp2_with fail
    refine (HN.out _ HG3.out).mono ?_
    rintro e w4 ⟨⟨b, A, cap, rfl, hb, hM, hO, hA, hAc⟩, hg4⟩
    have HC4 := Lib.hid (grBlk hg4 HC3.out)
    have HX4 := Lib.hid (grBlk hg4 HX3.out)
    rw [hsnH.out] at hM
    have HM := Lib.hid hM
    have HO := Lib.hid hO
    have HA := Lib.hid hA
    have hbH := Lib.hid hb
    have hAcH := Lib.hid hAc
    have HG4 := Lib.hid hg4
    clear hM hO hA hb hAc hg4 x0 x1 x2 x3 x4 HN
    obtain ⟨x0, x1, x2, x3, x4⟩ := cells5k HX4.out
    have ck := hcd.out _ HC4.out k x hkxH.out
    go_wp2_with fail
    refine (HRu.out w3 w4 b A cap HG3.out hbH.out HM.out HO.out HG4.out HA.out).mono ?_
    rintro e w5 ⟨rfl, ⟨s5, hM5⟩, hO5, hG5⟩
    simp only at hO5
    have HG5 := Lib.hid (HG3.out.tr hG5)
    obtain ⟨-, m1, -, -, -, -, -⟩ := hM5.cells
    have HI5 := Lib.hid hO5.ints
    clear hM5 hO5 hG5 x0 x1 x2 x3 x4 ck HRu HC4 HX4
    by_cases h0 : er = 0
    · subst h0
      have hRe := hReH.out
      simp only [if_true] at hRe
      subst hRe
      clear hReH
      go_wp2
      go_ret2
      exact ⟨⟨A, cap, by rw [show (rs, (0 : Int)).fst.length = sl from hlenR.out]; rfl, HI5.out, hAcH.out⟩, HG5.out⟩
    · have hRe := hReH.out
      rw [if_neg h0] at hRe
      subst hRe
      have hne : (er != 0) = true := by simp [h0]
      clear hReH h0
      go_wp2
      go_ret2
      exact ⟨⟨none, 0, rfl, .inl rfl, fun _ => rfl⟩, HG5.out⟩
set_option maxHeartbeats 4000000 in
set_option maxRecDepth 100000 in
theorem Steps_any (vs : List (Int × Int)) (VA : Option Addr) (vc : Nat) (h0 h1 h2 h3 h4 : Hd) (st : List Int) (SA : Option Addr) (sc : Nat) (e i0 i1 i2 i3 : Int) (w : World) (hV : VsR w vs VA) (hR : ∀ h ∈ [h0, h1, h2, h3, h4], InsR w h.l h.A) (hlen : ∀ h ∈ [h0, h1, h2, h3, h4], h.l.length ≤ 4500) (hS : IntsR w st SA) (hE : LaidE w) (hI : LaidI w) (hvl : vs.length ≤ 1000) (hn : SA = none → sc = 0) :
    Calls Tryd.prog 11 #[.slice VA vs.length vc, .agg (cdA h0 h1 h2 h3 h4), .slice SA st.length sc, .agg (clA e i0 i1 i2 i3)] w (GG (.tuple #[.int .i64 (stepsF vs [h0, h1, h2, h3, h4] st e i0 i1 i2 i3).1, .int .i64 (stepsF vs [h0, h1, h2, h3, h4] st e i0 i1 i2 i3).2]) w) := by
  obtain ⟨R, hR0⟩ : ∃ R, stepsF vs [h0, h1, h2, h3, h4] st e i0 i1 i2 i3 = R := ⟨_, rfl⟩
  rw [hR0]
  obtain ⟨hsL, hhs⟩ : ∃ hsL, hsL = [h0, h1, h2, h3, h4] := ⟨_, rfl⟩
  obtain ⟨W2, hW2⟩ : ∃ W2, W2 = (w.alloc (.cells (cdA h0 h1 h2 h3 h4) 26)).alloc (.cells (clA e i0 i1 i2 i3) 30) := ⟨_, rfl⟩
  have HG2 := Lib.hid (show Gr w W2 by rw [hW2]; exact (grAlloc _ _).tr (grAlloc _ _))
  have HC2 := Lib.hid (show W2.heap[w.heap.size]? = some (.cells (cdA h0 h1 h2 h3 h4) 26 (0, 0)) by rw [hW2]; exact grBlk (grAlloc _ _) (nBlk _ _ _ rfl))
  have HX2 := Lib.hid (show W2.heap[w.heap.size + 1]? = some (.cells (clA e i0 i1 i2 i3) 30 (0, 0)) by rw [hW2]; exact nBlk _ _ _ (by simp))
  have HF := Lib.hid (fun wx (hg : Gr w wx) => fit_any vs VA vc h0 h1 h2 h3 h4 st SA sc e i0 i1 i2 i3 wx (hV.gr hg) (fun h hh => (hR h hh).gr hg) hlen (hS.gr hg) (hE.gr hg) (hI.gr hg) hvl)
  have hcd := Lib.hid (fun (wx : World) (hX : wx.heap[w.heap.size]? = some (.cells (cdA h0 h1 h2 h3 h4) 26 (0, 0))) (k : Nat) (x : Hd) (hk : hsL[k]? = some x) => cdAt hX (k := k) (x := x) (by rw [← hhs]; exact hk))
  have hl5 := Lib.hid (show hsL.length = 5 by rw [hhs]; rfl)
  rw [← hhs] at hR HF hR0
  have HR := Lib.hid hR
  have HV := Lib.hid hV
  have HS := Lib.hid hS
  have hnH := Lib.hid hn
  unfold stepsF at hR0
  have hRH := Lib.hid hR0
  have hvlH := Lib.hid hvl
  clear hV hR hlen hS hE hI hhs hn hR0 hvl
  obtain ⟨c0, c1, c2, c3, c4⟩ := cells5k HC2.out
  obtain ⟨x0, x1, x2, x3, x4⟩ := cells5k HX2.out
  go_enter Tryd.func11, Tryd.ntmps11
  go_upto_region 1 with fail
  rw [← hW2]
  clear hW2
  rcases hfit : fitB vs hsL st e i0 i1 i2 i3 with _ | _
  · have hRe := hRH.out
    rw [hfit] at hRe HF
    simp only [Bool.false_eq_true, if_false] at hRe
    subst hRe
    clear hRH hfit
    go_wp2_with (go_at_call 22; refine (HF.out _ HG2.out).mono ?_; rintro e w3 ⟨rfl, hg3⟩; have HG3 := Lib.hid (Gr.tr HG2.out hg3); clear hg3)
    go_ret2
    exact ⟨rfl, HG3.out⟩
  · obtain ⟨k, x, H, hek, hkx, hk5, hH, hl4, hstl, htv, hxm⟩ := fit_open hl5.out hfit
    have hRe := hRH.out
    rw [hfit] at hRe HF
    rw [hek, Int.toNat_natCast, hkx] at hRe
    simp only [if_true, Option.getD_some] at hRe
    subst hek
    have hReH := Lib.hid hRe
    clear hRH hfit hRe
    have HN := Lib.hid (fun (wx : World) (hg : Gr w wx) => newMachine_any VA vs.length vc st SA sc k i0 i1 i2 i3 wx (HS.out.gr hg) (by rw [hstl]; have := hvlH.out; omega) hnH.out)
    have HRu := Lib.hid (fun (W0 wx : World) (b : Nat) (A : Option Addr) (cap : Nat) (hgw : Gr w W0) (hb : W0.heap.size ≤ b) (hM : MAt wx b (.slice VA vs.length vc) (.slice A st.length cap) i0 i1 i2 i3 []) (hO : StO W0.heap.size b wx st A) (hG : Gr W0 wx) (hA : ∀ g, A = some ⟨g, 0, none⟩ → g < wx.heap.size) =>
      run_any W0 b hb vs VA vc (HV.out.gr hgw) A cap i0 i1 i2 i3 x.l x.A x.c H hH ((HR.out x hxm).gr hgw) hl4 st hstl htv wx hM hO hG hA)
    have hkxH := Lib.hid hkx
    have hlenR := Lib.hid (run_len (vs := vs) (ins := [i0, i1, i2, i3]) (l := x.l) x.l.length 0 [] st 0)
    clear hH hl4 htv hxm hkx
    obtain ⟨RR, hRR⟩ : ∃ RR, run0 vs [i0, i1, i2, i3] x.l st = RR := ⟨_, rfl⟩
    rw [hRR] at hReH
    have hRRH := Lib.hid (show run vs [i0, i1, i2, i3] x.l x.l.length 0 [] st 0 = RR from hRR)
    rw [hRRH.out] at hlenR HRu
    obtain ⟨rs, kk, er⟩ := RR
    simp only at hReH hlenR
    clear hRR hRRH
    generalize hvn : vs.length = vl at *
    generalize hsn : st.length = sl at *
    have hsnH := Lib.hid hsn
    clear hvn hsn hstl
    go_upto_region 3 with (go_at_call 22; refine (HF.out _ HG2.out).mono ?_; rintro e w3 ⟨rfl, hg3⟩; have HG3 := Lib.hid (Gr.tr HG2.out hg3); have HC3 := Lib.hid (grBlk hg3 HC2.out); have HX3 := Lib.hid (grBlk hg3 HX2.out); clear hg3 HF)
    clear x0 x1 x2 x3 x4 c0 c1 c2 c3 c4
    obtain ⟨x0, x1, x2, x3, x4⟩ := cells5k HX3.out
    go_wp2_with fail
    refine (HN.out _ HG3.out).mono ?_
    rintro e w4 ⟨⟨b, A, cap, rfl, hb, hM, hO, hA, hAc⟩, hg4⟩
    have HC4 := Lib.hid (grBlk hg4 HC3.out)
    have HX4 := Lib.hid (grBlk hg4 HX3.out)
    rw [hsnH.out] at hM
    have HM := Lib.hid hM
    have HO := Lib.hid hO
    have HA := Lib.hid hA
    have hbH := Lib.hid hb
    have hAcH := Lib.hid hAc
    have HG4 := Lib.hid hg4
    clear hM hO hA hb hAc hg4 x0 x1 x2 x3 x4 HN
    obtain ⟨x0, x1, x2, x3, x4⟩ := cells5k HX4.out
    have ck := hcd.out _ HC4.out k x hkxH.out
    go_wp2_with fail
    refine (HRu.out w3 w4 b A cap HG3.out hbH.out HM.out HO.out HG4.out HA.out).mono ?_
    rintro e w5 ⟨rfl, ⟨s5, hM5⟩, hO5, hG5⟩
    simp only at hO5
    have HG5 := Lib.hid (HG3.out.tr hG5)
    obtain ⟨-, m1, -, -, -, -, -⟩ := hM5.cells
    have HI5 := Lib.hid hO5.ints
    clear hM5 hO5 hG5 x0 x1 x2 x3 x4 ck HRu HC4 HX4
    have hRe := hReH.out
    subst hRe
    clear hReH
    go_wp2
    go_ret2
    exact ⟨rfl, HG5.out⟩
end N
end Go.Proofs.YthgngkajdiclcaaDoor
