/- Package machine: fit, Run, Steps. Conditions: the laid variables. -/
import Derived.Test.YthgngkajdiclcaaDoorNdD
namespace Go.Proofs.YthgngkajdiclcaaDoor
open Go.RowKit
set_option linter.unusedVariables false
set_option linter.unusedSimpArgs false
namespace N
open K
def fitB (vs : List (Int × Int)) (hs : List Hd) (st : List Int) (e i0 i1 i2 i3 : Int) : Bool := (verC hs vs.length && stB vs st) && rsB e i0 i1 i2 i3 0
set_option maxHeartbeats 4000000 in
set_option maxRecDepth 100000 in
theorem fit_any (vs : List (Int × Int)) (VA : Option Addr) (vc : Nat) (h0 h1 h2 h3 h4 : Hd) (st : List Int) (SA : Option Addr) (sc : Nat) (e i0 i1 i2 i3 : Int) (w : World) (hV : VsR w vs VA) (hR : ∀ h ∈ [h0, h1, h2, h3, h4], InsR w h.l h.A) (hlen : ∀ h ∈ [h0, h1, h2, h3, h4], h.l.length ≤ 4500) (hS : IntsR w st SA) (hE : LaidE w) (hI : LaidI w) (hvl : vs.length ≤ 1000) :
    Calls Tryd.prog 22 #[.slice VA vs.length vc, .agg (cdA h0 h1 h2 h3 h4), .slice SA st.length sc, .agg (clA e i0 i1 i2 i3)] w (BB (fitB vs [h0, h1, h2, h3, h4] st e i0 i1 i2 i3) w) := by
  obtain ⟨W2, hW2⟩ : ∃ W2, W2 = (w.alloc (.cells (cdA h0 h1 h2 h3 h4) 26)).alloc (.cells (clA e i0 i1 i2 i3) 30) := ⟨_, rfl⟩
  have HG2 := Lib.hid (show Gr w W2 by rw [hW2]; exact (grAlloc _ _).tr (grAlloc _ _))
  have HC2 := Lib.hid (show W2.heap[w.heap.size]? = some (.cells (cdA h0 h1 h2 h3 h4) 26 (0, 0)) by rw [hW2]; exact grBlk (grAlloc _ _) (nBlk _ _ _ rfl))
  have HX2 := Lib.hid (show W2.heap[w.heap.size + 1]? = some (.cells (clA e i0 i1 i2 i3) 30 (0, 0)) by rw [hW2]; exact nBlk _ _ _ (by simp))
  have HVe := Lib.hid (fun wx (hg : Gr w wx) => Verify_any h0 h1 h2 h3 h4 vs.length (by omega) wx (fun h hh => (hR h hh).gr hg) hlen (hE.gr hg))
  have HSt := Lib.hid (fun wx (hg : Gr w wx) => isState_any vs VA vc st SA sc wx (hV.gr hg) (hS.gr hg) (by omega))
  have HCa := Lib.hid (fun wx (hg : Gr w wx) => isCall_any e i0 i1 i2 i3 wx (hI.gr hg))
  unfold fitB
  generalize verC [h0, h1, h2, h3, h4] vs.length = bv at *
  generalize stB vs st = bs at *
  generalize rsB e i0 i1 i2 i3 0 = bc at *
  clear hV hR hlen hS hE hI
  generalize vs.length = vl at *
  generalize st.length = sl at *
  obtain ⟨c0, c1, c2, c3, c4⟩ := cells5k HC2.out
  obtain ⟨x0, x1, x2, x3, x4⟩ := cells5k HX2.out
  go_enter Tryd.func22, Tryd.ntmps22
  go_upto_region 1 with fail
  rw [← hW2]
  clear hW2
  cases bv with
  | false =>
    go_wp2_with (go_at_call 29; refine (HVe.out _ HG2.out).mono ?_; rintro e w3 ⟨rfl, hg3⟩; have HG3 := Lib.hid (Gr.tr HG2.out hg3); clear hg3)
    go_ret
    exact ⟨rfl, HG3.out⟩
  | true =>
    cases bs with
    | false =>
      go_wp2_with (first
        | (go_at_call 29; refine (HVe.out _ HG2.out).mono ?_; rintro e w3 ⟨rfl, hg3⟩; have HG3 := Lib.hid (Gr.tr HG2.out hg3); clear hg3)
        | (go_at_call 30; refine (HSt.out _ HG3.out).mono ?_; rintro e w4 ⟨rfl, hg4⟩; have HG4 := Lib.hid (Gr.tr HG3.out hg4); clear hg4))
      go_ret
      exact ⟨rfl, HG4.out⟩
    | true =>
      go_wp2_with (first
        | (go_at_call 29; refine (HVe.out _ HG2.out).mono ?_; rintro e w3 ⟨rfl, hg3⟩; have HG3 := Lib.hid (Gr.tr HG2.out hg3); obtain ⟨y0, y1, y2, y3, y4⟩ := cells5k (grBlk hg3 HX2.out); clear hg3)
        | (go_at_call 30; refine (HSt.out _ HG3.out).mono ?_; rintro e w4 ⟨rfl, hg4⟩; have HG4 := Lib.hid (Gr.tr HG3.out hg4); have y0 := grCell hg4 y0; have y1 := grCell hg4 y1; have y2 := grCell hg4 y2; have y3 := grCell hg4 y3; have y4 := grCell hg4 y4; clear hg4)
        | (go_at_call 31; refine (HCa.out _ HG4.out).mono ?_; rintro e w5 ⟨rfl, hg5⟩; have HG5 := Lib.hid (Gr.tr HG4.out hg5); clear hg5))
      go_ret
      exact ⟨by simp, HG5.out⟩
theorem run_len {vs : List (Int × Int)} {ins : List Int} {l : List In} : ∀ (f i : Nat) (s st : List Int) (k : Nat), (run vs ins l f i s st k).1.length = st.length
  | 0, _, _, _, _ => rfl
  | f + 1, i, s, st, k => by
    rw [run]
    cases hx : l[i]? with
    | none => rfl
    | some x =>
      have hs : (step vs ins x i s st).1.st.length = st.length := by
        unfold step psh
        repeat' split
        all_goals simp
      simp only
      split
      · rw [run_len f, hs]
      · exact hs
/-- what Run leaves -/
def RnP (rs : List Int) (er : Int) (w : World) (e : Ending) (w' : World) : Prop :=
  (∃ A c, e = .returned (.tuple #[.slice A rs.length c, .int .i64 er]) ∧ IntsR w' rs A ∧ (A = none → c = 0)) ∧ Gr w w'
/-- Run and Steps, as functions -/
def runF (vs : List (Int × Int)) (hs : List Hd) (st : List Int) (e i0 i1 i2 i3 : Int) : List Int × Int :=
  if fitB vs hs st e i0 i1 i2 i3 = true then (if (run0 vs [i0, i1, i2, i3] ((hs[e.toNat]?).getD ⟨[], none, 0⟩).l st).2.2 = 0 then ((run0 vs [i0, i1, i2, i3] ((hs[e.toNat]?).getD ⟨[], none, 0⟩).l st).1, 0) else ([], (run0 vs [i0, i1, i2, i3] ((hs[e.toNat]?).getD ⟨[], none, 0⟩).l st).2.2)) else ([], 1)
def stepsF (vs : List (Int × Int)) (hs : List Hd) (st : List Int) (e i0 i1 i2 i3 : Int) : Int × Int :=
  if fitB vs hs st e i0 i1 i2 i3 = true then (((run0 vs [i0, i1, i2, i3] ((hs[e.toNat]?).getD ⟨[], none, 0⟩).l st).2.1 : Nat), 0) else (0, 1)
theorem rsB_e {e i0 i1 i2 i3 : Int} (h : rsB e i0 i1 i2 i3 0 = true) : 0 ≤ e ∧ e ≤ 4 := by
  unfold rsB at h
  simp only [Bool.and_eq_true] at h
  exact btw_iff.1 h.2.2.2.2
/-- what fits, opened -/
theorem fit_open {vs : List (Int × Int)} {hs : List Hd} {st : List Int} {e i0 i1 i2 i3 : Int} (hl : hs.length = 5) (h : fitB vs hs st e i0 i1 i2 i3 = true) :
    ∃ (k : Nat) (x : Hd) (H : List Int), e = k ∧ hs[k]? = some x ∧ k < 5 ∧ Hts H vs.length x.l ∧ x.l.length ≤ 4000 ∧ st.length = vs.length ∧ (∀ n ∈ st, vN n = true) ∧ x ∈ hs := by
  unfold fitB at h
  simp only [Bool.and_eq_true] at h
  obtain ⟨⟨hv, hs2⟩, hc⟩ := h
  obtain ⟨e0, e4⟩ := rsB_e hc
  obtain ⟨k, hk⟩ := Int.eq_ofNat_of_zero_le e0
  have hk5 : k < hs.length := by omega
  unfold verC verAll at hv
  simp only [Bool.and_eq_true, List.all_eq_true] at hv
  have hx := hv.2 _ (List.getElem_mem hk5)
  obtain ⟨hl4, H, a1, a2, a3⟩ := ver_spec hx
  unfold stB at hs2
  simp only [Bool.and_eq_true, decide_eq_true_eq] at hs2
  exact ⟨k, hs[k], H, hk, List.getElem?_eq_getElem hk5, by omega, ⟨a1, a2, a3⟩, hl4, hs2.1, inLB_v hs2.1 hs2.2, List.getElem_mem hk5⟩
end N
end Go.Proofs.YthgngkajdiclcaaDoor
