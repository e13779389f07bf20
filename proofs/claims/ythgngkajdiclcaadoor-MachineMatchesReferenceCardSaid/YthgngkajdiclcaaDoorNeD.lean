/- The reference 10's State, Fits. -/
import Derived.Test.YthgngkajdiclcaaDoorNeC
import Derived.BigQuiet
namespace Go.Proofs.YthgngkajdiclcaaDoor
open Go.RowKit
set_option linter.unusedVariables false
set_option linter.unusedSimpArgs false
namespace N
open K
theorem inLB_end2 {vs : List (Int × Int)} {st : List Int} {k : Nat} (h1 : st.length ≤ k) : inLB (vs.drop k) (st.drop k) = true := by
  rw [List.drop_eq_nil_of_le h1]
  unfold inLB
  cases vs.drop k <;> rfl
set_option maxHeartbeats 4000000 in
set_option maxRecDepth 100000 in
theorem RState_any (vs : List (Int × Int)) (VA : Option Addr) (vc : Nat) (st : List Int) (SA : Option Addr) (sc : Nat) (w : World) (hV : VsR w vs VA) (hS : IntsR w st SA) (hvl : vs.length ≤ 1000000) :
    Calls Tryd.prog 15 #[.slice VA vs.length vc, .slice SA st.length sc] w (BB (stB vs st) w) := by
  obtain ⟨R, hRR⟩ : ∃ R, stB vs st = R := ⟨_, rfl⟩
  rw [hRR]
  have hRH := Lib.hid (show (decide (st.length = vs.length) && inLB (vs.drop 0) (st.drop 0)) = R from hRR)
  have HV := Lib.hid hV
  have HS := Lib.hid hS
  clear hRR hV hS
  go_enter Tryd.func15, Tryd.ntmps15
  go_upto_region 2 with fail
  go_loopg [5] (vs.length) (fun gk i wr => ∃ k : Nat, k + gk = vs.length ∧ k ≤ st.length ∧ i = .int .i64 k ∧ Hid ((decide (st.length = vs.length) && inLB (vs.drop k) (st.drop k)) = R) ∧ Hid (Below w.heap.size w wr))
  case atStart => exact ⟨0, by omega, Nat.zero_le _, rfl, hRH, Lib.hid (Below.refl _ _)⟩
  case round =>
    obtain ⟨k, hk, hks, rfl, hG, hW⟩ := hrel
    by_cases hlt : k < vs.length
    · obtain ⟨gq, rfl⟩ : ∃ g, gk = g + 1 := ⟨gk - 1, by omega⟩
      by_cases hlt2 : k < st.length
      · obtain ⟨ga, oa, rfl, e2, e3⟩ := HV.out.at (List.getElem?_eq_getElem hlt)
        obtain ⟨gs, os, rfl, has⟩ := HS.out.addr (by intro e; rw [e] at hlt2; simp at hlt2)
        have s0 := has k _ (List.getElem?_eq_getElem hlt2)
        have e2 := grCell hW.out e2
        have e3 := grCell hW.out e3
        have s0 := grCell hW.out s0
        have hGd := hG.out
        rw [inLB_drop hlt hlt2] at hGd
        generalize hvk : vs[k] = u at *
        generalize st[k] = n at *
        obtain ⟨lo, hi⟩ := u
        simp only at e2 e3
        have hGd : (decide (st.length = vs.length) && ((vN n && btw n lo hi) && inLB (vs.drop (k + 1)) (st.drop (k + 1)))) = R := hGd
        have HVl := Lib.hid (fun wx => RValue_any n wx)
        clear has hG hvk
        go_upto_region 5 with (go_at_call 27; refine (HVl.out _).mono ?_; rintro e w3 ⟨rfl, hw⟩; rw [hw]; clear hw)
        rcases hv : vN n with _ | _
        · rw [hv] at hGd
          obtain rfl : false = R := by simpa using hGd
          clear hv hGd
          go_quiet (fail)
          go_wp2
          go_ret
          exact ⟨rfl, by first | exact bDrewN hW.out _ | exact hW.out⟩
        · by_cases h1 : n < lo
          · have t1 : decide (n < lo) = true := decide_eq_true h1
            obtain rfl : false = R := by
              rw [show btw n lo hi = false by rw [Bool.eq_false_iff]; intro h; have := btw_iff.1 h; omega] at hGd
              simpa using hGd
            clear hGd h1 hv
            go_quiet (fail)
            go_wp2
            go_ret
            exact ⟨rfl, by first | exact bDrewN hW.out _ | exact hW.out⟩
          · have t1 : decide (n < lo) = false := decide_eq_false h1
            by_cases h2 : hi < n
            · have t2 : decide (n > hi) = true := decide_eq_true h2
              obtain rfl : false = R := by
                rw [show btw n lo hi = false by rw [Bool.eq_false_iff]; intro h; have := btw_iff.1 h; omega] at hGd
                simpa using hGd
              clear hGd h1 h2 hv
              go_quiet (fail)
              go_wp2
              go_ret
              exact ⟨rfl, by first | exact bDrewN hW.out _ | exact hW.out⟩
            · have t2 : decide (n > hi) = false := decide_eq_false h2
              have hG2 := Lib.hid (show (decide (st.length = vs.length) && inLB (vs.drop (k + 1)) (st.drop (k + 1))) = R by
                rw [hv, show btw n lo hi = true from btw_iff.2 ⟨by omega, by omega⟩] at hGd
                simpa using hGd)
              have qi : IntKind.i64.wrap ((k : Int) + 1) = (k : Int) + 1 := IntWalk.i64_in _ (by omega)
              clear hGd h1 h2 hv
              go_quiet (fail)
              go_wp2
              go_roundg gq
              case measure => omega
              case rel => exact ⟨k + 1, by omega, by omega, by go_num, hG2, Lib.hid (by first | exact bDrewN hW.out _ | exact hW.out)⟩
      · have hke : st.length ≤ k := by omega
        have hGe := hG.out
        rw [inLB_end2 hke, Bool.and_true] at hGe
        have tl : decide ((k : Int) < (st.length : Int)) = false := by simp; omega
        have hne : ((st.length : Int) == (vs.length : Int)) = R := by rw [← hGe, Bool.eq_iff_iff]; simp only [beq_iff_eq, decide_eq_true_eq]; omega
        clear hG hGe
        go_wp2
        go_ret
        exact ⟨rfl, hW.out⟩
    · have hGe := hG.out
      rw [inLB_end (by omega), Bool.and_true] at hGe
      have tl : decide ((k : Int) < (vs.length : Int)) = false := by simp; omega
      have hne : ((st.length : Int) == (vs.length : Int)) = R := by rw [← hGe, Bool.eq_iff_iff]; simp only [beq_iff_eq, decide_eq_true_eq]; omega
      clear hG hGe
      go_wp2
      go_ret
      exact ⟨rfl, hW.out⟩
set_option maxHeartbeats 4000000 in
set_option maxRecDepth 100000 in
theorem Fits_any (vs : List (Int × Int)) (VA : Option Addr) (vc : Nat) (h0 h1 h2 h3 h4 : Hd) (st : List Int) (SA : Option Addr) (sc : Nat) (e i0 i1 i2 i3 : Int) (w : World) (hV : VsR w vs VA) (hR : ∀ h ∈ [h0, h1, h2, h3, h4], InsR w h.l h.A) (hlen : ∀ h ∈ [h0, h1, h2, h3, h4], h.l.length ≤ 100000) (hS : IntsR w st SA) (hvl : vs.length ≤ 1000) :
    Calls Tryd.prog 25 #[.slice VA vs.length vc, .agg (cdA h0 h1 h2 h3 h4), .slice SA st.length sc, .agg (clA e i0 i1 i2 i3)] w (BB (fitB vs [h0, h1, h2, h3, h4] st e i0 i1 i2 i3) w) := by
  obtain ⟨W2, hW2⟩ : ∃ W2, W2 = (w.alloc (.cells (cdA h0 h1 h2 h3 h4) 26)).alloc (.cells (clA e i0 i1 i2 i3) 30) := ⟨_, rfl⟩
  have HG2 := Lib.hid (show Gr w W2 by rw [hW2]; exact (grAlloc _ _).tr (grAlloc _ _))
  have HC2 := Lib.hid (show W2.heap[w.heap.size]? = some (.cells (cdA h0 h1 h2 h3 h4) 26 (0, 0)) by rw [hW2]; exact grBlk (grAlloc _ _) (nBlk _ _ _ rfl))
  have HX2 := Lib.hid (show W2.heap[w.heap.size + 1]? = some (.cells (clA e i0 i1 i2 i3) 30 (0, 0)) by rw [hW2]; exact nBlk _ _ _ (by simp))
  have HVe := Lib.hid (fun wx (hg : Gr w wx) => RVerify_any h0 h1 h2 h3 h4 vs.length wx (fun h hh => (hR h hh).gr hg) hlen)
  have HSt := Lib.hid (fun wx (hg : Gr w wx) => RState_any vs VA vc st SA sc wx (hV.gr hg) (hS.gr hg) (by omega))
  have HCa := Lib.hid (fun wx => RCall_any e i0 i1 i2 i3 wx)
  unfold fitB
  generalize verC [h0, h1, h2, h3, h4] vs.length = bv at *
  generalize stB vs st = bs at *
  generalize rsB e i0 i1 i2 i3 0 = bc at *
  clear hV hR hlen hS
  generalize vs.length = vl at *
  generalize st.length = sl at *
  obtain ⟨c0, c1, c2, c3, c4⟩ := cells5k HC2.out
  obtain ⟨x0, x1, x2, x3, x4⟩ := cells5k HX2.out
  go_enter Tryd.func25, Tryd.ntmps25
  go_upto_region 1 with fail
  rw [← hW2]
  clear hW2
  cases bv <;> cases bs
  all_goals
    go_wp2_with (first
      | (go_at_call 16; refine (HVe.out _ HG2.out).mono ?_; rintro e w3 ⟨rfl, hg3⟩; have HG3 := Lib.hid (Gr.tr HG2.out hg3); obtain ⟨y0, y1, y2, y3, y4⟩ := cells5k (grBlk hg3 HX2.out); clear hg3)
      | (go_at_call 15; refine (HSt.out _ HG3.out).mono ?_; rintro e w4 ⟨rfl, hg4⟩; have HG4 := Lib.hid (Gr.tr HG3.out hg4); have y0 := grCell hg4 y0; have y1 := grCell hg4 y1; have y2 := grCell hg4 y2; have y3 := grCell hg4 y3; have y4 := grCell hg4 y4; clear hg4)
      | (go_at_call 35; refine (HCa.out _).mono ?_; rintro e w5 ⟨rfl, hg5⟩; have HG5 := Lib.hid (Gr.tr HG4.out hg5); clear hg5))
    go_ret
    exact ⟨by simp, HG5.out⟩
end N
end Go.Proofs.YthgngkajdiclcaaDoor
