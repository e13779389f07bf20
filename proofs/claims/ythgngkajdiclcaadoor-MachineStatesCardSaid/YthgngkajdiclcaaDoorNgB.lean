/- MachineStates: its contract. Conditions: the laid variables. -/
import Derived.Test.YthgngkajdiclcaaDoorNgA
import Derived.Test.YthgngkajdiclcaaDoorNfD
namespace Go.Proofs.YthgngkajdiclcaaDoor
open Go.RowKit
set_option linter.unusedVariables false
set_option linter.unusedSimpArgs false
namespace N
open K
def stored (l : List In) (i : Nat) : Bool := l.any (fun x => x.op == 11 && x.n == (i : Int))
theorem stored_drop {l : List In} {i j : Nat} (h : j < l.length) : stored (l.drop j) i = ((l[j].op == 11 && l[j].n == (i : Int)) || stored (l.drop (j + 1)) i) := by
  rw [List.drop_eq_getElem_cons h]; rfl
theorem kept_of {l : List In} {a b : List Int} {i : Nat} (h : Kept l a b) (hs : stored l i = false) : a[i]? = b[i]? := by
  rcases h i with ⟨x, hx, h1, h2⟩ | h
  · exfalso
    unfold stored at hs
    rw [List.any_eq_false] at hs
    exact hs x hx (by simp [h1, h2])
  · exact h
set_option maxHeartbeats 16000000 in
set_option maxRecDepth 100000 in
theorem States_any (vs : List (Int × Int)) (VA : Option Addr) (vc : Nat) (h0 h1 h2 h3 h4 : Hd) (st : List Int) (SA : Option Addr) (sc : Nat) (e i0 i1 i2 i3 : Int) (w : World) (hE : LaidE w) (hI : LaidI w) (hV : VsR w vs VA) (hR : ∀ h ∈ [h0, h1, h2, h3, h4], InsR w h.l h.A) (hS : IntsR w st SA) (hn : SA = none → sc = 0) :
    Calls Tryd.prog 4 #[.slice VA vs.length vc, .agg (cdA h0 h1 h2 h3 h4), .slice SA st.length sc, .agg (clA e i0 i1 i2 i3)] w (BB true w) := by
  obtain ⟨W2, hW2⟩ : ∃ W2, W2 = (w.alloc (.cells (cdA h0 h1 h2 h3 h4) 26)).alloc (.cells (clA e i0 i1 i2 i3) 30) := ⟨_, rfl⟩
  have hG2 : Gr w W2 := by rw [hW2]; exact (grAlloc _ _).tr (grAlloc _ _)
  have HG2 := Lib.hid hG2
  have HC2 := Lib.hid (show W2.heap[w.heap.size]? = some (.cells (cdA h0 h1 h2 h3 h4) 26 (0, 0)) by rw [hW2]; exact grBlk (grAlloc _ _) (nBlk _ _ _ rfl))
  have HX2 := Lib.hid (show W2.heap[w.heap.size + 1]? = some (.cells (clA e i0 i1 i2 i3) 30 (0, 0)) by rw [hW2]; exact nBlk _ _ _ (by simp))
  have HHd := Lib.hid (head_any W2 (hE.gr hG2) (hI.gr hG2))
  have HF := Lib.hid (fun wx (hg : Gr w wx) => fitsL_any vs VA vc h0 h1 h2 h3 h4 st SA sc e i0 i1 i2 i3 wx (hV.gr hg) (fun h hh => (hR h hh).gr hg) (hS.gr hg))
  have HE := Lib.hid hE
  have HI := Lib.hid hI
  have HV := Lib.hid hV
  have HR := Lib.hid hR
  have HS := Lib.hid hS
  have hnH := Lib.hid hn
  clear hE hI hV hR hS hn hG2
  go_enter Tryd.func4, Tryd.ntmps4
  go_upto_region 1 with fail
  rw [← hW2]
  clear hW2
  go_upto_region 2 with (go_at_call 7; refine HHd.out.mono ?_; rintro e w3 ⟨rfl, hg3⟩; have HG3 := Lib.hid (Gr.tr HG2.out hg3); have HC3 := Lib.hid (grBlk hg3 HC2.out); have HX3 := Lib.hid (grBlk hg3 HX2.out); clear hg3 HHd)
  obtain ⟨c0, c1, c2, c3, c4⟩ := cells5k HC3.out
  obtain ⟨x0, x1, x2, x3, x4⟩ := cells5k HX3.out
  rcases hok : lawF vs [h0, h1, h2, h3, h4] st e i0 i1 i2 i3 with _ | _
  · rw [hok] at HF
    clear hok
    generalize vs.length = vl at *
    generalize st.length = sl at *
    go_wp2_with (go_at_call 14; refine (HF.out _ HG3.out).mono ?_; rintro e w4 ⟨rfl, hg4⟩; have HG4 := Lib.hid (Gr.tr HG3.out hg4); clear hg4)
    go_ret
    exact ⟨rfl, HG4.out⟩
  · rw [hok] at HF
    obtain ⟨hl4, hvl, hsl, hfit⟩ := law_open hok
    obtain ⟨k, x, H, hek, hkx, hk5, -, -, -, -, hxm⟩ := fit_open rfl hfit
    subst hek
    obtain ⟨f0, f1, f2, f3, f4⟩ := run_facts rfl hkx hfit
    have hxl : x.l.length ≤ 4000 := hl4 x hxm
    have HR1 := Lib.hid (fun wx (hg : Gr w wx) => Run_any vs VA vc h0 h1 h2 h3 h4 st SA sc k i0 i1 i2 i3 wx (HV.out.gr hg) (fun h hh => (HR.out h hh).gr hg) (fun h hh => by have := hl4 h hh; omega) (HS.out.gr hg) (HE.out.gr hg) (HI.out.gr hg) (by omega) hnH.out)
    have HR2 := Lib.hid (fun wx (hg : Gr w wx) => Steps_any vs VA vc h0 h1 h2 h3 h4 st SA sc k i0 i1 i2 i3 wx (HV.out.gr hg) (fun h hh => (HR.out h hh).gr hg) (fun h hh => by have := hl4 h hh; omega) (HS.out.gr hg) (HE.out.gr hg) (HI.out.gr hg) (by omega) hnH.out)
    obtain ⟨rs, hrs⟩ : ∃ rs, (runF vs [h0, h1, h2, h3, h4] st k i0 i1 i2 i3).1 = rs := ⟨_, rfl⟩
    obtain ⟨er, her⟩ : ∃ er, (runF vs [h0, h1, h2, h3, h4] st k i0 i1 i2 i3).2 = er := ⟨_, rfl⟩
    obtain ⟨nn, hnn⟩ : ∃ nn, (stepsF vs [h0, h1, h2, h3, h4] st k i0 i1 i2 i3).1 = nn := ⟨_, rfl⟩
    rw [hrs, her] at HR1 f4
    rw [f0, hnn] at HR2
    rw [hnn] at f1 f2 f3
    have hcd := Lib.hid (fun (wx : World) (hX : wx.heap[w.heap.size]? = some (.cells (cdA h0 h1 h2 h3 h4) 26 (0, 0))) => cdAt hX hkx)
    have HSt := Lib.hid (fun wx (A : Option Addr) (c : Nat) (hg : Gr w wx) (hi : IntsR wx rs A) => RState_any vs VA vc rs A c wx (HV.out.gr hg) hi (by omega))
    have HRx := Lib.hid (HR.out x hxm)
    have hslH := Lib.hid hsl
    clear hok hl4 hvl hfit hkx hxm hrs her hnn f0
    obtain ⟨l, LA, lc⟩ := x
    simp only at f2 f3 f4 hxl HRx
    have hxlH := Lib.hid hxl
    have hcd : Hid (∀ (wx : World) (hX : wx.heap[w.heap.size]? = some (.cells (cdA h0 h1 h2 h3 h4) 26 (0, 0))), wx.cell? ⟨w.heap.size, k, none⟩ = some (.slice LA l.length lc)) := Lib.hid (fun wx hX => hcd.out wx hX)
    have f4H := Lib.hid f4
    clear f4 hxl hsl
    generalize vs.length = vl at *
    generalize hsn : st.length = sl at *
    have hsnH := Lib.hid hsn
    clear hsn
    go_upto_region 5 with (go_at_call 14; refine (HF.out _ HG3.out).mono ?_; rintro e w4 ⟨rfl, hg4⟩; have HG4 := Lib.hid (Gr.tr HG3.out hg4); have HC4 := Lib.hid (grBlk hg4 HC3.out); have HX4 := Lib.hid (grBlk hg4 HX3.out); clear hg4 HF)
    clear c0 c1 c2 c3 c4 x0 x1 x2 x3 x4 HC3 HX3 HG3
    obtain ⟨c0, c1, c2, c3, c4⟩ := cells5k HC4.out
    obtain ⟨x0, x1, x2, x3, x4⟩ := cells5k HX4.out
    go_wp2_with fail
    refine (HR1.out _ HG4.out).mono ?_
    rintro e w5 ⟨⟨A, c, rfl, hI5, -⟩, hg5⟩
    have HC5 := Lib.hid (grBlk hg5 HC4.out)
    have HX5 := Lib.hid (grBlk hg5 HX4.out)
    have HG5 := Lib.hid (Gr.tr HG4.out hg5)
    have HI5 := Lib.hid hI5
    clear hg5 hI5 c0 c1 c2 c3 c4 x0 x1 x2 x3 x4 HC4 HX4 HG4 HR1
    obtain ⟨c0, c1, c2, c3, c4⟩ := cells5k HC5.out
    obtain ⟨x0, x1, x2, x3, x4⟩ := cells5k HX5.out
    go_wp2_with fail
    refine (HR2.out _ HG5.out).mono ?_
    rintro e w6 ⟨rfl, hg6⟩
    have HG6 := Lib.hid (Gr.tr HG5.out hg6)
    have HI6 := Lib.hid (HI5.out.gr hg6)
    have ck := hcd.out _ (grBlk hg6 HC5.out)
    have x0 := grCell hg6 x0
    clear hg6 c0 c1 c2 c3 c4 x1 x2 x3 x4 HC5 HX5 HG5 HI5 HR2
    have tn1 : decide (nn ≤ (l.length : Int)) = true := by simp; omega
    go_upto_region 8 with fail
    go_cut [9] (fun s9 wx => s9 = .bool true ∧ wx = w6)
    case first =>
      by_cases p1 : 1 ≤ nn
      · have tn2 : decide (nn ≥ 1) = true := by simp; omega
        go_wp2
        go_meet
        exact ⟨rfl, rfl⟩
      · have tn2 : decide (nn ≥ 1) = false := by simp; omega
        have hl0 : l.length = 0 := by rcases f3 with h | h <;> omega
        have tl0 : ((l.length : Int) == 0) = true := by rw [hl0]; rfl
        clear f1 f2 f3 p1 hl0
        go_wp2
        go_meet
        exact ⟨rfl, rfl⟩
    case rest =>
      obtain ⟨rfl, hwc⟩ := hcut
      subst hwc
      clear f1 f2 f3 tn1 ck x0
      rcases f4H.out with ⟨he, hsb, hrl, hkp⟩ | ⟨he, hr0⟩
      · subst he
        rw [hsb] at HSt
        have hkpH := Lib.hid hkp
        have hrlH := Lib.hid hrl
        clear hsb hkp hrl f4H
        go_upto_region 12 with (go_at_call 15; refine (HSt.out _ A c HG6.out HI6.out).mono ?_; rintro e w7 ⟨rfl, hg7⟩; have HG7 := Lib.hid (Gr.tr HG6.out hg7); have HI7 := Lib.hid (HI6.out.gr hg7); clear hg7 HSt)
        clear HG6 HI6
        go_wp2
        go_loopg [9, 17] (rs.length) (fun gk a9 a17 wr => ∃ i : Nat, i + gk = rs.length ∧ a9 = .bool true ∧ a17 = .int .i64 i ∧ Hid (IntsR wr rs A) ∧ Hid (Gr w wr))
        case atStart => exact ⟨0, by omega, rfl, rfl, HI7, HG7⟩
        case round =>
          obtain ⟨i, hi, rfl, rfl, hIr, hB⟩ := hrel
          clear HI7 HG7
          by_cases hlt : i < rs.length
          · obtain ⟨gq, rfl⟩ : ∃ g, gk = g + 1 := ⟨gk - 1, by omega⟩
            obtain ⟨S, hSe⟩ : ∃ S, stored l i = S := ⟨_, rfl⟩
            have hS0 := Lib.hid (show (false || stored (l.drop 0) i) = S from hSe)
            have hSH := Lib.hid hSe
            have hltS : i < sl := by have := hrlH.out; omega
            have hslm := hslH.out
            have hig := Lib.hid (show i + 1 + gq = rs.length by omega)
            have qi : IntKind.i64.wrap ((i : Int) + 1) = (i : Int) + 1 := IntWalk.i64_in _ (by omega)
            clear hSe hi
            go_wp2
            go_loopg [18, 19] (l.length) (fun gk a18 a19 wx => ∃ (j : Nat) (b : Bool), j + gk = l.length ∧ a18 = .bool b ∧ a19 = .int .i64 j ∧ Hid ((b || stored (l.drop j) i) = S) ∧ Hid (IntsR wx rs A) ∧ Hid (Gr w wx))
            case atStart => exact ⟨0, false, by omega, rfl, rfl, hS0, hIr, hB⟩
            case round =>
              obtain ⟨j, b, hj, rfl, rfl, hG, hIx, hBx⟩ := hrel
              clear hIr hB hS0
              by_cases hlj : j < l.length
              · obtain ⟨gp, rfl⟩ : ∃ g, gk = g + 1 := ⟨gk - 1, by omega⟩
                have hxlm := hxlH.out
                have qj : IntKind.i64.wrap ((j : Int) + 1) = (j : Int) + 1 := IntWalk.i64_in _ (by omega)
                have hGd := hG.out
                rw [stored_drop hlj] at hGd
                obtain ⟨gl, ol, hLA, hat⟩ := (HRx.out.gr hBx.out).addr (by omega)
                subst hLA
                obtain ⟨e0, e1, e2⟩ := hat j _ (List.getElem?_eq_getElem hlj)
                clear hat hG
                generalize l[j] = x at *
                obtain ⟨op, n, r⟩ := x
                simp only at e0 e1 e2 hGd
                cases b with
                | true =>
                  have hGn := Lib.hid (show (true || stored (l.drop (j + 1)) i) = S by rw [← hGd]; simp)
                  clear hGd
                  go_wp2
                  go_roundg gp
                  case measure => omega
                  case rel => exact ⟨j + 1, true, by omega, rfl, by go_num, hGn, hIx, hBx⟩
                | false =>
                  by_cases h11 : op = 11
                  · have t11 : (op == 11) = true := by simp [h11]
                    by_cases hni : n = (i : Int)
                    · have tni : (n == (i : Int)) = true := by simp [hni]
                      have hGn := Lib.hid (show (true || stored (l.drop (j + 1)) i) = S by rw [← hGd, t11, tni]; simp)
                      clear hGd h11 hni
                      go_wp2
                      go_roundg gp
                      case measure => omega
                      case rel => exact ⟨j + 1, true, by omega, rfl, by go_num, hGn, hIx, hBx⟩
                    · have tni : (n == (i : Int)) = false := by simp [hni]
                      have hGn := Lib.hid (show (false || stored (l.drop (j + 1)) i) = S by rw [← hGd, t11, tni]; simp)
                      clear hGd h11 hni
                      go_wp2
                      go_roundg gp
                      case measure => omega
                      case rel => exact ⟨j + 1, false, by omega, rfl, by go_num, hGn, hIx, hBx⟩
                  · have t11 : (op == 11) = false := by simp [h11]
                    have hGn := Lib.hid (show (false || stored (l.drop (j + 1)) i) = S by rw [← hGd, t11]; simp)
                    clear hGd h11
                    go_wp2
                    go_roundg gp
                    case measure => omega
                    case rel => exact ⟨j + 1, false, by omega, rfl, by go_num, hGn, hIx, hBx⟩
              · have hGe := hG.out
                rw [List.drop_eq_nil_of_le (by omega)] at hGe
                obtain rfl : b = S := by rw [← hGe]; simp [stored]
                have tlj : decide ((j : Int) < (l.length : Int)) = false := by simp; omega
                obtain ⟨ga, oa, rfl, hata⟩ := hIx.out.addr (by intro h; rw [h] at hlt; simp at hlt)
                have hsne : st ≠ [] := by intro h; have := hsnH.out; rw [h] at this; simp at this; omega
                obtain ⟨gs, os, rfl, hats⟩ := HS.out.addr hsne
                have hsl' : i < st.length := by rw [hsnH.out]; exact hltS
                have a0 := hata i _ (List.getElem?_eq_getElem hlt)
                have s0 := grCell hBx.out (hats i _ (List.getElem?_eq_getElem hsl'))
                have hkk : b = false → rs[i] = st[i] := fun h => by
                  have := kept_of hkpH.out (i := i) (by rw [hSH.out]; exact h)
                  rw [List.getElem?_eq_getElem hlt, List.getElem?_eq_getElem hsl'] at this
                  exact Option.some.inj this
                clear hata hats hG hGe hj
                generalize rs[i] = u at *
                generalize st[i] = v at *
                clear hsl' hsne
                go_upto_region 22 with fail
                cases b with
                | true =>
                  clear hkk
                  go_quiet (fail)
                  go_wp2
                  go_roundg gq
                  case measure => omega
                  case rel => exact ⟨i + 1, hig.out, rfl, by go_num, Lib.hid (hIx.out.gr (by first | exact bDrewN (Below.refl _ _) _ | exact Below.refl _ _)), Lib.hid (by first | exact bDrewN hBx.out _ | exact hBx.out)⟩
                | false =>
                  have hkk := hkk rfl
                  subst hkk
                  have te : (u == u) = true := by simp
                  go_quiet (fail)
                  go_wp2
                  go_roundg gq
                  case measure => omega
                  case rel => exact ⟨i + 1, hig.out, rfl, by go_num, Lib.hid (hIx.out.gr (by first | exact bDrewN (Below.refl _ _) _ | exact Below.refl _ _)), Lib.hid (by first | exact bDrewN hBx.out _ | exact hBx.out)⟩
          · have tl : decide ((i : Int) < (rs.length : Int)) = false := by simp; omega
            go_wp2
            go_ret
            exact ⟨rfl, hB.out⟩
      · subst hr0
        clear f4H
        rcases he with rfl | rfl | rfl
        · go_wp2
          go_ret
          exact ⟨rfl, HG6.out⟩
        · go_wp2
          go_ret
          exact ⟨rfl, HG6.out⟩
        · go_wp2
          go_ret
          exact ⟨rfl, HG6.out⟩
end N
end Go.Proofs.YthgngkajdiclcaaDoor
