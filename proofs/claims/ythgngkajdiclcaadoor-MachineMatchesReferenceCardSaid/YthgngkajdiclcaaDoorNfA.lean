/- Law package 10: vars, call, halving, fits. -/
import Derived.Test.YthgngkajdiclcaaDoorNeD
namespace Go.Proofs.YthgngkajdiclcaaDoor
open Go.RowKit
set_option linter.unusedVariables false
set_option linter.unusedSimpArgs false
namespace N
open K
def VaP (w : World) (e : Ending) (w' : World) : Prop := (∃ b, e = .returned (.slice (some ⟨b, 0, none⟩) 1 1) ∧ VsR w' [(1, 100)] (some ⟨b, 0, none⟩)) ∧ Gr w w'
theorem vsr1 {w : World} {b : Nat} {x : ByteArray} {u i lo hi : Int} {T : TypeId} (h : w.heap[b]? = some (.cells #[.string x, .int .i64 u, .int .i64 lo, .int .i64 hi, .int .i64 i] T (0, 0))) : VsR w [(lo, hi)] (some ⟨b, 0, none⟩) := by
  obtain ⟨-, -, c2, c3, -⟩ := cells5k h
  refine .inr ⟨b, 0, rfl, fun i v hv => ?_⟩
  rcases i with _ | i
  · simp at hv; subst hv; exact ⟨c2, c3⟩
  · simp at hv
set_option maxHeartbeats 1000000 in
theorem vars_any (w : World) : Calls Tryd.prog 20 #[] w (VaP w) := by
  have HX := Lib.hid (nBlk w (.cells #[.string ⟨#[119]⟩, .int .i64 0, .int .i64 1, .int .i64 100, .int .i64 0] 59) _ rfl)
  have HB := Lib.hid (grAlloc w (.cells #[.string ⟨#[119]⟩, .int .i64 0, .int .i64 1, .int .i64 100, .int .i64 0] 59))
  go_enter Tryd.func20, Tryd.ntmps20
  go_wp2
  go_ret
  exact ⟨⟨_, rfl, vsr1 HX.out⟩, HB.out⟩
set_option maxHeartbeats 1000000 in
set_option maxRecDepth 100000 in
theorem call_any (ev : Int) (w : World) : Calls Tryd.prog 21 #[.int .i64 ev] w (GG (.agg (clA ev 1 1 1 0)) w) := by
  obtain ⟨W1, hW1⟩ : ∃ W1, W1 = w.alloc (.cells (clA 0 0 0 0 0) 30) := ⟨_, rfl⟩
  have hX : W1.heap[w.heap.size]? = some (.cells (clA 0 0 0 0 0) 30 (0, 0)) := by rw [hW1]; exact nBlk _ _ _ rfl
  have hB : Gr w W1 := by rw [hW1]; exact grAlloc _ _
  obtain ⟨c0, c1, c2, c3, c4⟩ := cells5k hX
  have d0 := frz hX 0
  have d1 := frz hX 1
  have d2 := frz hX 2
  have d3 := frz hX 3
  have d4 := frz hX 4
  obtain ⟨W2, hW2⟩ : ∃ W2, W2 = ((((W1.setCell ⟨w.heap.size, 0, none⟩ (.int .i64 ev)).setCell ⟨w.heap.size, 1, none⟩ (.int .i64 1)).setCell ⟨w.heap.size, 2, none⟩ (.int .i64 1)).setCell ⟨w.heap.size, 3, none⟩ (.int .i64 1)).setCell ⟨w.heap.size, 4, none⟩ (.int .i64 0) := ⟨_, rfl⟩
  have g0 : (W1.setCell ⟨w.heap.size, 0, none⟩ (.int .i64 ev)).heap[w.heap.size]? = some (.cells (clA ev 0 0 0 0) 30 (0, 0)) := by rw [heap_setCell_same _ w.heap.size 0 _ _ _ hX]; simp
  have g1 : ((W1.setCell ⟨w.heap.size, 0, none⟩ (.int .i64 ev)).setCell ⟨w.heap.size, 1, none⟩ (.int .i64 1)).heap[w.heap.size]? = some (.cells (clA ev 1 0 0 0) 30 (0, 0)) := by rw [heap_setCell_same _ w.heap.size 1 _ _ _ g0]; simp
  have g2 : (((W1.setCell ⟨w.heap.size, 0, none⟩ (.int .i64 ev)).setCell ⟨w.heap.size, 1, none⟩ (.int .i64 1)).setCell ⟨w.heap.size, 2, none⟩ (.int .i64 1)).heap[w.heap.size]? = some (.cells (clA ev 1 1 0 0) 30 (0, 0)) := by rw [heap_setCell_same _ w.heap.size 2 _ _ _ g1]; simp
  have g3 : ((((W1.setCell ⟨w.heap.size, 0, none⟩ (.int .i64 ev)).setCell ⟨w.heap.size, 1, none⟩ (.int .i64 1)).setCell ⟨w.heap.size, 2, none⟩ (.int .i64 1)).setCell ⟨w.heap.size, 3, none⟩ (.int .i64 1)).heap[w.heap.size]? = some (.cells (clA ev 1 1 1 0) 30 (0, 0)) := by rw [heap_setCell_same _ w.heap.size 3 _ _ _ g2]; simp
  have HX2 := Lib.hid (show W2.heap[w.heap.size]? = some (.cells (clA ev 1 1 1 0) 30 (0, 0)) by rw [hW2, heap_setCell_same _ w.heap.size 4 _ _ _ g3]; simp)
  have HB2 := Lib.hid (show Gr w W2 by rw [hW2]; exact belK (belK (belK (belK (belK hB (Nat.le_refl _)) (Nat.le_refl _)) (Nat.le_refl _)) (Nat.le_refl _)) (Nat.le_refl _))
  have hW2H := Lib.hid hW2
  clear hX hB g0 g1 g2 g3 hW2
  go_enter Tryd.func21, Tryd.ntmps21
  go_upto_region 1 with fail
  rw [← hW1]
  clear hW1
  go_wp2
  rw [← hW2H.out]
  obtain ⟨k0, k1, k2, k3, k4⟩ := cells5k HX2.out
  exact bodyPost_ret (v := .agg (clA ev 1 1 1 0)) (by simp [results, Tryd.results21, go_sem, k0, k1, k2, k3, k4]) rfl ⟨rfl, HB2.out⟩
abbrev nH : Hd := ⟨[], none, 0⟩
def hvL (n : Int) : List In := [⟨2, 0, 0⟩, ⟨1, n, 0⟩, ⟨7, 0, 0⟩, ⟨11, 0, 0⟩]
def HaP (n : Int) (w : World) (e : Ending) (w' : World) : Prop := (∃ g, e = .returned (.agg (cdA nH ⟨hvL n, some ⟨g, 0, none⟩, 4⟩ nH nH nH)) ∧ InsR w' (hvL n) (some ⟨g, 0, none⟩)) ∧ Gr w w'
theorem ins4 {w : World} {b : Nat} {n : Int} {T : TypeId} (h : w.heap[b]? = some (.cells #[.int .i64 2, .int .i64 0, .int .i64 0, .int .i64 1, .int .i64 n, .int .i64 0, .int .i64 7, .int .i64 0, .int .i64 0, .int .i64 11, .int .i64 0, .int .i64 0] T (0, 0))) : InsR w (hvL n) (some ⟨b, 0, none⟩) := by
  have e : ∀ j, w.cell? ⟨b, j, none⟩ = (#[.int .i64 2, .int .i64 0, .int .i64 0, .int .i64 1, .int .i64 n, .int .i64 0, .int .i64 7, .int .i64 0, .int .i64 0, .int .i64 11, .int .i64 0, .int .i64 0] : Array Value)[j]? := fun j => cell_of_row _ _ j _ _ (0, 0) h
  refine .inr ⟨b, 0, rfl, fun i x hx => ?_⟩
  unfold hvL at hx
  rcases i with _ | _ | _ | _ | i
  · simp at hx; subst hx; exact ⟨e 0, e 1, e 2⟩
  · simp at hx; subst hx; exact ⟨e 3, e 4, e 5⟩
  · simp at hx; subst hx; exact ⟨e 6, e 7, e 8⟩
  · simp at hx; subst hx; exact ⟨e 9, e 10, e 11⟩
  · simp at hx
set_option maxHeartbeats 2000000 in
set_option maxRecDepth 100000 in
theorem halving_any (n : Int) (w : World) : Calls Tryd.prog 19 #[.int .i64 n] w (HaP n w) := by
  go_enter Tryd.func19, Tryd.ntmps19
  go_wp2
  obtain ⟨W3, hW3⟩ : ∃ W3, W3 = ((w.alloc (.cells #[.slice none 0 0, .slice (some ⟨w.heap.size + 1 + 1, 0, none⟩) 4 4, .slice none 0 0, .slice none 0 0, .slice none 0 0] 26)).alloc (.cells #[.slice none 0 0, .slice (some ⟨w.heap.size + 1 + 1, 0, none⟩) 4 4, .slice none 0 0, .slice none 0 0, .slice none 0 0] 26)).alloc (.cells #[.int .i64 2, .int .i64 0, .int .i64 0, .int .i64 1, .int .i64 n, .int .i64 0, .int .i64 7, .int .i64 0, .int .i64 0, .int .i64 11, .int .i64 0, .int .i64 0] 42) := ⟨_, rfl⟩
  rw [← hW3]
  have hX : W3.heap[w.heap.size]? = some (.cells (cdA nH ⟨hvL n, some ⟨w.heap.size + 1 + 1, 0, none⟩, 4⟩ nH nH nH) 26 (0, 0)) := by rw [hW3]; exact grBlk ((grAlloc _ _).tr (grAlloc _ _)) (nBlk _ _ _ rfl)
  have hI := ins4 (n := n) (show W3.heap[w.heap.size + 1 + 1]? = some (.cells _ 42 (0, 0)) by rw [hW3]; exact nBlk _ _ _ (by simp))
  have hG : Gr w W3 := by rw [hW3]; exact ((grAlloc _ _).tr (grAlloc _ _)).tr (grAlloc _ _)
  obtain ⟨k0, k1, k2, k3, k4⟩ := cells5k hX
  exact bodyPost_ret (v := .agg (cdA nH ⟨hvL n, some ⟨w.heap.size + 1 + 1, 0, none⟩, 4⟩ nH nH nH)) (by simp [results, Tryd.results19, go_sem, k0, k1, k2, k3, k4]) rfl ⟨⟨_, rfl, hI⟩, hG⟩
def lawF (vs : List (Int × Int)) (hs : List Hd) (st : List Int) (e i0 i1 i2 i3 : Int) : Bool := ((shortB hs 4000 && decide ((vs.length : Int) ≤ 30)) && decide ((st.length : Int) ≤ 30)) && fitB vs hs st e i0 i1 i2 i3
theorem short_all {hs : List Hd} {most : Int} (h : shortB hs most = true) : ∀ x ∈ hs, (x.l.length : Int) ≤ most := by
  unfold shortB at h
  rw [List.all_eq_true] at h
  exact fun x hx => of_decide_eq_true (h x hx)
set_option maxHeartbeats 4000000 in
set_option maxRecDepth 100000 in
theorem fitsL_any (vs : List (Int × Int)) (VA : Option Addr) (vc : Nat) (h0 h1 h2 h3 h4 : Hd) (st : List Int) (SA : Option Addr) (sc : Nat) (e i0 i1 i2 i3 : Int) (w : World) (hV : VsR w vs VA) (hR : ∀ h ∈ [h0, h1, h2, h3, h4], InsR w h.l h.A) (hS : IntsR w st SA) :
    Calls Tryd.prog 14 #[.slice VA vs.length vc, .agg (cdA h0 h1 h2 h3 h4), .slice SA st.length sc, .agg (clA e i0 i1 i2 i3)] w (BB (lawF vs [h0, h1, h2, h3, h4] st e i0 i1 i2 i3) w) := by
  obtain ⟨W2, hW2⟩ : ∃ W2, W2 = (w.alloc (.cells (cdA h0 h1 h2 h3 h4) 26)).alloc (.cells (clA e i0 i1 i2 i3) 30) := ⟨_, rfl⟩
  have HG2 := Lib.hid (show Gr w W2 by rw [hW2]; exact (grAlloc _ _).tr (grAlloc _ _))
  have HC2 := Lib.hid (show W2.heap[w.heap.size]? = some (.cells (cdA h0 h1 h2 h3 h4) 26 (0, 0)) by rw [hW2]; exact grBlk (grAlloc _ _) (nBlk _ _ _ rfl))
  have HX2 := Lib.hid (show W2.heap[w.heap.size + 1]? = some (.cells (clA e i0 i1 i2 i3) 30 (0, 0)) by rw [hW2]; exact nBlk _ _ _ (by simp))
  have HSh := Lib.hid (fun wx => Short_any h0 h1 h2 h3 h4 4000 wx)
  obtain ⟨c0, c1, c2, c3, c4⟩ := cells5k HC2.out
  obtain ⟨x0, x1, x2, x3, x4⟩ := cells5k HX2.out
  obtain ⟨R, hRR⟩ : ∃ R, lawF vs [h0, h1, h2, h3, h4] st e i0 i1 i2 i3 = R := ⟨_, rfl⟩
  rw [hRR]
  unfold lawF at hRR
  rcases hsh : shortB [h0, h1, h2, h3, h4] 4000 with _ | _
  · rw [hsh] at hRR HSh
    obtain rfl : false = R := by simpa using hRR
    clear hRR hsh hV hR hS
    generalize vs.length = vl at *
    generalize st.length = sl at *
    go_enter Tryd.func14, Tryd.ntmps14
    go_upto_region 1 with fail
    rw [← hW2]
    clear hW2
    go_wp2_with (go_at_call 8; refine (HSh.out _).mono ?_; rintro e w3 ⟨rfl, hg3⟩; have HG3 := Lib.hid (Gr.tr HG2.out hg3); clear hg3)
    go_ret
    exact ⟨rfl, HG3.out⟩
  have hal := short_all hsh
  rw [hsh] at hRR HSh
  by_cases pv : (vs.length : Int) ≤ 30
  · have tv : decide ((vs.length : Int) ≤ 30) = true := decide_eq_true pv
    by_cases ps : (st.length : Int) ≤ 30
    · have ts : decide ((st.length : Int) ≤ 30) = true := decide_eq_true ps
      have HF := Lib.hid (fun wx (hg : Gr w wx) => Fits_any vs VA vc h0 h1 h2 h3 h4 st SA sc e i0 i1 i2 i3 wx (hV.gr hg) (fun h hh => (hR h hh).gr hg) (fun h hh => by have := hal h hh; omega) (hS.gr hg) (by omega))
      have hRe : fitB vs [h0, h1, h2, h3, h4] st e i0 i1 i2 i3 = R := by rw [← hRR, tv, ts]; simp
      rw [hRe] at HF
      clear hRR hRe hsh hV hR hS hal pv ps
      generalize vs.length = vl at *
      generalize st.length = sl at *
      go_enter Tryd.func14, Tryd.ntmps14
      go_upto_region 1 with fail
      rw [← hW2]
      clear hW2
      go_wp2_with (first
        | (go_at_call 8; refine (HSh.out _).mono ?_; rintro e w3 ⟨rfl, hg3⟩; have HG3 := Lib.hid (Gr.tr HG2.out hg3); obtain ⟨z0, z1, z2, z3, z4⟩ := cells5k (grBlk hg3 HC2.out); obtain ⟨y0, y1, y2, y3, y4⟩ := cells5k (grBlk hg3 HX2.out); clear hg3)
        | (go_at_call 25; refine (HF.out _ HG3.out).mono ?_; rintro e w4 ⟨rfl, hg4⟩; have HG4 := Lib.hid (Gr.tr HG3.out hg4); clear hg4))
      go_ret
      exact ⟨rfl, HG4.out⟩
    · have ts : decide ((st.length : Int) ≤ 30) = false := decide_eq_false ps
      obtain rfl : false = R := by rw [← hRR, ts]; simp
      clear hRR hsh hV hR hS hal pv ps
      generalize vs.length = vl at *
      generalize st.length = sl at *
      go_enter Tryd.func14, Tryd.ntmps14
      go_upto_region 1 with fail
      rw [← hW2]
      clear hW2
      go_wp2_with (go_at_call 8; refine (HSh.out _).mono ?_; rintro e w3 ⟨rfl, hg3⟩; have HG3 := Lib.hid (Gr.tr HG2.out hg3); clear hg3)
      go_ret
      exact ⟨rfl, HG3.out⟩
  · have tv : decide ((vs.length : Int) ≤ 30) = false := decide_eq_false pv
    obtain rfl : false = R := by rw [← hRR, tv]; simp
    clear hRR hsh hV hR hS hal pv
    generalize vs.length = vl at *
    generalize st.length = sl at *
    go_enter Tryd.func14, Tryd.ntmps14
    go_upto_region 1 with fail
    rw [← hW2]
    clear hW2
    go_wp2_with (go_at_call 8; refine (HSh.out _).mono ?_; rintro e w3 ⟨rfl, hg3⟩; have HG3 := Lib.hid (Gr.tr HG2.out hg3); clear hg3)
    go_ret
    exact ⟨rfl, HG3.out⟩
end N
end Go.Proofs.YthgngkajdiclcaaDoor
