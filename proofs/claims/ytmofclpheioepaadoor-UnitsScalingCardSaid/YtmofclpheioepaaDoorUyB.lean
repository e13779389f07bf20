/- The law UnitsScaling returns true, whatever the arguments; condition: the listed package-level variables hold what the text lays. -/
import Derived.Test.YtmofclpheioepaaDoorUyA
namespace Go.Proofs.YtmofclpheioepaaDoor
open Go.RowKit
set_option linter.unusedVariables false
set_option linter.unusedSimpArgs false

theorem ret_bS {a b : Bool} (h : a = b) : Ending.returned (.bool a) = .returned (.bool b) := by rw [h]
theorem resP_okS {r : Except Int Pw} {p : Pw} (he : ∀ er, r = .error er → er ≠ 0) (h : resP r = (p, 0)) : r = .ok p := by
  rcases r with er | q
  · have := he er rfl
    simp [resP] at h
    exact absurd h.2 this
  · simp [resP] at h
    rw [h]
theorem infer_at2 {vs : List Vr} {VA A : Option Addr} {vm c : Nat} {t : Ex} {w : World} {p : Pw} {er : Int} (hL : LaidW w) (hV : VarsR w vs VA) (hK : KidsE w t.kids A) (h : inferM (vs.map (·.u)) t = (p, er)) :
    Calls Tryd.prog 11 #[.slice VA vs.length vm, ev t A c] w (VV (.tuple #[pv p, .int .i64 er]) w) := by
  have := Infer_any vs VA A vm c t w hL hV hK
  rw [h] at this
  exact this
theorem pow_bnd {t : Int} (h0 : 0 ≤ t) (h9 : t ≤ 9) : ∀ k : Nat, k ≤ 4 → 0 ≤ t ^ k ∧ t ^ k ≤ 6561 := by
  have hs : ∀ k : Nat, 0 ≤ t ^ k ∧ t ^ k ≤ 9 ^ k := by
    intro k
    induction k with
    | zero => rw [Int.pow_zero]; decide
    | succ k ih =>
      rw [Int.pow_succ, Int.pow_succ]
      have h9k : (0 : Int) ≤ 9 ^ k := pow_nonneg' (by decide) k
      exact ⟨Int.mul_nonneg ih.1 h0, Int.mul_le_mul ih.2 h9 h0 h9k⟩
  intro k hk
  have h1 := hs k
  have h2 : (9 : Int) ^ k ≤ 6561 := by
    match k, hk with
    | 0, _ => decide
    | 1, _ => decide
    | 2, _ => decide
    | 3, _ => decide
    | 4, _ => decide
  omega
theorem scaling_math {us st : List Int} {i : Inp} {t : Int} {e : Ex} {p : Pw} {x1 xt : Int} (h1 : 1 ≤ t) (h9 : t ≤ 9) (hi : i.ok) (hst : ∀ b ∈ st, u8 b) (hs : e.size ≤ 15) (hI : inferM us e = (p, 0)) (hv1 : valE us st i 1 e = (x1, true)) (hvt : valE us st i t e = (xt, true)) :
    ∃ n : Nat, p.a = n ∧ n ≤ 4 ∧ xt = t ^ n * x1 ∧ IntKind.i64.wrap xt = xt := by
  rcases hc : scopeM us with _ | s
  · rw [inferM_none hc] at hI
    simp at hI
  · rw [inferM_ok hc (by omega)] at hI
    have hI := resP_okS (fun er h => by have := inf_err e h; omega) hI
    obtain ⟨hrg, -, hse⟩ := scopeM_rg hc
    have hp := rg_iff (inf_rg hrg e hI)
    have hse : s = us.map kindP := by
      unfold scopeM at hc
      split at hc
      · exact (Option.some.inj hc).symm
      · simp at hc
    subst hse
    obtain ⟨q0, q1⟩ := val_scale us st i t ⟨h1, h9⟩ hi hst e.size e (Nat.le_refl _) hs p hI (by rw [hvt]) (by rw [hv1])
    have hb := val_bnd us st i t ⟨h1, h9⟩ hi hst e.size e (Nat.le_refl _) hs
    have h8 := pow81 (show lv e.size ≤ 8 by unfold lv; omega)
    rw [hvt] at q1 hb
    rw [hv1] at q1
    refine ⟨p.a.toNat, by omega, by omega, q1, ?_⟩
    simp only at hb
    exact IntWalk.i64_in _ (by omega)
set_option maxHeartbeats 4000000 in
set_option maxRecDepth 100000 in
theorem UScaling_any (vs : List Vr) (VA : Option Addr) (vm : Nat) (st : List Int) (SA : Option Addr) (sm : Nat) (i : Inp) (e : Ex) (A : Option Addr) (c : Nat) (t : Int) (w : World) (hL : LaidW w) (hV : VarsR w vs VA) (hS : BysR w st SA) (hi : i.ok) (hst : ∀ b ∈ st, u8 b) (hK : KidsE w e.kids A) :
    Calls Tryd.prog 5 #[.slice VA vs.length vm, .slice SA st.length sm, .agg (inArr i), ev e A c, .int .i64 t] w (BB true w) := by
  obtain ⟨W2, hW2⟩ : ∃ W2, W2 = (w.alloc (.cells (inArr i) 45)).alloc (.cells (eArr e A c) 29) := ⟨_, rfl⟩
  have hb0 : Below w.heap.size w W2 := by rw [hW2]; exact bAlloc (bAlloc (Below.refl _ _))
  have HI : Hid (W2.heap[w.heap.size]? = some (.cells (inArr i) 45 (0, 0))) := Lib.hid (by rw [hW2]; exact (Below.heap_alloc _ _ _ (by simp)).trans (newBlk _ _ _ rfl))
  have HE : Hid (W2.heap[w.heap.size + 1]? = some (.cells (eArr e A c) 29 (0, 0))) := Lib.hid (by rw [hW2]; exact newBlk _ _ _ (by simp))
  have HLc := Lib.hid (hL.below hb0)
  have HW := Lib.hid hb0
  have HB := Lib.hid (Below.refl W2.heap.size W2)
  have HSz := Lib.hid (fun wx (h : Below W2.heap.size W2 wx) => Size_any e wx 15 A c (by decide) (by decide) (hK.below (bCall hb0 h)))
  have hr := rsE_min e 15 (by decide)
  obtain ⟨⟨p, er⟩, hI⟩ : ∃ r, inferM (vs.map (·.u)) e = r := ⟨_, rfl⟩
  obtain ⟨⟨x1, b1⟩, hv1⟩ : ∃ r, valE (vs.map (·.u)) st i 1 e = r := ⟨_, rfl⟩
  obtain ⟨⟨xt, bt⟩, hvt⟩ : ∃ r, valE (vs.map (·.u)) st i t e = r := ⟨_, rfl⟩
  have HInf := Lib.hid fun wx (h : Below W2.heap.size W2 wx) => infer_at2 (VA := VA) (A := A) (vm := vm) (c := c) (HLc.out.below h) (hV.below (bCall hb0 h)) (hK.below (bCall hb0 h)) hI
  have HV1 := Lib.hid fun wx (h : Below W2.heap.size W2 wx) => by
    have := value_any vs VA vm st SA sm i 1 hi e wx A c (hV.below (bCall hb0 h)) (hS.below (bCall hb0 h)) (hK.below (bCall hb0 h))
    rw [hv1] at this
    exact this
  have HVt := Lib.hid fun wx (h : Below W2.heap.size W2 wx) => by
    have := value_any vs VA vm st SA sm i t hi e wx A c (hV.below (bCall hb0 h)) (hS.below (bCall hb0 h)) (hK.below (bCall hb0 h))
    rw [hvt] at this
    exact this
  have HM := Lib.hid (fun (h1 : 1 ≤ t) (h9 : t ≤ 9) (hs : e.size ≤ 15) (hI : inferM (vs.map (·.u)) e = (p, 0)) (hv1 : valE (vs.map (·.u)) st i 1 e = (x1, true)) (hvt : valE (vs.map (·.u)) st i t e = (xt, true)) => scaling_math h1 h9 hi hst hs hI hv1 hvt)
  have HIe := Lib.hid hI
  have Hve1 := Lib.hid hv1
  have Hvet := Lib.hid hvt
  obtain ⟨j0, j1, j2, j3⟩ := cells4' HI.out
  obtain ⟨e0, e1, e2, e3⟩ := cells4' HE.out
  have jl := blkLt HI.out
  have el := blkLt HE.out
  clear hL hV hS hi hst hK hb0 hI hv1 hvt
  generalize hrs : rsE e 15 = rs at *
  by_cases c1 : 15 < rs
  · have d1 : decide (rs > 15) = true := by simp; omega
    clear hr HM HIe Hve1 Hvet HInf HV1 HVt
    generalize vs.length = vn at *
    go_enter Tryd.func5, Tryd.ntmps5
    go_upto_region 1 with fail
    rw [← hW2]
    clear hW2
    go_wp2_with (first
      | (go_at_call 8; refine (head_any _ ?_).mono ?_; (exact HLc.out.below (by (repeat with_reducible first | exact HB.out | apply bDrew | apply bAlloc))); rintro e wn ⟨rfl, hbn⟩; have HB := Lib.hid (bCall (by (repeat with_reducible first | exact HB.out | apply bDrew | apply bAlloc)) hbn); obtain ⟨j0, j1, j2, j3⟩ := cells4' ((HB.out.block _ jl).trans HI.out); obtain ⟨e0, e1, e2, e3⟩ := cells4' ((HB.out.block _ el).trans HE.out); have jl' := Nat.lt_of_lt_of_le jl HB.out.size; have el' := Nat.lt_of_lt_of_le el HB.out.size; clear hbn)
      | (go_at_call 10; refine (HSz.out _ ?_).mono ?_; (repeat with_reducible first | exact HB.out | apply bDrew | apply bAlloc); rintro e wn ⟨rfl, hbn⟩; have HB := Lib.hid (bCall (by (repeat with_reducible first | exact HB.out | apply bDrew | apply bAlloc)) hbn); obtain ⟨j0, j1, j2, j3⟩ := cells4' ((HB.out.block _ jl).trans HI.out); obtain ⟨e0, e1, e2, e3⟩ := cells4' ((HB.out.block _ el).trans HE.out); have jl' := Nat.lt_of_lt_of_le jl HB.out.size; have el' := Nat.lt_of_lt_of_le el HB.out.size; clear hbn))
    go_ret
    exact ⟨rfl, bCall HW.out HB.out⟩
  have d1 : decide (rs > 15) = false := by simp; omega
  by_cases c2 : 12 < vs.length
  · have d2 : decide ((vs.length : Int) > 12) = true := by simp; omega
    clear hr HM HIe Hve1 Hvet HInf HV1 HVt
    generalize vs.length = vn at *
    go_enter Tryd.func5, Tryd.ntmps5
    go_upto_region 1 with fail
    rw [← hW2]
    clear hW2
    go_wp2_with (first
      | (go_at_call 8; refine (head_any _ ?_).mono ?_; (exact HLc.out.below (by (repeat with_reducible first | exact HB.out | apply bDrew | apply bAlloc))); rintro e wn ⟨rfl, hbn⟩; have HB := Lib.hid (bCall (by (repeat with_reducible first | exact HB.out | apply bDrew | apply bAlloc)) hbn); obtain ⟨j0, j1, j2, j3⟩ := cells4' ((HB.out.block _ jl).trans HI.out); obtain ⟨e0, e1, e2, e3⟩ := cells4' ((HB.out.block _ el).trans HE.out); have jl' := Nat.lt_of_lt_of_le jl HB.out.size; have el' := Nat.lt_of_lt_of_le el HB.out.size; clear hbn)
      | (go_at_call 10; refine (HSz.out _ ?_).mono ?_; (repeat with_reducible first | exact HB.out | apply bDrew | apply bAlloc); rintro e wn ⟨rfl, hbn⟩; have HB := Lib.hid (bCall (by (repeat with_reducible first | exact HB.out | apply bDrew | apply bAlloc)) hbn); obtain ⟨j0, j1, j2, j3⟩ := cells4' ((HB.out.block _ jl).trans HI.out); obtain ⟨e0, e1, e2, e3⟩ := cells4' ((HB.out.block _ el).trans HE.out); have jl' := Nat.lt_of_lt_of_le jl HB.out.size; have el' := Nat.lt_of_lt_of_le el HB.out.size; clear hbn))
    go_ret
    exact ⟨rfl, bCall HW.out HB.out⟩
  have d2 : decide ((vs.length : Int) > 12) = false := by simp; omega
  by_cases c3 : t < 1
  · clear hr HM HIe Hve1 Hvet HInf HV1 HVt
    generalize vs.length = vn at *
    go_enter Tryd.func5, Tryd.ntmps5
    go_upto_region 1 with fail
    rw [← hW2]
    clear hW2
    go_wp2_with (first
      | (go_at_call 8; refine (head_any _ ?_).mono ?_; (exact HLc.out.below (by (repeat with_reducible first | exact HB.out | apply bDrew | apply bAlloc))); rintro e wn ⟨rfl, hbn⟩; have HB := Lib.hid (bCall (by (repeat with_reducible first | exact HB.out | apply bDrew | apply bAlloc)) hbn); obtain ⟨j0, j1, j2, j3⟩ := cells4' ((HB.out.block _ jl).trans HI.out); obtain ⟨e0, e1, e2, e3⟩ := cells4' ((HB.out.block _ el).trans HE.out); have jl' := Nat.lt_of_lt_of_le jl HB.out.size; have el' := Nat.lt_of_lt_of_le el HB.out.size; clear hbn)
      | (go_at_call 10; refine (HSz.out _ ?_).mono ?_; (repeat with_reducible first | exact HB.out | apply bDrew | apply bAlloc); rintro e wn ⟨rfl, hbn⟩; have HB := Lib.hid (bCall (by (repeat with_reducible first | exact HB.out | apply bDrew | apply bAlloc)) hbn); obtain ⟨j0, j1, j2, j3⟩ := cells4' ((HB.out.block _ jl).trans HI.out); obtain ⟨e0, e1, e2, e3⟩ := cells4' ((HB.out.block _ el).trans HE.out); have jl' := Nat.lt_of_lt_of_le jl HB.out.size; have el' := Nat.lt_of_lt_of_le el HB.out.size; clear hbn))
    go_ret
    exact ⟨rfl, bCall HW.out HB.out⟩
  by_cases c4 : 9 < t
  · have d4 : decide (t > 9) = true := by simp; omega
    clear hr HM HIe Hve1 Hvet HInf HV1 HVt
    generalize vs.length = vn at *
    go_enter Tryd.func5, Tryd.ntmps5
    go_upto_region 1 with fail
    rw [← hW2]
    clear hW2
    go_wp2_with (first
      | (go_at_call 8; refine (head_any _ ?_).mono ?_; (exact HLc.out.below (by (repeat with_reducible first | exact HB.out | apply bDrew | apply bAlloc))); rintro e wn ⟨rfl, hbn⟩; have HB := Lib.hid (bCall (by (repeat with_reducible first | exact HB.out | apply bDrew | apply bAlloc)) hbn); obtain ⟨j0, j1, j2, j3⟩ := cells4' ((HB.out.block _ jl).trans HI.out); obtain ⟨e0, e1, e2, e3⟩ := cells4' ((HB.out.block _ el).trans HE.out); have jl' := Nat.lt_of_lt_of_le jl HB.out.size; have el' := Nat.lt_of_lt_of_le el HB.out.size; clear hbn)
      | (go_at_call 10; refine (HSz.out _ ?_).mono ?_; (repeat with_reducible first | exact HB.out | apply bDrew | apply bAlloc); rintro e wn ⟨rfl, hbn⟩; have HB := Lib.hid (bCall (by (repeat with_reducible first | exact HB.out | apply bDrew | apply bAlloc)) hbn); obtain ⟨j0, j1, j2, j3⟩ := cells4' ((HB.out.block _ jl).trans HI.out); obtain ⟨e0, e1, e2, e3⟩ := cells4' ((HB.out.block _ el).trans HE.out); have jl' := Nat.lt_of_lt_of_le jl HB.out.size; have el' := Nat.lt_of_lt_of_le el HB.out.size; clear hbn))
    go_ret
    exact ⟨rfl, bCall HW.out HB.out⟩
  have d3 : decide (t < 1) = false := by simp; omega
  have d4 : decide (t > 9) = false := by simp; omega
  have hs15 : e.size ≤ 15 := by omega
  have hM := fun hI hv1 hvt => HM.out (by omega) (by omega) hs15 hI hv1 hvt
  have hM := Lib.hid hM
  clear HM hr hs15
  by_cases h0 : er = 0
  case neg =>
    have d5 : (er != 0) = true := by simp [h0]
    clear hM HIe Hve1 Hvet
    generalize hvn : vs.length = vn at *
    go_enter Tryd.func5, Tryd.ntmps5
    go_upto_region 1 with fail
    rw [← hW2]
    clear hW2
    go_wp2_with (first
      | (go_at_call 8; refine (head_any _ ?_).mono ?_; (exact HLc.out.below (by (repeat with_reducible first | exact HB.out | apply bDrew | apply bAlloc))); rintro e wn ⟨rfl, hbn⟩; have HB := Lib.hid (bCall (by (repeat with_reducible first | exact HB.out | apply bDrew | apply bAlloc)) hbn); obtain ⟨j0, j1, j2, j3⟩ := cells4' ((HB.out.block _ jl).trans HI.out); obtain ⟨e0, e1, e2, e3⟩ := cells4' ((HB.out.block _ el).trans HE.out); have jl' := Nat.lt_of_lt_of_le jl HB.out.size; have el' := Nat.lt_of_lt_of_le el HB.out.size; clear hbn)
      | (go_at_call 10; refine (HSz.out _ ?_).mono ?_; (repeat with_reducible first | exact HB.out | apply bDrew | apply bAlloc); rintro e wn ⟨rfl, hbn⟩; have HB := Lib.hid (bCall (by (repeat with_reducible first | exact HB.out | apply bDrew | apply bAlloc)) hbn); obtain ⟨j0, j1, j2, j3⟩ := cells4' ((HB.out.block _ jl).trans HI.out); obtain ⟨e0, e1, e2, e3⟩ := cells4' ((HB.out.block _ el).trans HE.out); have jl' := Nat.lt_of_lt_of_le jl HB.out.size; have el' := Nat.lt_of_lt_of_le el HB.out.size; clear hbn)
      | (go_at_call 11; refine (HInf.out _ ?_).mono ?_; (repeat with_reducible first | exact HB.out | apply bDrew | apply bAlloc); rintro e wi ⟨rfl, hbn⟩; have HB := Lib.hid (bCall (by (repeat with_reducible first | exact HB.out | apply bDrew | apply bAlloc)) hbn); obtain ⟨j0, j1, j2, j3⟩ := cells4' ((HB.out.block _ jl).trans HI.out); obtain ⟨e0, e1, e2, e3⟩ := cells4' ((HB.out.block _ el).trans HE.out); have jl' := Nat.lt_of_lt_of_le jl HB.out.size; have el' := Nat.lt_of_lt_of_le el HB.out.size; clear hbn)
      | (go_at_call_of 19 (Value.int IntKind.i64 1); refine (HV1.out _ ?_).mono ?_; (repeat with_reducible first | exact HB.out | apply bDrew | apply bAlloc); rintro e wn ⟨rfl, hbn⟩; have HU1 := Lib.hid ((hbn.block _ (by simp)).trans (newBlk _ _ _ rfl)); have HB := Lib.hid (bCall (by (repeat with_reducible first | exact HB.out | apply bDrew | apply bAlloc)) hbn); obtain ⟨j0, j1, j2, j3⟩ := cells4' ((HB.out.block _ jl).trans HI.out); obtain ⟨e0, e1, e2, e3⟩ := cells4' ((HB.out.block _ el).trans HE.out); have jl' := Nat.lt_of_lt_of_le jl HB.out.size; have el' := Nat.lt_of_lt_of_le el HB.out.size; clear hbn)
      | (go_at_call 19; refine (HVt.out _ ?_).mono ?_; (repeat with_reducible first | exact HB.out | apply bDrew | apply bAlloc); rintro e wn ⟨rfl, hbn⟩; have HU1 := Lib.hid ((hbn.block _ (blkLt HU1.out)).trans HU1.out); have HB := Lib.hid (bCall (by (repeat with_reducible first | exact HB.out | apply bDrew | apply bAlloc)) hbn); obtain ⟨j0, j1, j2, j3⟩ := cells4' ((HB.out.block _ jl).trans HI.out); obtain ⟨e0, e1, e2, e3⟩ := cells4' ((HB.out.block _ el).trans HE.out); have jl' := Nat.lt_of_lt_of_le jl HB.out.size; have el' := Nat.lt_of_lt_of_le el HB.out.size; clear hbn))
    go_ret
    exact ⟨rfl, bCall HW.out (by (repeat with_reducible first | exact HB.out | apply bDrew | apply bAlloc))⟩
  case pos =>
    subst h0
    cases b1 with
    | false =>
      clear hM HIe Hve1 Hvet
      generalize hvn : vs.length = vn at *
      go_enter Tryd.func5, Tryd.ntmps5
      go_upto_region 1 with fail
      rw [← hW2]
      clear hW2
      go_wp2_with (first
        | (go_at_call 8; refine (head_any _ ?_).mono ?_; (exact HLc.out.below (by (repeat with_reducible first | exact HB.out | apply bDrew | apply bAlloc))); rintro e wn ⟨rfl, hbn⟩; have HB := Lib.hid (bCall (by (repeat with_reducible first | exact HB.out | apply bDrew | apply bAlloc)) hbn); obtain ⟨j0, j1, j2, j3⟩ := cells4' ((HB.out.block _ jl).trans HI.out); obtain ⟨e0, e1, e2, e3⟩ := cells4' ((HB.out.block _ el).trans HE.out); have jl' := Nat.lt_of_lt_of_le jl HB.out.size; have el' := Nat.lt_of_lt_of_le el HB.out.size; clear hbn)
        | (go_at_call 10; refine (HSz.out _ ?_).mono ?_; (repeat with_reducible first | exact HB.out | apply bDrew | apply bAlloc); rintro e wn ⟨rfl, hbn⟩; have HB := Lib.hid (bCall (by (repeat with_reducible first | exact HB.out | apply bDrew | apply bAlloc)) hbn); obtain ⟨j0, j1, j2, j3⟩ := cells4' ((HB.out.block _ jl).trans HI.out); obtain ⟨e0, e1, e2, e3⟩ := cells4' ((HB.out.block _ el).trans HE.out); have jl' := Nat.lt_of_lt_of_le jl HB.out.size; have el' := Nat.lt_of_lt_of_le el HB.out.size; clear hbn)
        | (go_at_call 11; refine (HInf.out _ ?_).mono ?_; (repeat with_reducible first | exact HB.out | apply bDrew | apply bAlloc); rintro e wi ⟨rfl, hbn⟩; have HB := Lib.hid (bCall (by (repeat with_reducible first | exact HB.out | apply bDrew | apply bAlloc)) hbn); obtain ⟨j0, j1, j2, j3⟩ := cells4' ((HB.out.block _ jl).trans HI.out); obtain ⟨e0, e1, e2, e3⟩ := cells4' ((HB.out.block _ el).trans HE.out); have jl' := Nat.lt_of_lt_of_le jl HB.out.size; have el' := Nat.lt_of_lt_of_le el HB.out.size; clear hbn)
        | (go_at_call_of 19 (Value.int IntKind.i64 1); refine (HV1.out _ ?_).mono ?_; (repeat with_reducible first | exact HB.out | apply bDrew | apply bAlloc); rintro e wn ⟨rfl, hbn⟩; have HU1 := Lib.hid ((hbn.block _ (by simp)).trans (newBlk _ _ _ rfl)); have HB := Lib.hid (bCall (by (repeat with_reducible first | exact HB.out | apply bDrew | apply bAlloc)) hbn); obtain ⟨j0, j1, j2, j3⟩ := cells4' ((HB.out.block _ jl).trans HI.out); obtain ⟨e0, e1, e2, e3⟩ := cells4' ((HB.out.block _ el).trans HE.out); have jl' := Nat.lt_of_lt_of_le jl HB.out.size; have el' := Nat.lt_of_lt_of_le el HB.out.size; clear hbn)
        | (go_at_call 19; refine (HVt.out _ ?_).mono ?_; (repeat with_reducible first | exact HB.out | apply bDrew | apply bAlloc); rintro e wn ⟨rfl, hbn⟩; have HU1 := Lib.hid ((hbn.block _ (blkLt HU1.out)).trans HU1.out); have HB := Lib.hid (bCall (by (repeat with_reducible first | exact HB.out | apply bDrew | apply bAlloc)) hbn); obtain ⟨j0, j1, j2, j3⟩ := cells4' ((HB.out.block _ jl).trans HI.out); obtain ⟨e0, e1, e2, e3⟩ := cells4' ((HB.out.block _ el).trans HE.out); have jl' := Nat.lt_of_lt_of_le jl HB.out.size; have el' := Nat.lt_of_lt_of_le el HB.out.size; clear hbn))
      go_ret
      exact ⟨rfl, bCall HW.out (by (repeat with_reducible first | exact HB.out | apply bDrew | apply bAlloc))⟩
    | true =>
      cases bt with
      | false =>
        clear hM HIe Hve1 Hvet
        generalize hvn : vs.length = vn at *
        go_enter Tryd.func5, Tryd.ntmps5
        go_upto_region 1 with fail
        rw [← hW2]
        clear hW2
        go_wp2_with (first
          | (go_at_call 8; refine (head_any _ ?_).mono ?_; (exact HLc.out.below (by (repeat with_reducible first | exact HB.out | apply bDrew | apply bAlloc))); rintro e wn ⟨rfl, hbn⟩; have HB := Lib.hid (bCall (by (repeat with_reducible first | exact HB.out | apply bDrew | apply bAlloc)) hbn); obtain ⟨j0, j1, j2, j3⟩ := cells4' ((HB.out.block _ jl).trans HI.out); obtain ⟨e0, e1, e2, e3⟩ := cells4' ((HB.out.block _ el).trans HE.out); have jl' := Nat.lt_of_lt_of_le jl HB.out.size; have el' := Nat.lt_of_lt_of_le el HB.out.size; clear hbn)
          | (go_at_call 10; refine (HSz.out _ ?_).mono ?_; (repeat with_reducible first | exact HB.out | apply bDrew | apply bAlloc); rintro e wn ⟨rfl, hbn⟩; have HB := Lib.hid (bCall (by (repeat with_reducible first | exact HB.out | apply bDrew | apply bAlloc)) hbn); obtain ⟨j0, j1, j2, j3⟩ := cells4' ((HB.out.block _ jl).trans HI.out); obtain ⟨e0, e1, e2, e3⟩ := cells4' ((HB.out.block _ el).trans HE.out); have jl' := Nat.lt_of_lt_of_le jl HB.out.size; have el' := Nat.lt_of_lt_of_le el HB.out.size; clear hbn)
          | (go_at_call 11; refine (HInf.out _ ?_).mono ?_; (repeat with_reducible first | exact HB.out | apply bDrew | apply bAlloc); rintro e wi ⟨rfl, hbn⟩; have HB := Lib.hid (bCall (by (repeat with_reducible first | exact HB.out | apply bDrew | apply bAlloc)) hbn); obtain ⟨j0, j1, j2, j3⟩ := cells4' ((HB.out.block _ jl).trans HI.out); obtain ⟨e0, e1, e2, e3⟩ := cells4' ((HB.out.block _ el).trans HE.out); have jl' := Nat.lt_of_lt_of_le jl HB.out.size; have el' := Nat.lt_of_lt_of_le el HB.out.size; clear hbn)
          | (go_at_call_of 19 (Value.int IntKind.i64 1); refine (HV1.out _ ?_).mono ?_; (repeat with_reducible first | exact HB.out | apply bDrew | apply bAlloc); rintro e wn ⟨rfl, hbn⟩; have HU1 := Lib.hid ((hbn.block _ (by simp)).trans (newBlk _ _ _ rfl)); have HB := Lib.hid (bCall (by (repeat with_reducible first | exact HB.out | apply bDrew | apply bAlloc)) hbn); obtain ⟨j0, j1, j2, j3⟩ := cells4' ((HB.out.block _ jl).trans HI.out); obtain ⟨e0, e1, e2, e3⟩ := cells4' ((HB.out.block _ el).trans HE.out); have jl' := Nat.lt_of_lt_of_le jl HB.out.size; have el' := Nat.lt_of_lt_of_le el HB.out.size; clear hbn)
          | (go_at_call 19; refine (HVt.out _ ?_).mono ?_; (repeat with_reducible first | exact HB.out | apply bDrew | apply bAlloc); rintro e wn ⟨rfl, hbn⟩; have HU1 := Lib.hid ((hbn.block _ (blkLt HU1.out)).trans HU1.out); have HB := Lib.hid (bCall (by (repeat with_reducible first | exact HB.out | apply bDrew | apply bAlloc)) hbn); obtain ⟨j0, j1, j2, j3⟩ := cells4' ((HB.out.block _ jl).trans HI.out); obtain ⟨e0, e1, e2, e3⟩ := cells4' ((HB.out.block _ el).trans HE.out); have jl' := Nat.lt_of_lt_of_le jl HB.out.size; have el' := Nat.lt_of_lt_of_le el HB.out.size; clear hbn))
        go_ret
        exact ⟨rfl, bCall HW.out (by (repeat with_reducible first | exact HB.out | apply bDrew | apply bAlloc))⟩
      | true =>
        obtain ⟨pn, hpa, hp4, hxt, hwx⟩ := hM.out HIe.out Hve1.out Hvet.out
        obtain ⟨pa, pb, pc⟩ := p
        simp only at hpa
        subst hpa
        have hxt := Lib.hid hxt
        have hwx := Lib.hid hwx
        clear hM HIe Hve1 Hvet
        generalize hvn : vs.length = vn at *
        go_enter Tryd.func5, Tryd.ntmps5
        go_upto_region 1 with fail
        rw [← hW2]
        clear hW2
        go_wp2_with (first
          | (go_at_call 8; refine (head_any _ ?_).mono ?_; (exact HLc.out.below (by (repeat with_reducible first | exact HB.out | apply bDrew | apply bAlloc))); rintro e wn ⟨rfl, hbn⟩; have HB := Lib.hid (bCall (by (repeat with_reducible first | exact HB.out | apply bDrew | apply bAlloc)) hbn); obtain ⟨j0, j1, j2, j3⟩ := cells4' ((HB.out.block _ jl).trans HI.out); obtain ⟨e0, e1, e2, e3⟩ := cells4' ((HB.out.block _ el).trans HE.out); have jl' := Nat.lt_of_lt_of_le jl HB.out.size; have el' := Nat.lt_of_lt_of_le el HB.out.size; clear hbn)
          | (go_at_call 10; refine (HSz.out _ ?_).mono ?_; (repeat with_reducible first | exact HB.out | apply bDrew | apply bAlloc); rintro e wn ⟨rfl, hbn⟩; have HB := Lib.hid (bCall (by (repeat with_reducible first | exact HB.out | apply bDrew | apply bAlloc)) hbn); obtain ⟨j0, j1, j2, j3⟩ := cells4' ((HB.out.block _ jl).trans HI.out); obtain ⟨e0, e1, e2, e3⟩ := cells4' ((HB.out.block _ el).trans HE.out); have jl' := Nat.lt_of_lt_of_le jl HB.out.size; have el' := Nat.lt_of_lt_of_le el HB.out.size; clear hbn)
          | (go_at_call 11; refine (HInf.out _ ?_).mono ?_; (repeat with_reducible first | exact HB.out | apply bDrew | apply bAlloc); rintro e wi ⟨rfl, hbn⟩; have HB := Lib.hid (bCall (by (repeat with_reducible first | exact HB.out | apply bDrew | apply bAlloc)) hbn); obtain ⟨j0, j1, j2, j3⟩ := cells4' ((HB.out.block _ jl).trans HI.out); obtain ⟨e0, e1, e2, e3⟩ := cells4' ((HB.out.block _ el).trans HE.out); have jl' := Nat.lt_of_lt_of_le jl HB.out.size; have el' := Nat.lt_of_lt_of_le el HB.out.size; clear hbn)
          | (go_at_call_of 19 (Value.int IntKind.i64 1); refine (HV1.out _ ?_).mono ?_; (repeat with_reducible first | exact HB.out | apply bDrew | apply bAlloc); rintro e wn ⟨rfl, hbn⟩; have HU1 := Lib.hid ((hbn.block _ (by simp)).trans (newBlk _ _ _ rfl)); have HB := Lib.hid (bCall (by (repeat with_reducible first | exact HB.out | apply bDrew | apply bAlloc)) hbn); obtain ⟨j0, j1, j2, j3⟩ := cells4' ((HB.out.block _ jl).trans HI.out); obtain ⟨e0, e1, e2, e3⟩ := cells4' ((HB.out.block _ el).trans HE.out); have jl' := Nat.lt_of_lt_of_le jl HB.out.size; have el' := Nat.lt_of_lt_of_le el HB.out.size; clear hbn)
          | (go_at_call 19; refine (HVt.out _ ?_).mono ?_; (repeat with_reducible first | exact HB.out | apply bDrew | apply bAlloc); rintro e wn ⟨rfl, hbn⟩; have HU1 := Lib.hid ((hbn.block _ (blkLt HU1.out)).trans HU1.out); have HB := Lib.hid (bCall (by (repeat with_reducible first | exact HB.out | apply bDrew | apply bAlloc)) hbn); obtain ⟨j0, j1, j2, j3⟩ := cells4' ((HB.out.block _ jl).trans HI.out); obtain ⟨e0, e1, e2, e3⟩ := cells4' ((HB.out.block _ el).trans HE.out); have jl' := Nat.lt_of_lt_of_le jl HB.out.size; have el' := Nat.lt_of_lt_of_le el HB.out.size; clear hbn))
        go_loopg [18, 19] pn (fun gk pw i wr => ∃ (k : Nat) (pv : Int), k + gk = pn ∧ i = .int .i64 k ∧ pw = .int .i64 pv ∧ Hid (pv = t ^ k) ∧ Hid (wr.heap[wi.heap.size]? = some (.cells (pArr ⟨pn, pb, pc⟩) 34 (0, 0))) ∧ Hid (Below W2.heap.size W2 wr))
        case atStart => exact ⟨0, 1, by omega, rfl, rfl, Lib.hid (by rw [Int.pow_zero]), HU1, Lib.hid (by repeat with_reducible first | exact HB.out | apply bDrew | apply bAlloc)⟩
        case round =>
          obtain ⟨k, pv, hk, rfl, rfl, hpv, hU, hB⟩ := hrel
          obtain ⟨⟨u0, u1, u2⟩, -⟩ := cells3 hU.out
          have ul := blkLt hU.out
          clear HU1 HB
          by_cases hlt : k < pn
          · obtain ⟨g, rfl⟩ : ∃ g, gk = g + 1 := ⟨gk - 1, by omega⟩
            have hq : Hid (IntKind.i64.wrap (pv * t) = t ^ (k + 1)) := Lib.hid (by
              have hb := pow_bnd (show 0 ≤ t by omega) (show t ≤ 9 by omega) k (by omega)
              rw [Int.pow_succ, hpv.out]
              have h1 := Int.mul_nonneg hb.1 (show 0 ≤ t by omega)
              have h2 := Int.mul_le_mul hb.2 (show t ≤ 9 by omega) (show 0 ≤ t by omega) (by decide)
              exact IntWalk.i64_in _ (by omega))
            obtain ⟨q, hqe⟩ : ∃ q, IntKind.i64.wrap (pv * t) = q := ⟨_, rfl⟩
            have hq2 : Hid (q = t ^ (k + 1)) := Lib.hid (hqe.symm.trans hq.out)
            clear hq
            go_wp2_with fail
            go_roundg g
            case measure => omega
            case rel => exact ⟨k + 1, q, by omega, by go_num, rfl, hq2, hU, hB⟩
          · obtain rfl : k = pn := by omega
            have hq : IntKind.i64.wrap (pv * x1) = xt := by
              rw [hpv.out, ← hxt.out]
              exact hwx.out
            have dp : decide ((k : Int) ≥ 0) = true := by simp
            go_wp2_with fail
            go_ret
            exact ⟨ret_bS (by simp), bCall HW.out hB.out⟩
end Go.Proofs.YtmofclpheioepaaDoor
