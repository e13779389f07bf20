/- Contracts of the small functions of package units. -/
import Derived.Test.YtmofclpheioepaaDoorUxB
namespace Go.Proofs.YtmofclpheioepaaDoor
open Go.RowKit
set_option linter.unusedVariables false
set_option linter.unusedSimpArgs false

theorem cells3 {w : World} {b : Nat} {v0 v1 v2 : Value} {T : TypeId} (h : w.heap[b]? = some (.cells #[v0, v1, v2] T (0, 0))) :
    (w.cell? ⟨b, 0, none⟩ = some v0 ∧ w.cell? ⟨b, 1, none⟩ = some v1 ∧ w.cell? ⟨b, 2, none⟩ = some v2) ∧ w.frozen? ⟨b, 0, none⟩ = false ∧ w.frozen? ⟨b, 1, none⟩ = false ∧ w.frozen? ⟨b, 2, none⟩ = false := by
  refine ⟨⟨?_, ?_, ?_⟩, ?_, ?_, ?_⟩
  · rw [cell_of_row _ _ 0 _ _ (0, 0) h]; rfl
  · rw [cell_of_row _ _ 1 _ _ (0, 0) h]; rfl
  · rw [cell_of_row _ _ 2 _ _ (0, 0) h]; rfl
  all_goals simp [World.frozen?, h]
theorem below3 {B b : Nat} {a w : World} {v0 v1 v2 : Value} (h : Below B a w) (hb : B ≤ b) : Below B a (((w.setCell ⟨b, 0, none⟩ v0).setCell ⟨b, 1, none⟩ v1).setCell ⟨b, 2, none⟩ v2) :=
  ((h.setCell hb _).setCell hb _).setCell hb _
theorem res3 {w : World} {b : Nat} {v0 v1 v2 x y z : Value} {T : TypeId} (h : w.heap[b]? = some (.cells #[v0, v1, v2] T (0, 0))) :
    (w.setCell ⟨b, 0, none⟩ x).cell? ⟨b, 0, none⟩ = some x ∧ ((w.setCell ⟨b, 0, none⟩ x).setCell ⟨b, 1, none⟩ y).cell? ⟨b, 1, none⟩ = some y ∧ (((w.setCell ⟨b, 0, none⟩ x).setCell ⟨b, 1, none⟩ y).setCell ⟨b, 2, none⟩ z).cell? ⟨b, 2, none⟩ = some z := by
  have g0 : (w.setCell ⟨b, 0, none⟩ x).heap[b]? = some (.cells #[x, v1, v2] T (0, 0)) := by rw [heap_setCell_same w b 0 _ _ _ h]; simp
  have g1 : ((w.setCell ⟨b, 0, none⟩ x).setCell ⟨b, 1, none⟩ y).heap[b]? = some (.cells #[x, y, v2] T (0, 0)) := by rw [heap_setCell_same _ b 1 _ _ _ g0]; simp
  have g2 : (((w.setCell ⟨b, 0, none⟩ x).setCell ⟨b, 1, none⟩ y).setCell ⟨b, 2, none⟩ z).heap[b]? = some (.cells #[x, y, z] T (0, 0)) := by rw [heap_setCell_same _ b 2 _ _ _ g1]; simp
  exact ⟨(cells3 g0).1.1, (cells3 g1).1.2.1, (cells3 g2).1.2.2⟩
/-- what the laid variables give -/
structure LaidW (w : World) : Prop where
  kinds : ∀ k : Nat, k < 5 → PwAt w 0 (k * 3) (kindP k)
  inputs : ∀ k : Nat, k < 4 → w.cell? ⟨1, k, none⟩ = some (.int .i64 (inpK k))
theorem LaidW.keep {w w' : World} (h : LaidW w) (hb : ∀ k, k < w.heap.size → w'.heap[k]? = w.heap[k]?) : LaidW w' := by
  have l0 := World.block_lt_of_cell? w _ (h.kinds 0 (by decide)).1
  have l1 := World.block_lt_of_cell? w _ (h.inputs 0 (by decide))
  have e0 : ∀ i, w'.cell? ⟨0, i, none⟩ = w.cell? ⟨0, i, none⟩ := fun i => World.cell?_of_block (a := ⟨0, i, none⟩) (hb _ l0)
  have e1 : ∀ i, w'.cell? ⟨1, i, none⟩ = w.cell? ⟨1, i, none⟩ := fun i => World.cell?_of_block (a := ⟨1, i, none⟩) (hb _ l1)
  refine ⟨fun k hk => ?_, fun k hk => (e1 k).trans (h.inputs k hk)⟩
  have := h.kinds k hk
  unfold PwAt at this ⊢
  rw [e0, e0, e0]
  exact this
theorem LaidW.below {w w' : World} (h : LaidW w) (hb : Below w.heap.size w w') : LaidW w' := h.keep hb.block

set_option maxHeartbeats 400000 in
set_option maxRecDepth 100000 in
theorem between_any (n lo hi : Int) (w : World) : Calls Tryd.prog 56 #[.int .i64 n, .int .i64 lo, .int .i64 hi] w (fun e w' => e = .returned (.bool (btw n lo hi)) ∧ w' = w) := by
  go_enter Tryd.func56, Tryd.ntmps56
  go_wp2
  all_goals
    go_ret
    refine ⟨?_, rfl⟩
    simp [btw, *]
  all_goals omega
set_option maxHeartbeats 400000 in
set_option maxRecDepth 100000 in
theorem isIndex_any (n len : Int) (h : 0 ≤ len ∧ len ≤ 1000000000000000) (w : World) : Calls Tryd.prog 47 #[.int .i64 n, .int .i64 len] w (fun e w' => e = .returned (.bool (btw n 0 (len - 1))) ∧ w' = w) := by
  have q0 : IntKind.i64.wrap (len - 1) = len - 1 := IntWalk.i64_in _ (by omega)
  go_enter Tryd.func47, Tryd.ntmps47
  go_wp2_with (go_at_call 56; refine (between_any _ _ _ _).mono ?_; rintro e w1 ⟨rfl, rfl⟩)
  go_ret
  exact ⟨rfl, rfl⟩
set_option maxHeartbeats 400000 in
set_option maxRecDepth 100000 in
theorem isKind_any (n : Int) (w : World) : Calls Tryd.prog 36 #[.int .i64 n] w (fun e w' => e = .returned (.bool (btw n 0 4)) ∧ w' = w) := by
  go_enter Tryd.func36, Tryd.ntmps36
  go_wp2_with (go_at_call 47; refine (isIndex_any _ 5 (by decide) _).mono ?_; rintro e w1 ⟨rfl, rfl⟩)
  go_ret
  exact ⟨rfl, rfl⟩
set_option maxHeartbeats 400000 in
set_option maxRecDepth 100000 in
theorem unit_any (p : Pw) (w : World) : Calls Tryd.prog 31 #[pv p] w (VV (pv p) w) := by
  have hb := (Below.refl w.heap.size w).alloc (Nat.le_refl _) (.cells (pArr p) 67) |>.alloc (by simp) (.cells (pArr p) 34)
  go_enter Tryd.func31, Tryd.ntmps31
  go_wp2
  exact bodyPost_ret (v := pv p) (by simp [results, Tryd.results31, go_sem]) rfl ⟨rfl, hb⟩
set_option maxHeartbeats 400000 in
set_option maxRecDepth 100000 in
theorem need_any (b : Bool) (er : Int) (w : World) : Calls Tryd.prog 48 #[.bool b, .int .i64 er] w (fun e w' => (if b then e = .returned (.tuple #[]) else e = .panicked [{ v := .iface 35 (.int .i64 er), recovered := false }]) ∧ w' = w) := by
  cases b
  · go_enter Tryd.func48, Tryd.ntmps48
    go_wp2
    exact ⟨rfl, rfl, rfl⟩
  · go_enter Tryd.func48, Tryd.ntmps48
    go_wp2
    exact ⟨rfl, .tuple #[], by simp [results, Tryd.results48, go_sem], rfl, rfl⟩
set_option maxHeartbeats 400000 in
set_option maxRecDepth 100000 in
theorem Of_any (k : Int) (w : World) (hL : LaidW w) : Calls Tryd.prog 15 #[.int .i64 k] w (VV (.tuple #[pv (ofM k).1, .int .i64 (ofM k).2]) w) := by
  by_cases hk : btw k 0 4 = true
  · have e : ofM k = (kindP k, 0) := by unfold ofM; rw [if_pos hk]
    rw [e]
    obtain ⟨h0, h1⟩ := btw_iff.1 hk
    obtain ⟨j, rfl⟩ : ∃ j : Nat, k = j := ⟨k.toNat, by omega⟩
    have hK := isKind_any j
    rw [hk] at hK
    have hK := Lib.hid hK
    obtain ⟨c0, c1, c2⟩ := hL.kinds j (by omega)
    have hlt := World.block_lt_of_cell? w _ c0
    generalize kindP j = p at *
    have hU := Lib.hid (unit_any p)
    clear hL e hk
    go_enter Tryd.func15, Tryd.ntmps15
    go_wp2_with (first
      | (go_at_call 36; refine (hK.out _).mono ?_; rintro e w1 ⟨rfl, rfl⟩)
      | (go_at_call 31; refine (hU.out _).mono ?_; rintro e w1 ⟨rfl, hb1⟩; have HB := (hb1.block w.heap.size (by simp)).trans (newBlk _ _ _ rfl); obtain ⟨⟨b0, b1, b2⟩, d0, d1, d2⟩ := cells3 HB; have hx := blkLt HB; have HW := Lib.hid (((Below.refl w.heap.size w).alloc (Nat.le_refl _) _).trans (hb1.mono (by simp))); clear hb1))
    obtain ⟨f0, f1, f2⟩ := res3 (x := .int .i64 p.a) (y := .int .i64 p.b) (z := .int .i64 p.c) HB
    exact bodyPost_ret (v := .tuple #[pv p, .int .i64 0]) (by simp [results, Tryd.results15, go_sem, f0, f1, f2]) rfl ⟨rfl, below3 HW.out (Nat.le_refl _)⟩
  · have e : ofM k = (⟨0, 0, 0⟩, 9) := by unfold ofM; rw [if_neg hk]
    rw [e]
    have hk : btw k 0 4 = false := by simpa using hk
    have hK := isKind_any k
    rw [hk] at hK
    have hK := Lib.hid hK
    clear hL e hk
    go_enter Tryd.func15, Tryd.ntmps15
    go_wp2_with (go_at_call 36; refine (hK.out _).mono ?_; rintro e w1 ⟨rfl, rfl⟩)
    exact bodyPost_ret (v := .tuple #[pv ⟨0, 0, 0⟩, .int .i64 9]) (by simp [results, Tryd.results15, go_sem]) rfl ⟨rfl, (Below.refl _ _).alloc (Nat.le_refl _) _⟩
theorem ix_run (v0 v1 v2 : Value) (w : World) :
    (Instr.index 67 (.agg #[v0, v1, v2]) (.int .i64 0)).run Tryd.prog w = .ok v0 w ∧ (Instr.index 67 (.agg #[v0, v1, v2]) (.int .i64 1)).run Tryd.prog w = .ok v1 w ∧ (Instr.index 67 (.agg #[v0, v1, v2]) (.int .i64 2)).run Tryd.prog w = .ok v2 w := by
  refine ⟨?_, ?_, ?_⟩ <;> simp [Instr.index, run_underlying Tryd.underlying67, asIntOf, go_sem]
set_option maxHeartbeats 400000 in
set_option maxRecDepth 100000 in
theorem inRange_any (p : Pw) (w : World) : Calls Tryd.prog 57 #[pv p] w (BB (rgB p) w) := by
  have hb := Lib.hid ((Below.refl w.heap.size w).alloc (Nat.le_refl _) (.cells (pArr p) 67))
  have hr : rgB p = (btw p.a (-4) 4 && (btw p.b (-4) 4 && btw p.c (-4) 4)) := rfl
  rw [hr]
  have h0 := Lib.hid (fun w => between_any p.a (-4) 4 w)
  have h1 := Lib.hid (fun w => between_any p.b (-4) 4 w)
  have h2 := Lib.hid (fun w => between_any p.c (-4) 4 w)
  generalize btw p.a (-4) 4 = t0 at *
  generalize btw p.b (-4) 4 = t1 at *
  generalize btw p.c (-4) 4 = t2 at *
  clear hr
  obtain ⟨r, hr⟩ : ∃ r, (t0 && (t1 && t2)) = r := ⟨_, rfl⟩
  rw [hr]
  have hR : Hid (([t0, t1, t2].drop 0).all id = r) := Lib.hid (by rw [← hr]; simp)
  clear hr
  have ix0 := fun w => (ix_run (.int .i64 p.a) (.int .i64 p.b) (.int .i64 p.c) w).1
  have ix1 := fun w => (ix_run (.int .i64 p.a) (.int .i64 p.b) (.int .i64 p.c) w).2.1
  have ix2 := fun w => (ix_run (.int .i64 p.a) (.int .i64 p.b) (.int .i64 p.c) w).2.2
  go_enter Tryd.func57, Tryd.ntmps57
  go_wp2_with fail
  go_loopg [6] 3 (fun gk i wr => ∃ (j : Nat), j + gk = 3 ∧ i = .int .i64 j ∧ Hid (([t0, t1, t2].drop j).all id = r) ∧ Hid (Below w.heap.size w wr))
  case atStart => exact ⟨0, rfl, rfl, hR, hb⟩
  case round =>
    obtain ⟨j, hj, rfl, hS, hW⟩ := hrel
    match j, hj with
    | 0, hj =>
      obtain rfl : gk = 3 := by omega
      have hS := hS.out
      cases t0
      · have hF : Hid (false = r) := Lib.hid (by rw [← hS]; simp)
        clear hS
        go_wp2_with (go_at_call 56; refine (h0.out _).mono ?_; rintro e w1 ⟨rfl, rfl⟩)
        go_ret
        exact ⟨by rw [← hF.out]; rfl, hW.out⟩
      · have hF : Hid (([true, t1, t2].drop 1).all id = r) := Lib.hid (by rw [← hS]; simp)
        clear hS
        go_wp2_with (go_at_call 56; refine (h0.out _).mono ?_; rintro e w1 ⟨rfl, rfl⟩)
        go_roundg 2
        case measure => omega
        case rel => exact ⟨1, by omega, by go_num, hF, hW⟩
    | 1, hj =>
      obtain rfl : gk = 2 := by omega
      have hS := hS.out
      cases t1
      · have hF : Hid (false = r) := Lib.hid (by rw [← hS]; simp)
        clear hS
        go_wp2_with (go_at_call 56; refine (h1.out _).mono ?_; rintro e w1 ⟨rfl, rfl⟩)
        go_ret
        exact ⟨by rw [← hF.out]; rfl, hW.out⟩
      · have hF : Hid (([t0, true, t2].drop 2).all id = r) := Lib.hid (by rw [← hS]; simp)
        clear hS
        go_wp2_with (go_at_call 56; refine (h1.out _).mono ?_; rintro e w1 ⟨rfl, rfl⟩)
        go_roundg 1
        case measure => omega
        case rel => exact ⟨2, by omega, by go_num, hF, hW⟩
    | 2, hj =>
      obtain rfl : gk = 1 := by omega
      have hS := hS.out
      cases t2
      · have hF : Hid (false = r) := Lib.hid (by rw [← hS]; simp)
        clear hS
        go_wp2_with (go_at_call 56; refine (h2.out _).mono ?_; rintro e w1 ⟨rfl, rfl⟩)
        go_ret
        exact ⟨by rw [← hF.out]; rfl, hW.out⟩
      · have hF : Hid (([t0, t1, true].drop 3).all id = r) := Lib.hid (by rw [← hS]; simp)
        clear hS
        go_wp2_with (go_at_call 56; refine (h2.out _).mono ?_; rintro e w1 ⟨rfl, rfl⟩)
        go_roundg 0
        case measure => omega
        case rel => exact ⟨3, by omega, by go_num, hF, hW⟩
    | j + 3, hj =>
      obtain rfl : j = 0 := by omega
      obtain rfl : gk = 0 := by omega
      have hF : Hid (true = r) := Lib.hid (by have := hS.out; rw [← this]; simp)
      go_wp2_with fail
      go_ret
      exact ⟨by rw [← hF.out]; rfl, hW.out⟩
end Go.Proofs.YtmofclpheioepaaDoor
