/- Package machine: operands, floor, the operations, areRelated. -/
import Derived.Test.YthgngkajdiclcaaDoorNbB
namespace Go.Proofs.YthgngkajdiclcaaDoor
open Go.RowKit
set_option linter.unusedVariables false
set_option linter.unusedSimpArgs false
namespace N
open K
set_option maxHeartbeats 1000000 in
set_option maxRecDepth 100000 in
theorem operands_any (x y : Int) (b : Nat) (VS SS : Value) (i0 i1 i2 i3 : Int) (s : List Int) (w : World) (hM : MAt w b VS SS i0 i1 i2 i3 (y :: x :: s)) :
    Calls Tryd.prog 56 #[.pointer (some ⟨b, 0, none⟩)] w (fun e w' => e = .returned (.tuple #[.int .i64 x, .int .i64 y]) ∧ MAt w' b VS SS i0 i1 i2 i3 s ∧ w.grownBy w' (some b)) := by
  obtain ⟨W3, hW3⟩ : ∃ W3, W3 = ((w.alloc (.cells #[.int .i64 0] 3)).alloc (.cells #[.int .i64 0] 3)).alloc (.cells (ptrs [w.heap.size + 1, w.heap.size]) 86) := ⟨_, rfl⟩
  have hG3 : Gr w W3 := by rw [hW3]; exact ((grAlloc _ _).tr (grAlloc _ _)).tr (grAlloc _ _)
  have HM := Lib.hid (hM.gr hG3)
  have hbl := hM.lt
  have hS : PS w.heap.size b (w.heap.size + 2) [w.heap.size + 1, w.heap.size] := ⟨by simp; omega, by simp, by omega⟩
  have hQ : PQ w.heap.size b (w.heap.size + 2) [w.heap.size + 1, w.heap.size] W3 := by
    refine ⟨by rw [hW3]; exact nBlk _ _ _ (by simp), fun p hp => ⟨0, ?_⟩⟩
    simp only [List.mem_cons, List.not_mem_nil, or_false] at hp
    rw [hW3]
    rcases hp with rfl | rfl
    · exact grBlk (grAlloc _ _) (nBlk _ _ _ (by simp))
    · exact grBlk (grAlloc _ _) (grBlk (grAlloc _ _) (nBlk _ _ _ rfl))
  have HP := Lib.hid (fun c => pop_any w.heap.size b (w.heap.size + 2) c VS SS i0 i1 i2 i3 [w.heap.size + 1, w.heap.size] [y, x] s W3 HM.out rfl (by simp) hS hQ hG3.size)
  have HG := Lib.hid hG3
  clear hS hQ hM hG3
  go_enter Tryd.func56, Tryd.ntmps56
  go_wp2_with (go_at_call 64; rw [show (((w.alloc (.cells #[.int .i64 0] 3)).alloc (.cells #[.int .i64 0] 3)).alloc (.cells #[.pointer (some ⟨w.heap.size + 1, 0, none⟩), .pointer (some ⟨w.heap.size, 0, none⟩)] 86)) = W3 from hW3.symm]; refine (HP.out _).mono ?_; go_loud (rintro e w4 ⟨rfl, hM4, hW4, hC4⟩; have hx4 := hW4 1 _ _ (by simp) rfl rfl; have hy4 := hW4 0 _ _ (by simp) rfl rfl; have HM4 := Lib.hid hM4; have HC4 := Lib.hid hC4; have cx : w4.cell? ⟨w.heap.size, 0, none⟩ = some (.int .i64 x) := (cell_of_row _ _ 0 _ _ (0, 0) hx4).trans rfl; have cy : w4.cell? ⟨w.heap.size + 1, 0, none⟩ = some (.int .i64 y) := (cell_of_row _ _ 0 _ _ (0, 0) hy4).trans rfl; have dx := frz hx4 0; have dy := frz hy4 0; have gx := one_set (n := x) hx4; have gy := oth (i := 0) (v := .int .i64 x) hy4 (show w.heap.size + 1 ≠ w.heap.size by omega); have ey := frz gy 0; have HX := Lib.hid (oth (i := 0) (v := .int .i64 y) gx (show w.heap.size ≠ w.heap.size + 1 by omega)); have HY := Lib.hid (one_set (n := y) gy); clear hM4 hW4 hC4 hx4 hy4 gx gy HP HM))
  obtain ⟨W6, hW6⟩ : ∃ W6, W6 = (w4.setCell ⟨w.heap.size, 0, none⟩ (.int .i64 x)).setCell ⟨w.heap.size + 1, 0, none⟩ (.int .i64 y) := ⟨_, rfl⟩
  rw [← hW6] at HX HY ⊢
  have f0 : W6.cell? ⟨w.heap.size, 0, none⟩ = some (.int .i64 x) := (cell_of_row _ _ 0 _ _ (0, 0) HX.out).trans rfl
  have f1 : W6.cell? ⟨w.heap.size + 1, 0, none⟩ = some (.int .i64 y) := (cell_of_row _ _ 0 _ _ (0, 0) HY.out).trans rfl
  have hC6 : Ch w.heap.size b W3 W6 := by rw [hW6]; exact (HC4.out.set (.inr (Nat.le_refl _))).set (.inr (Nat.le_succ _))
  have hC0 : Ch w.heap.size b w W3 := (Ch.refl _ _ _).gr (Nat.le_refl _) HG.out
  have hM6 : MAt W6 b VS SS i0 i1 i2 i3 s := by rw [hW6]; exact (HM4.out.keep (oth rfl (by omega))).keep (oth rfl (by omega))
  refine bodyPost_ret (v := .tuple #[.int .i64 x, .int .i64 y]) (by simp [results, Tryd.results56, go_sem, f0, f1]) rfl ⟨rfl, hM6, (hC0.trans hC6).gb⟩
end N
end Go.Proofs.YthgngkajdiclcaaDoor
