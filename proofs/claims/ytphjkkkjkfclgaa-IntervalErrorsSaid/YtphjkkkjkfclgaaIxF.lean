/- The results for the ends: one copy for each operation. -/
import Derived.Test.YtphjkkkjkfclgaaIxD
import Derived.StillTailTactics
namespace Go.Proofs.Ytphjkkkjkfclgaa
open Go.RowKit
set_option linter.unusedVariables false
set_option linter.unusedSimpArgs false
set_option maxHeartbeats 400000 in
set_option maxRecDepth 100000 in
theorem endsDiv (f : Int → Int → Int) (a b : Sp) (H : ∀ x y, (x = a.lo ∨ x = a.hi) → (y = b.lo ∨ y = b.hi) → ∀ w, Calls Try.prog 26 #[.int .i64 x, .int .i64 y] w (SS (.int .i64 (f x y)) w)) (w : World) :
    Calls Try.prog 33 #[sv a, sv b, .func (.func 26) #[] #[]] w (VV (.agg #[.int .i64 (f a.lo b.lo), .int .i64 (f a.lo b.hi), .int .i64 (f a.hi b.lo), .int .i64 (f a.hi b.hi)]) w) := by
  have h0 := Lib.hid (H a.lo b.lo (.inl rfl) (.inl rfl))
  have h1 := Lib.hid (H a.lo b.hi (.inl rfl) (.inr rfl))
  have h2 := Lib.hid (H a.hi b.lo (.inr rfl) (.inl rfl))
  have h3 := Lib.hid (H a.hi b.hi (.inr rfl) (.inr rfl))
  clear H
  generalize f a.lo b.lo = p at *
  generalize f a.lo b.hi = q at *
  generalize f a.hi b.lo = r at *
  generalize f a.hi b.hi = s at *
  obtain ⟨W, hW⟩ : ∃ W, W = ((w.alloc (.cells #[.int .i64 a.lo, .int .i64 a.hi] 23)).alloc (.cells #[.int .i64 b.lo, .int .i64 b.hi] 23)).alloc (.cells #[.int .i64 0, .int .i64 0, .int .i64 0, .int .i64 0] 41) := ⟨_, rfl⟩
  have hbw : Hid (Below w.heap.size w W) := Lib.hid (by rw [hW]; exact bAlloc (bAlloc (bAlloc (Below.refl _ _))))
  have HA : W.heap[w.heap.size]? = some (.cells #[.int .i64 a.lo, .int .i64 a.hi] 23 (0, 0)) := by rw [hW]; exact (Below.heap_alloc _ _ _ (by simp; omega)).trans ((Below.heap_alloc _ _ _ (by simp)).trans (newBlk _ _ _ rfl))
  have HB : W.heap[w.heap.size + 1]? = some (.cells #[.int .i64 b.lo, .int .i64 b.hi] 23 (0, 0)) := by rw [hW]; exact (Below.heap_alloc _ _ _ (by simp)).trans (newBlk _ _ _ (by simp))
  have HC : W.heap[w.heap.size + 1 + 1]? = some (.cells #[.int .i64 0, .int .i64 0, .int .i64 0, .int .i64 0] 41 (0, 0)) := by rw [hW]; exact newBlk _ _ _ (by simp)
  go_enter Try.func33, Try.ntmps33
  go_wp2_with fail
  change Code.wp _ _ _ _ (((w.alloc (.cells #[.int .i64 a.lo, .int .i64 a.hi] 23)).alloc (.cells #[.int .i64 b.lo, .int .i64 b.hi] 23)).alloc (.cells #[.int .i64 0, .int .i64 0, .int .i64 0, .int .i64 0] 41))
  rw [← hW]
  clear hW
  obtain ⟨Wd, hWd⟩ : ∃ Wd, Wd = ({ W with drawn := W.drawn + 1 } : World) := ⟨_, rfl⟩
  have hbd : Hid (Below w.heap.size w Wd) := Lib.hid (by rw [hWd]; exact hbw.out.drew)
  have HA : Wd.heap[w.heap.size]? = some (.cells #[.int .i64 a.lo, .int .i64 a.hi] 23 (0, 0)) := by rw [hWd]; exact HA
  have HB : Wd.heap[w.heap.size + 1]? = some (.cells #[.int .i64 b.lo, .int .i64 b.hi] 23 (0, 0)) := by rw [hWd]; exact HB
  have HC : Wd.heap[w.heap.size + 1 + 1]? = some (.cells #[.int .i64 0, .int .i64 0, .int .i64 0, .int .i64 0] 41 (0, 0)) := by rw [hWd]; exact HC
  refine wp_region_still_tail 25 (by kernel_rfl) (by kernel_rfl) ?_
  rw [← hWd]
  clear hWd hbw
  simp only [List.take_succ_cons, List.take_zero, List.drop_succ_cons, List.drop_zero]
  obtain ⟨⟨a0, a1⟩, -⟩ := cells2 HA
  obtain ⟨⟨b0, b1⟩, -⟩ := cells2 HB
  have HF := Lib.hid (res4 (x := .int .i64 p) (y := .int .i64 q) (z := .int .i64 r) (u := .int .i64 s) HC)
  have c0 := cells4 HC
  have f0 := fz4 HC
  have hl := blkLt HC
  clear HA HB HC
  repeat still_step
  still_call (ss (h0.out Wd))
  repeat still_step
  still_call (ss (h1.out Wd))
  repeat still_step
  still_call (ss (h2.out Wd))
  repeat still_step
  still_call (ss (h3.out Wd))
  repeat still_step
  refine wpStill_nil ?_
  go_wp2
  obtain ⟨f0, f1, f2, f3⟩ := HF.out
  exact bodyPost_ret (v := .agg #[.int .i64 p, .int .i64 q, .int .i64 r, .int .i64 s]) (by simp [results, Try.results33, go_sem, f0, f1, f2, f3]) rfl ⟨rfl, below4 hbd.out (by omega)⟩
set_option maxHeartbeats 400000 in
set_option maxRecDepth 100000 in
theorem endsUp (f : Int → Int → Int) (a b : Sp) (H : ∀ x y, (x = a.lo ∨ x = a.hi) → (y = b.lo ∨ y = b.hi) → ∀ w, Calls Try.prog 27 #[.int .i64 x, .int .i64 y] w (SS (.int .i64 (f x y)) w)) (w : World) :
    Calls Try.prog 33 #[sv a, sv b, .func (.func 27) #[] #[]] w (VV (.agg #[.int .i64 (f a.lo b.lo), .int .i64 (f a.lo b.hi), .int .i64 (f a.hi b.lo), .int .i64 (f a.hi b.hi)]) w) := by
  have h0 := Lib.hid (H a.lo b.lo (.inl rfl) (.inl rfl))
  have h1 := Lib.hid (H a.lo b.hi (.inl rfl) (.inr rfl))
  have h2 := Lib.hid (H a.hi b.lo (.inr rfl) (.inl rfl))
  have h3 := Lib.hid (H a.hi b.hi (.inr rfl) (.inr rfl))
  clear H
  generalize f a.lo b.lo = p at *
  generalize f a.lo b.hi = q at *
  generalize f a.hi b.lo = r at *
  generalize f a.hi b.hi = s at *
  obtain ⟨W, hW⟩ : ∃ W, W = ((w.alloc (.cells #[.int .i64 a.lo, .int .i64 a.hi] 23)).alloc (.cells #[.int .i64 b.lo, .int .i64 b.hi] 23)).alloc (.cells #[.int .i64 0, .int .i64 0, .int .i64 0, .int .i64 0] 41) := ⟨_, rfl⟩
  have hbw : Hid (Below w.heap.size w W) := Lib.hid (by rw [hW]; exact bAlloc (bAlloc (bAlloc (Below.refl _ _))))
  have HA : W.heap[w.heap.size]? = some (.cells #[.int .i64 a.lo, .int .i64 a.hi] 23 (0, 0)) := by rw [hW]; exact (Below.heap_alloc _ _ _ (by simp; omega)).trans ((Below.heap_alloc _ _ _ (by simp)).trans (newBlk _ _ _ rfl))
  have HB : W.heap[w.heap.size + 1]? = some (.cells #[.int .i64 b.lo, .int .i64 b.hi] 23 (0, 0)) := by rw [hW]; exact (Below.heap_alloc _ _ _ (by simp)).trans (newBlk _ _ _ (by simp))
  have HC : W.heap[w.heap.size + 1 + 1]? = some (.cells #[.int .i64 0, .int .i64 0, .int .i64 0, .int .i64 0] 41 (0, 0)) := by rw [hW]; exact newBlk _ _ _ (by simp)
  go_enter Try.func33, Try.ntmps33
  go_wp2_with fail
  change Code.wp _ _ _ _ (((w.alloc (.cells #[.int .i64 a.lo, .int .i64 a.hi] 23)).alloc (.cells #[.int .i64 b.lo, .int .i64 b.hi] 23)).alloc (.cells #[.int .i64 0, .int .i64 0, .int .i64 0, .int .i64 0] 41))
  rw [← hW]
  clear hW
  obtain ⟨Wd, hWd⟩ : ∃ Wd, Wd = ({ W with drawn := W.drawn + 1 } : World) := ⟨_, rfl⟩
  have hbd : Hid (Below w.heap.size w Wd) := Lib.hid (by rw [hWd]; exact hbw.out.drew)
  have HA : Wd.heap[w.heap.size]? = some (.cells #[.int .i64 a.lo, .int .i64 a.hi] 23 (0, 0)) := by rw [hWd]; exact HA
  have HB : Wd.heap[w.heap.size + 1]? = some (.cells #[.int .i64 b.lo, .int .i64 b.hi] 23 (0, 0)) := by rw [hWd]; exact HB
  have HC : Wd.heap[w.heap.size + 1 + 1]? = some (.cells #[.int .i64 0, .int .i64 0, .int .i64 0, .int .i64 0] 41 (0, 0)) := by rw [hWd]; exact HC
  refine wp_region_still_tail 25 (by kernel_rfl) (by kernel_rfl) ?_
  rw [← hWd]
  clear hWd hbw
  simp only [List.take_succ_cons, List.take_zero, List.drop_succ_cons, List.drop_zero]
  obtain ⟨⟨a0, a1⟩, -⟩ := cells2 HA
  obtain ⟨⟨b0, b1⟩, -⟩ := cells2 HB
  have HF := Lib.hid (res4 (x := .int .i64 p) (y := .int .i64 q) (z := .int .i64 r) (u := .int .i64 s) HC)
  have c0 := cells4 HC
  have f0 := fz4 HC
  have hl := blkLt HC
  clear HA HB HC
  repeat still_step
  still_call (ss (h0.out Wd))
  repeat still_step
  still_call (ss (h1.out Wd))
  repeat still_step
  still_call (ss (h2.out Wd))
  repeat still_step
  still_call (ss (h3.out Wd))
  repeat still_step
  refine wpStill_nil ?_
  go_wp2
  obtain ⟨f0, f1, f2, f3⟩ := HF.out
  exact bodyPost_ret (v := .agg #[.int .i64 p, .int .i64 q, .int .i64 r, .int .i64 s]) (by simp [results, Try.results33, go_sem, f0, f1, f2, f3]) rfl ⟨rfl, below4 hbd.out (by omega)⟩
set_option maxHeartbeats 400000 in
set_option maxRecDepth 100000 in
theorem endsMin (f : Int → Int → Int) (a b : Sp) (H : ∀ x y, (x = a.lo ∨ x = a.hi) → (y = b.lo ∨ y = b.hi) → ∀ w, Calls Try.prog 28 #[.int .i64 x, .int .i64 y] w (SS (.int .i64 (f x y)) w)) (w : World) :
    Calls Try.prog 33 #[sv a, sv b, .func (.func 28) #[] #[]] w (VV (.agg #[.int .i64 (f a.lo b.lo), .int .i64 (f a.lo b.hi), .int .i64 (f a.hi b.lo), .int .i64 (f a.hi b.hi)]) w) := by
  have h0 := Lib.hid (H a.lo b.lo (.inl rfl) (.inl rfl))
  have h1 := Lib.hid (H a.lo b.hi (.inl rfl) (.inr rfl))
  have h2 := Lib.hid (H a.hi b.lo (.inr rfl) (.inl rfl))
  have h3 := Lib.hid (H a.hi b.hi (.inr rfl) (.inr rfl))
  clear H
  generalize f a.lo b.lo = p at *
  generalize f a.lo b.hi = q at *
  generalize f a.hi b.lo = r at *
  generalize f a.hi b.hi = s at *
  obtain ⟨W, hW⟩ : ∃ W, W = ((w.alloc (.cells #[.int .i64 a.lo, .int .i64 a.hi] 23)).alloc (.cells #[.int .i64 b.lo, .int .i64 b.hi] 23)).alloc (.cells #[.int .i64 0, .int .i64 0, .int .i64 0, .int .i64 0] 41) := ⟨_, rfl⟩
  have hbw : Hid (Below w.heap.size w W) := Lib.hid (by rw [hW]; exact bAlloc (bAlloc (bAlloc (Below.refl _ _))))
  have HA : W.heap[w.heap.size]? = some (.cells #[.int .i64 a.lo, .int .i64 a.hi] 23 (0, 0)) := by rw [hW]; exact (Below.heap_alloc _ _ _ (by simp; omega)).trans ((Below.heap_alloc _ _ _ (by simp)).trans (newBlk _ _ _ rfl))
  have HB : W.heap[w.heap.size + 1]? = some (.cells #[.int .i64 b.lo, .int .i64 b.hi] 23 (0, 0)) := by rw [hW]; exact (Below.heap_alloc _ _ _ (by simp)).trans (newBlk _ _ _ (by simp))
  have HC : W.heap[w.heap.size + 1 + 1]? = some (.cells #[.int .i64 0, .int .i64 0, .int .i64 0, .int .i64 0] 41 (0, 0)) := by rw [hW]; exact newBlk _ _ _ (by simp)
  go_enter Try.func33, Try.ntmps33
  go_wp2_with fail
  change Code.wp _ _ _ _ (((w.alloc (.cells #[.int .i64 a.lo, .int .i64 a.hi] 23)).alloc (.cells #[.int .i64 b.lo, .int .i64 b.hi] 23)).alloc (.cells #[.int .i64 0, .int .i64 0, .int .i64 0, .int .i64 0] 41))
  rw [← hW]
  clear hW
  obtain ⟨Wd, hWd⟩ : ∃ Wd, Wd = ({ W with drawn := W.drawn + 1 } : World) := ⟨_, rfl⟩
  have hbd : Hid (Below w.heap.size w Wd) := Lib.hid (by rw [hWd]; exact hbw.out.drew)
  have HA : Wd.heap[w.heap.size]? = some (.cells #[.int .i64 a.lo, .int .i64 a.hi] 23 (0, 0)) := by rw [hWd]; exact HA
  have HB : Wd.heap[w.heap.size + 1]? = some (.cells #[.int .i64 b.lo, .int .i64 b.hi] 23 (0, 0)) := by rw [hWd]; exact HB
  have HC : Wd.heap[w.heap.size + 1 + 1]? = some (.cells #[.int .i64 0, .int .i64 0, .int .i64 0, .int .i64 0] 41 (0, 0)) := by rw [hWd]; exact HC
  refine wp_region_still_tail 25 (by kernel_rfl) (by kernel_rfl) ?_
  rw [← hWd]
  clear hWd hbw
  simp only [List.take_succ_cons, List.take_zero, List.drop_succ_cons, List.drop_zero]
  obtain ⟨⟨a0, a1⟩, -⟩ := cells2 HA
  obtain ⟨⟨b0, b1⟩, -⟩ := cells2 HB
  have HF := Lib.hid (res4 (x := .int .i64 p) (y := .int .i64 q) (z := .int .i64 r) (u := .int .i64 s) HC)
  have c0 := cells4 HC
  have f0 := fz4 HC
  have hl := blkLt HC
  clear HA HB HC
  repeat still_step
  still_call (ss (h0.out Wd))
  repeat still_step
  still_call (ss (h1.out Wd))
  repeat still_step
  still_call (ss (h2.out Wd))
  repeat still_step
  still_call (ss (h3.out Wd))
  repeat still_step
  refine wpStill_nil ?_
  go_wp2
  obtain ⟨f0, f1, f2, f3⟩ := HF.out
  exact bodyPost_ret (v := .agg #[.int .i64 p, .int .i64 q, .int .i64 r, .int .i64 s]) (by simp [results, Try.results33, go_sem, f0, f1, f2, f3]) rfl ⟨rfl, below4 hbd.out (by omega)⟩
set_option maxHeartbeats 400000 in
set_option maxRecDepth 100000 in
theorem endsMax (f : Int → Int → Int) (a b : Sp) (H : ∀ x y, (x = a.lo ∨ x = a.hi) → (y = b.lo ∨ y = b.hi) → ∀ w, Calls Try.prog 29 #[.int .i64 x, .int .i64 y] w (SS (.int .i64 (f x y)) w)) (w : World) :
    Calls Try.prog 33 #[sv a, sv b, .func (.func 29) #[] #[]] w (VV (.agg #[.int .i64 (f a.lo b.lo), .int .i64 (f a.lo b.hi), .int .i64 (f a.hi b.lo), .int .i64 (f a.hi b.hi)]) w) := by
  have h0 := Lib.hid (H a.lo b.lo (.inl rfl) (.inl rfl))
  have h1 := Lib.hid (H a.lo b.hi (.inl rfl) (.inr rfl))
  have h2 := Lib.hid (H a.hi b.lo (.inr rfl) (.inl rfl))
  have h3 := Lib.hid (H a.hi b.hi (.inr rfl) (.inr rfl))
  clear H
  generalize f a.lo b.lo = p at *
  generalize f a.lo b.hi = q at *
  generalize f a.hi b.lo = r at *
  generalize f a.hi b.hi = s at *
  obtain ⟨W, hW⟩ : ∃ W, W = ((w.alloc (.cells #[.int .i64 a.lo, .int .i64 a.hi] 23)).alloc (.cells #[.int .i64 b.lo, .int .i64 b.hi] 23)).alloc (.cells #[.int .i64 0, .int .i64 0, .int .i64 0, .int .i64 0] 41) := ⟨_, rfl⟩
  have hbw : Hid (Below w.heap.size w W) := Lib.hid (by rw [hW]; exact bAlloc (bAlloc (bAlloc (Below.refl _ _))))
  have HA : W.heap[w.heap.size]? = some (.cells #[.int .i64 a.lo, .int .i64 a.hi] 23 (0, 0)) := by rw [hW]; exact (Below.heap_alloc _ _ _ (by simp; omega)).trans ((Below.heap_alloc _ _ _ (by simp)).trans (newBlk _ _ _ rfl))
  have HB : W.heap[w.heap.size + 1]? = some (.cells #[.int .i64 b.lo, .int .i64 b.hi] 23 (0, 0)) := by rw [hW]; exact (Below.heap_alloc _ _ _ (by simp)).trans (newBlk _ _ _ (by simp))
  have HC : W.heap[w.heap.size + 1 + 1]? = some (.cells #[.int .i64 0, .int .i64 0, .int .i64 0, .int .i64 0] 41 (0, 0)) := by rw [hW]; exact newBlk _ _ _ (by simp)
  go_enter Try.func33, Try.ntmps33
  go_wp2_with fail
  change Code.wp _ _ _ _ (((w.alloc (.cells #[.int .i64 a.lo, .int .i64 a.hi] 23)).alloc (.cells #[.int .i64 b.lo, .int .i64 b.hi] 23)).alloc (.cells #[.int .i64 0, .int .i64 0, .int .i64 0, .int .i64 0] 41))
  rw [← hW]
  clear hW
  obtain ⟨Wd, hWd⟩ : ∃ Wd, Wd = ({ W with drawn := W.drawn + 1 } : World) := ⟨_, rfl⟩
  have hbd : Hid (Below w.heap.size w Wd) := Lib.hid (by rw [hWd]; exact hbw.out.drew)
  have HA : Wd.heap[w.heap.size]? = some (.cells #[.int .i64 a.lo, .int .i64 a.hi] 23 (0, 0)) := by rw [hWd]; exact HA
  have HB : Wd.heap[w.heap.size + 1]? = some (.cells #[.int .i64 b.lo, .int .i64 b.hi] 23 (0, 0)) := by rw [hWd]; exact HB
  have HC : Wd.heap[w.heap.size + 1 + 1]? = some (.cells #[.int .i64 0, .int .i64 0, .int .i64 0, .int .i64 0] 41 (0, 0)) := by rw [hWd]; exact HC
  refine wp_region_still_tail 25 (by kernel_rfl) (by kernel_rfl) ?_
  rw [← hWd]
  clear hWd hbw
  simp only [List.take_succ_cons, List.take_zero, List.drop_succ_cons, List.drop_zero]
  obtain ⟨⟨a0, a1⟩, -⟩ := cells2 HA
  obtain ⟨⟨b0, b1⟩, -⟩ := cells2 HB
  have HF := Lib.hid (res4 (x := .int .i64 p) (y := .int .i64 q) (z := .int .i64 r) (u := .int .i64 s) HC)
  have c0 := cells4 HC
  have f0 := fz4 HC
  have hl := blkLt HC
  clear HA HB HC
  repeat still_step
  still_call (ss (h0.out Wd))
  repeat still_step
  still_call (ss (h1.out Wd))
  repeat still_step
  still_call (ss (h2.out Wd))
  repeat still_step
  still_call (ss (h3.out Wd))
  repeat still_step
  refine wpStill_nil ?_
  go_wp2
  obtain ⟨f0, f1, f2, f3⟩ := HF.out
  exact bodyPost_ret (v := .agg #[.int .i64 p, .int .i64 q, .int .i64 r, .int .i64 s]) (by simp [results, Try.results33, go_sem, f0, f1, f2, f3]) rfl ⟨rfl, below4 hbd.out (by omega)⟩
end Go.Proofs.Ytphjkkkjkfclgaa
