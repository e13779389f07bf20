/- Blocks of two cells: how they move. -/
import Derived.Test.YtphjkkkjkfclgaaIxK
namespace Go.Proofs.Ytphjkkkjkfclgaa
open Go.RowKit
set_option linter.unusedVariables false
set_option linter.unusedSimpArgs false
theorem two2 {w w1 : World} {oa ob : Obj} (h : Below ((w.alloc oa).alloc ob).heap.size ((w.alloc oa).alloc ob) w1) :
    w1.heap[w.heap.size]? = some oa ∧ w1.heap[w.heap.size + 1]? = some ob := by
  have h1 := newBlk w oa w.heap.size rfl
  have h2 := newBlk (w.alloc oa) ob (w.heap.size + 1) (by simp)
  exact ⟨moveA h h1, moveC h h2⟩
theorem mvAlloc {w : World} {o x : Obj} {b : Nat} (H : w.heap[b]? = some x) : (w.alloc o).heap[b]? = some x := (Below.heap_alloc _ _ _ (blkLt H)).trans H
theorem setK {w : World} {b c : Nat} {x y : Value} {o : Obj} (H : w.heap[c]? = some o) (h : c ≠ b) : ((w.setCell ⟨b, 0, none⟩ x).setCell ⟨b, 1, none⟩ y).heap[c]? = some o :=
  (heap_setCell_other _ _ _ _ h).trans ((heap_setCell_other _ _ _ _ h).trans H)
end Go.Proofs.Ytphjkkkjkfclgaa
