/- Law package 06: a cell behind an alloc. -/
import Derived.Test.YtphjkkkjkfclgaaIxQ
import Derived.Deep.RegionHeld3
namespace Go.Proofs.Ytphjkkkjkfclgaa
open Go.RowKit
theorem alC {w : World} {a : Addr} {o : Obj} {v : Value} (h : w.cell? a = some v) : (w.alloc o).cell? a = some v := (World.cell?_alloc_some w a o (by rw [h]; rfl)).trans h
theorem ne_succ (n : Nat) : n ≠ n + 1 := Nat.ne_of_lt (Nat.lt_succ_self n)
theorem two3 {w w1 : World} {oa ob : Obj} (h : Below ((w.alloc oa).alloc ob).heap.size ((w.alloc oa).alloc ob) w1) :
    w1.heap[w.heap.size]? = some oa ∧ w1.heap[w.heap.size + 1]? = some ob ∧ w.heap.size ≠ w.heap.size + 1 := ⟨(two2 h).1, (two2 h).2, Nat.ne_of_lt (Nat.lt_succ_self _)⟩
end Go.Proofs.Ytphjkkkjkfclgaa
