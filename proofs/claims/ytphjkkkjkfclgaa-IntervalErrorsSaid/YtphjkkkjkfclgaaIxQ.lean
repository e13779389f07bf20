/- Law package 06: blocks that are made in a drawn region; a Span that comes in as an argument. -/
import Derived.Test.YtphjkkkjkfclgaaIxP
import Derived.ChangeArms
import Derived.DataReads
import Derived.OpenShut
import Derived.WideShapes
namespace Go.Proofs.Ytphjkkkjkfclgaa
open Go.RowKit
set_option linter.unusedVariables false
set_option linter.unusedSimpArgs false
theorem newU {X w2 : World} {o : Obj} (hb : Below (X.alloc o).heap.size (X.alloc o) w2) : w2.heap[X.heap.size]? = some o := (hb.block _ (by simp)).trans (newBlk _ _ _ rfl)
theorem newUd {X w2 : World} {o : Obj} (hb : Below (X.alloc o).drew.heap.size (X.alloc o).drew w2) : w2.heap[X.heap.size]? = some o := newU (bdrew hb)
theorem run_min2 (p q r : Int) (h : r = min p q) (ts : Array TypeId) (t : TypeId) (w : World) : (Builtin.min_ ts t #[.int .i64 p, .int .i64 q]).run Try.prog w = .ok (.int .i64 r) w := by
  have e : (if q < p then q else p) = r := by omega
  simp [Builtin.min_, Builtin.min2, e, go_sem]
theorem run_max2 (p q r : Int) (h : r = max p q) (ts : Array TypeId) (t : TypeId) (w : World) : (Builtin.max_ ts t #[.int .i64 p, .int .i64 q]).run Try.prog w = .ok (.int .i64 r) w := by
  have e : (if p < q then q else p) = r := by omega
  simp [Builtin.max_, Builtin.max2, e, go_sem]
theorem cellsSp : Try.prog.cellsOf 23 = 2 := by kernel_rfl
theorem cellsI : Try.prog.cellsOf 3 = 1 := by kernel_rfl
theorem open_sp {H : Type} {enc : TypeId × Value → H} {W : World} (fuel : Nat) (cs : List Value) (x : DataW H × List MemPlace) (h : DataW.trod enc Try.prog W 0 (fun _ => true) true fuel 23 cs = some x) :
    ∃ s : Sp, cs = [.int .i64 s.lo, .int .i64 s.hi] := by
  obtain ⟨xs, n, rfl, -, hl, hlen, hf⟩ := DataW.trod_struct Try.underlying23 h
  rw [cellsSp] at hl
  match cs, hl with
  | [c0, c1], _ =>
    match xs, hlen with
    | [y0, y1], _ =>
      have h0 := hf 0 _ rfl
      have h1 := hf 1 _ rfl
      simp [cellsI] at h0 h1
      obtain ⟨a, e0, -, -⟩ := DataW.trod_int Try.underlying3 h0
      obtain ⟨b, e1, -, -⟩ := DataW.trod_int Try.underlying3 h1
      simp only [List.cons.injEq, and_true] at e0 e1
      subst e0 e1
      exact ⟨⟨a, b⟩, rfl⟩
theorem u64_wf {n : Int} (h : (Lit.int .u64 n).wf = true) : 0 ≤ n ∧ n < 18446744073709551616 := by
  simp [Lit.wf, IntKind.min, IntKind.max, IntKind.signed, IntKind.bits] at h
  exact ⟨by omega, by omega⟩
end Go.Proofs.Ytphjkkkjkfclgaa
