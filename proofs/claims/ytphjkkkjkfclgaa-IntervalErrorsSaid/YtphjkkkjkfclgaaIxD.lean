/- Contracts: valid intervals, the results for the ends, combine, divide. -/
import Derived.Test.YtphjkkkjkfclgaaIxC
import Derived.StillTailTactics
namespace Go.Proofs.Ytphjkkkjkfclgaa
open Go.RowKit
set_option linter.unusedVariables false
set_option linter.unusedSimpArgs false
theorem bcell {W w1 : World} (hb : Below W.heap.size W w1) : (∀ b o, b < W.heap.size → w1.cell? ⟨b, o, none⟩ = W.cell? ⟨b, o, none⟩) ∧ (∀ b o, b < W.heap.size → w1.frozen? ⟨b, o, none⟩ = W.frozen? ⟨b, o, none⟩) :=
  ⟨fun b o h => hb.cell (p := ⟨b, o, none⟩) h, fun b o h => hb.frozen (p := ⟨b, o, none⟩) h⟩
theorem boxA (w : World) (o : Obj) {w1 : World} (h : Below (w.alloc o).heap.size (w.alloc o) w1) : w1.heap[w.heap.size]? = some o := (h.block _ (by simp)).trans (newBlk _ _ _ rfl)
theorem ss {P : Program} {f : FuncId} {args : Array Value} {w : World} {v : Value} (h : Calls P f args w (SS v w)) : Calls P f args w (fun e w'' => e = .returned v ∧ w'' = w) := h
theorem below2 {B b : Nat} {a w : World} {v0 v1 : Value} (h : Below B a w) (hb : B ≤ b) : Below B a ((w.setCell ⟨b, 0, none⟩ v0).setCell ⟨b, 1, none⟩ v1) :=
  (h.setCell hb _).setCell hb _
theorem moveA {w w1 : World} {o x : Obj} {b : Nat} (h : Below (w.alloc o).heap.size (w.alloc o) w1) (H : w.heap[b]? = some x) : w1.heap[b]? = some x :=
  (h.block _ (by have := blkLt H; simp; omega)).trans ((Below.heap_alloc _ _ _ (blkLt H)).trans H)
theorem moveC {w w1 : World} {x : Obj} {b : Nat} (h : Below w.heap.size w w1) (H : w.heap[b]? = some x) : w1.heap[b]? = some x := (h.block _ (blkLt H)).trans H
theorem four {w w1 : World} {oa ob oc od : Obj} (h : Below ((((w.alloc oa).alloc ob).alloc oc).alloc od).heap.size ((((w.alloc oa).alloc ob).alloc oc).alloc od) w1) :
    w1.heap[w.heap.size]? = some oa ∧ w1.heap[w.heap.size + 1]? = some ob ∧ w1.heap[w.heap.size + 1 + 1]? = some oc := by
  have h1 := newBlk w oa w.heap.size rfl
  have h2 := newBlk (w.alloc oa) ob (w.heap.size + 1) (by simp)
  have h3 := newBlk ((w.alloc oa).alloc ob) oc (w.heap.size + 1 + 1) (by simp)
  have h1' := (Below.heap_alloc (w.alloc oa) ob _ (blkLt h1)).trans h1
  have h1'' := (Below.heap_alloc ((w.alloc oa).alloc ob) oc _ (blkLt h1')).trans h1'
  have h2' := (Below.heap_alloc ((w.alloc oa).alloc ob) oc _ (blkLt h2)).trans h2
  exact ⟨moveA h h1'', moveA h h2', moveA h h3⟩
theorem res2 {w : World} {b : Nat} {v0 v1 x y : Value} {T : TypeId} (h : w.heap[b]? = some (.cells #[v0, v1] T (0, 0))) :
    ((w.setCell ⟨b, 0, none⟩ x).setCell ⟨b, 1, none⟩ y).heap[b]? = some (.cells #[x, y] T (0, 0)) ∧ ((w.setCell ⟨b, 0, none⟩ x).setCell ⟨b, 1, none⟩ y).cell? ⟨b, 0, none⟩ = some x ∧ ((w.setCell ⟨b, 0, none⟩ x).setCell ⟨b, 1, none⟩ y).cell? ⟨b, 1, none⟩ = some y := by
  have g0 : (w.setCell ⟨b, 0, none⟩ x).heap[b]? = some (.cells #[x, v1] T (0, 0)) := by rw [heap_setCell_same w b 0 _ _ _ h]; simp
  have g1 : ((w.setCell ⟨b, 0, none⟩ x).setCell ⟨b, 1, none⟩ y).heap[b]? = some (.cells #[x, y] T (0, 0)) := by rw [heap_setCell_same _ b 1 _ _ _ g0]; simp
  exact ⟨g1, (cells2 g1).1⟩
theorem fz4 {w : World} {b : Nat} {v0 v1 v2 v3 : Value} {T : TypeId} (h : w.heap[b]? = some (.cells #[v0, v1, v2, v3] T (0, 0))) :
    w.frozen? ⟨b, 0, none⟩ = false ∧ w.frozen? ⟨b, 1, none⟩ = false ∧ w.frozen? ⟨b, 2, none⟩ = false ∧ w.frozen? ⟨b, 3, none⟩ = false := by
  refine ⟨?_, ?_, ?_, ?_⟩ <;> simp [World.frozen?, h]
theorem fzOf {w : World} {b : Nat} {cs : Array Value} {T : TypeId} (h : w.heap[b]? = some (.cells cs T (0, 0))) (i : Nat) : w.frozen? ⟨b, i, none⟩ = false := by simp [World.frozen?, h]
theorem res4 {w : World} {b : Nat} {v0 v1 v2 v3 x y z u : Value} {T : TypeId} (h : w.heap[b]? = some (.cells #[v0, v1, v2, v3] T (0, 0))) :
    ((((w.setCell ⟨b, 0, none⟩ x).setCell ⟨b, 1, none⟩ y).setCell ⟨b, 2, none⟩ z).setCell ⟨b, 3, none⟩ u).cell? ⟨b, 0, none⟩ = some x ∧
    ((((w.setCell ⟨b, 0, none⟩ x).setCell ⟨b, 1, none⟩ y).setCell ⟨b, 2, none⟩ z).setCell ⟨b, 3, none⟩ u).cell? ⟨b, 1, none⟩ = some y ∧
    ((((w.setCell ⟨b, 0, none⟩ x).setCell ⟨b, 1, none⟩ y).setCell ⟨b, 2, none⟩ z).setCell ⟨b, 3, none⟩ u).cell? ⟨b, 2, none⟩ = some z ∧
    ((((w.setCell ⟨b, 0, none⟩ x).setCell ⟨b, 1, none⟩ y).setCell ⟨b, 2, none⟩ z).setCell ⟨b, 3, none⟩ u).cell? ⟨b, 3, none⟩ = some u := by
  have g0 : (w.setCell ⟨b, 0, none⟩ x).heap[b]? = some (.cells #[x, v1, v2, v3] T (0, 0)) := by rw [heap_setCell_same w b 0 _ _ _ h]; simp
  have g1 : ((w.setCell ⟨b, 0, none⟩ x).setCell ⟨b, 1, none⟩ y).heap[b]? = some (.cells #[x, y, v2, v3] T (0, 0)) := by rw [heap_setCell_same _ b 1 _ _ _ g0]; simp
  have g2 : (((w.setCell ⟨b, 0, none⟩ x).setCell ⟨b, 1, none⟩ y).setCell ⟨b, 2, none⟩ z).heap[b]? = some (.cells #[x, y, z, v3] T (0, 0)) := by rw [heap_setCell_same _ b 2 _ _ _ g1]; simp
  have g3 : ((((w.setCell ⟨b, 0, none⟩ x).setCell ⟨b, 1, none⟩ y).setCell ⟨b, 2, none⟩ z).setCell ⟨b, 3, none⟩ u).heap[b]? = some (.cells #[x, y, z, u] T (0, 0)) := by rw [heap_setCell_same _ b 3 _ _ _ g2]; simp
  exact cells4 g3
theorem below4 {B b : Nat} {a w : World} {v0 v1 v2 v3 : Value} (h : Below B a w) (hb : B ≤ b) : Below B a ((((w.setCell ⟨b, 0, none⟩ v0).setCell ⟨b, 1, none⟩ v1).setCell ⟨b, 2, none⟩ v2).setCell ⟨b, 3, none⟩ v3) :=
  (((h.setCell hb _).setCell hb _).setCell hb _).setCell hb _
set_option maxHeartbeats 400000 in
set_option maxRecDepth 100000 in
theorem areValid_any (b : Nat) (s t : Sp) (T : TypeId) (w : World) (hc : w.heap[b]? = some (.cells #[.int .i64 s.lo, .int .i64 s.hi, .int .i64 t.lo, .int .i64 t.hi] T (0, 0))) :
    Calls Try.prog 30 #[.slice (some ⟨b, 0, none⟩) 2 2] w (BB (vB s && vB t) w) := by
  have HC := Lib.hid hc
  have hl := blkLt hc
  have hb := Lib.hid (Below.refl w.heap.size w)
  have h0 := Lib.hid (Valid_any s)
  have h1 := Lib.hid (Valid_any t)
  clear hc
  generalize vB s = t0 at *
  generalize vB t = t1 at *
  obtain ⟨r, hr⟩ : ∃ r, (t0 && t1) = r := ⟨_, rfl⟩
  rw [hr]
  have hR : Hid (([t0, t1].drop 0).all id = r) := Lib.hid (by rw [← hr]; simp)
  clear hr
  go_enter Try.func30, Try.ntmps30
  go_wp2_with fail
  go_loopg [7] 2 (fun gk i wr => ∃ (j : Nat), j + gk = 2 ∧ i = .int .i64 j ∧ Hid (([t0, t1].drop j).all id = r) ∧ Hid (Below w.heap.size w wr))
  case atStart => exact ⟨0, rfl, rfl, hR, hb⟩
  case round =>
    obtain ⟨j, hj, rfl, hS, hW⟩ := hrel
    match j, hj with
    | 0, hj =>
      obtain rfl : gk = 2 := by omega
      have hS := hS.out
      have HB := (hW.out.block _ hl).trans HC.out
      obtain ⟨c0, c1, c2, c3⟩ := cells4 HB
      clear HB
      cases t0
      · have hF : Hid (false = r) := Lib.hid (by rw [← hS]; simp)
        clear hS
        go_wp2_with (go_at_call 20; refine (h0.out _).mono ?_; rintro e w1 ⟨rfl, hb1⟩)
        go_ret
        exact ⟨ret_bool hF.out, bCall (bAlloc hW.out) hb1⟩
      · have hF : Hid (([true, t1].drop 1).all id = r) := Lib.hid (by rw [← hS]; simp)
        clear hS
        go_wp2_with (go_at_call 20; refine (h0.out _).mono ?_; rintro e w1 ⟨rfl, hb1⟩)
        go_roundg 1
        case measure => omega
        case rel => exact ⟨1, by omega, by go_num, hF, Lib.hid (bCall (bAlloc hW.out) hb1)⟩
    | 1, hj =>
      obtain rfl : gk = 1 := by omega
      have hS := hS.out
      have HB := (hW.out.block _ hl).trans HC.out
      obtain ⟨c0, c1, c2, c3⟩ := cells4 HB
      clear HB
      cases t1
      · have hF : Hid (false = r) := Lib.hid (by rw [← hS]; simp)
        clear hS
        go_wp2_with (go_at_call 20; refine (h1.out _).mono ?_; rintro e w1 ⟨rfl, hb1⟩)
        go_ret
        exact ⟨ret_bool hF.out, bCall (bAlloc hW.out) hb1⟩
      · have hF : Hid (([t0, true].drop 2).all id = r) := Lib.hid (by rw [← hS]; simp)
        clear hS
        go_wp2_with (go_at_call 20; refine (h1.out _).mono ?_; rintro e w1 ⟨rfl, hb1⟩)
        go_roundg 0
        case measure => omega
        case rel => exact ⟨2, by omega, by go_num, hF, Lib.hid (bCall (bAlloc hW.out) hb1)⟩
    | j + 2, hj =>
      obtain rfl : j = 0 := by omega
      obtain rfl : gk = 0 := by omega
      have hF : Hid (true = r) := Lib.hid (by have := hS.out; rw [← this]; simp)
      go_wp2_with fail
      go_ret
      exact ⟨ret_bool hF.out, hW.out⟩
end Go.Proofs.Ytphjkkkjkfclgaa
