/- Blocks of two cells; contracts of the small functions of package ratio and of its reference. -/
import Derived.Test.YtbjhdfakocfapaaRaA
import Derived.WalkKit
import Derived.LoopTactic
import Derived.Outline
import Derived.Deep.QuietTactic
import Derived.Deep.LoopGhost
import Derived.Deep.RegionWith
import Derived.Deep.RegionLaw
import Derived.Deep.AppendLies
import Derived.WalkLawsBesides
import Derived.BigQuiet
import Derived.BigCall
import Derived.OwnWalk
import Derived.WalkMore
import Derived.Laws.AppendOwn
import Derived.Laws.Rows
import Derived.Laws.NewBlocks
import Derived.Lib.Hide
import Derived.Below
import Derived.IntWalk
import Derived.Deep.RegionHeld3
import Derived.Deep.DeepCutAuto
import Derived.Deep.Cut
import Derived.StillTailTactics
import Derived.Test.YtbjhdfakocfapaaChecked
namespace Go.Proofs.Ytbjhdfakocfapaa
open Go.RowKit
set_option linter.unusedVariables false
set_option linter.unusedSimpArgs false

abbrev qv (s : Q) : Value := .agg #[.int .i64 s.n, .int .i64 s.d]
abbrev qr (r : Q × Int) : Value := .tuple #[qv r.1, .int .i64 r.2]
abbrev ir (r : Int × Int) : Value := .tuple #[.int .i64 r.1, .int .i64 r.2]
/-- a block that holds a ratio -/
abbrev qb (s : Q) : Obj := .cells #[.int .i64 s.n, .int .i64 s.d] 35 (0, 0)
def BB (b : Bool) (w : World) (e : Ending) (w' : World) : Prop := e = .returned (.bool b) ∧ Below w.heap.size w w'
def VV (v : Value) (w : World) (e : Ending) (w' : World) : Prop := e = .returned v ∧ Below w.heap.size w w'
/-- the world stays -/
def SS (v : Value) (w : World) (e : Ending) (w' : World) : Prop := e = .returned v ∧ w' = w
theorem blkLt {w : World} {b : Nat} {o : Obj} (h : w.heap[b]? = some o) : b < w.heap.size := (Array.getElem?_eq_some_iff.1 h).1
theorem newBlk (w : World) (o : Obj) (b : Nat) (h : b = w.heap.size) : (w.alloc o).heap[b]? = some o := by subst h; exact heap_alloc_new w o
theorem cells2 {w : World} {b : Nat} {v0 v1 : Value} {T : TypeId} (h : w.heap[b]? = some (.cells #[v0, v1] T (0, 0))) :
    (w.cell? ⟨b, 0, none⟩ = some v0 ∧ w.cell? ⟨b, 1, none⟩ = some v1) ∧ w.frozen? ⟨b, 0, none⟩ = false ∧ w.frozen? ⟨b, 1, none⟩ = false := by
  refine ⟨⟨?_, ?_⟩, ?_, ?_⟩
  · rw [cell_of_row _ _ 0 _ _ (0, 0) h]; rfl
  · rw [cell_of_row _ _ 1 _ _ (0, 0) h]; rfl
  all_goals simp [World.frozen?, h]
theorem bAlloc {w X : World} {o : Obj} (h : Below w.heap.size w X) : Below w.heap.size w (X.alloc o) := h.alloc h.size o
theorem bDrew {w X : World} (h : Below w.heap.size w X) : Below w.heap.size w X.drew := h.drew
theorem bDrewN {B : Nat} {w X : World} (h : Below B w X) (n : Nat) : Below B w (X.drewN n) := ⟨h.os, h.tape, h.output, h.size, h.block⟩
theorem bCall {w X w1 : World} (h : Below w.heap.size w X) (hb : Below X.heap.size X w1) : Below w.heap.size w w1 := h.trans (hb.mono h.size)
theorem bdrew {X w1 : World} (h : Below X.drew.heap.size X.drew w1) : Below X.heap.size X w1 := ((Below.refl X.heap.size X).drew).trans h
theorem ret_int {k : IntKind} {a b : Int} (h : a = b) : Ending.returned (.int k a) = .returned (.int k b) := by rw [h]
theorem ret_bool {a b : Bool} (h : a = b) : Ending.returned (.bool a) = .returned (.bool b) := by rw [h]
theorem below2 {B b : Nat} {a w : World} {v0 v1 : Value} (h : Below B a w) (hb : B ≤ b) : Below B a ((w.setCell ⟨b, 0, none⟩ v0).setCell ⟨b, 1, none⟩ v1) :=
  (h.setCell hb _).setCell hb _
theorem moveA {w w1 : World} {o x : Obj} {b : Nat} (h : Below (w.alloc o).heap.size (w.alloc o) w1) (H : w.heap[b]? = some x) : w1.heap[b]? = some x :=
  (h.block _ (by have := blkLt H; simp; omega)).trans ((Below.heap_alloc _ _ _ (blkLt H)).trans H)
theorem moveC {w w1 : World} {x : Obj} {b : Nat} (h : Below w.heap.size w w1) (H : w.heap[b]? = some x) : w1.heap[b]? = some x := (h.block _ (blkLt H)).trans H
theorem moveX {w X w1 : World} {x : Obj} {b : Nat} (h0 : Below w.heap.size w X) (h : Below X.heap.size X w1) (H : w.heap[b]? = some x) : w1.heap[b]? = some x :=
  moveC h (moveC h0 H)
theorem res2 {w : World} {b : Nat} {v0 v1 x y : Value} {T : TypeId} (h : w.heap[b]? = some (.cells #[v0, v1] T (0, 0))) :
    ((w.setCell ⟨b, 0, none⟩ x).setCell ⟨b, 1, none⟩ y).heap[b]? = some (.cells #[x, y] T (0, 0)) ∧ ((w.setCell ⟨b, 0, none⟩ x).setCell ⟨b, 1, none⟩ y).cell? ⟨b, 0, none⟩ = some x ∧ ((w.setCell ⟨b, 0, none⟩ x).setCell ⟨b, 1, none⟩ y).cell? ⟨b, 1, none⟩ = some y := by
  have g0 : (w.setCell ⟨b, 0, none⟩ x).heap[b]? = some (.cells #[x, v1] T (0, 0)) := by rw [heap_setCell_same w b 0 _ _ _ h]; simp
  have g1 : ((w.setCell ⟨b, 0, none⟩ x).setCell ⟨b, 1, none⟩ y).heap[b]? = some (.cells #[x, y] T (0, 0)) := by rw [heap_setCell_same _ b 1 _ _ _ g0]; simp
  exact ⟨g1, (cells2 g1).1⟩
theorem two2 {w w1 : World} {oa ob : Obj} (h : Below ((w.alloc oa).alloc ob).heap.size ((w.alloc oa).alloc ob) w1) :
    w1.heap[w.heap.size]? = some oa ∧ w1.heap[w.heap.size + 1]? = some ob := by
  have h1 := newBlk w oa w.heap.size rfl
  have h2 := newBlk (w.alloc oa) ob (w.heap.size + 1) (by simp)
  exact ⟨moveA h h1, moveC h h2⟩
theorem three2 {w w1 : World} {oa ob oc : Obj} (h : Below (((w.alloc oa).alloc ob).alloc oc).heap.size (((w.alloc oa).alloc ob).alloc oc) w1) :
    w1.heap[w.heap.size]? = some oa ∧ w1.heap[w.heap.size + 1]? = some ob ∧ w1.heap[w.heap.size + 1 + 1]? = some oc := by
  have h1 := newBlk w oa w.heap.size rfl
  have h2 := newBlk (w.alloc oa) ob (w.heap.size + 1) (by simp)
  have h3 := newBlk ((w.alloc oa).alloc ob) oc (w.heap.size + 1 + 1) (by simp)
  have h1' := (Below.heap_alloc (w.alloc oa) ob _ (blkLt h1)).trans h1
  exact ⟨moveA h h1', moveA h h2, moveC h h3⟩
theorem mvAlloc {w : World} {o x : Obj} {b : Nat} (H : w.heap[b]? = some x) : (w.alloc o).heap[b]? = some x := (Below.heap_alloc _ _ _ (blkLt H)).trans H
theorem setK {w : World} {b c : Nat} {x y : Value} {o : Obj} (H : w.heap[c]? = some o) (h : c ≠ b) : ((w.setCell ⟨b, 0, none⟩ x).setCell ⟨b, 1, none⟩ y).heap[c]? = some o :=
  (heap_setCell_other _ _ _ _ h).trans ((heap_setCell_other _ _ _ _ h).trans H)
theorem far2 {w : World} {b c i : Nat} {x y : Value} (h : c ≠ b) : ((w.setCell ⟨b, 0, none⟩ x).setCell ⟨b, 1, none⟩ y).cell? ⟨c, i, none⟩ = w.cell? ⟨c, i, none⟩ :=
  World.cell?_of_block (a := ⟨c, i, none⟩) ((heap_setCell_other _ _ _ _ h).trans (heap_setCell_other _ _ _ _ h))
theorem run_max2 (p q r : Int) (h : r = max p q) (ts : Array TypeId) (t : TypeId) (w : World) : (Builtin.max_ ts t #[.int .i64 p, .int .i64 q]).run Try.prog w = .ok (.int .i64 r) w := by
  have e : (if p < q then q else p) = r := by omega
  simp [Builtin.max_, Builtin.max2, e, go_sem]
/-- within an int -/
def Fit (n : Int) : Prop := -4000000000000000000 ≤ n ∧ n ≤ 4000000000000000000
theorem gc_step (p q : Int) : gc q (p.tmod q) = gc p q := by
  unfold gc
  congr 1
  show Nat.gcd q.natAbs (p.tmod q).natAbs = Nat.gcd p.natAbs q.natAbs
  rw [Int.natAbs_tmod, Nat.gcd_comm q.natAbs, ← Nat.gcd_rec, Nat.gcd_comm]
theorem gc_zero (p : Int) : gc p 0 = max p (-p) := by unfold gc; simp; omega
theorem gc_comm (p q : Int) : gc p q = gc q p := by unfold gc; rw [Int.gcd_comm]
theorem gc_self_nn {p : Int} (h : 0 ≤ p) : gc p 0 = p := by rw [gc_zero]; omega
theorem tmod_bd {p q : Int} (h : q ≠ 0) : (p.tmod q).natAbs < q.natAbs := by rw [Int.natAbs_tmod]; exact Nat.mod_lt _ (by omega)
set_option maxHeartbeats 400000 in
set_option maxRecDepth 100000 in
theorem inRange_any (s : Q) (w : World) : Calls Try.prog 82 #[qv s] w (BB (rB s) w) := by
  have hb := Lib.hid ((Below.refl w.heap.size w).alloc (Nat.le_refl _) (qb s))
  go_enter Try.func82, Try.ntmps82
  go_wp2
  all_goals
    go_ret
    refine ⟨ret_bool ?_, hb.out⟩
    rw [Bool.eq_iff_iff, rB_iff]
    simp [*]
  all_goals omega
set_option maxHeartbeats 400000 in
set_option maxRecDepth 100000 in
theorem fits_any (n d : Int) (w : World) : Calls Try.prog 54 #[.int .i64 n, .int .i64 d] w (SS (.bool (rB ⟨n, d⟩)) w) := by
  go_enter Try.func54, Try.ntmps54
  go_wp2
  all_goals
    go_ret
    refine ⟨ret_bool ?_, rfl⟩
    rw [Bool.eq_iff_iff, rB_iff]
    simp [*]
  all_goals omega
set_option maxHeartbeats 400000 in
set_option maxRecDepth 100000 in
theorem over_any (n d : Int) (w : World) : Calls Try.prog 106 #[.int .i64 n, .int .i64 d] w (VV (qv ⟨n, d⟩) w) := by
  go_enter Try.func106, Try.ntmps106
  go_wp2
  exact bodyPost_ret (v := qv ⟨n, d⟩) (by simp [results, Try.results106, go_sem]) rfl ⟨rfl, (Below.refl _ _).alloc (Nat.le_refl _) _⟩
set_option maxHeartbeats 400000 in
set_option maxRecDepth 100000 in
theorem abs_any (n : Int) (hn : Fit n) (w : World) : Calls Try.prog 56 #[.int .i64 n] w (SS (.int .i64 (max n (-n))) w) := by
  unfold Fit at hn
  have q : IntKind.i64.wrap (-n) = -n := IntWalk.i64_in _ (by omega)
  go_enter Try.func56, Try.ntmps56
  go_wp2
  all_goals
    go_ret
    exact ⟨ret_int (by omega), rfl⟩
set_option maxHeartbeats 400000 in
set_option maxRecDepth 100000 in
theorem isNaN_any (n : Int) (w : World) : Calls Try.prog 96 #[.int .i64 n] w (SS (.bool false) w) := by
  go_enter Try.func96, Try.ntmps96
  go_wp2
  go_ret
  exact ⟨rfl, rfl⟩
set_option maxHeartbeats 400000 in
set_option maxRecDepth 100000 in
theorem compare_any (x y : Int) (w : World) : Calls Try.prog 101 #[.int .i64 x, .int .i64 y] w (SS (.int .i64 (sgM x y)) w) := by
  have h1 := Lib.hid (isNaN_any x)
  have h2 := Lib.hid (isNaN_any y)
  go_enter Try.func101, Try.ntmps101
  go_wp2_with (first | (go_at_call_of 96 (Value.int .i64 x); refine (h1.out _).mono ?_; rintro e w1 ⟨rfl, rfl⟩) | (go_at_call 96; refine (h2.out _).mono ?_; rintro e w1 ⟨rfl, rfl⟩))
  all_goals
    go_ret
    exact ⟨ret_int (by unfold sgM; split <;> (try split) <;> omega), rfl⟩
set_option maxHeartbeats 1000000 in
set_option maxRecDepth 100000 in
theorem divisor_any (x y : Int) (hx : Fit x) (hy : Fit y) (w : World) : Calls Try.prog 83 #[.int .i64 x, .int .i64 y] w (VV (.int .i64 (gc x y)) w) := by
  go_enter Try.func83, Try.ntmps83
  go_wp2_with fail
  go_loopg [0, 1] y.natAbs (fun gk p q wr => ∃ (a b : Int), b.natAbs = gk ∧ p = .int .i64 a ∧ q = .int .i64 b ∧ Hid (Fit a ∧ Fit b) ∧ Hid (gc a b = gc x y) ∧ Hid (Below w.heap.size w wr))
  case atStart => exact ⟨x, y, rfl, rfl, rfl, Lib.hid ⟨hx, hy⟩, Lib.hid rfl, Lib.hid (Below.refl _ _)⟩
  case round =>
    obtain ⟨a, b, hk, rfl, rfl, hf, hg, hW⟩ := hrel
    by_cases hb : b = 0
    · subst hb
      have e := hg.out
      rw [gc_zero] at e
      have hm := fun ts t w => run_max2 a (-a) (gc x y) e.symm ts t w
      have q : IntKind.i64.wrap (-a) = -a := IntWalk.i64_in _ (by have := hf.out; unfold Fit at this; omega)
      clear e hg hf
      go_wp2
      go_ret
      exact ⟨rfl, hW.out⟩
    · have e := gc_step a b
      have hbd := tmod_bd (p := a) hb
      obtain ⟨r, hr⟩ : ∃ r, a.tmod b = r := ⟨_, rfl⟩
      rw [hr] at e hbd
      have hF : Hid (Fit b ∧ Fit r) := Lib.hid ⟨hf.out.2, by have := hf.out.2; unfold Fit at *; omega⟩
      have q : IntKind.i64.wrap (a.tmod b) = r := by rw [hr]; exact IntWalk.i64_in _ (by have := hF.out.2; unfold Fit at this; omega)
      have hG := Lib.hid (e.trans hg.out)
      have hbd := Lib.hid hbd
      have hk := Lib.hid hk
      have hr := Lib.hid hr
      clear e hg hf hx hy
      go_wp2_with fail
      go_quiet (fail)
      go_wp2_with fail
      go_roundg r.natAbs
      case measure => have := hbd.out; have := hk.out; omega
      case rel => exact ⟨b, r, rfl, rfl, rfl, hF, hG, Lib.hid (bDrewN hW.out _)⟩
end Go.Proofs.Ytbjhdfakocfapaa
