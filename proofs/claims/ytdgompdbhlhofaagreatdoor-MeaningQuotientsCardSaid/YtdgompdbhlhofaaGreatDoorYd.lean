/- Texts of one proof: RxK, RxL. -/
import Derived.Test.YtdgompdbhlhofaaGreatDoorZz
import Derived.Test.YtdgompdbhlhofaaGreatDoorZn
import Derived.Lib.SliceRun
namespace Go.Proofs.YtdgompdbhlhofaaGreatDoor
open Go.RowKit
set_option linter.unusedVariables false
set_option linter.unusedSimpArgs false
namespace R
open I
open U (Ex St KidsE ev eArr owns_below ownsRow_low gbBelow gbAlloc gbTrans gbRefl new_cells)
theorem spsCells_set : ∀ (l : List Sp) (k : Nat) (s : Sp), spsCells (l.set k s) = ((spsCells l).set (k * 2) (.int .i64 s.lo)).set (k * 2 + 1) (.int .i64 s.hi)
  | [], k, s => by simp [spsCells]
  | a :: l, 0, s => by simp [spsCells, spCells]
  | a :: l, k + 1, s => by
    have e : ∀ (x : Sp) (y : List Sp), spsCells (x :: y) = .int .i64 x.lo :: .int .i64 x.hi :: spsCells y := fun x y => by simp [spsCells, spCells]
    rw [List.set_cons_succ, e, e, spsCells_set l k s, show (k + 1) * 2 = k * 2 + 1 + 1 by omega]
    simp
def SpsO (B : Nat) (w : World) (vs : List Sp) (g cap : Nat) : Prop := w.ownsRow B 93 2 (.slice (some ⟨g, 0, none⟩) vs.length cap) vs.length (spsCells vs)
theorem SpsO.at {B : Nat} {w : World} {vs : List Sp} {g cap : Nat} (h : SpsO B w vs g cap) (k : Nat) (s : Sp) (hk : vs[k]? = some s) : (w.cell? ⟨g, k * 2, none⟩ = some (.int .i64 s.lo) ∧ w.cell? ⟨g, k * 2 + 1, none⟩ = some (.int .i64 s.hi)) ∧ w.frozen? ⟨g, k * 2, none⟩ = false ∧ w.frozen? ⟨g, k * 2 + 1, none⟩ = false := by
  have hlt : k < vs.length := (List.getElem?_eq_some_iff.1 hk).1
  have e := spsCells_at vs k s hk
  exact ⟨⟨(World.ownsRow.cellAt h (k * 2) (by omega)).trans e.1, (World.ownsRow.cellAt h (k * 2 + 1) (by omega)).trans e.2⟩, World.ownsRow.frozenAt h _, World.ownsRow.frozenAt h _⟩
theorem SpsO.gr {B : Nat} {w w' : World} {vs : List Sp} {g cap : Nat} (h : SpsO B w vs g cap) (hg : Gr w w') : SpsO B w' vs g cap := owns_below h hg.block
theorem SpsO.mono {B B' : Nat} {w : World} {vs : List Sp} {g cap : Nat} (h : SpsO B w vs g cap) (hb : B' ≤ B) : SpsO B' w vs g cap := ownsRow_low hb h
theorem SpsO.lt {B : Nat} {w : World} {vs : List Sp} {g cap : Nat} (h : SpsO B w vs g cap) : B ≤ g ∧ g < w.heap.size := World.ownsRow.lt h g rfl
theorem SpsO.set {B : Nat} {w : World} {vs : List Sp} {g cap : Nat} (h : SpsO B w vs g cap) (k : Nat) (s : Sp) : SpsO B ((w.setCell ⟨g, k * 2, none⟩ (.int .i64 s.lo)).setCell ⟨g, k * 2 + 1, none⟩ (.int .i64 s.hi)) (vs.set k s) g cap := by
  have h1 := (World.ownsRow.stored h (k * 2) (.int .i64 s.lo)).1
  have h2 := (World.ownsRow.stored h1 (k * 2 + 1) (.int .i64 s.hi)).1
  unfold SpsO
  rw [spsCells_set, List.length_set]
  exact h2
theorem addN (x y z : Nat) : (⟨x, y, none⟩ : Addr).add z = ⟨x, y + z, none⟩ := by unfold Addr.add; split <;> simp_all
end R
end Go.Proofs.YtdgompdbhlhofaaGreatDoor

namespace Go.Proofs.YtdgompdbhlhofaaGreatDoor
open Go.RowKit
set_option linter.unusedVariables false
set_option linter.unusedSimpArgs false
namespace R
open I
open U (Ex St KidsE ev eArr Vr VarsR VrAt owns_below gbBelow gbAlloc gbTrans gbRefl new_cells)
def limS (vs : List Vr) : List Sp := vs.map fun v => ⟨v.lo, v.hi⟩
end R
end Go.Proofs.YtdgompdbhlhofaaGreatDoor
