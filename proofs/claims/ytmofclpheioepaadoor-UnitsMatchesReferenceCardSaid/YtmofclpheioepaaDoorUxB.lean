/- Expressions, variables and units in memory. -/
import Derived.Test.YtmofclpheioepaaDoorUxA
import Derived.WalkKit
import Derived.LoopTactic
import Derived.Outline
import Derived.Deep.QuietTactic
import Derived.Deep.LoopGhost
import Derived.Deep.RegionWith
import Derived.Deep.RegionLaw
import Derived.Deep.AppendLies
import Derived.WalkLawsBesides
import Derived.BigQuiet
import Derived.BigCall
import Derived.OwnWalk
import Derived.WalkMore
import Derived.Laws.AppendOwn
import Derived.Laws.Rows
import Derived.Laws.NewBlocks
import Derived.Lib.Hide
import Derived.Below
import Derived.IntWalk
namespace Go.Proofs.YtmofclpheioepaaDoor
open Go.RowKit
set_option linter.unusedVariables false
set_option linter.unusedSimpArgs false

theorem blkLt {w : World} {b : Nat} {o : Obj} (h : w.heap[b]? = some o) : b < w.heap.size := (Array.getElem?_eq_some_iff.1 h).1
theorem newBlk (w : World) (o : Obj) (b : Nat) (h : b = w.heap.size) : (w.alloc o).heap[b]? = some o := by subst h; exact heap_alloc_new w o
theorem bdrew {w w' : World} (h : Below w.drew.heap.size w.drew w') : Below w.heap.size w w' := ⟨h.os, h.tape, h.output, h.size, h.block⟩
theorem belowSet {B b i : Nat} {a w : World} {u : Value} (h : Below B a w) (hb : B ≤ b) : Below B a (w.setCell ⟨b, i, none⟩ u) := Below.setCell h hb u
theorem gbRefl (w : World) (r : Option Nat) : w.grownBy w r := ⟨rfl, rfl, rfl, Nat.le_refl _, fun _ _ _ => rfl⟩
theorem gbSet {w w' : World} {b i : Nat} {v : Value} (h : w.grownBy w' (some b)) : w.grownBy (w'.setCell ⟨b, i, none⟩ v) (some b) :=
  ⟨h.os, h.tape, h.output, by simpa using h.size, fun k hk hn => (heap_setCell_other w' _ k v (fun e => hn (by rw [e]))).trans (h.block k hk hn)⟩
theorem gbAlloc {w w' : World} {r : Option Nat} {o : Obj} (h : w.grownBy w' r) : w.grownBy (w'.alloc o) r :=
  ⟨h.os, h.tape, h.output, by have := h.size; simp; omega, fun k hk hn => (Below.heap_alloc w' o k (Nat.lt_of_lt_of_le hk h.size)).trans (h.block k hk hn)⟩
theorem gbDrew {w w' : World} {r : Option Nat} (h : w.grownBy w' r) : w.grownBy w'.drew r := ⟨h.os, h.tape, h.output, h.size, h.block⟩
theorem gbTrans {a b c : World} {r : Option Nat} (h : a.grownBy b r) (k : b.grownBy c r) : a.grownBy c r :=
  ⟨k.os.trans h.os, k.tape.trans h.tape, k.output.trans h.output, Nat.le_trans h.size k.size, fun i hi hn => (k.block i (Nat.lt_of_lt_of_le hi h.size) hn).trans (h.block i hi hn)⟩
theorem gbBelow {a b : World} {B : Nat} {r : Option Nat} (h : a.grownBy b r) (hB : B ≤ a.heap.size) (hr : ∀ k, r = some k → B ≤ k) : Below B a b :=
  ⟨h.os, h.tape, h.output, h.size, fun i hi => h.block i (by omega) (fun e => by have := hr i e.symm; omega)⟩
theorem new_cells (W : World) (arr : Array Value) (T : TypeId) (b : Nat) (hb : b = W.heap.size) : ∀ j u, arr.toList[j]? = some u → (W.alloc (.cells arr T)).cell? ((⟨b, 0, none⟩ : Addr).add j) = some u := by
  intro j u hu
  subst hb
  have hadd : (⟨W.heap.size, 0, none⟩ : Addr).add j = ⟨W.heap.size, j, none⟩ := by unfold Addr.add; split <;> simp_all
  rw [hadd, cell_of_row _ _ j arr T (0, 0) (heap_alloc_new W _)]
  simpa using hu
theorem ownsRow_low {w : World} {base base' : Nat} {e : TypeId} {size : Nat} {v : Value} {n : Nat} {xs : List Value} (hb : base' ≤ base) (h : w.ownsRow base e size v n xs) : w.ownsRow base' e size v n xs := by
  refine ⟨h.1, ?_⟩
  rcases h.2 with hn | ⟨g, cap, cur, hv, h1, rest⟩
  · exact .inl hn
  · exact .inr ⟨g, cap, cur, hv, Nat.le_trans hb h1, rest⟩

/-- an expression's value: its list of kids lies at A, with room for c more -/
abbrev ev (t : Ex) (A : Option Addr) (c : Nat) : Value := .agg #[.int .i64 t.op, .int .i64 t.n, .int .i64 t.unit, .slice A t.kids.length (t.kids.length + c)]
abbrev eArr (t : Ex) (A : Option Addr) (c : Nat) : Array Value := #[.int .i64 t.op, .int .i64 t.n, .int .i64 t.unit, .slice A t.kids.length (t.kids.length + c)]
mutual
/-- a slice of expressions reads as a list -/
def KidsE (w : World) : List Ex → Option Addr → Prop
  | [], _ => True
  | t :: ts, A => ∃ g o, A = some ⟨g, o, none⟩ ∧ OneE w t g o ∧ KidsE w ts (some ⟨g, o + 4, none⟩)
def OneE (w : World) : Ex → Nat → Nat → Prop
  | .mk k n u kids, g, o => ∃ A c, w.cell? ⟨g, o, none⟩ = some (.int .i64 k) ∧ w.cell? ⟨g, o + 1, none⟩ = some (.int .i64 n) ∧ w.cell? ⟨g, o + 2, none⟩ = some (.int .i64 u) ∧
    w.cell? ⟨g, o + 3, none⟩ = some (.slice A kids.length (kids.length + c)) ∧ kids.length ≤ maxLen ∧ KidsE w kids A
end
mutual
theorem KidsE.keep {w w' : World} (hb : ∀ k, k < w.heap.size → w'.heap[k]? = w.heap[k]?) : ∀ (ts : List Ex) (A : Option Addr), KidsE w ts A → KidsE w' ts A
  | [], _, _ => trivial
  | t :: ts, A, h => by
    unfold KidsE at h ⊢
    obtain ⟨g, o, hA, h1, h2⟩ := h
    exact ⟨g, o, hA, OneE.keep hb t g o h1, KidsE.keep hb ts _ h2⟩
theorem OneE.keep {w w' : World} (hb : ∀ k, k < w.heap.size → w'.heap[k]? = w.heap[k]?) : ∀ (t : Ex) (g o : Nat), OneE w t g o → OneE w' t g o
  | .mk k n u kids, g, o, h => by
    unfold OneE at h ⊢
    obtain ⟨A, c, h0, h1, h2, h3, h4, h5⟩ := h
    have hlt := World.block_lt_of_cell? w _ h0
    have e : ∀ i, w'.cell? ⟨g, i, none⟩ = w.cell? ⟨g, i, none⟩ := fun i => World.cell?_of_block (a := ⟨g, i, none⟩) (hb g hlt)
    exact ⟨A, c, by rw [e]; exact h0, by rw [e]; exact h1, by rw [e]; exact h2, by rw [e]; exact h3, h4, KidsE.keep hb kids A h5⟩
end
theorem KidsE.below {w w' : World} {ts : List Ex} {A : Option Addr} (h : KidsE w ts A) (hb : Below w.heap.size w w') : KidsE w' ts A := h.keep hb.block ts A
theorem KidsE.get {w : World} : ∀ (ts : List Ex) (g o : Nat), KidsE w ts (some ⟨g, o, none⟩) → ∀ (i : Nat) (t : Ex), ts[i]? = some t → OneE w t g (o + i * 4)
  | [], g, o, h, i, t, ht => by simp at ht
  | u :: us, g, o, h, i, t, ht => by
    unfold KidsE at h
    obtain ⟨g', o', hA, h1, h2⟩ := h
    cases hA
    cases i with
    | zero => simp at ht; subst ht; simpa using h1
    | succ i =>
      have := KidsE.get us g (o + 4) h2 i t (by simpa using ht)
      rw [show o + (i + 1) * 4 = o + 4 + i * 4 by omega]
      exact this
theorem KidsE.addr {w : World} {ts : List Ex} {A : Option Addr} (h : KidsE w ts A) (hn : 0 < ts.length) : ∃ g o, A = some ⟨g, o, none⟩ := by
  cases ts with
  | nil => simp at hn
  | cons t ts => unfold KidsE at h; obtain ⟨g, o, hA, _⟩ := h; exact ⟨g, o, hA⟩
theorem OneE.cells {w : World} {t : Ex} {g o : Nat} (h : OneE w t g o) : ∃ A c, (w.cell? ⟨g, o, none⟩ = some (.int .i64 t.op) ∧ w.cell? ⟨g, o + 1, none⟩ = some (.int .i64 t.n) ∧ w.cell? ⟨g, o + 2, none⟩ = some (.int .i64 t.unit) ∧
    w.cell? ⟨g, o + 3, none⟩ = some (.slice A t.kids.length (t.kids.length + c))) ∧ t.kids.length ≤ maxLen ∧ KidsE w t.kids A := by
  obtain ⟨k, n, u, kids⟩ := t
  unfold OneE at h
  obtain ⟨A, c, h0, h1, h2, h3, h4, h5⟩ := h
  exact ⟨A, c, ⟨h0, h1, h2, h3⟩, h4, h5⟩
theorem OneE.mk' {w : World} {t : Ex} {g o : Nat} {A : Option Addr} {c : Nat} (h0 : w.cell? ⟨g, o, none⟩ = some (.int .i64 t.op)) (h1 : w.cell? ⟨g, o + 1, none⟩ = some (.int .i64 t.n)) (h2 : w.cell? ⟨g, o + 2, none⟩ = some (.int .i64 t.unit))
    (h3 : w.cell? ⟨g, o + 3, none⟩ = some (.slice A t.kids.length (t.kids.length + c))) (h4 : t.kids.length ≤ maxLen) (h5 : KidsE w t.kids A) : OneE w t g o := by
  obtain ⟨k, n, u, kids⟩ := t
  unfold OneE
  exact ⟨A, c, h0, h1, h2, h3, h4, h5⟩
/-- two expressions in a new block -/
theorem two_kids {w : World} {b : Nat} {s t : Ex} {A B : Option Addr} {c d : Nat} {T : TypeId} (h : w.heap[b]? = some (.cells #[.int .i64 s.op, .int .i64 s.n, .int .i64 s.unit, .slice A s.kids.length (s.kids.length + c), .int .i64 t.op, .int .i64 t.n, .int .i64 t.unit, .slice B t.kids.length (t.kids.length + d)] T (0, 0)))
    (hs : s.kids.length ≤ maxLen) (ht : t.kids.length ≤ maxLen) (hA : KidsE w s.kids A) (hB : KidsE w t.kids B) : KidsE w [s, t] (some ⟨b, 0, none⟩) := by
  have e : ∀ j, w.cell? ⟨b, j, none⟩ = (#[.int .i64 s.op, .int .i64 s.n, .int .i64 s.unit, .slice A s.kids.length (s.kids.length + c), .int .i64 t.op, .int .i64 t.n, .int .i64 t.unit, .slice B t.kids.length (t.kids.length + d)] : Array Value)[j]? := fun j => cell_of_row _ _ j _ _ (0, 0) h
  unfold KidsE
  refine ⟨b, 0, rfl, OneE.mk' (A := A) (c := c) ((e 0).trans rfl) ((e 1).trans rfl) ((e 2).trans rfl) ((e 3).trans rfl) hs hA, ?_⟩
  unfold KidsE
  refine ⟨b, 4, rfl, OneE.mk' (A := B) (c := d) ((e 4).trans rfl) ((e 5).trans rfl) ((e 6).trans rfl) ((e 7).trans rfl) ht hB, ?_⟩
  unfold KidsE
  trivial

/-- a variable of a program -/
structure Vr where
  x : ByteArray
  u : Int
  lo : Int
  hi : Int
  i : Int
def VrAt (w : World) (g o : Nat) (v : Vr) : Prop :=
  w.cell? ⟨g, o, none⟩ = some (.string v.x) ∧ w.cell? ⟨g, o + 1, none⟩ = some (.int .i64 v.u) ∧ w.cell? ⟨g, o + 2, none⟩ = some (.int .i64 v.lo) ∧ w.cell? ⟨g, o + 3, none⟩ = some (.int .i64 v.hi) ∧ w.cell? ⟨g, o + 4, none⟩ = some (.int .i64 v.i)
/-- a slice of variables reads as a list -/
def VarsR (w : World) (l : List Vr) (A : Option Addr) : Prop := l = [] ∨ ∃ g o, A = some ⟨g, o, none⟩ ∧ ∀ (i : Nat) (v : Vr), l[i]? = some v → VrAt w g (o + i * 5) v
theorem VarsR.keep {w w' : World} {l : List Vr} {A : Option Addr} (hb : ∀ k, k < w.heap.size → w'.heap[k]? = w.heap[k]?) (h : VarsR w l A) : VarsR w' l A := by
  rcases h with h | ⟨g, o, hA, h⟩
  · exact .inl h
  · refine .inr ⟨g, o, hA, fun i v hv => ?_⟩
    have h1 := h i v hv
    have hlt := World.block_lt_of_cell? w _ h1.1
    have e : ∀ i, w'.cell? ⟨g, i, none⟩ = w.cell? ⟨g, i, none⟩ := fun i => World.cell?_of_block (a := ⟨g, i, none⟩) (hb g hlt)
    unfold VrAt
    rw [e, e, e, e, e]
    exact h1
theorem VarsR.below {w w' : World} {l : List Vr} {A : Option Addr} (h : VarsR w l A) (hb : Below w.heap.size w w') : VarsR w' l A := h.keep hb.block
theorem VarsR.addr {w : World} {l : List Vr} {A : Option Addr} (h : VarsR w l A) (hn : 0 < l.length) : ∃ g o, A = some ⟨g, o, none⟩ ∧ ∀ (i : Nat) (v : Vr), l[i]? = some v → VrAt w g (o + i * 5) v := by
  rcases h with h | h
  · subst h; simp at hn
  · exact h

abbrev pArr (p : Pw) : Array Value := #[.int .i64 p.a, .int .i64 p.b, .int .i64 p.c]
/-- a unit's value -/
abbrev pv (p : Pw) : Value := .agg #[.int .i64 p.a, .int .i64 p.b, .int .i64 p.c]
def pCells (p : Pw) : List Value := [.int .i64 p.a, .int .i64 p.b, .int .i64 p.c]
def PwAt (w : World) (g o : Nat) (p : Pw) : Prop := w.cell? ⟨g, o, none⟩ = some (.int .i64 p.a) ∧ w.cell? ⟨g, o + 1, none⟩ = some (.int .i64 p.b) ∧ w.cell? ⟨g, o + 2, none⟩ = some (.int .i64 p.c)
/-- a slice of units reads as a list -/
def PwsR (w : World) (l : List Pw) (A : Option Addr) : Prop := l = [] ∨ ∃ g o, A = some ⟨g, o, none⟩ ∧ ∀ (i : Nat) (p : Pw), l[i]? = some p → PwAt w g (o + i * 3) p
theorem PwsR.keep {w w' : World} {l : List Pw} {A : Option Addr} (hb : ∀ k, k < w.heap.size → w'.heap[k]? = w.heap[k]?) (h : PwsR w l A) : PwsR w' l A := by
  rcases h with h | ⟨g, o, hA, h⟩
  · exact .inl h
  · refine .inr ⟨g, o, hA, fun i v hv => ?_⟩
    have h1 := h i v hv
    have hlt := World.block_lt_of_cell? w _ h1.1
    have e : ∀ i, w'.cell? ⟨g, i, none⟩ = w.cell? ⟨g, i, none⟩ := fun i => World.cell?_of_block (a := ⟨g, i, none⟩) (hb g hlt)
    unfold PwAt
    rw [e, e, e]
    exact h1
theorem PwsR.below {w w' : World} {l : List Pw} {A : Option Addr} (h : PwsR w l A) (hb : Below w.heap.size w w') : PwsR w' l A := h.keep hb.block
theorem PwsR.addr {w : World} {l : List Pw} {A : Option Addr} (h : PwsR w l A) (hn : 0 < l.length) : ∃ g o, A = some ⟨g, o, none⟩ ∧ ∀ (i : Nat) (p : Pw), l[i]? = some p → PwAt w g (o + i * 3) p := by
  rcases h with h | h
  · subst h; simp at hn
  · exact h
def psCells (l : List Pw) : List Value := l.flatMap pCells
theorem psCells_len (l : List Pw) : (psCells l).length = l.length * 3 := by
  induction l with
  | nil => rfl
  | cons p l ih => simp only [psCells, List.flatMap_cons, List.length_append] at ih ⊢; rw [ih]; simp [pCells]; omega
theorem psCells_snoc (l : List Pw) (p : Pw) : psCells (l ++ [p]) = psCells l ++ pCells p := by simp [psCells]
theorem psCells_at : ∀ (l : List Pw) (i : Nat) (p : Pw), l[i]? = some p → (psCells l)[i * 3]? = some (.int .i64 p.a) ∧ (psCells l)[i * 3 + 1]? = some (.int .i64 p.b) ∧ (psCells l)[i * 3 + 2]? = some (.int .i64 p.c)
  | [], i, p, h => by simp at h
  | q :: l, 0, p, h => by
    simp at h
    subst h
    exact ⟨rfl, rfl, rfl⟩
  | q :: l, i + 1, p, h => by
    have h1 := psCells_at l i p (by simpa using h)
    have e : ∀ j, (psCells (q :: l))[j + 3]? = (psCells l)[j]? := fun j => by
      show (pCells q ++ psCells l)[j + 3]? = _
      rw [List.getElem?_append_right (by simp [pCells])]
      simp [pCells]
    rw [show (i + 1) * 3 = i * 3 + 3 by omega, show i * 3 + 3 + 1 = i * 3 + 1 + 3 by omega, show i * 3 + 3 + 2 = i * 3 + 2 + 3 by omega, e, e, e]
    exact h1
/-- a slice that the function has made -/
theorem own_pws {w : World} {B : Nat} {v : Value} {l : List Pw} {T : TypeId} (h : w.ownsRow B T 3 v l.length (psCells l)) : ∃ A c, v = .slice A l.length (l.length + c) ∧ PwsR w l A := by
  rcases h.2 with ⟨rfl, h0⟩ | ⟨g, cap, cur, rfl, hb, hg, hn, hc, hs, ht⟩
  · obtain rfl : l = [] := List.eq_nil_of_length_eq_zero h0
    exact ⟨none, 0, rfl, .inl rfl⟩
  · refine ⟨_, cap - l.length, by rw [Nat.add_sub_cancel' hn], .inr ⟨g, 0, rfl, fun i p hp => ?_⟩⟩
    have h1 := h.cells (g := g) rfl
    have hadd : ∀ j, (⟨g, 0, none⟩ : Addr).add j = ⟨g, 0 + j, none⟩ := fun j => by unfold Addr.add; split <;> simp_all
    obtain ⟨e0, e1, e2⟩ := psCells_at l i p hp
    have a0 := h1 _ _ e0
    have a1 := h1 _ _ e1
    have a2 := h1 _ _ e2
    rw [hadd] at a0 a1 a2
    exact ⟨a0, a1, a2⟩
/-- what a call leaves: a Boolean; the world below is as it was -/
def BB (b : Bool) (w : World) (e : Ending) (w' : World) : Prop := e = .returned (.bool b) ∧ Below w.heap.size w w'
def VV (v : Value) (w : World) (e : Ending) (w' : World) : Prop := e = .returned v ∧ Below w.heap.size w w'
theorem btw_iff {n lo hi : Int} : btw n lo hi = true ↔ lo ≤ n ∧ n ≤ hi := by simp [btw]
end Go.Proofs.YtmofclpheioepaaDoor
