/- Package maxmin: the model of Share, and the filling in memory. No code. -/
import Derived.Test.YtbjhdfakocfapaaMsB
namespace Go.Proofs.Ytbjhdfakocfapaa
open Go.RowKit
set_option linter.unusedVariables false
set_option linter.unusedSimpArgs false
/-- what stops flows -/
inductive Sp
  | link (l : Nat)
  | lim (i : Nat)
def fxd (fx : List Bool) (i : Nat) : Bool := fx[i]?.getD false
def rat (xs : List Q) (i : Nat) : Q := xs[i]?.getD ⟨0, 0⟩
def num (l : List Int) (i : Nat) : Int := l[i]?.getD 0
def unf (n : Net) (fx : List Bool) (l : Nat) (i : Nat) : Bool := onF n.f (l : Int) i && !fxd fx i
def unfL (n : Net) (fx : List Bool) (l : Nat) : List Nat := sel (unf n fx l) n.f.length
def lvStep (xs : List Q) (fx : List Bool) (s : Q × Int) (i : Nat) : Q × Int := if fxd fx i = true then ((subM s.1 (rat xs i)).1, s.2) else (s.1, s.2 + 1)
def lvK (n : Net) (xs : List Q) (fx : List Bool) (l k : Nat) : Q × Int := ((onL n.f (l : Int)).take k).foldl (lvStep xs fx) (⟨num n.c l, 1⟩, 0)
def lev (n : Net) (xs : List Q) (fx : List Bool) : Sp → Q
  | .link l => (divM (lvK n xs fx l (onL n.f (l : Int)).length).1 ⟨(lvK n xs fx l (onL n.f (l : Int)).length).2, 1⟩).1
  | .lim i => ⟨num n.l i, 1⟩
def stopped (n : Net) (fx : List Bool) : Sp → List Nat
  | .link l => unfL n fx l
  | .lim i => if fxd fx i = true then [] else [i]
def hasLink (n : Net) (fx : List Bool) (l : Nat) : Bool := !(unfL n fx l).isEmpty
def hasLim (n : Net) (fx : List Bool) (i : Nat) : Bool := decide (0 < num n.l i) && !fxd fx i
def stopsL (n : Net) (fx : List Bool) : List Sp := (sel (hasLink n fx) n.c.length).map .link ++ (sel (hasLim n fx) n.l.length).map .lim
def better (lv : Sp → Q) (b : Option Sp) (s : Sp) : Option Sp :=
  match b with
  | none => some s
  | some t => if (cmpM (lv s) (lv t)).1 < 0 then some s else some t
def leastM (lv : Sp → Q) (ss : List Sp) : Option Sp := ss.foldl (better lv) none
def setQ (xs : List Q) (S : List Nat) (v : Q) : List Q := S.foldl (fun xs i => xs.set i v) xs
def setB (fx : List Bool) (S : List Nat) : List Bool := S.foldl (fun fx i => fx.set i true) fx
def fillM (n : Net) : Nat → List Q → List Bool → List Q × List Bool
  | 0, xs, fx => (xs, fx)
  | g + 1, xs, fx =>
    match leastM (lev n xs fx) (stopsL n fx) with
    | none => (xs, fx)
    | some s => fillM n g (setQ xs (stopped n fx s) (lev n xs fx s)) (setB fx (stopped n fx s))
theorem foldl_take {α β : Type} (f : β → α → β) (z : β) (l : List α) {k : Nat} (h : k < l.length) : (l.take (k + 1)).foldl f z = f ((l.take k).foldl f z) l[k] := by
  rw [List.take_add_one, List.getElem?_eq_getElem h, List.foldl_append]
  rfl
theorem setQ_len (xs : List Q) (S : List Nat) (v : Q) : (setQ xs S v).length = xs.length := by
  unfold setQ
  induction S generalizing xs with
  | nil => rfl
  | cons i S ih => rw [List.foldl_cons, ih, List.length_set]
theorem setB_len (fx : List Bool) (S : List Nat) : (setB fx S).length = fx.length := by
  unfold setB
  induction S generalizing fx with
  | nil => rfl
  | cons i S ih => rw [List.foldl_cons, ih, List.length_set]
theorem setB_get (fx : List Bool) (S : List Nat) (j : Nat) : (setB fx S)[j]? = if j ∈ S ∧ j < fx.length then some true else fx[j]? := by
  unfold setB
  induction S generalizing fx with
  | nil => simp
  | cons i S ih =>
    rw [List.foldl_cons, ih, List.length_set, List.getElem?_set]
    by_cases h1 : j ∈ S
    · by_cases h2 : j < fx.length
      · simp [h1, h2]
      · have h3 : ¬ i < fx.length ∨ i ≠ j := by omega
        simp [h2]
        omega
    · by_cases h2 : i = j
      · subst h2
        by_cases h3 : i < fx.length <;> simp [h1, h3]
      · have h3 : ¬ j = i := fun e => h2 e.symm
        simp [h1, h2, h3]
theorem setQ_get (xs : List Q) (S : List Nat) (v : Q) (j : Nat) : (setQ xs S v)[j]? = if j ∈ S ∧ j < xs.length then some v else xs[j]? := by
  unfold setQ
  induction S generalizing xs with
  | nil => simp
  | cons i S ih =>
    rw [List.foldl_cons, ih, List.length_set, List.getElem?_set]
    by_cases h1 : j ∈ S
    · by_cases h2 : j < xs.length
      · simp [h1, h2]
      · simp [h2]
        omega
    · by_cases h2 : i = j
      · subst h2
        by_cases h3 : i < xs.length <;> simp [h1, h3]
      · have h3 : ¬ j = i := fun e => h2 e.symm
        simp [h1, h2, h3]
/-! ### in memory -/
def qC (xs : List Q) : List Value := xs.flatMap (fun q => [.int .i64 q.n, .int .i64 q.d])
def bC (fx : List Bool) : List Value := fx.map .bool
theorem qC_len (xs : List Q) : (qC xs).length = xs.length * 2 := by
  induction xs with
  | nil => rfl
  | cons q xs ih => simp only [qC, List.flatMap_cons] at ih ⊢; simp [ih]; omega
theorem qC_get (xs : List Q) (i : Nat) (h : i < xs.length) : (qC xs)[i * 2]? = some (.int .i64 xs[i].n) ∧ (qC xs)[i * 2 + 1]? = some (.int .i64 xs[i].d) := by
  induction xs generalizing i with
  | nil => simp at h
  | cons q xs ih =>
    cases i with
    | zero => simp [qC]
    | succ i =>
      have := ih i (by simpa using h)
      simp only [qC, List.flatMap_cons] at this ⊢
      rw [show (i + 1) * 2 = i * 2 + 1 + 1 by omega]
      simpa using this
theorem qC_set (xs : List Q) (i : Nat) (v : Q) : qC (xs.set i v) = ((qC xs).set (i * 2) (.int .i64 v.n)).set (i * 2 + 1) (.int .i64 v.d) := by
  induction xs generalizing i with
  | nil => simp [qC]
  | cons q xs ih =>
    cases i with
    | zero => simp [qC]
    | succ i =>
      have := ih i
      simp only [qC, List.set_cons_succ, List.flatMap_cons] at this ⊢
      rw [this, show (i + 1) * 2 = i * 2 + 1 + 1 by omega]
      simp
/-- the struct of the filling -/
abbrev filB (n : Net) (a : NetA) (R X : Nat) : Obj :=
  .cells #[.slice a.ca n.c.length a.cm, .slice a.fa n.f.length a.fm, .slice a.la n.l.length a.lm, .slice (some ⟨R, 0, none⟩) n.f.length n.f.length, .slice (some ⟨X, 0, none⟩) n.f.length n.f.length] 54 (0, 0)
/-- a filling in memory, made since W0: blocks F (the struct), R (the rates), X (what is fixed) -/
structure FilR (W0 : World) (F R X : Nat) (n : Net) (a : NetA) (xs : List Q) (fx : List Bool) (w : World) : Prop where
  gr : Gr W0 w
  hF : W0.heap.size ≤ F
  hR : W0.heap.size ≤ R
  hX : W0.heap.size ≤ X
  net : NetR W0 n a
  fil : w.heap[F]? = some (filB n a R X)
  rats : w.heap[R]? = some (.cells (qC xs).toArray 35 (0, 0))
  fixs : w.heap[X]? = some (.cells (bC fx).toArray 4 (0, 0))
  lx : xs.length = n.f.length
  lf : fx.length = n.f.length
theorem FilR.up {W0 : World} {F R X : Nat} {n : Net} {a : NetA} {xs : List Q} {fx : List Bool} {w w' : World} (h : FilR W0 F R X n a xs fx w) (hg : Gr w w') : FilR W0 F R X n a xs fx w' :=
  ⟨h.gr.tr hg, h.hF, h.hR, h.hX, h.net, grBlk hg h.fil, grBlk hg h.rats, grBlk hg h.fixs, h.lx, h.lf⟩
theorem FilR.netw {W0 : World} {F R X : Nat} {n : Net} {a : NetA} {xs : List Q} {fx : List Bool} {w : World} (h : FilR W0 F R X n a xs fx w) : NetR w n a := h.net.gr h.gr
theorem cells5 {w : World} {b : Nat} {v0 v1 v2 v3 v4 : Value} {T : TypeId} (h : w.heap[b]? = some (.cells #[v0, v1, v2, v3, v4] T (0, 0))) :
    w.cell? ⟨b, 0, none⟩ = some v0 ∧ w.cell? ⟨b, 1, none⟩ = some v1 ∧ w.cell? ⟨b, 2, none⟩ = some v2 ∧ w.cell? ⟨b, 3, none⟩ = some v3 ∧ w.cell? ⟨b, 4, none⟩ = some v4 := by
  refine ⟨?_, ?_, ?_, ?_, ?_⟩
  · rw [cell_of_row _ _ 0 _ _ (0, 0) h]; rfl
  · rw [cell_of_row _ _ 1 _ _ (0, 0) h]; rfl
  · rw [cell_of_row _ _ 2 _ _ (0, 0) h]; rfl
  · rw [cell_of_row _ _ 3 _ _ (0, 0) h]; rfl
  · rw [cell_of_row _ _ 4 _ _ (0, 0) h]; rfl
theorem bC_at {w : World} {X : Nat} {fx : List Bool} {T : TypeId} (h : w.heap[X]? = some (.cells (bC fx).toArray T (0, 0))) {i : Nat} (hi : i < fx.length) : w.cell? ⟨X, i, none⟩ = some (.bool (fxd fx i)) := by
  rw [cell_of_row _ _ i _ _ (0, 0) h]
  simp [bC, fxd, hi]
theorem qC_at {w : World} {R : Nat} {xs : List Q} {T : TypeId} (h : w.heap[R]? = some (.cells (qC xs).toArray T (0, 0))) {i : Nat} (hi : i < xs.length) :
    w.cell? ⟨R, i * 2, none⟩ = some (.int .i64 (rat xs i).n) ∧ w.cell? ⟨R, i * 2 + 1, none⟩ = some (.int .i64 (rat xs i).d) := by
  obtain ⟨h1, h2⟩ := qC_get xs i hi
  have e : rat xs i = xs[i] := by simp [rat, hi]
  rw [e]
  refine ⟨?_, ?_⟩
  · rw [cell_of_row _ _ _ _ _ (0, 0) h]; simpa using h1
  · rw [cell_of_row _ _ _ _ _ (0, 0) h]; simpa using h2
/-- a stop, as a value of the interface -/
def spV (F : Nat) : Sp → Value
  | .link l => .iface 109 (.agg #[.pointer (some ⟨F, 0, none⟩), .int .i64 (l : Int)])
  | .lim i => .iface 112 (.agg #[.pointer (some ⟨F, 0, none⟩), .int .i64 (i : Int)])
abbrev lnkB (F l : Nat) : Obj := .cells #[.pointer (some ⟨F, 0, none⟩), .int .i64 (l : Int)] 109 (0, 0)
abbrev limB (F i : Nat) : Obj := .cells #[.pointer (some ⟨F, 0, none⟩), .int .i64 (i : Int)] 112 (0, 0)
end Go.Proofs.Ytbjhdfakocfapaa
