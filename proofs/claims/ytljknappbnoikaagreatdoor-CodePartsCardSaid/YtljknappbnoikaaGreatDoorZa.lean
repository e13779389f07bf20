/- Texts of one proof: KyA, UxA, UxB, UxC. -/
import Derived.ProofKit
import Derived.Test.YtljknappbnoikaaGreatDoorRows
import Derived.WalkKit
import Derived.LoopTactic
import Derived.Outline
import Derived.Deep.QuietTactic
import Derived.Deep.LoopGhost
import Derived.Deep.RegionWith
import Derived.Deep.RegionLaw
import Derived.Deep.AppendLies
import Derived.WalkLawsBesides
import Derived.BigQuiet
import Derived.BigCall
import Derived.OwnWalk
import Derived.WalkMore
import Derived.Laws.AppendOwn
import Derived.Laws.Rows
import Derived.Laws.NewBlocks
import Derived.Lib.Hide
import Derived.Below
import Derived.IntWalk
set_option linter.unusedVariables false
set_option linter.unusedSimpArgs false
set_option maxRecDepth 100000
set_option maxHeartbeats 8000000
namespace Go.Proofs.YtljknappbnoikaaGreatDoor
namespace K
structure In where
 op : Int
 n : Int
 r : Int
def tko (op : Int) : Int := if op ≤ 3 then 0 else if op = 11 then 1 else if op = 13 then 0 else 2
def pt (op : Int) : Int := if op ≤ 3 then 1 else if op = 11 then 0 else if op = 12 then 0 else if op = 13 then 0 else 1
def rgN (x : In) (i many : Nat) (vars : Int) : Int × Int :=
 if x.op = 1 then (-1000000000000, 1000000000000) else if x.op = 2 ∨ x.op = 11 then (0, vars - 1) else if x.op = 3 then (0, 3) else if x.op = 12 ∨ x.op = 13 then ((i : Int) + 1, many) else (0, 0)
def btw2 (n : Int) (s : Int × Int) : Bool := decide (s.1 ≤ n) && decide (n ≤ s.2)
def formI (x : In) (i many : Nat) (vars : Int) : Bool := btw2 x.op (1, 13) && (btw2 x.n (rgN x i many vars) && btw2 x.r (if x.op = 12 then (1, 6) else (0, 0)))
def reach (hs : List Int) (i : Nat) (h : Int) : List Int × Bool :=
 if (hs[i]?).getD 0 = -1 then (hs.set i h, decide (h ≤ 64)) else (hs, decide ((hs[i]?).getD 0 = h) && decide (h ≤ 64))
def soundI (hs : List Int) (x : In) (i : Nat) : List Int × Bool :=
 if (hs[i]?).getD 0 - tko x.op < 0 then (hs, false)
 else if x.op = 12 then (match reach hs (i + 1) ((hs[i]?).getD 0 - tko x.op + pt x.op) with
  | (h2, true) => reach h2 x.n.toNat ((hs[i]?).getD 0 - tko x.op + pt x.op)
  | (h2, false) => (h2, false))
 else if x.op = 13 then reach hs x.n.toNat ((hs[i]?).getD 0 - tko x.op + pt x.op)
 else reach hs (i + 1) ((hs[i]?).getD 0 - tko x.op + pt x.op)
def goH (vars : Int) (many : Nat) : List Int → Nat → List In → Option (List Int)
 | hs, _, [] => some hs
 | hs, i, x :: xs => if formI x i many vars = true then (match soundI hs x i with
  | (h2, true) => goH vars many h2 (i + 1) xs
  | (_, false) => none) else none
def verH (l : List In) (vars : Int) : Bool :=
 decide (l.length ≤ 4000) && (match goH vars l.length ((0 : Int) :: List.replicate l.length (-1)) 0 l with
  | some hs => decide ((hs[l.length]?).getD 0 = 0)
  | none => false)
def Ext (a b : List Int) : Prop := a.length = b.length ∧ ∀ i, i < a.length → (a[i]?).getD 0 ≠ -1 → (b[i]?).getD 0 = (a[i]?).getD 0
theorem Ext.refl (a : List Int) : Ext a a := ⟨rfl, fun _ _ _ => rfl⟩
theorem Ext.trans {a b c : List Int} (h : Ext a b) (k : Ext b c) : Ext a c :=
 ⟨h.1.trans k.1, fun i hi hn => by
  have h1 := h.2 i hi hn
  rw [← h1]
  exact k.2 i (by rw [← h.1]; exact hi) (by rw [h1]; exact hn)⟩
theorem reach_ext {hs h2 : List Int} {i : Nat} {h : Int} {b : Bool} (e : reach hs i h = (h2, b)) : Ext hs h2 := by
 unfold reach at e
 split at e
 ·rename_i h1
  cases e
  refine ⟨by simp, fun j hj hn => ?_⟩
  by_cases hij : i = j
  ·subst hij; exact absurd h1 hn
  ·rw [List.getElem?_set_ne hij]
 ·cases e; exact Ext.refl _
theorem reach_at {hs h2 : List Int} {i : Nat} {h : Int} (hi : i < hs.length) (e : reach hs i h = (h2, true)) : (h2[i]?).getD 0 = h ∧ h ≤ 64 := by
 unfold reach at e
 split at e
 ·obtain ⟨rfl, h3⟩ := Prod.mk.inj e
  exact ⟨by simp [hi], of_decide_eq_true h3⟩
 ·obtain ⟨rfl, h3⟩ := Prod.mk.inj e
  rw [Bool.and_eq_true, decide_eq_true_eq, decide_eq_true_eq] at h3
  exact h3
def Nx (H : List Int) (x : In) (i : Nat) : Prop :=
 tko x.op ≤ (H[i]?).getD 0 ∧ (H[i]?).getD 0 - tko x.op + pt x.op ≤ 64 ∧ (x.op ≠ 13 → (H[i + 1]?).getD 0 = (H[i]?).getD 0 - tko x.op + pt x.op) ∧ (x.op = 12 ∨ x.op = 13 → (H[x.n.toNat]?).getD 0 = (H[i]?).getD 0 - tko x.op + pt x.op)
theorem tko_pos (op : Int) : 0 ≤ tko op := by unfold tko; split <;> (try split) <;> (try split) <;> omega
theorem pt_pos (op : Int) : 0 ≤ pt op := by unfold pt; split <;> (try split) <;> (try split) <;> (try split) <;> omega
theorem Nx.ext {a H : List Int} {x : In} {i : Nat} (h : Nx a x i) (hi : i + 1 < a.length) (hn : x.op = 12 ∨ x.op = 13 → x.n.toNat < a.length) (he : Ext a H) : Nx H x i := by
 obtain ⟨h1, h2, h3, h4⟩ := h
 have t1 := tko_pos x.op
 have t2 := pt_pos x.op
 have e0 := he.2 i (by omega) (by omega)
 refine ⟨by omega, by omega, fun h => ?_, fun h => ?_⟩
 ·have k := h3 h
  have e1 := he.2 (i + 1) hi (by omega)
  omega
 ·have k := h4 h
  have e1 := he.2 x.n.toNat (hn h) (by omega)
  omega
theorem form_n {x : In} {i many : Nat} {vars : Int} (hf : formI x i many vars = true) (h : x.op = 12 ∨ x.op = 13) : i < x.n.toNat ∧ x.n.toNat ≤ many := by
 unfold formI at hf
 simp only [Bool.and_eq_true, btw2, decide_eq_true_eq] at hf
 have h2 := hf.2.1
 unfold rgN at h2
 rw [if_neg (by omega), if_neg (by omega), if_neg (by omega), if_pos h] at h2
 simp only at h2
 omega
theorem sound_spec {hs h2 : List Int} {x : In} {i many : Nat} {vars : Int} (hl : hs.length = many + 1) (hi : i < many) (hf : formI x i many vars = true) (e : soundI hs x i = (h2, true)) : Ext hs h2 ∧ Nx h2 x i := by
 have t1 := tko_pos x.op
 have t2 := pt_pos x.op
 unfold soundI at e
 split at e
 ·cases e
 rename_i h0
 generalize hh : (hs[i]?).getD 0 - tko x.op + pt x.op = h at e
 have fin : ∀ {h3 : List Int}, Ext hs h3 → (h3[i]?).getD 0 = (hs[i]?).getD 0 := fun he => he.2 i (by omega) (by omega)
 split at e
 ·rename_i h12
  have hn := form_n hf (.inl h12)
  rcases hr : reach hs (i + 1) h with ⟨h3, b⟩
  rw [hr] at e
  cases b with
  | false => cases e
  | true =>
   simp only at e
   have e1 := reach_ext hr
   have e2 := reach_ext e
   have a1 := reach_at (by omega) hr
   have a2 := reach_at (by rw [← e1.1]; omega) e
   have ee := e1.trans e2
   have k1 := e2.2 (i + 1) (by rw [← e1.1]; omega) (by omega)
   have f := fin ee
   refine ⟨ee, ?_, ?_, fun _ => ?_, fun _ => ?_⟩ <;> omega
 ·rename_i h12
  split at e
  ·rename_i h13
   have hn := form_n hf (.inr h13)
   have e1 := reach_ext e
   have a1 := reach_at (by omega) e
   have f := fin e1
   refine ⟨e1, by omega, by omega, fun h => absurd h13 h, fun _ => by omega⟩
  ·rename_i h13
   have e1 := reach_ext e
   have a1 := reach_at (by omega) e
   have f := fin e1
   refine ⟨e1, by omega, by omega, fun _ => by omega, fun h => ?_⟩
   rcases h with h | h
   ·exact absurd h h12
   ·exact absurd h h13
theorem go_spec {vars : Int} {many : Nat} {H : List Int} : ∀ (xs : List In) (hs : List Int) (i : Nat), hs.length = many + 1 → i + xs.length = many → goH vars many hs i xs = some H →
  Ext hs H ∧ ∀ (j : Nat) (x : In), xs[j]? = some x → Nx H x (i + j) ∧ formI x (i + j) many vars = true
 | [], hs, i, hl, hm, e => by
  rw [goH] at e
  cases e
  exact ⟨Ext.refl _, fun j x hx => by simp at hx⟩
 | x :: xs, hs, i, hl, hm, e => by
  rw [goH] at e
  simp only [List.length_cons] at hm
  split at e
  ·rename_i hf
   rcases hs2 : soundI hs x i with ⟨h2, b⟩
   rw [hs2] at e
   cases b with
   | false => cases e
   | true =>
    simp only at e
    obtain ⟨e1, n1⟩ := sound_spec hl (by omega) hf hs2
    obtain ⟨e2, r⟩ := go_spec xs h2 (i + 1) (by rw [← e1.1]; exact hl) (by omega) e
    refine ⟨e1.trans e2, fun j y hy => ?_⟩
    cases j with
    | zero =>
     simp only [List.getElem?_cons_zero, Option.some.injEq] at hy
     subst hy
     exact ⟨n1.ext (by rw [← e1.1]; omega) (fun h => by have := form_n hf h; rw [← e1.1]; omega) e2, hf⟩
    | succ j =>
     have := r j y (by simpa using hy)
     rw [show i + (j + 1) = i + 1 + j by omega]
     exact this
  ·cases e
end K
end Go.Proofs.YtljknappbnoikaaGreatDoor
namespace Go.Proofs.YtljknappbnoikaaGreatDoor.U
inductive Ex where
 | mk (op n unit : Int) (kids : List Ex)
def Ex.op : Ex → Int | .mk o _ _ _ => o
def Ex.n : Ex → Int | .mk _ n _ _ => n
def Ex.unit : Ex → Int | .mk _ _ u _ => u
def Ex.kids : Ex → List Ex | .mk _ _ _ l => l
mutual
def Ex.size : Ex → Nat
 | .mk _ _ _ ks => 1 + szK ks
def szK : List Ex → Nat
 | [] => 0
 | k :: ks => k.size + szK ks
end
mutual
def spE : Ex → Int → Int
 | .mk _ _ _ ks, n => spK ks (n - 1)
def spK : List Ex → Int → Int
 | [], n => n
 | k :: ks, n => if 0 ≤ n then spK ks (spE k n) else n
end
mutual
theorem spE_max : ∀ (t : Ex) (n : Int), 0 ≤ n → spE t n = max (n - t.size) (-1)
 | .mk _ _ _ ks, n, h => by
  rw [spE, spK_max ks (n - 1) (by omega), Ex.size]
  omega
theorem spK_max : ∀ (ks : List Ex) (n : Int), -1 ≤ n → spK ks n = max (n - szK ks) (-1)
 | [], n, h => by rw [spK, szK]; omega
 | k :: ks, n, h => by
  rw [spK, szK]
  by_cases h0 : 0 ≤ n
  ·have h1 := spE_max k n h0
   rw [if_pos h0, spK_max ks _ (by omega)]
   omega
  ·rw [if_neg h0]
   omega
end
mutual
def rsE : Ex → Int → Int
 | .mk _ _ _ ks, b => rsK ks b 1
def rsK : List Ex → Int → Int → Int
 | [], _, n => n
 | k :: ks, b, n => if n ≤ b then rsK ks b (n + rsE k (b - n)) else n
end
mutual
theorem rsE_min : ∀ (t : Ex) (b : Int), 0 ≤ b → rsE t b = min (t.size : Int) (b + 1)
 | .mk _ _ _ ks, b, h => by
  rw [rsE, rsK_min ks b 1 (by omega), Ex.size]
  omega
theorem rsK_min : ∀ (ks : List Ex) (b n : Int), n ≤ b + 1 → rsK ks b n = min (n + szK ks) (b + 1)
 | [], b, n, h => by rw [rsK, szK]; omega
 | k :: ks, b, n, h => by
  rw [rsK, szK]
  by_cases h0 : n ≤ b
  ·have h1 := rsE_min k (b - n) (by omega)
   rw [if_pos h0, rsK_min ks b _ (by omega)]
   omega
  ·rw [if_neg h0]
   omega
end
theorem Ex.size_pos (t : Ex) : 0 < t.size := by cases t; rw [Ex.size]; omega
structure Pw where
 a : Int
 b : Int
 c : Int
deriving DecidableEq
def btw (n lo hi : Int) : Bool := decide (lo ≤ n) && decide (n ≤ hi)
def kindP (k : Int) : Pw := if k = 1 then ⟨1, 0, 0⟩ else if k = 2 then ⟨0, 1, 0⟩ else if k = 3 then ⟨0, 0, 1⟩ else if k = 4 then ⟨0, 1, -1⟩ else ⟨0, 0, 0⟩
def inpK (n : Int) : Int := if n = 1 then 3 else if n = 2 then 2 else 1
def rgB (p : Pw) : Bool := btw p.a (-4) 4 && (btw p.b (-4) 4 && btw p.c (-4) 4)
def addP (p q : Pw) (z : Int) : Pw := ⟨p.a + z * q.a, p.b + z * q.b, p.c + z * q.c⟩
def limP (p : Pw) : Except Int Pw := if rgB p then .ok p else .error 13
def formB (len : Nat) (op n u : Int) (k : Nat) : Bool :=
 if op = 1 then decide (k = 0) && (btw n 0 1000000000 && btw u 0 4)
 else if op = 2 then decide (k = 0) && btw n 0 ((len : Int) - 1)
 else if op = 3 then decide (k = 0) && btw n 0 3
 else decide (k = 2) && btw op 4 10
def twoP (op : Int) (p q : Pw) : Except Int Pw :=
 if op = 6 then limP (addP p q 1) else if op = 7 ∨ op = 8 then limP (addP p q (-1)) else if p = q then .ok p else .error 13
def nodeP (s : List Pw) (op n u : Int) (ps : List Pw) : Except Int Pw :=
 if formB s.length op n u ps.length then
  if op = 1 then .ok (kindP u) else if op = 2 then .ok (s.getD n.toNat ⟨0, 0, 0⟩) else if op = 3 then .ok (kindP (inpK n))
  else twoP op (ps.getD 0 ⟨0, 0, 0⟩) (ps.getD 1 ⟨0, 0, 0⟩)
 else .error 1
mutual
def inf (s : List Pw) : Ex → Except Int Pw
 | .mk op n u ks => match infK s ks with
  | .error e => .error e
  | .ok ps => nodeP s op n u ps
def infK (s : List Pw) : List Ex → Except Int (List Pw)
 | [] => .ok []
 | k :: ks => match inf s k with
  | .error e => .error e
  | .ok p => match infK s ks with
   | .error e => .error e
   | .ok ps => .ok (p :: ps)
end
def infG (s : List Pw) (op n u : Int) (acc : List Pw) (ks : List Ex) : Except Int Pw :=
 match infK s ks with
 | .error e => .error e
 | .ok ps => nodeP s op n u (acc ++ ps)
theorem inf_G (s : List Pw) (op n u : Int) (ks : List Ex) : inf s (.mk op n u ks) = infG s op n u [] ks := by rw [inf, infG]; rfl
theorem infG_nil (s : List Pw) (op n u : Int) (acc : List Pw) : infG s op n u acc [] = nodeP s op n u acc := by simp [infG, infK]
theorem infG_err {s : List Pw} {op n u : Int} {acc : List Pw} {k : Ex} {ks : List Ex} {e : Int} (h : inf s k = .error e) : infG s op n u acc (k :: ks) = .error e := by
 simp [infG, infK, h]
theorem infG_ok {s : List Pw} {op n u : Int} {acc : List Pw} {k : Ex} {ks : List Ex} {p : Pw} (h : inf s k = .ok p) : infG s op n u acc (k :: ks) = infG s op n u (acc ++ [p]) ks := by
 simp only [infG, infK, h]
 rcases infK s ks with e | ps <;> simp
theorem kindP_rg (k : Int) : rgB (kindP k) = true := by unfold kindP; (repeat' split) <;> rfl
def allRg (s : List Pw) : Prop := ∀ p ∈ s, rgB p = true
theorem getD_rg {s : List Pw} (h : allRg s) (i : Nat) : rgB (s.getD i ⟨0, 0, 0⟩) = true := by
 rw [List.getD_eq_getElem?_getD]
 rcases hi : s[i]? with _ | p
 ·rfl
 ·exact h p (List.mem_of_getElem? hi)
theorem limP_rg {p q : Pw} (h : limP p = .ok q) : rgB q = true := by
 unfold limP at h
 split at h <;> simp at h
 subst h; assumption
theorem nodeP_rg {s : List Pw} (hs : allRg s) {op n u : Int} {ps : List Pw} (hp : allRg ps) {q : Pw} (h : nodeP s op n u ps = .ok q) : rgB q = true := by
 unfold nodeP at h
 split at h
 ·split at h
  ·simp at h; subst h; exact kindP_rg _
  ·split at h
   ·simp only [Except.ok.injEq] at h; subst h; exact getD_rg hs _
   ·split at h
    ·simp at h; subst h; exact kindP_rg _
    ·unfold twoP at h
     split at h
     ·exact limP_rg h
     ·split at h
      ·exact limP_rg h
      ·split at h
       ·simp only [Except.ok.injEq] at h; subst h; exact getD_rg hp _
       ·simp at h
 ·simp at h
mutual
theorem inf_rg {s : List Pw} (hs : allRg s) : ∀ (t : Ex) {q : Pw}, inf s t = .ok q → rgB q = true
 | .mk op n u ks, q, h => by
  rw [inf] at h
  rcases hk : infK s ks with e | ps <;> rw [hk] at h
  ·simp at h
  ·exact nodeP_rg hs (infK_rg hs ks hk) h
theorem infK_rg {s : List Pw} (hs : allRg s) : ∀ (ks : List Ex) {ps : List Pw}, infK s ks = .ok ps → allRg ps
 | [], ps, h => by simp [infK] at h; subst h; intro p hp; cases hp
 | k :: ks, ps, h => by
  simp only [infK] at h
  rcases hk : inf s k with e | p <;> rw [hk] at h <;> simp at h
  rcases hks : infK s ks with e | qs <;> rw [hks] at h <;> simp at h
  subst h
  intro x hx
  rcases List.mem_cons.1 hx with rfl | hx
  ·exact inf_rg hs k hk
  ·exact infK_rg hs ks hks x hx
end
theorem rg_iff {p : Pw} (h : rgB p = true) : (-4 ≤ p.a ∧ p.a ≤ 4) ∧ (-4 ≤ p.b ∧ p.b ≤ 4) ∧ (-4 ≤ p.c ∧ p.c ≤ 4) := by
 simpa [rgB, btw] using h
def scopeM (us : List Int) : Option (List Pw) := if us.length ≤ 12 ∧ us.all (fun u => btw u 0 4) = true then some (us.map kindP) else none
def ofM (k : Int) : Pw × Int := if btw k 0 4 then (kindP k, 0) else (⟨0, 0, 0⟩, 9)
theorem kinds_rg (us : List Int) : allRg (us.map kindP) := by
 intro p hp
 obtain ⟨k, -, rfl⟩ := List.mem_map.1 hp
 exact kindP_rg k
end Go.Proofs.YtljknappbnoikaaGreatDoor.U
namespace Go.Proofs.YtljknappbnoikaaGreatDoor.U
open Go.RowKit
theorem blkLt {w : World} {b : Nat} {o : Obj} (h : w.heap[b]? = some o) : b < w.heap.size := (Array.getElem?_eq_some_iff.1 h).1
theorem newBlk (w : World) (o : Obj) (b : Nat) (h : b = w.heap.size) : (w.alloc o).heap[b]? = some o := by subst h; exact heap_alloc_new w o
theorem belowSet {B b i : Nat} {a w : World} {u : Value} (h : Below B a w) (hb : B ≤ b) : Below B a (w.setCell ⟨b, i, none⟩ u) := Below.setCell h hb u
theorem gbRefl (w : World) (r : Option Nat) : w.grownBy w r := ⟨rfl, rfl, rfl, Nat.le_refl _, fun _ _ _ => rfl⟩
theorem gbAlloc {w w' : World} {r : Option Nat} {o : Obj} (h : w.grownBy w' r) : w.grownBy (w'.alloc o) r :=
 ⟨h.os, h.tape, h.output, by have := h.size; simp; omega, fun k hk hn => (Below.heap_alloc w' o k (Nat.lt_of_lt_of_le hk h.size)).trans (h.block k hk hn)⟩
theorem gbTrans {a b c : World} {r : Option Nat} (h : a.grownBy b r) (k : b.grownBy c r) : a.grownBy c r :=
 ⟨k.os.trans h.os, k.tape.trans h.tape, k.output.trans h.output, Nat.le_trans h.size k.size, fun i hi hn => (k.block i (Nat.lt_of_lt_of_le hi h.size) hn).trans (h.block i hi hn)⟩
theorem gbBelow {a b : World} {B : Nat} {r : Option Nat} (h : a.grownBy b r) (hB : B ≤ a.heap.size) (hr : ∀ k, r = some k → B ≤ k) : Below B a b :=
 ⟨h.os, h.tape, h.output, h.size, fun i hi => h.block i (by omega) (fun e => by have := hr i e.symm; omega)⟩
theorem new_cells (W : World) (arr : Array Value) (T : TypeId) (b : Nat) (hb : b = W.heap.size) : ∀ j u, arr.toList[j]? = some u → (W.alloc (.cells arr T)).cell? ((⟨b, 0, none⟩ : Addr).add j) = some u := by
 intro j u hu
 subst hb
 have hadd : (⟨W.heap.size, 0, none⟩ : Addr).add j = ⟨W.heap.size, j, none⟩ := by unfold Addr.add; split <;> simp_all
 rw [hadd, cell_of_row _ _ j arr T (0, 0) (heap_alloc_new W _)]
 simpa using hu
abbrev ev (t : Ex) (A : Option Addr) (c : Nat) : Value := .agg #[.int .i64 t.op, .int .i64 t.n, .int .i64 t.unit, .slice A t.kids.length (t.kids.length + c)]
abbrev eArr (t : Ex) (A : Option Addr) (c : Nat) : Array Value := #[.int .i64 t.op, .int .i64 t.n, .int .i64 t.unit, .slice A t.kids.length (t.kids.length + c)]
mutual
def KidsE (w : World) : List Ex → Option Addr → Prop
 | [], _ => True
 | t :: ts, A => ∃ g o, A = some ⟨g, o, none⟩ ∧ OneE w t g o ∧ KidsE w ts (some ⟨g, o + 4, none⟩)
def OneE (w : World) : Ex → Nat → Nat → Prop
 | .mk k n u kids, g, o => ∃ A c, w.cell? ⟨g, o, none⟩ = some (.int .i64 k) ∧ w.cell? ⟨g, o + 1, none⟩ = some (.int .i64 n) ∧ w.cell? ⟨g, o + 2, none⟩ = some (.int .i64 u) ∧
  w.cell? ⟨g, o + 3, none⟩ = some (.slice A kids.length (kids.length + c)) ∧ kids.length ≤ maxLen ∧ KidsE w kids A
end
mutual
theorem KidsE.keep {w w' : World} (hb : ∀ k, k < w.heap.size → w'.heap[k]? = w.heap[k]?) : ∀ (ts : List Ex) (A : Option Addr), KidsE w ts A → KidsE w' ts A
 | [], _, _ => trivial
 | t :: ts, A, h => by
  unfold KidsE at h ⊢
  obtain ⟨g, o, hA, h1, h2⟩ := h
  exact ⟨g, o, hA, OneE.keep hb t g o h1, KidsE.keep hb ts _ h2⟩
theorem OneE.keep {w w' : World} (hb : ∀ k, k < w.heap.size → w'.heap[k]? = w.heap[k]?) : ∀ (t : Ex) (g o : Nat), OneE w t g o → OneE w' t g o
 | .mk k n u kids, g, o, h => by
  unfold OneE at h ⊢
  obtain ⟨A, c, h0, h1, h2, h3, h4, h5⟩ := h
  have hlt := World.block_lt_of_cell? w _ h0
  have e : ∀ i, w'.cell? ⟨g, i, none⟩ = w.cell? ⟨g, i, none⟩ := fun i => World.cell?_of_block (a := ⟨g, i, none⟩) (hb g hlt)
  exact ⟨A, c, by rw [e]; exact h0, by rw [e]; exact h1, by rw [e]; exact h2, by rw [e]; exact h3, h4, KidsE.keep hb kids A h5⟩
end
theorem KidsE.below {w w' : World} {ts : List Ex} {A : Option Addr} (h : KidsE w ts A) (hb : Below w.heap.size w w') : KidsE w' ts A := h.keep hb.block ts A
theorem KidsE.get {w : World} : ∀ (ts : List Ex) (g o : Nat), KidsE w ts (some ⟨g, o, none⟩) → ∀ (i : Nat) (t : Ex), ts[i]? = some t → OneE w t g (o + i * 4)
 | [], g, o, h, i, t, ht => by simp at ht
 | u :: us, g, o, h, i, t, ht => by
  unfold KidsE at h
  obtain ⟨g', o', hA, h1, h2⟩ := h
  cases hA
  cases i with
  | zero => simp at ht; subst ht; simpa using h1
  | succ i =>
   have := KidsE.get us g (o + 4) h2 i t (by simpa using ht)
   rw [show o + (i + 1) * 4 = o + 4 + i * 4 by omega]
   exact this
theorem KidsE.addr {w : World} {ts : List Ex} {A : Option Addr} (h : KidsE w ts A) (hn : 0 < ts.length) : ∃ g o, A = some ⟨g, o, none⟩ := by
 cases ts with
 | nil => simp at hn
 | cons t ts => unfold KidsE at h; obtain ⟨g, o, hA, _⟩ := h; exact ⟨g, o, hA⟩
theorem OneE.cells {w : World} {t : Ex} {g o : Nat} (h : OneE w t g o) : ∃ A c, (w.cell? ⟨g, o, none⟩ = some (.int .i64 t.op) ∧ w.cell? ⟨g, o + 1, none⟩ = some (.int .i64 t.n) ∧ w.cell? ⟨g, o + 2, none⟩ = some (.int .i64 t.unit) ∧
  w.cell? ⟨g, o + 3, none⟩ = some (.slice A t.kids.length (t.kids.length + c))) ∧ t.kids.length ≤ maxLen ∧ KidsE w t.kids A := by
 obtain ⟨k, n, u, kids⟩ := t
 unfold OneE at h
 obtain ⟨A, c, h0, h1, h2, h3, h4, h5⟩ := h
 exact ⟨A, c, ⟨h0, h1, h2, h3⟩, h4, h5⟩
theorem OneE.mk' {w : World} {t : Ex} {g o : Nat} {A : Option Addr} {c : Nat} (h0 : w.cell? ⟨g, o, none⟩ = some (.int .i64 t.op)) (h1 : w.cell? ⟨g, o + 1, none⟩ = some (.int .i64 t.n)) (h2 : w.cell? ⟨g, o + 2, none⟩ = some (.int .i64 t.unit))
  (h3 : w.cell? ⟨g, o + 3, none⟩ = some (.slice A t.kids.length (t.kids.length + c))) (h4 : t.kids.length ≤ maxLen) (h5 : KidsE w t.kids A) : OneE w t g o := by
 obtain ⟨k, n, u, kids⟩ := t
 unfold OneE
 exact ⟨A, c, h0, h1, h2, h3, h4, h5⟩
theorem two_kids {w : World} {b : Nat} {s t : Ex} {A B : Option Addr} {c d : Nat} {T : TypeId} (h : w.heap[b]? = some (.cells #[.int .i64 s.op, .int .i64 s.n, .int .i64 s.unit, .slice A s.kids.length (s.kids.length + c), .int .i64 t.op, .int .i64 t.n, .int .i64 t.unit, .slice B t.kids.length (t.kids.length + d)] T (0, 0)))
  (hs : s.kids.length ≤ maxLen) (ht : t.kids.length ≤ maxLen) (hA : KidsE w s.kids A) (hB : KidsE w t.kids B) : KidsE w [s, t] (some ⟨b, 0, none⟩) := by
 have e : ∀ j, w.cell? ⟨b, j, none⟩ = (#[.int .i64 s.op, .int .i64 s.n, .int .i64 s.unit, .slice A s.kids.length (s.kids.length + c), .int .i64 t.op, .int .i64 t.n, .int .i64 t.unit, .slice B t.kids.length (t.kids.length + d)] : Array Value)[j]? := fun j => cell_of_row _ _ j _ _ (0, 0) h
 unfold KidsE
 refine ⟨b, 0, rfl, OneE.mk' (A := A) (c := c) ((e 0).trans rfl) ((e 1).trans rfl) ((e 2).trans rfl) ((e 3).trans rfl) hs hA, ?_⟩
 unfold KidsE
 refine ⟨b, 4, rfl, OneE.mk' (A := B) (c := d) ((e 4).trans rfl) ((e 5).trans rfl) ((e 6).trans rfl) ((e 7).trans rfl) ht hB, ?_⟩
 unfold KidsE
 trivial
structure Vr where
 x : ByteArray
 u : Int
 lo : Int
 hi : Int
 i : Int
def VrAt (w : World) (g o : Nat) (v : Vr) : Prop :=
 w.cell? ⟨g, o, none⟩ = some (.string v.x) ∧ w.cell? ⟨g, o + 1, none⟩ = some (.int .i64 v.u) ∧ w.cell? ⟨g, o + 2, none⟩ = some (.int .i64 v.lo) ∧ w.cell? ⟨g, o + 3, none⟩ = some (.int .i64 v.hi) ∧ w.cell? ⟨g, o + 4, none⟩ = some (.int .i64 v.i)
def VarsR (w : World) (l : List Vr) (A : Option Addr) : Prop := l = [] ∨ ∃ g o, A = some ⟨g, o, none⟩ ∧ ∀ (i : Nat) (v : Vr), l[i]? = some v → VrAt w g (o + i * 5) v
theorem VarsR.keep {w w' : World} {l : List Vr} {A : Option Addr} (hb : ∀ k, k < w.heap.size → w'.heap[k]? = w.heap[k]?) (h : VarsR w l A) : VarsR w' l A := by
 rcases h with h | ⟨g, o, hA, h⟩
 ·exact .inl h
 ·refine .inr ⟨g, o, hA, fun i v hv => ?_⟩
  have h1 := h i v hv
  have hlt := World.block_lt_of_cell? w _ h1.1
  have e : ∀ i, w'.cell? ⟨g, i, none⟩ = w.cell? ⟨g, i, none⟩ := fun i => World.cell?_of_block (a := ⟨g, i, none⟩) (hb g hlt)
  unfold VrAt
  rw [e, e, e, e, e]
  exact h1
theorem VarsR.below {w w' : World} {l : List Vr} {A : Option Addr} (h : VarsR w l A) (hb : Below w.heap.size w w') : VarsR w' l A := h.keep hb.block
theorem VarsR.addr {w : World} {l : List Vr} {A : Option Addr} (h : VarsR w l A) (hn : 0 < l.length) : ∃ g o, A = some ⟨g, o, none⟩ ∧ ∀ (i : Nat) (v : Vr), l[i]? = some v → VrAt w g (o + i * 5) v := by
 rcases h with h | h
 ·subst h; simp at hn
 ·exact h
abbrev pArr (p : Pw) : Array Value := #[.int .i64 p.a, .int .i64 p.b, .int .i64 p.c]
abbrev pv (p : Pw) : Value := .agg #[.int .i64 p.a, .int .i64 p.b, .int .i64 p.c]
def pCells (p : Pw) : List Value := [.int .i64 p.a, .int .i64 p.b, .int .i64 p.c]
def PwAt (w : World) (g o : Nat) (p : Pw) : Prop := w.cell? ⟨g, o, none⟩ = some (.int .i64 p.a) ∧ w.cell? ⟨g, o + 1, none⟩ = some (.int .i64 p.b) ∧ w.cell? ⟨g, o + 2, none⟩ = some (.int .i64 p.c)
def PwsR (w : World) (l : List Pw) (A : Option Addr) : Prop := l = [] ∨ ∃ g o, A = some ⟨g, o, none⟩ ∧ ∀ (i : Nat) (p : Pw), l[i]? = some p → PwAt w g (o + i * 3) p
theorem PwsR.keep {w w' : World} {l : List Pw} {A : Option Addr} (hb : ∀ k, k < w.heap.size → w'.heap[k]? = w.heap[k]?) (h : PwsR w l A) : PwsR w' l A := by
 rcases h with h | ⟨g, o, hA, h⟩
 ·exact .inl h
 ·refine .inr ⟨g, o, hA, fun i v hv => ?_⟩
  have h1 := h i v hv
  have hlt := World.block_lt_of_cell? w _ h1.1
  have e : ∀ i, w'.cell? ⟨g, i, none⟩ = w.cell? ⟨g, i, none⟩ := fun i => World.cell?_of_block (a := ⟨g, i, none⟩) (hb g hlt)
  unfold PwAt
  rw [e, e, e]
  exact h1
theorem PwsR.below {w w' : World} {l : List Pw} {A : Option Addr} (h : PwsR w l A) (hb : Below w.heap.size w w') : PwsR w' l A := h.keep hb.block
theorem PwsR.addr {w : World} {l : List Pw} {A : Option Addr} (h : PwsR w l A) (hn : 0 < l.length) : ∃ g o, A = some ⟨g, o, none⟩ ∧ ∀ (i : Nat) (p : Pw), l[i]? = some p → PwAt w g (o + i * 3) p := by
 rcases h with h | h
 ·subst h; simp at hn
 ·exact h
def psCells (l : List Pw) : List Value := l.flatMap pCells
theorem psCells_snoc (l : List Pw) (p : Pw) : psCells (l ++ [p]) = psCells l ++ pCells p := by simp [psCells]
theorem psCells_at : ∀ (l : List Pw) (i : Nat) (p : Pw), l[i]? = some p → (psCells l)[i * 3]? = some (.int .i64 p.a) ∧ (psCells l)[i * 3 + 1]? = some (.int .i64 p.b) ∧ (psCells l)[i * 3 + 2]? = some (.int .i64 p.c)
 | [], i, p, h => by simp at h
 | q :: l, 0, p, h => by
  simp at h
  subst h
  exact ⟨rfl, rfl, rfl⟩
 | q :: l, i + 1, p, h => by
  have h1 := psCells_at l i p (by simpa using h)
  have e : ∀ j, (psCells (q :: l))[j + 3]? = (psCells l)[j]? := fun j => by
   show (pCells q ++ psCells l)[j + 3]? = _
   rw [List.getElem?_append_right (by simp [pCells])]
   simp [pCells]
  rw [show (i + 1) * 3 = i * 3 + 3 by omega, show i * 3 + 3 + 1 = i * 3 + 1 + 3 by omega, show i * 3 + 3 + 2 = i * 3 + 2 + 3 by omega, e, e, e]
  exact h1
theorem own_pws {w : World} {B : Nat} {v : Value} {l : List Pw} {T : TypeId} (h : w.ownsRow B T 3 v l.length (psCells l)) : ∃ A c, v = .slice A l.length (l.length + c) ∧ PwsR w l A := by
 rcases h.2 with ⟨rfl, h0⟩ | ⟨g, cap, cur, rfl, hb, hg, hn, hc, hs, ht⟩
 ·obtain rfl : l = [] := List.eq_nil_of_length_eq_zero h0
  exact ⟨none, 0, rfl, .inl rfl⟩
 ·refine ⟨_, cap - l.length, by rw [Nat.add_sub_cancel' hn], .inr ⟨g, 0, rfl, fun i p hp => ?_⟩⟩
  have h1 := h.cells (g := g) rfl
  have hadd : ∀ j, (⟨g, 0, none⟩ : Addr).add j = ⟨g, 0 + j, none⟩ := fun j => by unfold Addr.add; split <;> simp_all
  obtain ⟨e0, e1, e2⟩ := psCells_at l i p hp
  have a0 := h1 _ _ e0
  have a1 := h1 _ _ e1
  have a2 := h1 _ _ e2
  rw [hadd] at a0 a1 a2
  exact ⟨a0, a1, a2⟩
def BB (b : Bool) (w : World) (e : Ending) (w' : World) : Prop := e = .returned (.bool b) ∧ Below w.heap.size w w'
def VV (v : Value) (w : World) (e : Ending) (w' : World) : Prop := e = .returned v ∧ Below w.heap.size w w'
theorem btw_iff {n lo hi : Int} : btw n lo hi = true ↔ lo ≤ n ∧ n ≤ hi := by simp [btw]
end Go.Proofs.YtljknappbnoikaaGreatDoor.U
namespace Go.Proofs.YtljknappbnoikaaGreatDoor.U
open Go.RowKit
theorem cells3 {w : World} {b : Nat} {v0 v1 v2 : Value} {T : TypeId} (h : w.heap[b]? = some (.cells #[v0, v1, v2] T (0, 0))) :
  (w.cell? ⟨b, 0, none⟩ = some v0 ∧ w.cell? ⟨b, 1, none⟩ = some v1 ∧ w.cell? ⟨b, 2, none⟩ = some v2) ∧ w.frozen? ⟨b, 0, none⟩ = false ∧ w.frozen? ⟨b, 1, none⟩ = false ∧ w.frozen? ⟨b, 2, none⟩ = false := by
 refine ⟨⟨?_, ?_, ?_⟩, ?_, ?_, ?_⟩
 ·rw [cell_of_row _ _ 0 _ _ (0, 0) h]; rfl
 ·rw [cell_of_row _ _ 1 _ _ (0, 0) h]; rfl
 ·rw [cell_of_row _ _ 2 _ _ (0, 0) h]; rfl
 all_goals simp [World.frozen?, h]
theorem below3 {B b : Nat} {a w : World} {v0 v1 v2 : Value} (h : Below B a w) (hb : B ≤ b) : Below B a (((w.setCell ⟨b, 0, none⟩ v0).setCell ⟨b, 1, none⟩ v1).setCell ⟨b, 2, none⟩ v2) :=
 ((h.setCell hb _).setCell hb _).setCell hb _
theorem res3 {w : World} {b : Nat} {v0 v1 v2 x y z : Value} {T : TypeId} (h : w.heap[b]? = some (.cells #[v0, v1, v2] T (0, 0))) :
  (w.setCell ⟨b, 0, none⟩ x).cell? ⟨b, 0, none⟩ = some x ∧ ((w.setCell ⟨b, 0, none⟩ x).setCell ⟨b, 1, none⟩ y).cell? ⟨b, 1, none⟩ = some y ∧ (((w.setCell ⟨b, 0, none⟩ x).setCell ⟨b, 1, none⟩ y).setCell ⟨b, 2, none⟩ z).cell? ⟨b, 2, none⟩ = some z := by
 have g0 : (w.setCell ⟨b, 0, none⟩ x).heap[b]? = some (.cells #[x, v1, v2] T (0, 0)) := by rw [heap_setCell_same w b 0 _ _ _ h]; simp
 have g1 : ((w.setCell ⟨b, 0, none⟩ x).setCell ⟨b, 1, none⟩ y).heap[b]? = some (.cells #[x, y, v2] T (0, 0)) := by rw [heap_setCell_same _ b 1 _ _ _ g0]; simp
 have g2 : (((w.setCell ⟨b, 0, none⟩ x).setCell ⟨b, 1, none⟩ y).setCell ⟨b, 2, none⟩ z).heap[b]? = some (.cells #[x, y, z] T (0, 0)) := by rw [heap_setCell_same _ b 2 _ _ _ g1]; simp
 exact ⟨(cells3 g0).1.1, (cells3 g1).1.2.1, (cells3 g2).1.2.2⟩
structure LaidW (w : World) : Prop where
 kinds : ∀ k : Nat, k < 5 → PwAt w 1 (k * 3) (kindP k)
 inputs : ∀ k : Nat, k < 4 → w.cell? ⟨3, k, none⟩ = some (.int .i64 (inpK k))
theorem LaidW.keep {w w' : World} (h : LaidW w) (hb : ∀ k, k < w.heap.size → w'.heap[k]? = w.heap[k]?) : LaidW w' := by
 have l0 := World.block_lt_of_cell? w _ (h.kinds 0 (by decide)).1
 have l1 := World.block_lt_of_cell? w _ (h.inputs 0 (by decide))
 have e0 : ∀ i, w'.cell? ⟨1, i, none⟩ = w.cell? ⟨1, i, none⟩ := fun i => World.cell?_of_block (a := ⟨1, i, none⟩) (hb _ l0)
 have e1 : ∀ i, w'.cell? ⟨3, i, none⟩ = w.cell? ⟨3, i, none⟩ := fun i => World.cell?_of_block (a := ⟨3, i, none⟩) (hb _ l1)
 refine ⟨fun k hk => ?_, fun k hk => (e1 k).trans (h.inputs k hk)⟩
 have := h.kinds k hk
 unfold PwAt at this ⊢
 rw [e0, e0, e0]
 exact this
theorem LaidW.below {w w' : World} (h : LaidW w) (hb : Below w.heap.size w w') : LaidW w' := h.keep hb.block
theorem between_any (n lo hi : Int) (w : World) : Calls Tryz.prog 100 #[.int .i64 n, .int .i64 lo, .int .i64 hi] w (fun e w' => e = .returned (.bool (btw n lo hi)) ∧ w' = w) := by
 go_enter Tryz.func100, Tryz.ntmps100
 go_wp2
 all_goals
  go_ret
  refine ⟨?_, rfl⟩
  simp [btw, *]
 all_goals omega
theorem isIndex_any (n len : Int) (h : 0 ≤ len ∧ len ≤ 1000000000000000) (w : World) : Calls Tryz.prog 83 #[.int .i64 n, .int .i64 len] w (fun e w' => e = .returned (.bool (btw n 0 (len - 1))) ∧ w' = w) := by
 have q0 : IntKind.i64.wrap (len - 1) = len - 1 := IntWalk.i64_in _ (by omega)
 go_enter Tryz.func83, Tryz.ntmps83
 go_wp2_with (go_at_call 100; refine (between_any _ _ _ _).mono ?_; rintro e w1 ⟨rfl, rfl⟩)
 go_ret
 exact ⟨rfl, rfl⟩
theorem isKind_any (n : Int) (w : World) : Calls Tryz.prog 70 #[.int .i64 n] w (fun e w' => e = .returned (.bool (btw n 0 4)) ∧ w' = w) := by
 go_enter Tryz.func70, Tryz.ntmps70
 go_wp2_with (go_at_call 83; refine (isIndex_any _ 5 (by decide) _).mono ?_; rintro e w1 ⟨rfl, rfl⟩)
 go_ret
 exact ⟨rfl, rfl⟩
theorem need_any (b : Bool) (er : Int) (w : World) : Calls Tryz.prog 139 #[.bool b, .int .i64 er] w (fun e w' => (if b then e = .returned (.tuple #[]) else e = .panicked [{ v := .iface 34 (.int .i64 er), recovered := false }]) ∧ w' = w) := by
 cases b
 ·go_enter Tryz.func139, Tryz.ntmps139
  go_wp2
  exact ⟨rfl, rfl, rfl⟩
 ·go_enter Tryz.func139, Tryz.ntmps139
  go_wp2
  exact ⟨rfl, .tuple #[], by simp [results, Tryz.results139, go_sem], rfl, rfl⟩
theorem ix_run (v0 v1 v2 : Value) (w : World) :
  (Instr.index 125 (.agg #[v0, v1, v2]) (.int .i64 0)).run Tryz.prog w = .ok v0 w ∧ (Instr.index 125 (.agg #[v0, v1, v2]) (.int .i64 1)).run Tryz.prog w = .ok v1 w ∧ (Instr.index 125 (.agg #[v0, v1, v2]) (.int .i64 2)).run Tryz.prog w = .ok v2 w := by
 refine ⟨?_, ?_, ?_⟩ <;> simp [Instr.index, run_underlying Tryz.underlying125, asIntOf, go_sem]
theorem inRange_any (p : Pw) (w : World) : Calls Tryz.prog 154 #[pv p] w (BB (rgB p) w) := by
 have hb := Lib.hid ((Below.refl w.heap.size w).alloc (Nat.le_refl _) (.cells (pArr p) 125))
 have hr : rgB p = (btw p.a (-4) 4 && (btw p.b (-4) 4 && btw p.c (-4) 4)) := rfl
 rw [hr]
 have h0 := Lib.hid (fun w => between_any p.a (-4) 4 w)
 have h1 := Lib.hid (fun w => between_any p.b (-4) 4 w)
 have h2 := Lib.hid (fun w => between_any p.c (-4) 4 w)
 generalize btw p.a (-4) 4 = t0 at *
 generalize btw p.b (-4) 4 = t1 at *
 generalize btw p.c (-4) 4 = t2 at *
 clear hr
 obtain ⟨r, hr⟩ : ∃ r, (t0 && (t1 && t2)) = r := ⟨_, rfl⟩
 rw [hr]
 have hR : Hid (([t0, t1, t2].drop 0).all id = r) := Lib.hid (by rw [← hr]; simp)
 clear hr
 have ix0 := fun w => (ix_run (.int .i64 p.a) (.int .i64 p.b) (.int .i64 p.c) w).1
 have ix1 := fun w => (ix_run (.int .i64 p.a) (.int .i64 p.b) (.int .i64 p.c) w).2.1
 have ix2 := fun w => (ix_run (.int .i64 p.a) (.int .i64 p.b) (.int .i64 p.c) w).2.2
 go_enter Tryz.func154, Tryz.ntmps154
 go_wp2_with fail
 go_loopg [6] 3 (fun gk i wr => ∃ (j : Nat), j + gk = 3 ∧ i = .int .i64 j ∧ Hid (([t0, t1, t2].drop j).all id = r) ∧ Hid (Below w.heap.size w wr))
 case atStart => exact ⟨0, rfl, rfl, hR, hb⟩
 case round =>
  obtain ⟨j, hj, rfl, hS, hW⟩ := hrel
  match j, hj with
  | 0, hj =>
   obtain rfl : gk = 3 := by omega
   have hS := hS.out
   cases t0
   ·have hF : Hid (false = r) := Lib.hid (by rw [← hS]; simp)
    clear hS
    go_wp2_with (go_at_call 100; refine (h0.out _).mono ?_; rintro e w1 ⟨rfl, rfl⟩)
    go_ret
    exact ⟨by rw [← hF.out]; rfl, hW.out⟩
   ·have hF : Hid (([true, t1, t2].drop 1).all id = r) := Lib.hid (by rw [← hS]; simp)
    clear hS
    go_wp2_with (go_at_call 100; refine (h0.out _).mono ?_; rintro e w1 ⟨rfl, rfl⟩)
    go_roundg 2
    case measure => omega
    case rel => exact ⟨1, by omega, by go_num, hF, hW⟩
  | 1, hj =>
   obtain rfl : gk = 2 := by omega
   have hS := hS.out
   cases t1
   ·have hF : Hid (false = r) := Lib.hid (by rw [← hS]; simp)
    clear hS
    go_wp2_with (go_at_call 100; refine (h1.out _).mono ?_; rintro e w1 ⟨rfl, rfl⟩)
    go_ret
    exact ⟨by rw [← hF.out]; rfl, hW.out⟩
   ·have hF : Hid (([t0, true, t2].drop 2).all id = r) := Lib.hid (by rw [← hS]; simp)
    clear hS
    go_wp2_with (go_at_call 100; refine (h1.out _).mono ?_; rintro e w1 ⟨rfl, rfl⟩)
    go_roundg 1
    case measure => omega
    case rel => exact ⟨2, by omega, by go_num, hF, hW⟩
  | 2, hj =>
   obtain rfl : gk = 1 := by omega
   have hS := hS.out
   cases t2
   ·have hF : Hid (false = r) := Lib.hid (by rw [← hS]; simp)
    clear hS
    go_wp2_with (go_at_call 100; refine (h2.out _).mono ?_; rintro e w1 ⟨rfl, rfl⟩)
    go_ret
    exact ⟨by rw [← hF.out]; rfl, hW.out⟩
   ·have hF : Hid (([t0, t1, true].drop 3).all id = r) := Lib.hid (by rw [← hS]; simp)
    clear hS
    go_wp2_with (go_at_call 100; refine (h2.out _).mono ?_; rintro e w1 ⟨rfl, rfl⟩)
    go_roundg 0
    case measure => omega
    case rel => exact ⟨3, by omega, by go_num, hF, hW⟩
  | j + 3, hj =>
   obtain rfl : j = 0 := by omega
   obtain rfl : gk = 0 := by omega
   have hF : Hid (true = r) := Lib.hid (by have := hS.out; rw [← this]; simp)
   go_wp2_with fail
   go_ret
   exact ⟨by rw [← hF.out]; rfl, hW.out⟩
end Go.Proofs.YtljknappbnoikaaGreatDoor.U
