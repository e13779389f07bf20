/- Texts of one proof: PxD, PxE, UxA, UxB, CxA, CxB. -/
import Derived.Test.YtdlebaiamdbneaaGreatDoorZb
import Derived.Deep.AppendLies
import Derived.Deep.RegionLaw
import Derived.WalkLawsBesides
import Derived.Test.YtdlebaiamdbneaaGreatDoorRows
import Derived.WalkKit
import Derived.LoopTactic
import Derived.Outline
import Derived.Deep.QuietTactic
import Derived.Deep.LoopGhost
import Derived.Deep.RegionWith
import Derived.BigQuiet
import Derived.BigCall
import Derived.OwnWalk
import Derived.WalkMore
import Derived.Laws.AppendOwn
import Derived.Laws.Rows
import Derived.Laws.NewBlocks
import Derived.Lib.Hide
import Derived.Below
import Derived.IntWalk
set_option linter.unusedVariables false
set_option linter.unusedSimpArgs false
set_option maxRecDepth 100000
set_option maxHeartbeats 8000000
namespace Go.Proofs.YtdlebaiamdbneaaGreatDoor
open Go.RowKit
theorem new_strs (W : World) (arr : Array Value) (T : TypeId) (ws : List ByteArray) (h : arr = (ws.map Value.string).toArray) : StrS (W.alloc (.cells arr T)) W.heap.size ws := by
 intro i x hx
 rw [cell_of_row _ _ i _ T (0, 0) (heap_alloc_new W _)]
 subst h
 simpa using hx
end Go.Proofs.YtdlebaiamdbneaaGreatDoor
namespace Go.Proofs.YtdlebaiamdbneaaGreatDoor
open Go.RowKit
inductive Nd where
 | mk (kind : Int) (name : ByteArray) (n unit at0 : Int) (kids : List Nd)
def Nd.kind : Nd → Int | .mk k _ _ _ _ _ => k
def Nd.name : Nd → ByteArray | .mk _ x _ _ _ _ => x
def Nd.n : Nd → Int | .mk _ _ n _ _ _ => n
def Nd.unit : Nd → Int | .mk _ _ _ u _ _ => u
def Nd.at0 : Nd → Int | .mk _ _ _ _ a _ => a
def Nd.kids : Nd → List Nd | .mk _ _ _ _ _ l => l
def nCells (t : Nd) (A : Option Addr) (c : Nat) : List Value := [.int .i64 t.kind, .string t.name, .int .i64 t.n, .int .i64 t.unit, .int .i64 t.at0, .slice A t.kids.length (t.kids.length + c)]
mutual
def KidsR (w : World) (P : Nat → Prop) : List Nd → Option Addr → Prop
 | [], _ => True
 | t :: ts, A => ∃ g o, A = some ⟨g, o, none⟩ ∧ P g ∧ OneR w P t g o ∧ KidsR w P ts (some ⟨g, o + 6, none⟩)
def OneR (w : World) (P : Nat → Prop) : Nd → Nat → Nat → Prop
 | .mk k x n u a kids, g, o => ∃ A c, w.cell? ⟨g, o, none⟩ = some (.int .i64 k) ∧ w.cell? ⟨g, o + 1, none⟩ = some (.string x) ∧ w.cell? ⟨g, o + 2, none⟩ = some (.int .i64 n) ∧
  w.cell? ⟨g, o + 3, none⟩ = some (.int .i64 u) ∧ w.cell? ⟨g, o + 4, none⟩ = some (.int .i64 a) ∧ w.cell? ⟨g, o + 5, none⟩ = some (.slice A kids.length (kids.length + c)) ∧ KidsR w P kids A
end
mutual
theorem KidsR.keep {w w' : World} {P P' : Nat → Prop} (hb : ∀ k, P k → k < w.heap.size → w'.heap[k]? = w.heap[k]? ∧ P' k) : ∀ (ts : List Nd) (A : Option Addr), KidsR w P ts A → KidsR w' P' ts A
 | [], _, _ => trivial
 | t :: ts, A, h => by
  unfold KidsR at h ⊢
  obtain ⟨g, o, hA, hg, h1, h2⟩ := h
  obtain ⟨h3, h4⟩ := OneR.keep hb t g o hg h1
  exact ⟨g, o, hA, h4, h3, KidsR.keep hb ts _ h2⟩
theorem OneR.keep {w w' : World} {P P' : Nat → Prop} (hb : ∀ k, P k → k < w.heap.size → w'.heap[k]? = w.heap[k]? ∧ P' k) : ∀ (t : Nd) (g o : Nat), P g → OneR w P t g o → OneR w' P' t g o ∧ P' g
 | .mk k x n u a kids, g, o, hg, h => by
  unfold OneR at h ⊢
  obtain ⟨A, c, h0, h1, h2, h3, h4, h5, h6⟩ := h
  have hlt := World.block_lt_of_cell? w _ h0
  have e : ∀ i, w'.cell? ⟨g, i, none⟩ = w.cell? ⟨g, i, none⟩ := fun i => World.cell?_of_block (a := ⟨g, i, none⟩) (hb g hg hlt).1
  exact ⟨⟨A, c, by rw [e]; exact h0, by rw [e]; exact h1, by rw [e]; exact h2, by rw [e]; exact h3, by rw [e]; exact h4, by rw [e]; exact h5, KidsR.keep hb kids A h6⟩, (hb g hg hlt).2⟩
end
def RowsR (w : World) (P : Nat → Prop) : List Nd → List Value → Prop
 | [], vs => vs = []
 | t :: ts, vs => ∃ A c rest, vs = nCells t A c ++ rest ∧ KidsR w P t.kids A ∧ RowsR w P ts rest
theorem RowsR.keep {w w' : World} {P P' : Nat → Prop} (hb : ∀ k, P k → k < w.heap.size → w'.heap[k]? = w.heap[k]? ∧ P' k) : ∀ (ts : List Nd) (vs : List Value), RowsR w P ts vs → RowsR w' P' ts vs
 | [], _, h => h
 | t :: ts, vs, h => by
  obtain ⟨A, c, rest, h1, h2, h3⟩ := h
  exact ⟨A, c, rest, h1, KidsR.keep hb _ _ h2, RowsR.keep hb ts rest h3⟩
theorem RowsR.app {w : World} {P : Nat → Prop} {us : List Nd} {vs' : List Value} (h' : RowsR w P us vs') : ∀ (ts : List Nd) (vs : List Value), RowsR w P ts vs → RowsR w P (ts ++ us) (vs ++ vs')
 | [], vs, h => by unfold RowsR at h; subst h; exact h'
 | t :: ts, vs, h => by
  obtain ⟨A, c, rest, h1, h2, h3⟩ := h
  exact ⟨A, c, rest ++ vs', by rw [h1, List.append_assoc], h2, RowsR.app h' ts rest h3⟩
theorem RowsR.one {w : World} {P : Nat → Prop} (t : Nd) (A : Option Addr) (c : Nat) (h : KidsR w P t.kids A) : RowsR w P [t] (nCells t A c) :=
 ⟨A, c, [], by simp, h, rfl⟩
theorem RowsR.kids {w : World} {P : Nat → Prop} {g : Nat} (hg : P g) : ∀ (ts : List Nd) (vs : List Value) (o : Nat), RowsR w P ts vs → (∀ j u, vs[j]? = some u → w.cell? ⟨g, o + j, none⟩ = some u) → KidsR w P ts (some ⟨g, o, none⟩)
 | [], _, _, _, _ => trivial
 | t :: ts, vs, o, h, hc => by
  obtain ⟨A, c, rest, rfl, h2, h3⟩ := h
  unfold KidsR
  refine ⟨g, o, rfl, hg, ?_, RowsR.kids hg ts rest (o + 6) h3 (fun j u hu => ?_)⟩
  ·obtain ⟨k, x, n, u, a, kids⟩ := t
   unfold OneR
   exact ⟨A, c, hc 0 _ rfl, hc 1 _ rfl, hc 2 _ rfl, hc 3 _ rfl, hc 4 _ rfl, hc 5 _ rfl, h2⟩
  ·rw [show o + 6 + j = o + (6 + j) by omega]
   refine hc (6 + j) u ?_
   rw [List.getElem?_append_right (by simp [nCells])]
   simpa [nCells] using hu
abbrev nv (t : Nd) (A : Option Addr) (c : Nat) : Value := .agg #[.int .i64 t.kind, .string t.name, .int .i64 t.n, .int .i64 t.unit, .int .i64 t.at0, .slice A t.kids.length (t.kids.length + c)]
def From (B : Nat) (k : Nat) : Prop := B ≤ k
def Beside (B : Nat) (v : Value) (k : Nat) : Prop := B ≤ k ∧ v.ownBlock ≠ some k
def VNds (B : Nat) (w : World) (v : Value) (ts : List Nd) : Prop := ∃ vs, w.ownsRow B 82 6 v ts.length vs ∧ RowsR w (Beside B v) ts vs
theorem VNds.kids {B : Nat} {w : World} {v : Value} {ts : List Nd} (h : VNds B w v ts) : ∃ A c, v = .slice A ts.length (ts.length + c) ∧ KidsR w (From B) ts A := by
 obtain ⟨vs, h1, h2⟩ := h
 rcases h1.2 with ⟨rfl, h0⟩ | ⟨g, cap, cur, rfl, hb, hg, hn, hc, hs, ht⟩
 ·obtain rfl : ts = [] := List.eq_nil_of_length_eq_zero h0
  exact ⟨none, 0, rfl, trivial⟩
 ·have h2' : RowsR w (From B) ts vs := h2.keep (fun k hk _ => ⟨rfl, hk.1⟩)
  refine ⟨_, cap - ts.length, by rw [Nat.add_sub_cancel' hn], h2'.kids hb ts vs 0 (fun j u hu => ?_)⟩
  have := h1.cells (g := g) rfl j u hu
  have hadd : (⟨g, 0, none⟩ : Addr).add j = ⟨g, 0 + j, none⟩ := by unfold Addr.add; split <;> simp_all
  rw [hadd] at this
  exact this
theorem VNds.nil (B : Nat) (w : World) : VNds B w (.slice none 0 0) [] := ⟨[], World.ownsRow_nil _ _ _ _, rfl⟩
theorem ownsRow_low {w : World} {base base' : Nat} {e : TypeId} {size : Nat} {v : Value} {n : Nat} {xs : List Value} (hb : base' ≤ base) (h : w.ownsRow base e size v n xs) : w.ownsRow base' e size v n xs := by
 refine ⟨h.1, ?_⟩
 rcases h.2 with hn | ⟨g, cap, cur, hv, h1, rest⟩
 ·exact .inl hn
 ·exact .inr ⟨g, cap, cur, hv, Nat.le_trans hb h1, rest⟩
theorem VNds.keep {B : Nat} {w w' : World} {v : Value} {ts : List Nd} (hb : ∀ k, B ≤ k → k < w.heap.size → w'.heap[k]? = w.heap[k]?) (h : VNds B w v ts) : VNds B w' v ts := by
 obtain ⟨vs, h1, h2⟩ := h
 refine ⟨vs, ⟨h1.1, ?_⟩, h2.keep (fun k hk hl => ⟨hb k hk.1 hl, hk⟩)⟩
 rcases h1.2 with hn | ⟨g, cap, cur, hv, hg, hh, rest⟩
 ·exact .inl hn
 ·exact .inr ⟨g, cap, cur, hv, hg, by rw [hb g hg (Array.getElem?_eq_some_iff.1 hh).1]; exact hh, rest⟩
theorem cells6 {w : World} {b : Nat} {v0 v1 v2 v3 v4 v5 : Value} {T : TypeId} (h : w.heap[b]? = some (.cells #[v0, v1, v2, v3, v4, v5] T (0, 0))) :
  (w.cell? ⟨b, 0, none⟩ = some v0 ∧ w.cell? ⟨b, 1, none⟩ = some v1 ∧ w.cell? ⟨b, 2, none⟩ = some v2 ∧ w.cell? ⟨b, 3, none⟩ = some v3 ∧ w.cell? ⟨b, 4, none⟩ = some v4 ∧ w.cell? ⟨b, 5, none⟩ = some v5) ∧
  (w.frozen? ⟨b, 0, none⟩ = false ∧ w.frozen? ⟨b, 1, none⟩ = false ∧ w.frozen? ⟨b, 2, none⟩ = false ∧ w.frozen? ⟨b, 3, none⟩ = false ∧ w.frozen? ⟨b, 4, none⟩ = false ∧ w.frozen? ⟨b, 5, none⟩ = false) := by
 refine ⟨⟨?_, ?_, ?_, ?_, ?_, ?_⟩, ?_, ?_, ?_, ?_, ?_, ?_⟩
 ·rw [cell_of_row _ _ 0 _ _ (0, 0) h]; rfl
 ·rw [cell_of_row _ _ 1 _ _ (0, 0) h]; rfl
 ·rw [cell_of_row _ _ 2 _ _ (0, 0) h]; rfl
 ·rw [cell_of_row _ _ 3 _ _ (0, 0) h]; rfl
 ·rw [cell_of_row _ _ 4 _ _ (0, 0) h]; rfl
 ·rw [cell_of_row _ _ 5 _ _ (0, 0) h]; rfl
 all_goals simp [World.frozen?, h]
theorem gbRefl (w : World) (r : Option Nat) : w.grownBy w r := ⟨rfl, rfl, rfl, Nat.le_refl _, fun _ _ _ => rfl⟩
theorem gbSet {w w' : World} {b i : Nat} {v : Value} (h : w.grownBy w' (some b)) : w.grownBy (w'.setCell ⟨b, i, none⟩ v) (some b) :=
 ⟨h.os, h.tape, h.output, by simpa using h.size, fun k hk hn => (heap_setCell_other w' _ k v (fun e => hn (by rw [e]))).trans (h.block k hk hn)⟩
theorem gbAlloc {w w' : World} {r : Option Nat} {o : Obj} (h : w.grownBy w' r) : w.grownBy (w'.alloc o) r :=
 ⟨h.os, h.tape, h.output, by have := h.size; simp; omega, fun k hk hn => (Below.heap_alloc w' o k (Nat.lt_of_lt_of_le hk h.size)).trans (h.block k hk hn)⟩
theorem gbTrans {a b c : World} {r : Option Nat} (h : a.grownBy b r) (k : b.grownBy c r) : a.grownBy c r :=
 ⟨k.os.trans h.os, k.tape.trans h.tape, k.output.trans h.output, Nat.le_trans h.size k.size, fun i hi hn => (k.block i (Nat.lt_of_lt_of_le hi h.size) hn).trans (h.block i hi hn)⟩
abbrev zeroNd : Array Value := #[.int .i64 0, .string ⟨#[]⟩, .int .i64 0, .int .i64 0, .int .i64 0, .slice none 0 0]
end Go.Proofs.YtdlebaiamdbneaaGreatDoor
namespace Go.Proofs.YtdlebaiamdbneaaGreatDoor.U
inductive Ex where
 | mk (op n unit : Int) (kids : List Ex)
def Ex.op : Ex → Int | .mk o _ _ _ => o
def Ex.n : Ex → Int | .mk _ n _ _ => n
def Ex.unit : Ex → Int | .mk _ _ u _ => u
def Ex.kids : Ex → List Ex | .mk _ _ _ l => l
mutual
def Ex.size : Ex → Nat
 | .mk _ _ _ ks => 1 + szK ks
def szK : List Ex → Nat
 | [] => 0
 | k :: ks => k.size + szK ks
end
mutual
def spE : Ex → Int → Int
 | .mk _ _ _ ks, n => spK ks (n - 1)
def spK : List Ex → Int → Int
 | [], n => n
 | k :: ks, n => if 0 ≤ n then spK ks (spE k n) else n
end
mutual
theorem spE_max : ∀ (t : Ex) (n : Int), 0 ≤ n → spE t n = max (n - t.size) (-1)
 | .mk _ _ _ ks, n, h => by
  rw [spE, spK_max ks (n - 1) (by omega), Ex.size]
  omega
theorem spK_max : ∀ (ks : List Ex) (n : Int), -1 ≤ n → spK ks n = max (n - szK ks) (-1)
 | [], n, h => by rw [spK, szK]; omega
 | k :: ks, n, h => by
  rw [spK, szK]
  by_cases h0 : 0 ≤ n
  ·have h1 := spE_max k n h0
   rw [if_pos h0, spK_max ks _ (by omega)]
   omega
  ·rw [if_neg h0]
   omega
end
mutual
def rsE : Ex → Int → Int
 | .mk _ _ _ ks, b => rsK ks b 1
def rsK : List Ex → Int → Int → Int
 | [], _, n => n
 | k :: ks, b, n => if n ≤ b then rsK ks b (n + rsE k (b - n)) else n
end
mutual
theorem rsE_min : ∀ (t : Ex) (b : Int), 0 ≤ b → rsE t b = min (t.size : Int) (b + 1)
 | .mk _ _ _ ks, b, h => by
  rw [rsE, rsK_min ks b 1 (by omega), Ex.size]
  omega
theorem rsK_min : ∀ (ks : List Ex) (b n : Int), n ≤ b + 1 → rsK ks b n = min (n + szK ks) (b + 1)
 | [], b, n, h => by rw [rsK, szK]; omega
 | k :: ks, b, n, h => by
  rw [rsK, szK]
  by_cases h0 : n ≤ b
  ·have h1 := rsE_min k (b - n) (by omega)
   rw [if_pos h0, rsK_min ks b _ (by omega)]
   omega
  ·rw [if_neg h0]
   omega
end
theorem Ex.size_pos (t : Ex) : 0 < t.size := by cases t; rw [Ex.size]; omega
structure Pw where
 a : Int
 b : Int
 c : Int
deriving DecidableEq
def btw (n lo hi : Int) : Bool := decide (lo ≤ n) && decide (n ≤ hi)
def kindP (k : Int) : Pw := if k = 1 then ⟨1, 0, 0⟩ else if k = 2 then ⟨0, 1, 0⟩ else if k = 3 then ⟨0, 0, 1⟩ else if k = 4 then ⟨0, 1, -1⟩ else ⟨0, 0, 0⟩
def inpK (n : Int) : Int := if n = 1 then 3 else if n = 2 then 2 else 1
def rgB (p : Pw) : Bool := btw p.a (-4) 4 && (btw p.b (-4) 4 && btw p.c (-4) 4)
def addP (p q : Pw) (z : Int) : Pw := ⟨p.a + z * q.a, p.b + z * q.b, p.c + z * q.c⟩
def limP (p : Pw) : Except Int Pw := if rgB p then .ok p else .error 13
def formB (len : Nat) (op n u : Int) (k : Nat) : Bool :=
 if op = 1 then decide (k = 0) && (btw n 0 1000000000 && btw u 0 4)
 else if op = 2 then decide (k = 0) && btw n 0 ((len : Int) - 1)
 else if op = 3 then decide (k = 0) && btw n 0 3
 else decide (k = 2) && btw op 4 10
def twoP (op : Int) (p q : Pw) : Except Int Pw :=
 if op = 6 then limP (addP p q 1) else if op = 7 ∨ op = 8 then limP (addP p q (-1)) else if p = q then .ok p else .error 13
def nodeP (s : List Pw) (op n u : Int) (ps : List Pw) : Except Int Pw :=
 if formB s.length op n u ps.length then
  if op = 1 then .ok (kindP u) else if op = 2 then .ok (s.getD n.toNat ⟨0, 0, 0⟩) else if op = 3 then .ok (kindP (inpK n))
  else twoP op (ps.getD 0 ⟨0, 0, 0⟩) (ps.getD 1 ⟨0, 0, 0⟩)
 else .error 1
mutual
def inf (s : List Pw) : Ex → Except Int Pw
 | .mk op n u ks => match infK s ks with
  | .error e => .error e
  | .ok ps => nodeP s op n u ps
def infK (s : List Pw) : List Ex → Except Int (List Pw)
 | [] => .ok []
 | k :: ks => match inf s k with
  | .error e => .error e
  | .ok p => match infK s ks with
   | .error e => .error e
   | .ok ps => .ok (p :: ps)
end
def infG (s : List Pw) (op n u : Int) (acc : List Pw) (ks : List Ex) : Except Int Pw :=
 match infK s ks with
 | .error e => .error e
 | .ok ps => nodeP s op n u (acc ++ ps)
theorem inf_G (s : List Pw) (op n u : Int) (ks : List Ex) : inf s (.mk op n u ks) = infG s op n u [] ks := by rw [inf, infG]; rfl
theorem infG_nil (s : List Pw) (op n u : Int) (acc : List Pw) : infG s op n u acc [] = nodeP s op n u acc := by simp [infG, infK]
theorem infG_err {s : List Pw} {op n u : Int} {acc : List Pw} {k : Ex} {ks : List Ex} {e : Int} (h : inf s k = .error e) : infG s op n u acc (k :: ks) = .error e := by
 simp [infG, infK, h]
theorem infG_ok {s : List Pw} {op n u : Int} {acc : List Pw} {k : Ex} {ks : List Ex} {p : Pw} (h : inf s k = .ok p) : infG s op n u acc (k :: ks) = infG s op n u (acc ++ [p]) ks := by
 simp only [infG, infK, h]
 rcases infK s ks with e | ps <;> simp
theorem infK_len {s : List Pw} : ∀ {ks : List Ex} {ps : List Pw}, infK s ks = .ok ps → ps.length = ks.length
 | [], ps, h => by simp [infK] at h; subst h; rfl
 | k :: ks, ps, h => by
  simp only [infK] at h
  rcases hk : inf s k with e | p <;> rw [hk] at h <;> simp at h
  rcases hks : infK s ks with e | qs <;> rw [hks] at h <;> simp at h
  subst h
  simp [infK_len hks]
theorem kindP_rg (k : Int) : rgB (kindP k) = true := by unfold kindP; (repeat' split) <;> rfl
def allRg (s : List Pw) : Prop := ∀ p ∈ s, rgB p = true
theorem getD_rg {s : List Pw} (h : allRg s) (i : Nat) : rgB (s.getD i ⟨0, 0, 0⟩) = true := by
 rw [List.getD_eq_getElem?_getD]
 rcases hi : s[i]? with _ | p
 ·rfl
 ·exact h p (List.mem_of_getElem? hi)
theorem limP_rg {p q : Pw} (h : limP p = .ok q) : rgB q = true := by
 unfold limP at h
 split at h <;> simp at h
 subst h; assumption
theorem nodeP_rg {s : List Pw} (hs : allRg s) {op n u : Int} {ps : List Pw} (hp : allRg ps) {q : Pw} (h : nodeP s op n u ps = .ok q) : rgB q = true := by
 unfold nodeP at h
 split at h
 ·split at h
  ·simp at h; subst h; exact kindP_rg _
  ·split at h
   ·simp only [Except.ok.injEq] at h; subst h; exact getD_rg hs _
   ·split at h
    ·simp at h; subst h; exact kindP_rg _
    ·unfold twoP at h
     split at h
     ·exact limP_rg h
     ·split at h
      ·exact limP_rg h
      ·split at h
       ·simp only [Except.ok.injEq] at h; subst h; exact getD_rg hp _
       ·simp at h
 ·simp at h
mutual
theorem inf_rg {s : List Pw} (hs : allRg s) : ∀ (t : Ex) {q : Pw}, inf s t = .ok q → rgB q = true
 | .mk op n u ks, q, h => by
  rw [inf] at h
  rcases hk : infK s ks with e | ps <;> rw [hk] at h
  ·simp at h
  ·exact nodeP_rg hs (infK_rg hs ks hk) h
theorem infK_rg {s : List Pw} (hs : allRg s) : ∀ (ks : List Ex) {ps : List Pw}, infK s ks = .ok ps → allRg ps
 | [], ps, h => by simp [infK] at h; subst h; intro p hp; cases hp
 | k :: ks, ps, h => by
  simp only [infK] at h
  rcases hk : inf s k with e | p <;> rw [hk] at h <;> simp at h
  rcases hks : infK s ks with e | qs <;> rw [hks] at h <;> simp at h
  subst h
  intro x hx
  rcases List.mem_cons.1 hx with rfl | hx
  ·exact inf_rg hs k hk
  ·exact infK_rg hs ks hks x hx
end
theorem rg_iff {p : Pw} (h : rgB p = true) : (-4 ≤ p.a ∧ p.a ≤ 4) ∧ (-4 ≤ p.b ∧ p.b ≤ 4) ∧ (-4 ≤ p.c ∧ p.c ≤ 4) := by
 simpa [rgB, btw] using h
def scopeM (us : List Int) : Option (List Pw) := if us.length ≤ 12 ∧ us.all (fun u => btw u 0 4) = true then some (us.map kindP) else none
def ofM (k : Int) : Pw × Int := if btw k 0 4 then (kindP k, 0) else (⟨0, 0, 0⟩, 9)
theorem kinds_rg (us : List Int) : allRg (us.map kindP) := by
 intro p hp
 obtain ⟨k, -, rfl⟩ := List.mem_map.1 hp
 exact kindP_rg k
end Go.Proofs.YtdlebaiamdbneaaGreatDoor.U
namespace Go.Proofs.YtdlebaiamdbneaaGreatDoor.U
open Go.RowKit
theorem blkLt {w : World} {b : Nat} {o : Obj} (h : w.heap[b]? = some o) : b < w.heap.size := (Array.getElem?_eq_some_iff.1 h).1
theorem newBlk (w : World) (o : Obj) (b : Nat) (h : b = w.heap.size) : (w.alloc o).heap[b]? = some o := by subst h; exact heap_alloc_new w o
theorem belowSet {B b i : Nat} {a w : World} {u : Value} (h : Below B a w) (hb : B ≤ b) : Below B a (w.setCell ⟨b, i, none⟩ u) := Below.setCell h hb u
theorem gbRefl (w : World) (r : Option Nat) : w.grownBy w r := ⟨rfl, rfl, rfl, Nat.le_refl _, fun _ _ _ => rfl⟩
theorem gbSet {w w' : World} {b i : Nat} {v : Value} (h : w.grownBy w' (some b)) : w.grownBy (w'.setCell ⟨b, i, none⟩ v) (some b) :=
 ⟨h.os, h.tape, h.output, by simpa using h.size, fun k hk hn => (heap_setCell_other w' _ k v (fun e => hn (by rw [e]))).trans (h.block k hk hn)⟩
theorem gbAlloc {w w' : World} {r : Option Nat} {o : Obj} (h : w.grownBy w' r) : w.grownBy (w'.alloc o) r :=
 ⟨h.os, h.tape, h.output, by have := h.size; simp; omega, fun k hk hn => (Below.heap_alloc w' o k (Nat.lt_of_lt_of_le hk h.size)).trans (h.block k hk hn)⟩
theorem gbTrans {a b c : World} {r : Option Nat} (h : a.grownBy b r) (k : b.grownBy c r) : a.grownBy c r :=
 ⟨k.os.trans h.os, k.tape.trans h.tape, k.output.trans h.output, Nat.le_trans h.size k.size, fun i hi hn => (k.block i (Nat.lt_of_lt_of_le hi h.size) hn).trans (h.block i hi hn)⟩
theorem gbBelow {a b : World} {B : Nat} {r : Option Nat} (h : a.grownBy b r) (hB : B ≤ a.heap.size) (hr : ∀ k, r = some k → B ≤ k) : Below B a b :=
 ⟨h.os, h.tape, h.output, h.size, fun i hi => h.block i (by omega) (fun e => by have := hr i e.symm; omega)⟩
theorem new_cells (W : World) (arr : Array Value) (T : TypeId) (b : Nat) (hb : b = W.heap.size) : ∀ j u, arr.toList[j]? = some u → (W.alloc (.cells arr T)).cell? ((⟨b, 0, none⟩ : Addr).add j) = some u := by
 intro j u hu
 subst hb
 have hadd : (⟨W.heap.size, 0, none⟩ : Addr).add j = ⟨W.heap.size, j, none⟩ := by unfold Addr.add; split <;> simp_all
 rw [hadd, cell_of_row _ _ j arr T (0, 0) (heap_alloc_new W _)]
 simpa using hu
theorem ownsRow_low {w : World} {base base' : Nat} {e : TypeId} {size : Nat} {v : Value} {n : Nat} {xs : List Value} (hb : base' ≤ base) (h : w.ownsRow base e size v n xs) : w.ownsRow base' e size v n xs := by
 refine ⟨h.1, ?_⟩
 rcases h.2 with hn | ⟨g, cap, cur, hv, h1, rest⟩
 ·exact .inl hn
 ·exact .inr ⟨g, cap, cur, hv, Nat.le_trans hb h1, rest⟩
abbrev ev (t : Ex) (A : Option Addr) (c : Nat) : Value := .agg #[.int .i64 t.op, .int .i64 t.n, .int .i64 t.unit, .slice A t.kids.length (t.kids.length + c)]
abbrev eArr (t : Ex) (A : Option Addr) (c : Nat) : Array Value := #[.int .i64 t.op, .int .i64 t.n, .int .i64 t.unit, .slice A t.kids.length (t.kids.length + c)]
mutual
def KidsE (w : World) : List Ex → Option Addr → Prop
 | [], _ => True
 | t :: ts, A => ∃ g o, A = some ⟨g, o, none⟩ ∧ OneE w t g o ∧ KidsE w ts (some ⟨g, o + 4, none⟩)
def OneE (w : World) : Ex → Nat → Nat → Prop
 | .mk k n u kids, g, o => ∃ A c, w.cell? ⟨g, o, none⟩ = some (.int .i64 k) ∧ w.cell? ⟨g, o + 1, none⟩ = some (.int .i64 n) ∧ w.cell? ⟨g, o + 2, none⟩ = some (.int .i64 u) ∧
  w.cell? ⟨g, o + 3, none⟩ = some (.slice A kids.length (kids.length + c)) ∧ kids.length ≤ maxLen ∧ KidsE w kids A
end
mutual
theorem KidsE.keep {w w' : World} (hb : ∀ k, k < w.heap.size → w'.heap[k]? = w.heap[k]?) : ∀ (ts : List Ex) (A : Option Addr), KidsE w ts A → KidsE w' ts A
 | [], _, _ => trivial
 | t :: ts, A, h => by
  unfold KidsE at h ⊢
  obtain ⟨g, o, hA, h1, h2⟩ := h
  exact ⟨g, o, hA, OneE.keep hb t g o h1, KidsE.keep hb ts _ h2⟩
theorem OneE.keep {w w' : World} (hb : ∀ k, k < w.heap.size → w'.heap[k]? = w.heap[k]?) : ∀ (t : Ex) (g o : Nat), OneE w t g o → OneE w' t g o
 | .mk k n u kids, g, o, h => by
  unfold OneE at h ⊢
  obtain ⟨A, c, h0, h1, h2, h3, h4, h5⟩ := h
  have hlt := World.block_lt_of_cell? w _ h0
  have e : ∀ i, w'.cell? ⟨g, i, none⟩ = w.cell? ⟨g, i, none⟩ := fun i => World.cell?_of_block (a := ⟨g, i, none⟩) (hb g hlt)
  exact ⟨A, c, by rw [e]; exact h0, by rw [e]; exact h1, by rw [e]; exact h2, by rw [e]; exact h3, h4, KidsE.keep hb kids A h5⟩
end
theorem KidsE.below {w w' : World} {ts : List Ex} {A : Option Addr} (h : KidsE w ts A) (hb : Below w.heap.size w w') : KidsE w' ts A := h.keep hb.block ts A
theorem KidsE.get {w : World} : ∀ (ts : List Ex) (g o : Nat), KidsE w ts (some ⟨g, o, none⟩) → ∀ (i : Nat) (t : Ex), ts[i]? = some t → OneE w t g (o + i * 4)
 | [], g, o, h, i, t, ht => by simp at ht
 | u :: us, g, o, h, i, t, ht => by
  unfold KidsE at h
  obtain ⟨g', o', hA, h1, h2⟩ := h
  cases hA
  cases i with
  | zero => simp at ht; subst ht; simpa using h1
  | succ i =>
   have := KidsE.get us g (o + 4) h2 i t (by simpa using ht)
   rw [show o + (i + 1) * 4 = o + 4 + i * 4 by omega]
   exact this
theorem KidsE.addr {w : World} {ts : List Ex} {A : Option Addr} (h : KidsE w ts A) (hn : 0 < ts.length) : ∃ g o, A = some ⟨g, o, none⟩ := by
 cases ts with
 | nil => simp at hn
 | cons t ts => unfold KidsE at h; obtain ⟨g, o, hA, _⟩ := h; exact ⟨g, o, hA⟩
theorem OneE.cells {w : World} {t : Ex} {g o : Nat} (h : OneE w t g o) : ∃ A c, (w.cell? ⟨g, o, none⟩ = some (.int .i64 t.op) ∧ w.cell? ⟨g, o + 1, none⟩ = some (.int .i64 t.n) ∧ w.cell? ⟨g, o + 2, none⟩ = some (.int .i64 t.unit) ∧
  w.cell? ⟨g, o + 3, none⟩ = some (.slice A t.kids.length (t.kids.length + c))) ∧ t.kids.length ≤ maxLen ∧ KidsE w t.kids A := by
 obtain ⟨k, n, u, kids⟩ := t
 unfold OneE at h
 obtain ⟨A, c, h0, h1, h2, h3, h4, h5⟩ := h
 exact ⟨A, c, ⟨h0, h1, h2, h3⟩, h4, h5⟩
theorem OneE.mk' {w : World} {t : Ex} {g o : Nat} {A : Option Addr} {c : Nat} (h0 : w.cell? ⟨g, o, none⟩ = some (.int .i64 t.op)) (h1 : w.cell? ⟨g, o + 1, none⟩ = some (.int .i64 t.n)) (h2 : w.cell? ⟨g, o + 2, none⟩ = some (.int .i64 t.unit))
  (h3 : w.cell? ⟨g, o + 3, none⟩ = some (.slice A t.kids.length (t.kids.length + c))) (h4 : t.kids.length ≤ maxLen) (h5 : KidsE w t.kids A) : OneE w t g o := by
 obtain ⟨k, n, u, kids⟩ := t
 unfold OneE
 exact ⟨A, c, h0, h1, h2, h3, h4, h5⟩
theorem two_kids {w : World} {b : Nat} {s t : Ex} {A B : Option Addr} {c d : Nat} {T : TypeId} (h : w.heap[b]? = some (.cells #[.int .i64 s.op, .int .i64 s.n, .int .i64 s.unit, .slice A s.kids.length (s.kids.length + c), .int .i64 t.op, .int .i64 t.n, .int .i64 t.unit, .slice B t.kids.length (t.kids.length + d)] T (0, 0)))
  (hs : s.kids.length ≤ maxLen) (ht : t.kids.length ≤ maxLen) (hA : KidsE w s.kids A) (hB : KidsE w t.kids B) : KidsE w [s, t] (some ⟨b, 0, none⟩) := by
 have e : ∀ j, w.cell? ⟨b, j, none⟩ = (#[.int .i64 s.op, .int .i64 s.n, .int .i64 s.unit, .slice A s.kids.length (s.kids.length + c), .int .i64 t.op, .int .i64 t.n, .int .i64 t.unit, .slice B t.kids.length (t.kids.length + d)] : Array Value)[j]? := fun j => cell_of_row _ _ j _ _ (0, 0) h
 unfold KidsE
 refine ⟨b, 0, rfl, OneE.mk' (A := A) (c := c) ((e 0).trans rfl) ((e 1).trans rfl) ((e 2).trans rfl) ((e 3).trans rfl) hs hA, ?_⟩
 unfold KidsE
 refine ⟨b, 4, rfl, OneE.mk' (A := B) (c := d) ((e 4).trans rfl) ((e 5).trans rfl) ((e 6).trans rfl) ((e 7).trans rfl) ht hB, ?_⟩
 unfold KidsE
 trivial
structure Vr where
 x : ByteArray
 u : Int
 lo : Int
 hi : Int
 i : Int
def VrAt (w : World) (g o : Nat) (v : Vr) : Prop :=
 w.cell? ⟨g, o, none⟩ = some (.string v.x) ∧ w.cell? ⟨g, o + 1, none⟩ = some (.int .i64 v.u) ∧ w.cell? ⟨g, o + 2, none⟩ = some (.int .i64 v.lo) ∧ w.cell? ⟨g, o + 3, none⟩ = some (.int .i64 v.hi) ∧ w.cell? ⟨g, o + 4, none⟩ = some (.int .i64 v.i)
def VarsR (w : World) (l : List Vr) (A : Option Addr) : Prop := l = [] ∨ ∃ g o, A = some ⟨g, o, none⟩ ∧ ∀ (i : Nat) (v : Vr), l[i]? = some v → VrAt w g (o + i * 5) v
theorem VarsR.keep {w w' : World} {l : List Vr} {A : Option Addr} (hb : ∀ k, k < w.heap.size → w'.heap[k]? = w.heap[k]?) (h : VarsR w l A) : VarsR w' l A := by
 rcases h with h | ⟨g, o, hA, h⟩
 ·exact .inl h
 ·refine .inr ⟨g, o, hA, fun i v hv => ?_⟩
  have h1 := h i v hv
  have hlt := World.block_lt_of_cell? w _ h1.1
  have e : ∀ i, w'.cell? ⟨g, i, none⟩ = w.cell? ⟨g, i, none⟩ := fun i => World.cell?_of_block (a := ⟨g, i, none⟩) (hb g hlt)
  unfold VrAt
  rw [e, e, e, e, e]
  exact h1
theorem VarsR.below {w w' : World} {l : List Vr} {A : Option Addr} (h : VarsR w l A) (hb : Below w.heap.size w w') : VarsR w' l A := h.keep hb.block
theorem VarsR.addr {w : World} {l : List Vr} {A : Option Addr} (h : VarsR w l A) (hn : 0 < l.length) : ∃ g o, A = some ⟨g, o, none⟩ ∧ ∀ (i : Nat) (v : Vr), l[i]? = some v → VrAt w g (o + i * 5) v := by
 rcases h with h | h
 ·subst h; simp at hn
 ·exact h
abbrev pArr (p : Pw) : Array Value := #[.int .i64 p.a, .int .i64 p.b, .int .i64 p.c]
abbrev pv (p : Pw) : Value := .agg #[.int .i64 p.a, .int .i64 p.b, .int .i64 p.c]
def pCells (p : Pw) : List Value := [.int .i64 p.a, .int .i64 p.b, .int .i64 p.c]
def PwAt (w : World) (g o : Nat) (p : Pw) : Prop := w.cell? ⟨g, o, none⟩ = some (.int .i64 p.a) ∧ w.cell? ⟨g, o + 1, none⟩ = some (.int .i64 p.b) ∧ w.cell? ⟨g, o + 2, none⟩ = some (.int .i64 p.c)
def PwsR (w : World) (l : List Pw) (A : Option Addr) : Prop := l = [] ∨ ∃ g o, A = some ⟨g, o, none⟩ ∧ ∀ (i : Nat) (p : Pw), l[i]? = some p → PwAt w g (o + i * 3) p
theorem PwsR.keep {w w' : World} {l : List Pw} {A : Option Addr} (hb : ∀ k, k < w.heap.size → w'.heap[k]? = w.heap[k]?) (h : PwsR w l A) : PwsR w' l A := by
 rcases h with h | ⟨g, o, hA, h⟩
 ·exact .inl h
 ·refine .inr ⟨g, o, hA, fun i v hv => ?_⟩
  have h1 := h i v hv
  have hlt := World.block_lt_of_cell? w _ h1.1
  have e : ∀ i, w'.cell? ⟨g, i, none⟩ = w.cell? ⟨g, i, none⟩ := fun i => World.cell?_of_block (a := ⟨g, i, none⟩) (hb g hlt)
  unfold PwAt
  rw [e, e, e]
  exact h1
theorem PwsR.below {w w' : World} {l : List Pw} {A : Option Addr} (h : PwsR w l A) (hb : Below w.heap.size w w') : PwsR w' l A := h.keep hb.block
theorem PwsR.addr {w : World} {l : List Pw} {A : Option Addr} (h : PwsR w l A) (hn : 0 < l.length) : ∃ g o, A = some ⟨g, o, none⟩ ∧ ∀ (i : Nat) (p : Pw), l[i]? = some p → PwAt w g (o + i * 3) p := by
 rcases h with h | h
 ·subst h; simp at hn
 ·exact h
def psCells (l : List Pw) : List Value := l.flatMap pCells
theorem psCells_snoc (l : List Pw) (p : Pw) : psCells (l ++ [p]) = psCells l ++ pCells p := by simp [psCells]
theorem psCells_at : ∀ (l : List Pw) (i : Nat) (p : Pw), l[i]? = some p → (psCells l)[i * 3]? = some (.int .i64 p.a) ∧ (psCells l)[i * 3 + 1]? = some (.int .i64 p.b) ∧ (psCells l)[i * 3 + 2]? = some (.int .i64 p.c)
 | [], i, p, h => by simp at h
 | q :: l, 0, p, h => by
  simp at h
  subst h
  exact ⟨rfl, rfl, rfl⟩
 | q :: l, i + 1, p, h => by
  have h1 := psCells_at l i p (by simpa using h)
  have e : ∀ j, (psCells (q :: l))[j + 3]? = (psCells l)[j]? := fun j => by
   show (pCells q ++ psCells l)[j + 3]? = _
   rw [List.getElem?_append_right (by simp [pCells])]
   simp [pCells]
  rw [show (i + 1) * 3 = i * 3 + 3 by omega, show i * 3 + 3 + 1 = i * 3 + 1 + 3 by omega, show i * 3 + 3 + 2 = i * 3 + 2 + 3 by omega, e, e, e]
  exact h1
theorem own_pws {w : World} {B : Nat} {v : Value} {l : List Pw} {T : TypeId} (h : w.ownsRow B T 3 v l.length (psCells l)) : ∃ A c, v = .slice A l.length (l.length + c) ∧ PwsR w l A := by
 rcases h.2 with ⟨rfl, h0⟩ | ⟨g, cap, cur, rfl, hb, hg, hn, hc, hs, ht⟩
 ·obtain rfl : l = [] := List.eq_nil_of_length_eq_zero h0
  exact ⟨none, 0, rfl, .inl rfl⟩
 ·refine ⟨_, cap - l.length, by rw [Nat.add_sub_cancel' hn], .inr ⟨g, 0, rfl, fun i p hp => ?_⟩⟩
  have h1 := h.cells (g := g) rfl
  have hadd : ∀ j, (⟨g, 0, none⟩ : Addr).add j = ⟨g, 0 + j, none⟩ := fun j => by unfold Addr.add; split <;> simp_all
  obtain ⟨e0, e1, e2⟩ := psCells_at l i p hp
  have a0 := h1 _ _ e0
  have a1 := h1 _ _ e1
  have a2 := h1 _ _ e2
  rw [hadd] at a0 a1 a2
  exact ⟨a0, a1, a2⟩
def BB (b : Bool) (w : World) (e : Ending) (w' : World) : Prop := e = .returned (.bool b) ∧ Below w.heap.size w w'
def VV (v : Value) (w : World) (e : Ending) (w' : World) : Prop := e = .returned v ∧ Below w.heap.size w w'
theorem btw_iff {n lo hi : Int} : btw n lo hi = true ↔ lo ≤ n ∧ n ≤ hi := by simp [btw]
end Go.Proofs.YtdlebaiamdbneaaGreatDoor.U
namespace Go.Proofs.YtdlebaiamdbneaaGreatDoor
open Go.RowKit
namespace C
def V1 (v : Value) (w : World) (e : Ending) (w' : World) : Prop := e = .returned v ∧ Below w.heap.size w w'
abbrev dpanic (er at0 : Int) : Ending := .panicked [{ v := .iface 106 (.agg #[.int .i64 er, .int .i64 at0]), recovered := false }]
theorem ret_vC {a b : Int} (h : a = b) : Ending.returned (.int .i64 a) = .returned (.int .i64 b) := by rw [h]
theorem bAllocC {w X : World} {o : Obj} (h : Below w.heap.size w X) : Below w.heap.size w (X.alloc o) := h.alloc h.size o
theorem bCallC {w X w1 : World} (h : Below w.heap.size w X) (hb : Below X.heap.size X w1) : Below w.heap.size w w1 := h.trans (hb.mono h.size)
theorem KidsR.bel {w w' : World} {ts : List Nd} {A : Option Addr} (h : KidsR w (From 0) ts A) (hb : Below w.heap.size w w') : KidsR w' (From 0) ts A := h.keep (fun q h1 h2 => ⟨hb.block q h2, h1⟩)
theorem newBlkC (w : World) (o : Obj) (b : Nat) (h : b = w.heap.size) : (w.alloc o).heap[b]? = some o := by subst h; exact heap_alloc_new w o
theorem blkLtC {w : World} {b : Nat} {o : Obj} (h : w.heap[b]? = some o) : b < w.heap.size := (Array.getElem?_eq_some_iff.1 h).1
abbrev ndA (t : Nd) (A : Option Addr) (c : Nat) : Array Value := #[.int .i64 t.kind, .string t.name, .int .i64 t.n, .int .i64 t.unit, .int .i64 t.at0, .slice A t.kids.length (t.kids.length + c)]
theorem kids_get {w : World} : ∀ (ts : List Nd) (g o : Nat), KidsR w (From 0) ts (some ⟨g, o, none⟩) → ∀ (i : Nat) (t : Nd), ts[i]? = some t → OneR w (From 0) t g (o + i * 6)
 | [], g, o, h, i, t, ht => by simp at ht
 | u :: us, g, o, h, i, t, ht => by
  unfold KidsR at h
  obtain ⟨g', o', hA, -, h1, h2⟩ := h
  cases hA
  cases i with
  | zero => simp at ht; subst ht; simpa using h1
  | succ i =>
   have := kids_get us g (o + 6) h2 i t (by simpa using ht)
   rw [show o + (i + 1) * 6 = o + 6 + i * 6 by omega]
   exact this
theorem kids_addr {w : World} {ts : List Nd} {A : Option Addr} (h : KidsR w (From 0) ts A) (hn : 0 < ts.length) : ∃ g o, A = some ⟨g, o, none⟩ := by
 cases ts with
 | nil => simp at hn
 | cons t ts => unfold KidsR at h; obtain ⟨g, o, hA, _⟩ := h; exact ⟨g, o, hA⟩
theorem one_cells {w : World} {t : Nd} {g o : Nat} (h : OneR w (From 0) t g o) : ∃ A c, (w.cell? ⟨g, o, none⟩ = some (.int .i64 t.kind) ∧ w.cell? ⟨g, o + 1, none⟩ = some (.string t.name) ∧ w.cell? ⟨g, o + 2, none⟩ = some (.int .i64 t.n) ∧
  w.cell? ⟨g, o + 3, none⟩ = some (.int .i64 t.unit) ∧ w.cell? ⟨g, o + 4, none⟩ = some (.int .i64 t.at0) ∧ w.cell? ⟨g, o + 5, none⟩ = some (.slice A t.kids.length (t.kids.length + c))) ∧ KidsR w (From 0) t.kids A := by
 obtain ⟨k, x, n, u, a, kids⟩ := t
 unfold OneR at h
 obtain ⟨A, c, h0, h1, h2, h3, h4, h5, h6⟩ := h
 exact ⟨A, c, ⟨h0, h1, h2, h3, h4, h5⟩, h6⟩
theorem need_any (b : Bool) (er : Int) (t : Nd) (A : Option Addr) (c : Nat) (w : World) : Calls Tryz.prog 102 #[.bool b, .int .i64 er, nv t A c] w (fun e w' => (if b then e = .returned (.tuple #[]) else e = dpanic er t.at0) ∧ Below w.heap.size w w') := by
 cases b
 ·go_enter Tryz.func102, Tryz.ntmps102
  go_wp2
  exact ⟨rfl, rfl, (Below.refl _ _).alloc (Nat.le_refl _) _⟩
 ·go_enter Tryz.func102, Tryz.ntmps102
  go_wp2
  exact ⟨rfl, .tuple #[], by simp [results, Tryz.results102, go_sem], rfl, (Below.refl _ _).alloc (Nat.le_refl _) _⟩
end C
end Go.Proofs.YtdlebaiamdbneaaGreatDoor
namespace Go.Proofs.YtdlebaiamdbneaaGreatDoor
open Go.RowKit
namespace C
theorem toList_eqC (x : ByteArray) : (x.toList == x.toList) = true := by simp
theorem index1_any (v : U.Vr) (b : Nat) (y : ByteArray) (w : World) (hy : w.cell? ⟨b, 1, none⟩ = some (.string y)) :
  Calls Tryz.prog 137 #[.agg #[.string v.x, .int .i64 v.u, .int .i64 v.lo, .int .i64 v.hi, .int .i64 v.i], .pointer (some ⟨b, 0, none⟩)] w (V1 (.bool (decide (y = v.x))) w) := by
 have hb := World.block_lt_of_cell? _ _ hy
 by_cases h : y = v.x
 ·rw [decide_eq_true h]
  subst h
  have g := toList_eqC v.x
  go_enter Tryz.func137, Tryz.ntmps137
  go_wp2
  go_ret
  exact ⟨rfl, (Below.refl _ _).alloc (Nat.le_refl _) _⟩
 ·rw [decide_eq_false h]
  have g := bne_of v.x y (fun e => h e.symm)
  go_enter Tryz.func137, Tryz.ntmps137
  go_wp2
  go_ret
  exact ⟨rfl, (Below.refl _ _).alloc (Nat.le_refl _) _⟩
theorem IndexFunc_any (vs : List U.Vr) (S : Option Addr) (m b : Nat) (y : ByteArray) (w : World) (hV : U.VarsR w vs S) (hlen : vs.length ≤ 1000000) (hy : w.cell? ⟨b, 1, none⟩ = some (.string y)) :
  Calls Tryz.prog 136 #[.slice S vs.length m, .func (.func 137) #[] #[.pointer (some ⟨b, 0, none⟩)]] w (V1 (.int .i64 (idx (vs.map (·.x)) y)) w) := by
 obtain ⟨r, hr⟩ : ∃ r, idx (vs.map (·.x)) y = r := ⟨_, rfl⟩
 rw [hr]
 have HR : Hid (idxF y ((vs.map (·.x)).drop 0) 0 = r) := Lib.hid hr
 have HV := Lib.hid hV
 have hb := World.block_lt_of_cell? _ _ hy
 have HY := Lib.hid (fun wx (h : Below w.heap.size w wx) => (World.cell?_of_block (a := ⟨b, 1, none⟩) (h.block b hb)).trans hy)
 clear hV hr hy
 go_enter Tryz.func136, Tryz.ntmps136
 go_wp2
 go_loopg [8] (vs.length) (fun gk i wr => ∃ (k : Nat), k + gk = vs.length ∧ i = .int .i64 k ∧ Hid (idxF y ((vs.map (·.x)).drop k) k = r) ∧ Hid (Below w.heap.size w wr))
 case atStart => exact ⟨0, by omega, rfl, HR, Lib.hid (Below.refl _ _)⟩
 case round =>
  obtain ⟨k, hk, rfl, hM, hW⟩ := hrel
  by_cases hlt : k < vs.length
  ·obtain ⟨g, rfl⟩ : ∃ g, gk = g + 1 := ⟨gk - 1, by omega⟩
   obtain ⟨ga, oa, rfl, hat⟩ := (HV.out.below hW.out).addr (by omega)
   obtain ⟨e0, e1, e2, e3, e4⟩ := hat _ _ (List.getElem?_eq_getElem hlt)
   have hl2 : k < (vs.map (·.x)).length := by simpa using hlt
   have h1 := Lib.hid (idxF_drop_hit y (vs.map (·.x)) k k hl2)
   have h2 := Lib.hid (idxF_drop_miss y (vs.map (·.x)) k k hl2)
   simp only [List.getElem_map] at h1 h2
   clear hat
   generalize vs[k] = t at *
   have HC := Lib.hid (index1_any t b y wr (HY.out _ hW.out))
   by_cases hxy : y = t.x
   ·rw [decide_eq_true hxy] at HC
    have h3 := Lib.hid ((h1.out hxy).symm.trans hM.out)
    clear h1 h2 hM hxy
    go_wp2_with (go_at_call 137; refine HC.out.mono ?_; rintro e w2 ⟨rfl, hb2⟩; have hW2 := Lib.hid (bCallC hW.out hb2); clear hb2)
    go_ret
    exact ⟨ret_vC h3.out, hW2.out⟩
   ·rw [decide_eq_false hxy] at HC
    have h3 := Lib.hid ((h2.out hxy).symm.trans hM.out)
    clear h1 h2 hM hxy
    go_wp2_with (go_at_call 137; refine HC.out.mono ?_; rintro e w2 ⟨rfl, hb2⟩; have hW2 := Lib.hid (bCallC hW.out hb2); clear hb2)
    go_roundg g
    case measure => omega
    case rel => exact ⟨k + 1, by omega, by go_num, h3, hW2⟩
  ·have hF : Hid ((-1 : Int) = r) := Lib.hid (by have := hM.out; rw [idxF_drop_end _ _ _ _ (by simp; omega)] at this; exact this)
   have hkl : decide ((k : Int) < (vs.length : Int)) = false := by simp; omega
   clear hM
   go_wp2_with fail
   go_ret
   exact ⟨ret_vC hF.out, hW.out⟩
def IxP (i at0 : Int) (w : World) (e : Ending) (w' : World) : Prop := (if 0 ≤ i then e = .returned (.int .i64 i) else e = dpanic 8 at0) ∧ Below w.heap.size w w'
theorem index_any (vs : List U.Vr) (S : Option Addr) (m : Nat) (t : Nd) (A : Option Addr) (c : Nat) (w : World) (hV : U.VarsR w vs S) (hlen : vs.length ≤ 1000000) :
  Calls Tryz.prog 125 #[.slice S vs.length m, nv t A c] w (IxP (idx (vs.map (·.x)) t.name) t.at0 w) := by
 have HB := Lib.hid ((Below.refl w.heap.size w).alloc (Nat.le_refl _) (.cells (ndA t A c) 82))
 have HX := Lib.hid (newBlkC w (.cells (ndA t A c) 82) _ rfl)
 obtain ⟨⟨c0, c1, c2, c3, c4, c5⟩, -⟩ := cells6 HX.out
 have hx := blkLtC HX.out
 have HI := Lib.hid (IndexFunc_any vs S m w.heap.size t.name _ (hV.below HB.out) hlen c1)
 have hmf : ∀ (fn : Fn) (first cap : Array Value) (w : World), (Instr.makeFunc fn first cap).run Tryz.prog w = .ok (.func fn first cap) w := fun _ _ _ _ => rfl
 unfold IxP
 generalize idx (vs.map (·.x)) t.name = i at *
 generalize vs.length = vn at *
 clear hV hlen
 by_cases h0 : 0 ≤ i
 ·have d0 : decide (i ≥ 0) = true := by simp; omega
  simp only [if_pos h0]
  have HN := Lib.hid (fun wx => need_any true 8 t A c wx)
  clear h0
  go_enter Tryz.func125, Tryz.ntmps125
  go_wp2_with (first
   | (go_at_call 136; refine HI.out.mono ?_; rintro e w2 ⟨rfl, hb2⟩; have HX := Lib.hid ((hb2.block _ hx).trans HX.out); have HB := Lib.hid (bCallC HB.out hb2); clear c0 c1 c2 c3 c4 c5 hx; obtain ⟨⟨c0, c1, c2, c3, c4, c5⟩, -⟩ := cells6 HX.out; have hx := blkLtC HX.out; clear hb2)
   | (go_at_call 102; refine (HN.out _).mono ?_; rintro e w3 ⟨he, hb3⟩; simp only [if_pos] at he; subst he; have HB := Lib.hid (bCallC HB.out hb3); clear hb3))
  go_ret
  exact ⟨rfl, HB.out⟩
 ·have d0 : decide (i ≥ 0) = false := by simp; omega
  simp only [if_neg h0]
  have HN := Lib.hid (fun wx => need_any false 8 t A c wx)
  clear h0
  go_enter Tryz.func125, Tryz.ntmps125
  go_wp2_with (first
   | (go_at_call 136; refine HI.out.mono ?_; rintro e w2 ⟨rfl, hb2⟩; have HX := Lib.hid ((hb2.block _ hx).trans HX.out); have HB := Lib.hid (bCallC HB.out hb2); clear c0 c1 c2 c3 c4 c5 hx; obtain ⟨⟨c0, c1, c2, c3, c4, c5⟩, -⟩ := cells6 HX.out; have hx := blkLtC HX.out; clear hb2)
   | (go_at_call 102; refine (HN.out _).mono ?_; rintro e w3 ⟨he, hb3⟩; simp only [Bool.false_eq_true, if_neg, not_false_eq_true] at he; subst he; have HB := Lib.hid (bCallC HB.out hb3); clear hb3))
  exact ⟨rfl, rfl, HB.out⟩
end C
end Go.Proofs.YtdlebaiamdbneaaGreatDoor
