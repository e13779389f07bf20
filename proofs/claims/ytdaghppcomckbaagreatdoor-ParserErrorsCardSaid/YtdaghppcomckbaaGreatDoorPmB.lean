/- Texts of one proof: PxD, PxE. -/
import Derived.Test.YtdaghppcomckbaaGreatDoorPmA
/- The parser's smallest readers: words, names, numbers. -/
namespace Go.Proofs.YtdaghppcomckbaaGreatDoor
open Go.RowKit
set_option linter.unusedVariables false
set_option linter.unusedSimpArgs false

/-- what a reader answers: something and the rest of the tokens, or an error and the tokens from it on -/
inductive Res (α : Type) where
  | ok (x : α) (l : List Tk)
  | err (e : Int) (l : List Tk)
/-- what the call leaves -/
def Out {α : Type} (C : Cx) (nx : Nat) (dv : Value) (ds : List (Int × Int)) (w : World) (V : Nat → World → Value → α → Prop) : Res α → Ending → World → Prop
  | .ok x l, e, w' => ∃ nx' v, C.l nx' = l ∧ nx ≤ nx' ∧ e = .returned v ∧ V w.heap.size w' v x ∧ PS C w' nx' dv ds ∧ Kp C.R none w w'
  | .err er l, e, w' => ∃ nx', C.l nx' = l ∧ nx ≤ nx' ∧ Pan e ∧ (∃ dv', PS C w' nx' dv' (ds ++ [(er, (hd l).a)])) ∧ Kp C.R dv.ownBlock w w'
def VInt (B : Nat) (w : World) (v : Value) (x : Int) : Prop := v = .int .i64 x
def VUnit (B : Nat) (w : World) (v : Value) (x : Unit) : Prop := v = .tuple #[]
def VStr (B : Nat) (w : World) (v : Value) (x : ByteArray) : Prop := v = .string x
theorem FailPost.out {α : Type} {C : Cx} {nx : Nat} {dv : Value} {ds : List (Int × Int)} {w w' : World} {V : Nat → World → Value → α → Prop} {er : Int} {e : Ending} (h : FailPost C nx dv ds er w e w') :
    Out C nx dv ds w V (.err er (C.l nx)) e w' := ⟨nx, rfl, Nat.le_refl _, h.1, h.2.1, h.2.2⟩

theorem idxF_le (x : ByteArray) (ws : List ByteArray) : ∀ k, idxF x ws k = -1 ∨ ((k : Int) ≤ idxF x ws k ∧ idxF x ws k < (k : Int) + ws.length ∧ x ∈ ws) := by
  induction ws with
  | nil => intro k; left; rfl
  | cons y l ih =>
    intro k
    unfold idxF
    by_cases h : x = y
    · rw [if_pos h]; right; simp [h]; omega
    · rw [if_neg h]
      rcases ih (k + 1) with h1 | ⟨h1, h2, h3⟩
      · left; exact h1
      · right; simp only [List.length_cons]; refine ⟨by omega, by omega, by simp [h3]⟩
theorem idx_le (ws : List ByteArray) (x : ByteArray) : idx ws x = -1 ∨ (0 ≤ idx ws x ∧ idx ws x < ws.length ∧ x ∈ ws) := by
  have := idxF_le x ws 0
  unfold idx
  rcases this with h | ⟨h1, h2, h3⟩
  · exact .inl h
  · exact .inr ⟨by omega, by omega, h3⟩

theorem PS.next {C : Cx} {w : World} {nx : Nat} {dv : Value} {ds : List (Int × Int)} (h : PS C w nx dv ds) (hne : ¬ ((hd (C.l nx)).x = ⟨#[]⟩ ∧ (hd (C.l nx)).k = 0)) : nx + 1 < C.ts.length := by
  obtain ⟨t0, n, hs⟩ := h.sen
  have hl := h.lt
  rcases Nat.lt_or_ge (nx + 1) C.ts.length with h1 | h1
  · exact h1
  · exfalso
    apply hne
    have e : nx = t0.length := by rw [hs] at hl h1; simp at hl h1; omega
    unfold Cx.l
    rw [hs, e, List.drop_left]
    exact ⟨rfl, rfl⟩
theorem l_tail (C : Cx) (nx : Nat) : C.l (nx + 1) = (C.l nx).tail := by
  unfold Cx.l
  rw [List.tail_drop]

set_option maxHeartbeats 400000 in
set_option maxRecDepth 100000 in
theorem among_any (C : Cx) (w : World) (nx : Nat) (dv : Value) (ds : List (Int × Int)) (g c : Nat) (ws : List ByteArray) (h : PS C w nx dv ds) (hs : StrS w g ws) (hg : g < w.heap.size) (hn : ws.length ≤ 1000) :
    Calls Tryz.prog 66 #[.pointer (some ⟨C.R, 0, none⟩), .slice (some ⟨g, 0, none⟩) ws.length c] w fun e w' => e = .returned (.int .i64 (idx ws (hd (C.l nx)).x)) ∧ Below w.heap.size w w' := by
  have hT := Lib.hid (token_any C w nx dv ds h)
  have hS := Lib.hid hs
  have f1 := tfield1
  clear h hs
  go_enter Tryz.func66, Tryz.ntmps66
  go_wp2_with fail
  refine hT.out.mono ?_
  rintro e w1 ⟨rfl, hb1⟩
  have hS1 : StrS w1 g ws := fun i x hx => (hb1.cell (p := ⟨g, i, none⟩) hg).trans (hS.out i x hx)
  have hI := Lib.hid (Index_any w1 g c ws (hd (C.l nx)).x hS1 hn)
  clear hS1
  go_wp2_with fail
  refine hI.out.mono ?_
  rintro e w2 ⟨rfl, rfl⟩
  go_wp2
  go_ret
  exact ⟨rfl, hb1⟩
def isB (wd : ByteArray) (l : List Tk) : Bool := decide ((hd l).x = wd)
theorem idx_one (wd x : ByteArray) : (idx [wd] x == 0) = decide (x = wd) := by
  unfold idx idxF idxF
  by_cases h : x = wd <;> simp [h]
theorem new_strs (W : World) (arr : Array Value) (T : TypeId) (ws : List ByteArray) (h : arr = (ws.map Value.string).toArray) : StrS (W.alloc (.cells arr T)) W.heap.size ws := by
  intro i x hx
  rw [cell_of_row _ _ i _ T (0, 0) (heap_alloc_new W _)]
  subst h
  simpa using hx

set_option maxHeartbeats 400000 in
set_option maxRecDepth 100000 in
theorem is_any (C : Cx) (w : World) (nx : Nat) (dv : Value) (ds : List (Int × Int)) (wd : ByteArray) (h : PS C w nx dv ds) :
    Calls Tryz.prog 62 #[.pointer (some ⟨C.R, 0, none⟩), .string wd] w fun e w' => e = .returned (.bool (isB wd (C.l nx))) ∧ Below w.heap.size w w' := by
  have hb0 := (Below.refl w.heap.size w).alloc (Nat.le_refl _) (.cells #[.string wd] 9)
  have hA := Lib.hid (among_any C _ nx dv ds w.heap.size 1 [wd] (h.below hb0) (new_strs w #[.string wd] 9 [wd] rfl) (by simp) (by simp))
  have hI := Lib.hid (idx_one wd (hd (C.l nx)).x)
  clear h
  go_enter Tryz.func62, Tryz.ntmps62
  go_wp2_with fail
  refine hA.out.mono ?_
  rintro e w1 ⟨rfl, hb1⟩
  go_wp2
  go_ret
  exact ⟨by rw [hI.out]; rfl, hb0.trans (hb1.mono (by simp))⟩

/-- one of some words -/
def choiceM (ws : List ByteArray) (l : List Tk) : Res Int := if idx ws (hd l).x < 0 then .err 7 l else .ok (idx ws (hd l).x) l.tail

set_option maxHeartbeats 400000 in
set_option maxRecDepth 100000 in
theorem choice_any (C : Cx) (w : World) (nx : Nat) (dv : Value) (ds : List (Int × Int)) (g c : Nat) (ws : List ByteArray) (h : PS C w nx dv ds) (hs : StrS w g ws) (hg : g < w.heap.size) (hn : ws.length ≤ 1000) (hds : ds.length ≤ 100) (hne : (⟨#[]⟩ : ByteArray) ∉ ws) :
    Calls Tryz.prog 43 #[.pointer (some ⟨C.R, 0, none⟩), .slice (some ⟨g, 0, none⟩) ws.length c] w (Out C nx dv ds w VInt (choiceM ws (C.l nx))) := by
  have hA := Lib.hid (among_any C w nx dv ds g c ws h hs hg hn)
  have HP := Lib.hid h
  rcases idx_le ws (hd (C.l nx)).x with hi | ⟨hi1, hi2, hi3⟩
  · have hM : choiceM ws (C.l nx) = .err 7 (C.l nx) := by unfold choiceM; rw [hi]; rfl
    rw [hM]
    have hI := Lib.hid hi
    clear h hs hM hi
    go_enter Tryz.func43, Tryz.ntmps43
    go_wp2_with fail
    refine hA.out.mono ?_
    rw [hI.out]
    rintro e w1 ⟨rfl, hb1⟩
    have hF := Lib.hid (fail_any C w1 nx dv ds 7 (HP.out.below hb1) hds)
    go_wp2_with fail
    refine hF.out.mono ?_
    rintro e w2 ⟨⟨T, pv, rfl⟩, hd', hk⟩
    go_wp2
    exact ⟨rfl, nx, rfl, Nat.le_refl _, ⟨T, pv, rfl⟩, hd', (Below.kp hb1).trans hk⟩
  · have hM : choiceM ws (C.l nx) = .ok (idx ws (hd (C.l nx)).x) (C.l nx).tail := by unfold choiceM; rw [if_neg (by omega)]
    rw [hM]
    have hl := h.next (by rintro ⟨e, _⟩; rw [e] at hi3; exact hne hi3)
    have hle := h.le
    have hneg : decide (idx ws (hd (C.l nx)).x < 0) = false := by simp; omega
    clear h hs hM hi2 hi3 hi1
    go_enter Tryz.func43, Tryz.ntmps43
    go_wp2_with fail
    refine hA.out.mono ?_
    rintro e w1 ⟨rfl, hb1⟩
    have HP1 := Lib.hid (HP.out.below hb1)
    have c1 := HP1.out.c1
    have z1 := HP1.out.fz 1
    go_wp2
    go_ret
    exact ⟨nx + 1, _, l_tail C nx, Nat.le_succ _, rfl, rfl, HP1.out.bump hl, (Below.kp hb1).setCell (.inl rfl) _⟩
end Go.Proofs.YtdaghppcomckbaaGreatDoor

/- Syntax trees in memory. -/
namespace Go.Proofs.YtdaghppcomckbaaGreatDoor
open Go.RowKit
set_option linter.unusedVariables false
set_option linter.unusedSimpArgs false

/-- a node of a syntax tree -/
inductive Nd where
  | mk (kind : Int) (name : ByteArray) (n unit at0 : Int) (kids : List Nd)
def Nd.kind : Nd → Int | .mk k _ _ _ _ _ => k
def Nd.name : Nd → ByteArray | .mk _ x _ _ _ _ => x
def Nd.n : Nd → Int | .mk _ _ n _ _ _ => n
def Nd.unit : Nd → Int | .mk _ _ _ u _ _ => u
def Nd.at0 : Nd → Int | .mk _ _ _ _ a _ => a
def Nd.kids : Nd → List Nd | .mk _ _ _ _ _ l => l
def nCells (t : Nd) (A : Option Addr) (c : Nat) : List Value := [.int .i64 t.kind, .string t.name, .int .i64 t.n, .int .i64 t.unit, .int .i64 t.at0, .slice A t.kids.length (t.kids.length + c)]
mutual
/-- a slice of nodes, in blocks of which something holds, reads as a list -/
def KidsR (w : World) (P : Nat → Prop) : List Nd → Option Addr → Prop
  | [], _ => True
  | t :: ts, A => ∃ g o, A = some ⟨g, o, none⟩ ∧ P g ∧ OneR w P t g o ∧ KidsR w P ts (some ⟨g, o + 6, none⟩)
def OneR (w : World) (P : Nat → Prop) : Nd → Nat → Nat → Prop
  | .mk k x n u a kids, g, o => ∃ A c, w.cell? ⟨g, o, none⟩ = some (.int .i64 k) ∧ w.cell? ⟨g, o + 1, none⟩ = some (.string x) ∧ w.cell? ⟨g, o + 2, none⟩ = some (.int .i64 n) ∧
    w.cell? ⟨g, o + 3, none⟩ = some (.int .i64 u) ∧ w.cell? ⟨g, o + 4, none⟩ = some (.int .i64 a) ∧ w.cell? ⟨g, o + 5, none⟩ = some (.slice A kids.length (kids.length + c)) ∧ KidsR w P kids A
end
mutual
theorem KidsR.keep {w w' : World} {P P' : Nat → Prop} (hb : ∀ k, P k → k < w.heap.size → w'.heap[k]? = w.heap[k]? ∧ P' k) : ∀ (ts : List Nd) (A : Option Addr), KidsR w P ts A → KidsR w' P' ts A
  | [], _, _ => trivial
  | t :: ts, A, h => by
    unfold KidsR at h ⊢
    obtain ⟨g, o, hA, hg, h1, h2⟩ := h
    obtain ⟨h3, h4⟩ := OneR.keep hb t g o hg h1
    exact ⟨g, o, hA, h4, h3, KidsR.keep hb ts _ h2⟩
theorem OneR.keep {w w' : World} {P P' : Nat → Prop} (hb : ∀ k, P k → k < w.heap.size → w'.heap[k]? = w.heap[k]? ∧ P' k) : ∀ (t : Nd) (g o : Nat), P g → OneR w P t g o → OneR w' P' t g o ∧ P' g
  | .mk k x n u a kids, g, o, hg, h => by
    unfold OneR at h ⊢
    obtain ⟨A, c, h0, h1, h2, h3, h4, h5, h6⟩ := h
    have hlt := World.block_lt_of_cell? w _ h0
    have e : ∀ i, w'.cell? ⟨g, i, none⟩ = w.cell? ⟨g, i, none⟩ := fun i => World.cell?_of_block (a := ⟨g, i, none⟩) (hb g hg hlt).1
    exact ⟨⟨A, c, by rw [e]; exact h0, by rw [e]; exact h1, by rw [e]; exact h2, by rw [e]; exact h3, by rw [e]; exact h4, by rw [e]; exact h5, KidsR.keep hb kids A h6⟩, (hb g hg hlt).2⟩
end
/-- the cells of a row of nodes -/
def RowsR (w : World) (P : Nat → Prop) : List Nd → List Value → Prop
  | [], vs => vs = []
  | t :: ts, vs => ∃ A c rest, vs = nCells t A c ++ rest ∧ KidsR w P t.kids A ∧ RowsR w P ts rest
theorem RowsR.keep {w w' : World} {P P' : Nat → Prop} (hb : ∀ k, P k → k < w.heap.size → w'.heap[k]? = w.heap[k]? ∧ P' k) : ∀ (ts : List Nd) (vs : List Value), RowsR w P ts vs → RowsR w' P' ts vs
  | [], _, h => h
  | t :: ts, vs, h => by
    obtain ⟨A, c, rest, h1, h2, h3⟩ := h
    exact ⟨A, c, rest, h1, KidsR.keep hb _ _ h2, RowsR.keep hb ts rest h3⟩
theorem RowsR.app {w : World} {P : Nat → Prop} {us : List Nd} {vs' : List Value} (h' : RowsR w P us vs') : ∀ (ts : List Nd) (vs : List Value), RowsR w P ts vs → RowsR w P (ts ++ us) (vs ++ vs')
  | [], vs, h => by unfold RowsR at h; subst h; exact h'
  | t :: ts, vs, h => by
    obtain ⟨A, c, rest, h1, h2, h3⟩ := h
    exact ⟨A, c, rest ++ vs', by rw [h1, List.append_assoc], h2, RowsR.app h' ts rest h3⟩
theorem RowsR.one {w : World} {P : Nat → Prop} (t : Nd) (A : Option Addr) (c : Nat) (h : KidsR w P t.kids A) : RowsR w P [t] (nCells t A c) :=
  ⟨A, c, [], by simp, h, rfl⟩
theorem RowsR.kids {w : World} {P : Nat → Prop} {g : Nat} (hg : P g) : ∀ (ts : List Nd) (vs : List Value) (o : Nat), RowsR w P ts vs → (∀ j u, vs[j]? = some u → w.cell? ⟨g, o + j, none⟩ = some u) → KidsR w P ts (some ⟨g, o, none⟩)
  | [], _, _, _, _ => trivial
  | t :: ts, vs, o, h, hc => by
    obtain ⟨A, c, rest, rfl, h2, h3⟩ := h
    unfold KidsR
    refine ⟨g, o, rfl, hg, ?_, RowsR.kids hg ts rest (o + 6) h3 (fun j u hu => ?_)⟩
    · obtain ⟨k, x, n, u, a, kids⟩ := t
      unfold OneR
      exact ⟨A, c, hc 0 _ rfl, hc 1 _ rfl, hc 2 _ rfl, hc 3 _ rfl, hc 4 _ rfl, hc 5 _ rfl, h2⟩
    · rw [show o + 6 + j = o + (6 + j) by omega]
      refine hc (6 + j) u ?_
      rw [List.getElem?_append_right (by simp [nCells])]
      simpa [nCells] using hu
theorem RowsR.len {w : World} {P : Nat → Prop} : ∀ (ts : List Nd) (vs : List Value), RowsR w P ts vs → vs.length = ts.length * 6
  | [], vs, h => by unfold RowsR at h; subst h; rfl
  | t :: ts, vs, h => by
    obtain ⟨A, c, rest, rfl, h2, h3⟩ := h
    have := RowsR.len ts rest h3
    simp [nCells, this]; omega

abbrev nv (t : Nd) (A : Option Addr) (c : Nat) : Value := .agg #[.int .i64 t.kind, .string t.name, .int .i64 t.n, .int .i64 t.unit, .int .i64 t.at0, .slice A t.kids.length (t.kids.length + c)]
def From (B : Nat) (k : Nat) : Prop := B ≤ k
/-- blocks from a number on, but for the value's own -/
def Beside (B : Nat) (v : Value) (k : Nat) : Prop := B ≤ k ∧ v.ownBlock ≠ some k
/-- a value that is a node; its list lies in blocks from a number on -/
def VNd (B : Nat) (w : World) (v : Value) (t : Nd) : Prop := ∃ A c, v = nv t A c ∧ KidsR w (From B) t.kids A
/-- a slice of nodes that nobody else has -/
def VNds (B : Nat) (w : World) (v : Value) (ts : List Nd) : Prop := ∃ vs, w.ownsRow B 25 6 v ts.length vs ∧ RowsR w (Beside B v) ts vs
theorem VNds.kids {B : Nat} {w : World} {v : Value} {ts : List Nd} (h : VNds B w v ts) : ∃ A c, v = .slice A ts.length (ts.length + c) ∧ KidsR w (From B) ts A := by
  obtain ⟨vs, h1, h2⟩ := h
  rcases h1.2 with ⟨rfl, h0⟩ | ⟨g, cap, cur, rfl, hb, hg, hn, hc, hs, ht⟩
  · obtain rfl : ts = [] := List.eq_nil_of_length_eq_zero h0
    exact ⟨none, 0, rfl, trivial⟩
  · have h2' : RowsR w (From B) ts vs := h2.keep (fun k hk _ => ⟨rfl, hk.1⟩)
    refine ⟨_, cap - ts.length, by rw [Nat.add_sub_cancel' hn], h2'.kids hb ts vs 0 (fun j u hu => ?_)⟩
    have := h1.cells (g := g) rfl j u hu
    have hadd : (⟨g, 0, none⟩ : Addr).add j = ⟨g, 0 + j, none⟩ := by unfold Addr.add; split <;> simp_all
    rw [hadd] at this
    exact this
theorem capOf {B : Nat} {w : World} {A : Option Addr} {n c : Nat} {ts : List Nd} (h : VNds B w (.slice A n c) ts) : ∃ cx, c = ts.length + cx := by
  obtain ⟨A', c', e, hk⟩ := h.kids
  cases e
  exact ⟨c', rfl⟩
theorem VNds.nil (B : Nat) (w : World) : VNds B w (.slice none 0 0) [] := ⟨[], World.ownsRow_nil _ _ _ _, rfl⟩
theorem ownsRow_low {w : World} {base base' : Nat} {e : TypeId} {size : Nat} {v : Value} {n : Nat} {xs : List Value} (hb : base' ≤ base) (h : w.ownsRow base e size v n xs) : w.ownsRow base' e size v n xs := by
  refine ⟨h.1, ?_⟩
  rcases h.2 with hn | ⟨g, cap, cur, hv, h1, rest⟩
  · exact .inl hn
  · exact .inr ⟨g, cap, cur, hv, Nat.le_trans hb h1, rest⟩
theorem VNds.low {B B' : Nat} {w : World} {v : Value} {ts : List Nd} (hb : B' ≤ B) (h : VNds B w v ts) : VNds B' w v ts := by
  obtain ⟨vs, h1, h2⟩ := h
  exact ⟨vs, ownsRow_low hb h1, h2.keep (fun k hk _ => ⟨rfl, Nat.le_trans hb hk.1, hk.2⟩)⟩
theorem VNds.keep {B : Nat} {w w' : World} {v : Value} {ts : List Nd} (hb : ∀ k, B ≤ k → k < w.heap.size → w'.heap[k]? = w.heap[k]?) (h : VNds B w v ts) : VNds B w' v ts := by
  obtain ⟨vs, h1, h2⟩ := h
  refine ⟨vs, ⟨h1.1, ?_⟩, h2.keep (fun k hk hl => ⟨hb k hk.1 hl, hk⟩)⟩
  rcases h1.2 with hn | ⟨g, cap, cur, hv, hg, hh, rest⟩
  · exact .inl hn
  · exact .inr ⟨g, cap, cur, hv, hg, by rw [hb g hg (Array.getElem?_eq_some_iff.1 hh).1]; exact hh, rest⟩
theorem VNds.own {B : Nat} {w : World} {v : Value} {ts : List Nd} (h : VNds B w v ts) : ∃ A c, v = .slice A ts.length (ts.length + c) := by
  obtain ⟨A, c, h, _⟩ := h.kids
  exact ⟨A, c, h⟩
theorem KidsR.from {B B' : Nat} {w w' : World} {ts : List Nd} {A : Option Addr} (hb : ∀ k, B ≤ k → k < w.heap.size → w'.heap[k]? = w.heap[k]?) (hB : B' ≤ B) (h : KidsR w (From B) ts A) : KidsR w' (From B') ts A :=
  h.keep (fun k hk hl => ⟨hb k hk hl, Nat.le_trans hB hk⟩)
/-- blocks from one on, but for those that do not matter -/
theorem Kp.up_from {R : Nat} {w w' : World} (h : Kp R none w w') {B : Nat} (hB : R < B) : ∀ k, B ≤ k → k < w.heap.size → w'.heap[k]? = w.heap[k]? :=
  fun k h1 h2 => h.block k h2 (by omega) (by simp)
theorem cells6 {w : World} {b : Nat} {v0 v1 v2 v3 v4 v5 : Value} {T : TypeId} (h : w.heap[b]? = some (.cells #[v0, v1, v2, v3, v4, v5] T (0, 0))) :
    (w.cell? ⟨b, 0, none⟩ = some v0 ∧ w.cell? ⟨b, 1, none⟩ = some v1 ∧ w.cell? ⟨b, 2, none⟩ = some v2 ∧ w.cell? ⟨b, 3, none⟩ = some v3 ∧ w.cell? ⟨b, 4, none⟩ = some v4 ∧ w.cell? ⟨b, 5, none⟩ = some v5) ∧
    (w.frozen? ⟨b, 0, none⟩ = false ∧ w.frozen? ⟨b, 1, none⟩ = false ∧ w.frozen? ⟨b, 2, none⟩ = false ∧ w.frozen? ⟨b, 3, none⟩ = false ∧ w.frozen? ⟨b, 4, none⟩ = false ∧ w.frozen? ⟨b, 5, none⟩ = false) := by
  refine ⟨⟨?_, ?_, ?_, ?_, ?_, ?_⟩, ?_, ?_, ?_, ?_, ?_, ?_⟩
  · rw [cell_of_row _ _ 0 _ _ (0, 0) h]; rfl
  · rw [cell_of_row _ _ 1 _ _ (0, 0) h]; rfl
  · rw [cell_of_row _ _ 2 _ _ (0, 0) h]; rfl
  · rw [cell_of_row _ _ 3 _ _ (0, 0) h]; rfl
  · rw [cell_of_row _ _ 4 _ _ (0, 0) h]; rfl
  · rw [cell_of_row _ _ 5 _ _ (0, 0) h]; rfl
  all_goals simp [World.frozen?, h]
theorem gbRefl (w : World) (r : Option Nat) : w.grownBy w r := ⟨rfl, rfl, rfl, Nat.le_refl _, fun _ _ _ => rfl⟩
theorem gbSet {w w' : World} {b i : Nat} {v : Value} (h : w.grownBy w' (some b)) : w.grownBy (w'.setCell ⟨b, i, none⟩ v) (some b) :=
  ⟨h.os, h.tape, h.output, by simpa using h.size, fun k hk hn => (heap_setCell_other w' _ k v (fun e => hn (by rw [e]))).trans (h.block k hk hn)⟩
theorem gbAlloc {w w' : World} {r : Option Nat} {o : Obj} (h : w.grownBy w' r) : w.grownBy (w'.alloc o) r :=
  ⟨h.os, h.tape, h.output, by have := h.size; simp; omega, fun k hk hn => (Below.heap_alloc w' o k (Nat.lt_of_lt_of_le hk h.size)).trans (h.block k hk hn)⟩
theorem gbDrew {w w' : World} {r : Option Nat} (h : w.grownBy w' r) : w.grownBy w'.drew r := ⟨h.os, h.tape, h.output, h.size, h.block⟩
theorem PS.fin {C : Cx} {w w' : World} {nx nx' : Nat} {dv : Value} {ds : List (Int × Int)} (h0 : PS C w nx dv ds) (hk : Kp C.R none w w') (hblk : w'.heap[C.R]? = some (.cells (rCells C nx' dv) 46 (0, 0))) (hlt : nx' < C.ts.length) : PS C w' nx' dv ds :=
  h0.move hblk hlt (fun k hk' hn => hk.block k hk' hn (by simp))
theorem gbTrans {a b c : World} {r : Option Nat} (h : a.grownBy b r) (k : b.grownBy c r) : a.grownBy c r :=
  ⟨k.os.trans h.os, k.tape.trans h.tape, k.output.trans h.output, Nat.le_trans h.size k.size, fun i hi hn => (k.block i (Nat.lt_of_lt_of_le hi h.size) hn).trans (h.block i hi hn)⟩
theorem PS.lastR {C : Cx} {w w1 w' : World} {nx nx1 : Nat} {dv : Value} {ds : List (Int × Int)} {row : Option Nat} (h0 : PS C w nx dv ds) (hk : Kp C.R none w w1) (h1 : PS C w1 nx1 dv ds) (hg : w1.grownBy w' row) (hb : ∀ k, row = some k → w.heap.size ≤ k) :
    PS C w' nx1 dv ds ∧ Kp C.R none w w' := by
  have hk' : Kp C.R none w w' := hk.grown hg (.inr hb)
  have hR := h0.RLt
  exact ⟨h0.fin hk' ((hg.block _ h1.RLt (fun e => by have := hb _ e.symm; omega)).trans h1.blk) h1.lt, hk'⟩
/-- the end of a call: from its last inner world on only the call's own blocks have changed -/
theorem PS.last {C : Cx} {w w1 w' : World} {nx nx1 : Nat} {dv : Value} {ds : List (Int × Int)} {b : Nat} (h0 : PS C w nx dv ds) (hk : Kp C.R none w w1) (h1 : PS C w1 nx1 dv ds) (hg : w1.grownBy w' (some b)) (hb : w.heap.size ≤ b) :
    PS C w' nx1 dv ds ∧ Kp C.R none w w' := by
  have hk' : Kp C.R none w w' := hk.grown hg (.inr (fun k e => by cases e; exact hb))
  have hR := h0.RLt
  exact ⟨h0.fin hk' ((hg.block _ h1.RLt (fun e => by cases e; omega)).trans h1.blk) h1.lt, hk'⟩
abbrev zeroNd : Array Value := #[.int .i64 0, .string ⟨#[]⟩, .int .i64 0, .int .i64 0, .int .i64 0, .slice none 0 0]
end Go.Proofs.YtdaghppcomckbaaGreatDoor
