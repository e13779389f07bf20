/- Statements of handlers: the mathematics, and how they lie in memory. -/
import Derived.Test.YtmofclpheioepaaDoorUxI
namespace Go.Proofs.YtmofclpheioepaaDoor
open Go.RowKit
set_option linter.unusedVariables false
set_option linter.unusedSimpArgs false

/-- a statement -/
inductive St where
  | mk (kind var rel : Int) (a b : Ex) (th el : List St)
def St.kind : St → Int | .mk k _ _ _ _ _ _ => k
def St.var : St → Int | .mk _ v _ _ _ _ _ => v
def St.rel : St → Int | .mk _ _ r _ _ _ _ => r
def St.a : St → Ex | .mk _ _ _ a _ _ _ => a
def St.b : St → Ex | .mk _ _ _ _ b _ _ => b
def St.th : St → List St | .mk _ _ _ _ _ t _ => t
def St.el : St → List St | .mk _ _ _ _ _ _ e => e
/-- a statement is within the limits, apart from those in it -/
def okS (k : Int) (a b : Ex) (n : Int) : Bool := decide (0 ≤ n) && (!decide (60 < a.size) && (!decide (k = 2) || !decide (60 < b.size)))
mutual
/-- how many statements are left, and whether all are within the limits -/
def evS : St → Int → Bool × Int
  | .mk k v r a b th el, n =>
    if okS k a b (n - 1) = true then (if k = 2 then (match evL th (n - 1) with | (true, m) => evL el m | (false, m) => (false, m)) else (true, n - 1)) else (false, n - 1)
def evL : List St → Int → Bool × Int
  | [], n => (true, n)
  | x :: xs, n => match evS x n with | (true, m) => evL xs m | (false, m) => (false, m)
end
mutual
theorem evS_range : ∀ (x : St) (n : Int), 0 ≤ n → -1 ≤ (evS x n).2 ∧ (evS x n).2 ≤ n ∧ ((evS x n).1 = true → 0 ≤ (evS x n).2)
  | .mk k v r a b th el, n, h => by
    rw [evS]
    by_cases ho : okS k a b (n - 1) = true
    · have h1 : 0 ≤ n - 1 := by simp [okS] at ho; omega
      rw [if_pos ho]
      by_cases hk : k = 2
      · rw [if_pos hk]
        have h2 := evL_range th (n - 1) h1
        rcases he : evL th (n - 1) with ⟨b1, m⟩
        rw [he] at h2
        cases b1 with
        | false => simp only at h2 ⊢; exact ⟨h2.1, by omega, by simp⟩
        | true =>
          simp only at h2 ⊢
          have h3 := evL_range el m (h2.2.2 trivial)
          exact ⟨h3.1, by omega, h3.2.2⟩
      · rw [if_neg hk]
        exact ⟨by simp only; omega, by simp only; omega, fun _ => h1⟩
    · rw [if_neg ho]
      exact ⟨by simp only; omega, by simp only; omega, by simp⟩
theorem evL_range : ∀ (l : List St) (n : Int), 0 ≤ n → -1 ≤ (evL l n).2 ∧ (evL l n).2 ≤ n ∧ ((evL l n).1 = true → 0 ≤ (evL l n).2)
  | [], n, h => by rw [evL]; exact ⟨by simp only; omega, by simp, fun _ => h⟩
  | x :: xs, n, h => by
    rw [evL]
    have h2 := evS_range x n h
    rcases he : evS x n with ⟨b1, m⟩
    rw [he] at h2
    cases b1 with
    | false => simp only at h2 ⊢; exact ⟨h2.1, by omega, by simp⟩
    | true =>
      simp only at h2 ⊢
      have h3 := evL_range xs m (h2.2.2 trivial)
      exact ⟨h3.1, by omega, h3.2.2⟩
end
mutual
/-- the expressions are not too long -/
def szS : St → Prop
  | .mk k v r a b th el => a.size ≤ 60 ∧ (k = 2 → b.size ≤ 60 ∧ szL th ∧ szL el)
def szL : List St → Prop
  | [] => True
  | x :: xs => szS x ∧ szL xs
end
mutual
theorem evS_sz : ∀ (x : St) (n : Int), (evS x n).1 = true → szS x
  | .mk k v r a b th el, n, h => by
    rw [evS] at h
    rw [szS]
    by_cases ho : okS k a b (n - 1) = true
    · rw [if_pos ho] at h
      simp [okS] at ho
      refine ⟨ho.2.1, fun hk => ?_⟩
      rw [if_pos hk] at h
      rcases he : evL th (n - 1) with ⟨b1, m⟩
      rw [he] at h
      cases b1 with
      | false => simp at h
      | true =>
        simp only at h
        exact ⟨by rcases ho.2.2 with h1 | h1 <;> first | exact h1 | exact absurd hk h1, evL_sz th (n - 1) (by rw [he]), evL_sz el m h⟩
    · rw [if_neg ho] at h
      simp at h
theorem evL_sz : ∀ (l : List St) (n : Int), (evL l n).1 = true → szL l
  | [], n, h => trivial
  | x :: xs, n, h => by
    rw [evL] at h
    rw [szL]
    rcases he : evS x n with ⟨b1, m⟩
    rw [he] at h
    cases b1 with
    | false => simp at h
    | true => simp only at h; exact ⟨evS_sz x n (by rw [he]), evL_sz xs m h⟩
end
theorem szL_mem : ∀ {l : List St} {x : St}, x ∈ l → szL l → szS x
  | [], x, h, _ => by cases h
  | y :: ys, x, h, hs => by
    rw [szL] at hs
    rcases List.mem_cons.1 h with rfl | h
    · exact hs.1
    · exact szL_mem h hs.2
def assignM (s : List Pw) (v : Int) (a : Ex) : Int :=
  if btw v 0 ((s.length : Int) - 1) = true then (match inf s a with | .error e => e | .ok p => if p = s.getD v.toNat ⟨0, 0, 0⟩ then 0 else 13) else 1
def cmpM (s : List Pw) (a b : Ex) : Int :=
  match inf s a with
  | .error e => e
  | .ok p => match inf s b with
    | .error e => e
    | .ok q => if p = q then 0 else 13
mutual
/-- the error of a statement -/
def stM (s : List Pw) : St → Int
  | .mk k v r a b th el =>
    if k = 1 then assignM s v a
    else if k = 2 then (if btw r 1 6 = true then (if cmpM s a b = 0 then (if stsM s th = 0 then stsM s el else stsM s th) else cmpM s a b) else 1)
    else 1
def stsM (s : List Pw) : List St → Int
  | [] => 0
  | x :: xs => if stM s x = 0 then stsM s xs else stM s x
end
def handM (s : List Pw) (l : List St) : Int := if (evL l 100).1 = true then stsM s l else 2
mutual
theorem inf_err {s : List Pw} : ∀ (t : Ex) {e : Int}, inf s t = .error e → e = 1 ∨ e = 13
  | .mk op n u ks, e, h => by
    rw [inf] at h
    rcases hk : infK s ks with er | ps <;> rw [hk] at h <;> simp only at h
    · simp only [Except.error.injEq] at h
      subst h
      exact infK_err ks hk
    · unfold nodeP at h
      split at h
      · split at h
        · simp at h
        · split at h
          · simp at h
          · split at h
            · simp at h
            · unfold twoP at h
              have hl : ∀ p : Pw, limP p = .error e → e = 1 ∨ e = 13 := fun p hp => by
                unfold limP at hp
                split at hp <;> simp at hp
                exact .inr hp.symm
              split at h
              · exact hl _ h
              · split at h
                · exact hl _ h
                · split at h <;> simp at h
                  exact .inr h.symm
      · simp at h
        exact .inl h.symm
theorem infK_err {s : List Pw} : ∀ (ks : List Ex) {e : Int}, infK s ks = .error e → e = 1 ∨ e = 13
  | [], e, h => by simp [infK] at h
  | k :: ks, e, h => by
    simp only [infK] at h
    rcases hk : inf s k with er | p <;> rw [hk] at h <;> simp only at h
    · simp only [Except.error.injEq] at h
      subst h
      exact inf_err k hk
    · rcases hks : infK s ks with er | qs <;> rw [hks] at h <;> simp at h
      subst h
      exact infK_err ks hks
end

abbrev sv (x : St) (A : Option Addr) (c : Nat) (B : Option Addr) (d : Nat) (T : Option Addr) (m : Nat) (E : Option Addr) (n : Nat) : Value :=
  .agg #[.int .i64 x.kind, .int .i64 x.var, .int .i64 x.rel, .int .i64 x.a.op, .int .i64 x.a.n, .int .i64 x.a.unit, .slice A x.a.kids.length (x.a.kids.length + c), .int .i64 x.b.op, .int .i64 x.b.n, .int .i64 x.b.unit, .slice B x.b.kids.length (x.b.kids.length + d), .slice T x.th.length m, .slice E x.el.length n]
abbrev sArr (x : St) (A : Option Addr) (c : Nat) (B : Option Addr) (d : Nat) (T : Option Addr) (m : Nat) (E : Option Addr) (n : Nat) : Array Value :=
  #[.int .i64 x.kind, .int .i64 x.var, .int .i64 x.rel, .int .i64 x.a.op, .int .i64 x.a.n, .int .i64 x.a.unit, .slice A x.a.kids.length (x.a.kids.length + c), .int .i64 x.b.op, .int .i64 x.b.n, .int .i64 x.b.unit, .slice B x.b.kids.length (x.b.kids.length + d), .slice T x.th.length m, .slice E x.el.length n]
/-- the cells of a statement -/
def StAt (w : World) (x : St) (g o : Nat) (A : Option Addr) (c : Nat) (B : Option Addr) (d : Nat) (T : Option Addr) (m : Nat) (E : Option Addr) (n : Nat) : Prop :=
  w.cell? ⟨g, o, none⟩ = some (.int .i64 x.kind) ∧ w.cell? ⟨g, o + 1, none⟩ = some (.int .i64 x.var) ∧ w.cell? ⟨g, o + 2, none⟩ = some (.int .i64 x.rel) ∧
  w.cell? ⟨g, o + 3, none⟩ = some (.int .i64 x.a.op) ∧ w.cell? ⟨g, o + 4, none⟩ = some (.int .i64 x.a.n) ∧ w.cell? ⟨g, o + 5, none⟩ = some (.int .i64 x.a.unit) ∧ w.cell? ⟨g, o + 6, none⟩ = some (.slice A x.a.kids.length (x.a.kids.length + c)) ∧
  w.cell? ⟨g, o + 7, none⟩ = some (.int .i64 x.b.op) ∧ w.cell? ⟨g, o + 8, none⟩ = some (.int .i64 x.b.n) ∧ w.cell? ⟨g, o + 9, none⟩ = some (.int .i64 x.b.unit) ∧ w.cell? ⟨g, o + 10, none⟩ = some (.slice B x.b.kids.length (x.b.kids.length + d)) ∧
  w.cell? ⟨g, o + 11, none⟩ = some (.slice T x.th.length m) ∧ w.cell? ⟨g, o + 12, none⟩ = some (.slice E x.el.length n)
mutual
/-- a slice of statements reads as a list -/
def StsR (w : World) : List St → Option Addr → Prop
  | [], _ => True
  | t :: ts, A => ∃ g o, A = some ⟨g, o, none⟩ ∧ StR w t g o ∧ StsR w ts (some ⟨g, o + 13, none⟩)
def StR (w : World) : St → Nat → Nat → Prop
  | .mk k v r a b th el, g, o => ∃ A c B d T m E n, StAt w (.mk k v r a b th el) g o A c B d T m E n ∧ KidsE w a.kids A ∧ KidsE w b.kids B ∧ StsR w th T ∧ StsR w el E ∧ th.length ≤ maxLen ∧ el.length ≤ maxLen
end
theorem StAt.keep {w w' : World} {x : St} {g o : Nat} {A B T E : Option Addr} {c d m n : Nat} (h : StAt w x g o A c B d T m E n) (hb : w'.heap[g]? = w.heap[g]?) : StAt w' x g o A c B d T m E n := by
  have e : ∀ i, w'.cell? ⟨g, i, none⟩ = w.cell? ⟨g, i, none⟩ := fun i => World.cell?_of_block (a := ⟨g, i, none⟩) hb
  unfold StAt
  simp only [e]
  exact h
theorem StR.cells {w : World} {x : St} {g o : Nat} (h : StR w x g o) : ∃ A c B d T m E n, StAt w x g o A c B d T m E n ∧ KidsE w x.a.kids A ∧ KidsE w x.b.kids B ∧ StsR w x.th T ∧ StsR w x.el E ∧ x.th.length ≤ maxLen ∧ x.el.length ≤ maxLen := by
  obtain ⟨k, v, r, a, b, th, el⟩ := x
  unfold StR at h
  exact h
theorem StsR.get {w : World} : ∀ (ts : List St) (g o : Nat), StsR w ts (some ⟨g, o, none⟩) → ∀ (i : Nat) (t : St), ts[i]? = some t → StR w t g (o + i * 13)
  | [], g, o, h, i, t, ht => by simp at ht
  | u :: us, g, o, h, i, t, ht => by
    unfold StsR at h
    obtain ⟨g', o', hA, h1, h2⟩ := h
    cases hA
    cases i with
    | zero => simp at ht; subst ht; simpa using h1
    | succ i =>
      have := StsR.get us g (o + 13) h2 i t (by simpa using ht)
      rw [show o + (i + 1) * 13 = o + 13 + i * 13 by omega]
      exact this
theorem StsR.addr {w : World} {ts : List St} {A : Option Addr} (h : StsR w ts A) (hn : 0 < ts.length) : ∃ g o, A = some ⟨g, o, none⟩ := by
  cases ts with
  | nil => simp at hn
  | cons t ts => unfold StsR at h; obtain ⟨g, o, hA, _⟩ := h; exact ⟨g, o, hA⟩
mutual
theorem StsR.keep {w w' : World} (hb : ∀ k, k < w.heap.size → w'.heap[k]? = w.heap[k]?) : ∀ (ts : List St) (A : Option Addr), StsR w ts A → StsR w' ts A
  | [], _, _ => trivial
  | t :: ts, A, h => by
    unfold StsR at h ⊢
    obtain ⟨g, o, hA, h1, h2⟩ := h
    exact ⟨g, o, hA, StR.keep hb t g o h1, StsR.keep hb ts _ h2⟩
theorem StR.keep {w w' : World} (hb : ∀ k, k < w.heap.size → w'.heap[k]? = w.heap[k]?) : ∀ (t : St) (g o : Nat), StR w t g o → StR w' t g o
  | .mk k v r a b th el, g, o, h => by
    unfold StR at h ⊢
    obtain ⟨A, c, B, d, T, m, E, n, h0, h1, h2, h3, h4, h5⟩ := h
    exact ⟨A, c, B, d, T, m, E, n, h0.keep (hb g (World.block_lt_of_cell? w _ h0.1)), h1.keep hb _ _, h2.keep hb _ _, StsR.keep hb th T h3, StsR.keep hb el E h4, h5⟩
end
theorem StsR.below {w w' : World} {ts : List St} {A : Option Addr} (h : StsR w ts A) (hb : Below w.heap.size w w') : StsR w' ts A := h.keep hb.block ts A
/-- new blocks, and writes to one block -/
structure KpL (L : Nat) (w w' : World) : Prop where
  os : w'.os = w.os
  tape : w'.tape = w.tape
  output : w'.output = w.output
  size : w.heap.size ≤ w'.heap.size
  block : ∀ k, k < w.heap.size → k ≠ L → w'.heap[k]? = w.heap[k]?
theorem KpL.refl (L : Nat) (w : World) : KpL L w w := ⟨rfl, rfl, rfl, Nat.le_refl _, fun _ _ _ => rfl⟩
theorem KpL.trans {L : Nat} {a b c : World} (h : KpL L a b) (k : KpL L b c) : KpL L a c :=
  ⟨k.os.trans h.os, k.tape.trans h.tape, k.output.trans h.output, Nat.le_trans h.size k.size, fun i hi h1 => (k.block i (Nat.lt_of_lt_of_le hi h.size) h1).trans (h.block i hi h1)⟩
theorem Below.kpl {L : Nat} {a b : World} (h : Below a.heap.size a b) : KpL L a b := ⟨h.os, h.tape, h.output, h.size, fun i hi _ => h.block i hi⟩
theorem KpL.alloc {L : Nat} {a b : World} (h : KpL L a b) (o : Obj) : KpL L a (b.alloc o) := h.trans (Below.kpl ((Below.refl _ _).alloc (Nat.le_refl _) _))
theorem KpL.set {L i : Nat} {a b : World} (h : KpL L a b) (v : Value) : KpL L a (b.setCell ⟨L, i, none⟩ v) :=
  ⟨h.os, h.tape, h.output, by simpa using h.size, fun k hk h1 => (heap_setCell_other b _ k v h1).trans (h.block k hk h1)⟩
theorem KpL.below {L B : Nat} {w0 a b : World} (h0 : Below B w0 a) (h : KpL L a b) (hB : B ≤ a.heap.size) (hL : B ≤ L) : Below B w0 b :=
  h0.trans ⟨h.os, h.tape, h.output, h.size, fun i hi => h.block i (by omega) (by omega)⟩
end Go.Proofs.YtmofclpheioepaaDoor
