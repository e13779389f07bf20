/- Texts of one proof: LyM, LyQ. -/
import Derived.Test.YtdaghppcomckbaaGreatDoorLmE
import Derived.Test.YtdaghppcomckbaaGreatDoorLxF
/- Mathematics of the lexer: what a token and a gap are does not depend on what stands far behind; runs of tokens. No conditions. -/
namespace Go.Proofs.YtdaghppcomckbaaGreatDoor
open Go.RowKit
set_option linter.unusedVariables false
set_option linter.unusedSimpArgs false

/-- a token at another offset -/
def shiftT (d : Int) (t : Tk) : Tk := ⟨t.k, t.x, t.m, t.a + d⟩
theorem rd_at (s : ByteArray) (p : Nat) (tk : Tk) (nx : Nat) (hq : rd s p = (tk, nx, 0)) : tk.a = p := by
  unfold rd at hq
  split at hq
  · simp at hq
  · split at hq
    · rename_i h
      simp only [Prod.mk.injEq] at hq
      exact absurd hq.2.2 h
    · simp only [Prod.mk.injEq] at hq
      rw [← hq.1]
      unfold tokOf
      split
      · rfl
      · split
        · rfl
        · split <;> rfl
theorem lexF_bounds (s : ByteArray) : ∀ (f p c : Nat), c ≤ 3000 → (lexF s f p c).1.length ≤ 3000 - c ∧ ∀ t ∈ (lexF s f p c).1, (p : Int) ≤ t.a ∧ t.a ≤ s.size := by
  intro f
  induction f with
  | zero => intro p c _; simp [lexF]
  | succ f ih =>
    intro p c hc
    rw [lexF]
    by_cases h1 : s.size ≤ p
    · rw [if_pos h1]; simp
    · rw [if_neg h1]
      by_cases h2 : c = 3000
      · rw [if_pos h2]; simp
      · rw [if_neg h2]
        obtain ⟨tk, nx, er, hq⟩ : ∃ tk nx er, rd s p = (tk, nx, er) := ⟨_, _, _, rfl⟩
        rw [hq]
        by_cases he : er = 0
        · subst he
          rw [if_neg (by show ¬ ((0 : Int) ≠ 0); decide)]
          have hn := rd_ok s p tk nx (by omega) hq
          have ha := rd_at s p tk nx hq
          have h3 := ih (gapE s nx) (c + 1) (by omega)
          have h4 := gapE_ge s nx
          refine ⟨by simp only [List.length_cons]; omega, fun t ht => ?_⟩
          rcases List.mem_cons.1 ht with rfl | ht
          · omega
          · have := h3.2 t ht; omega
        · rw [if_pos he]; simp
theorem lx_bounds (s : ByteArray) (ts : List Tk) (er : Int) (p : Nat) (h : lx s = (ts, er, p)) : ts.length ≤ 3000 ∧ ∀ t ∈ ts, 0 ≤ t.a ∧ t.a ≤ 100000 := by
  unfold lx at h
  have hb := lexF_bounds s (s.size + 1) (gapE s 0) 0 (by omega)
  split at h
  · simp only [Prod.mk.injEq] at h; rw [← h.1]; simp
  · split at h
    · simp only [Prod.mk.injEq] at h; rw [← h.1]; simp
    · simp only [Prod.mk.injEq] at h
      rw [← h.1]
      exact ⟨by omega, fun t ht => by have := hb.2 t ht; omega⟩
theorem map_shift0 (ts : List Tk) : ts = ts.map (shiftT 0) := by
  have : ∀ t : Tk, shiftT 0 t = t := fun t => by cases t; simp [shiftT]
  rw [show shiftT 0 = id from funext this, List.map_id]


/-- a byte that continues no token -/
def brk (g : UInt8) : Prop := nameB (cls g.toNat) = false ∧ g ≠ 61
theorem brk_dig {g : UInt8} (h : brk g) : ((cls g.toNat : Int) == 5) = false := by
  have h1 := h.1
  simp only [nameB, Bool.or_eq_false_iff, decide_eq_false_iff_not] at h1
  simp; omega
theorem runLen_cons (p : Nat → Bool) (b : UInt8) (r : List UInt8) : runLen p (b :: r) = if p (cls b.toNat) then runLen p r + 1 else 0 := rfl
theorem runLen_all (p : Nat → Bool) (x : List UInt8) : ∀ y : List UInt8, runLen p x = x.length → runLen p (x ++ y) = x.length + runLen p y := by
  induction x with
  | nil => intro y _; simp
  | cons b r ih =>
    intro y h
    rw [runLen_cons] at h
    rw [List.cons_append, runLen_cons]
    by_cases hp : p (cls b.toNat) = true
    · rw [if_pos hp] at h ⊢
      simp only [List.length_cons] at h ⊢
      rw [ih y (by omega)]; omega
    · rw [if_neg hp] at h; simp at h
theorem runLen_part (p : Nat → Bool) (x : List UInt8) : ∀ y : List UInt8, runLen p x < x.length → runLen p (x ++ y) = runLen p x := by
  induction x with
  | nil => intro y h; simp at h
  | cons b r ih =>
    intro y h
    rw [runLen_cons] at h
    rw [List.cons_append, runLen_cons, runLen_cons]
    by_cases hp : p (cls b.toNat) = true
    · rw [if_pos hp] at h
      simp only [List.length_cons] at h
      rw [if_pos hp, if_pos hp, ih y (by omega)]
    · rw [if_neg hp, if_neg hp]
theorem runLen_cut (p : Nat → Bool) (x y : List UInt8) (h : runLen p (x ++ y) ≤ x.length) : runLen p x = runLen p (x ++ y) := by
  by_cases h1 : runLen p x = x.length
  · rw [runLen_all p x y h1] at h ⊢; omega
  · exact (runLen_part p x y (by have := runLen_le p x; omega)).symm
theorem runLen_brk (p : Nat → Bool) (x : List UInt8) (g : UInt8) (r : List UInt8) (hg : p (cls g.toNat) = false) : runLen p (x ++ g :: r) = runLen p x := by
  have h0 : runLen p (g :: r) = 0 := by rw [runLen_cons, hg]; rfl
  by_cases h1 : runLen p x = x.length
  · rw [runLen_all p x _ h1, h0]; omega
  · exact runLen_part p x _ (by have := runLen_le p x; omega)
theorem tokLen_cons (b : UInt8) (r : List UInt8) : tokLen (b :: r) = if cls b.toNat = 4 then runLen nameB (b :: r)
    else if cls b.toNat = 5 then runLen (fun n => (n : Int) == 5) (b :: r)
    else if cls b.toNat = 7 then 1
    else if cls b.toNat = 8 then (if r.head? = some 61 then 2 else 1)
    else if cls b.toNat = 9 then (if r.head? = some 61 then 2 else 0)
    else 0 := rfl
theorem head_app (r y : List UInt8) (h : r ≠ []) : (r ++ y).head? = r.head? := by
  cases r with
  | nil => exact absurd rfl h
  | cons a b => rfl
/-- a token that ends within x is the same without what follows -/
theorem tokLen_cut (x y : List UInt8) (hx : x ≠ []) (h : tokLen (x ++ y) ≤ x.length) : tokLen x = tokLen (x ++ y) := by
  cases x with
  | nil => exact absurd rfl hx
  | cons b r =>
    have hc := runLen_cut nameB (b :: r) y
    have hd := runLen_cut (fun n => (n : Int) == 5) (b :: r) y
    rw [List.cons_append] at h hc hd ⊢
    rw [tokLen_cons] at h ⊢
    rw [tokLen_cons]
    by_cases h4 : cls b.toNat = 4
    · rw [if_pos h4] at h ⊢; rw [if_pos h4]; exact hc h
    rw [if_neg h4] at h ⊢; rw [if_neg h4]
    by_cases h5 : cls b.toNat = 5
    · rw [if_pos h5] at h ⊢; rw [if_pos h5]; exact hd h
    rw [if_neg h5] at h ⊢; rw [if_neg h5]
    by_cases h7 : cls b.toNat = 7
    · rw [if_pos h7, if_pos h7]
    rw [if_neg h7] at h ⊢; rw [if_neg h7]
    by_cases hr : r = []
    · subst hr
      rw [List.nil_append] at h ⊢
      by_cases hy : y.head? = some 61
      · rw [if_pos hy] at h ⊢
        by_cases h8 : cls b.toNat = 8
        · rw [if_pos h8] at h; simp at h
        · rw [if_neg h8] at h ⊢; rw [if_neg h8]
          by_cases h9 : cls b.toNat = 9
          · rw [if_pos h9, if_pos hy] at h; simp at h
          · rw [if_neg h9, if_neg h9]
      · rw [if_neg hy, if_neg hy]; rfl
    · rw [head_app r y hr]
/-- a byte that continues no token ends it -/
theorem tokLen_brk (x : List UInt8) (g : UInt8) (r : List UInt8) (hx : x ≠ []) (hg : brk g) : tokLen (x ++ g :: r) = tokLen x := by
  cases x with
  | nil => exact absurd rfl hx
  | cons b t =>
    have hc := runLen_brk nameB (b :: t) g r hg.1
    have hd := runLen_brk (fun n => (n : Int) == 5) (b :: t) g r (brk_dig hg)
    rw [List.cons_append] at hc hd ⊢
    rw [tokLen_cons, tokLen_cons, hc, hd]
    have hh : (t ++ g :: r).head? = some 61 ↔ t.head? = some 61 := by
      cases t with
      | nil => simp; exact hg.2
      | cons a b => rfl
    by_cases h61 : t.head? = some 61
    · rw [if_pos (hh.2 h61), if_pos h61, if_pos (hh.2 h61), if_pos h61]
    · rw [if_neg (fun h => h61 (hh.1 h)), if_neg h61, if_neg (fun h => h61 (hh.1 h)), if_neg h61]

/-- inside a comment behind these bytes? -/
def cmt (c : Bool) : List UInt8 → Bool
  | [] => c
  | b :: r => cmt ((b == 35 || c) && b != 10) r
theorem gapLen_all (x : List UInt8) : ∀ (c : Bool) (y : List UInt8), gapLen c x = x.length → gapLen c (x ++ y) = x.length + gapLen (cmt c x) y := by
  induction x with
  | nil => intro c y _; simp [cmt]
  | cons b r ih =>
    intro c y h
    simp only [gapLen, List.length_cons] at h
    simp only [List.cons_append, gapLen, cmt, List.length_cons]
    split at h
    · omega
    · rename_i h1
      rw [if_neg h1, ih _ _ (by omega)]; omega
theorem gapLen_part (x : List UInt8) : ∀ (c : Bool) (y : List UInt8), gapLen c x < x.length → gapLen c (x ++ y) = gapLen c x := by
  induction x with
  | nil => intro c y h; simp at h
  | cons b r ih =>
    intro c y h
    simp only [gapLen, List.length_cons] at h
    simp only [List.cons_append, gapLen]
    split at h
    · rename_i h1; rw [if_pos h1, if_pos h1]
    · rename_i h1; rw [if_neg h1, if_neg h1, ih _ _ (by omega)]
theorem gapLen_cut (x y : List UInt8) (c : Bool) (h : gapLen c (x ++ y) < x.length) : gapLen c x = gapLen c (x ++ y) := by
  by_cases h1 : gapLen c x = x.length
  · rw [gapLen_all x c y h1] at h; omega
  · exact (gapLen_part x c y (by have := gapLen_le x c; omega)).symm
theorem gapLen_cut_all (x y : List UInt8) (c : Bool) (h : x.length ≤ gapLen c (x ++ y)) : gapLen c x = x.length := by
  by_cases h1 : gapLen c x = x.length
  · exact h1
  · have h2 := gapLen_le x c
    rw [gapLen_part x c y (by omega)] at h
    omega
end Go.Proofs.YtdaghppcomckbaaGreatDoor

/- Runs of tokens: what Lex returns, as a relation; how it moves to another source. No conditions. -/
namespace Go.Proofs.YtdaghppcomckbaaGreatDoor
open Go.RowKit
set_option linter.unusedVariables false
set_option linter.unusedSimpArgs false

/-- from the end of a token on, these tokens, the last one ending there -/
inductive Run (s : ByteArray) : Nat → List Tk → Nat → Prop
  | nil (r : Nat) : Run s r [] r
  | cons {r nx r' : Nat} {tk : Tk} {ts : List Tk} (hp : gapE s r < s.size) (hq : rd s (gapE s r) = (tk, nx, 0)) (h : Run s nx ts r') : Run s r (tk :: ts) r'

theorem Run.app {s : ByteArray} {r r' r'' : Nat} {ts us : List Tk} (h : Run s r ts r') (k : Run s r' us r'') : Run s r (ts ++ us) r'' := by
  induction h with
  | nil r => exact k
  | cons hp hq h ih => exact Run.cons hp hq (ih k)
theorem Run.split {s : ByteArray} (ts : List Tk) : ∀ {us : List Tk} {r r'' : Nat}, Run s r (ts ++ us) r'' → ∃ r', Run s r ts r' ∧ Run s r' us r'' := by
  induction ts with
  | nil => intro us r r'' h; exact ⟨r, Run.nil r, h⟩
  | cons t ts ih =>
    intro us r r'' h
    cases h with
    | cons hp hq h =>
      obtain ⟨r', h1, h2⟩ := ih h
      exact ⟨r', Run.cons hp hq h1, h2⟩
theorem Run.le {s : ByteArray} {r r' : Nat} {ts : List Tk} (h : Run s r ts r') : r ≤ r' := by
  induction h with
  | nil r => exact Nat.le_refl _
  | cons hp hq h ih =>
    have h1 := rd_ok s _ _ _ hp hq
    have h2 := gapE_ge s ‹Nat›
    exact Nat.le_trans (Nat.le_trans (gapE_ge s _) (Nat.le_of_lt h1.1)) ih
theorem Run.size {s : ByteArray} {r r' : Nat} {ts : List Tk} (h : Run s r ts r') (hr : r ≤ s.size) : r' ≤ s.size := by
  induction h with
  | nil r => exact hr
  | cons hp hq h ih => exact ih (rd_ok s _ _ _ hp hq).2

/-- lexF and runs -/
theorem Run.lexF {s : ByteArray} {r r' : Nat} {ts : List Tk} (h : Run s r ts r') : ∀ (f c : Nat), s.size ≤ gapE s r + f → c + ts.length ≤ 3000 →
    ∃ g, s.size ≤ gapE s r' + g ∧ lexF s (f + 1) (gapE s r) c = (ts ++ (lexF s (g + 1) (gapE s r') (c + ts.length)).1, (lexF s (g + 1) (gapE s r') (c + ts.length)).2) := by
  induction h with
  | nil r => intro f c hf _; exact ⟨f, hf, by simp⟩
  | @cons r nx r' tk ts hp hq h ih =>
    intro f c hf hc
    simp only [List.length_cons] at hc
    have hnx := rd_ok s _ _ _ hp hq
    have hg := gapE_ge s nx
    obtain ⟨f', rfl⟩ : ∃ f', f = f' + 1 := ⟨f - 1, by omega⟩
    obtain ⟨g, hg1, hg2⟩ := ih f' (c + 1) (by omega) (by omega)
    refine ⟨g, hg1, ?_⟩
    rw [lexF_tok s _ _ _ tk nx hp (by omega) hq, hg2]
    simp only [List.length_cons, List.cons_append]
    rw [show c + 1 + ts.length = c + (ts.length + 1) by omega]
theorem lx_ok {s : ByteArray} {r : Nat} {ts : List Tk} (hs : s.size ≤ 10000) (h : Run s 0 ts r) (hr : s.size ≤ gapE s r) (hl : ts.length ≤ 3000) : lx s = (ts, 0, 0) := by
  obtain ⟨g, _, h2⟩ := h.lexF s.size 0 (by omega) (by omega)
  rw [lexF_done s g _ _ hr] at h2
  unfold lx
  rw [if_neg (by omega), h2]
  simp
theorem lx_bad {s : ByteArray} {r : Nat} {ts : List Tk} {er : Int} (hs : s.size ≤ 10000) (h : Run s 0 ts r) (hr : gapE s r < s.size) (hl : ts.length ≤ 3000) (he : er ≠ 0)
    (hx : (ts.length = 3000 ∧ er = 2) ∨ (ts.length ≠ 3000 ∧ (rd s (gapE s r)).2.2 = er)) : lx s = ([], er, gapE s r) := by
  obtain ⟨g, _, h2⟩ := h.lexF s.size 0 (by omega) (by omega)
  rw [Nat.zero_add] at h2
  have h3 : _root_.Go.Proofs.YtdaghppcomckbaaGreatDoor.lexF s (g + 1) (gapE s r) ts.length = ([], er, gapE s r) := by
    rcases hx with ⟨h3, rfl⟩ | ⟨h3, h4⟩
    · rw [h3]; exact lexF_many s g _ hr
    · exact lexF_bad s g _ _ _ _ er hr h3 (show rd s (gapE s r) = ((rd s (gapE s r)).1, (rd s (gapE s r)).2.1, er) by rw [← h4]) he
  rw [h3] at h2
  unfold lx
  rw [if_neg (by omega), h2, if_pos he]
theorem lexF_run (s : ByteArray) : ∀ (f r c : Nat), s.size ≤ gapE s r + f → c ≤ 3000 → ∃ ts r', Run s r ts r' ∧ c + ts.length ≤ 3000 ∧ (lexF s (f + 1) (gapE s r) c).1 = ts ∧
    ((s.size ≤ gapE s r' ∧ (lexF s (f + 1) (gapE s r) c).2 = (0, 0)) ∨ (gapE s r' < s.size ∧ c + ts.length = 3000 ∧ (lexF s (f + 1) (gapE s r) c).2 = (2, gapE s r')) ∨
      (gapE s r' < s.size ∧ c + ts.length ≠ 3000 ∧ (rd s (gapE s r')).2.2 ≠ 0 ∧ (lexF s (f + 1) (gapE s r) c).2 = ((rd s (gapE s r')).2.2, gapE s r'))) := by
  intro f
  induction f with
  | zero =>
    intro r c hf hc
    refine ⟨[], r, Run.nil r, by simpa using hc, ?_, Or.inl ⟨by omega, ?_⟩⟩ <;> rw [lexF_done s _ _ _ (by omega)]
  | succ f ih =>
    intro r c hf hc
    by_cases h1 : s.size ≤ gapE s r
    · refine ⟨[], r, Run.nil r, by simpa using hc, ?_, Or.inl ⟨h1, ?_⟩⟩ <;> rw [lexF_done s _ _ _ h1]
    by_cases h2 : c = 3000
    · subst h2
      refine ⟨[], r, Run.nil r, by simp, ?_, Or.inr (Or.inl ⟨by omega, by simp, ?_⟩)⟩ <;> rw [lexF_many s _ _ (by omega)]
    obtain ⟨tk, nx, er, hq⟩ : ∃ tk nx er, rd s (gapE s r) = (tk, nx, er) := ⟨_, _, _, rfl⟩
    by_cases he : er = 0
    · subst he
      have hnx := rd_ok s _ _ _ (by omega) hq
      have hg := gapE_ge s nx
      obtain ⟨ts, r', h3, h4, h5, h6⟩ := ih nx (c + 1) (by omega) (by omega)
      refine ⟨tk :: ts, r', Run.cons (by omega) hq h3, by simp only [List.length_cons]; omega, ?_, ?_⟩
      · rw [lexF_tok s _ _ _ tk nx (by omega) h2 hq, h5]
      · rw [lexF_tok s _ _ _ tk nx (by omega) h2 hq]
        simp only [List.length_cons]
        rw [show c + (ts.length + 1) = c + 1 + ts.length by omega]
        exact h6
    · refine ⟨[], r, Run.nil r, by simpa using hc, ?_, Or.inr (Or.inr ⟨by omega, by simpa using h2, by rw [hq]; exact he, ?_⟩)⟩ <;> rw [lexF_bad s _ _ _ tk nx er (by omega) h2 hq he]
      rw [hq]
theorem lx_run (s : ByteArray) (hs : s.size ≤ 10000) : ∃ ts r, Run s 0 ts r ∧ ts.length ≤ 3000 ∧
    ((s.size ≤ gapE s r ∧ lx s = (ts, 0, 0)) ∨ (∃ er, er ≠ 0 ∧ gapE s r < s.size ∧ ((ts.length = 3000 ∧ er = 2) ∨ (ts.length ≠ 3000 ∧ (rd s (gapE s r)).2.2 = er)) ∧ lx s = ([], er, gapE s r))) := by
  obtain ⟨ts, r, h1, h2, h3, h4⟩ := lexF_run s s.size 0 0 (by have := gapE_ge s 0; omega) (by omega)
  rw [Nat.zero_add] at h2 h4
  refine ⟨ts, r, h1, h2, ?_⟩
  rcases h4 with ⟨h5, _⟩ | ⟨h5, h6, _⟩ | ⟨h5, h6, h7, _⟩
  · exact Or.inl ⟨h5, lx_ok hs h1 h5 h2⟩
  · exact Or.inr ⟨2, by decide, h5, Or.inl ⟨h6, rfl⟩, lx_bad hs h1 h5 h2 (by decide) (Or.inl ⟨h6, rfl⟩)⟩
  · exact Or.inr ⟨_, h7, h5, Or.inr ⟨h6, rfl⟩, lx_bad hs h1 h5 h2 h7 (Or.inr ⟨h6, rfl⟩)⟩

/-- a token whose bytes stand elsewhere, too, and end there, too -/
theorem rd_move (s s' : ByteArray) (p p' n : Nat) (h1 : tokLen (s.data.toList.drop p) = n) (h2 : tokLen (s'.data.toList.drop p') = n) (h3 : (s.data.toList.drop p).take n = (s'.data.toList.drop p').take n) :
    (rd s' p').2.2 = (rd s p).2.2 ∧ ∀ tk nx, rd s p = (tk, nx, 0) → nx = p + n ∧ rd s' p' = (⟨tk.k, tk.x, tk.m, p'⟩, p' + n, 0) := by
  have hx : s'.extract p' (p' + n) = s.extract p (p + n) := by
    have : (s'.extract p' (p' + n)).data.toList = (s.extract p (p + n)).data.toList := by rw [sub_bytes, sub_bytes, h3]
    have h4 : (s'.extract p' (p' + n)).data = (s.extract p (p + n)).data := Array.toList_inj.1 this
    cases h5 : s'.extract p' (p' + n)
    cases h6 : s.extract p (p + n)
    rw [h5, h6] at h4
    simp only at h4
    rw [h4]
  by_cases h0 : n = 0
  · subst h0
    rw [rd_none s p h1, rd_none s' p' h2]
    refine ⟨rfl, fun tk nx h => ?_⟩
    simp at h
  · rw [rd_tok s p n h1 h0, rd_tok s' p' n h2 h0, hx]
    by_cases he : (tkP (s.extract p (p + n))).2 ≠ 0
    · rw [if_pos he, if_pos he]
      refine ⟨rfl, fun tk nx h => ?_⟩
      simp only [Prod.mk.injEq] at h
      exact absurd h.2.2 he
    · rw [if_neg he, if_neg he]
      refine ⟨rfl, fun tk nx h => ?_⟩
      simp only [Prod.mk.injEq] at h
      obtain ⟨rfl, rfl, _⟩ := h
      exact ⟨rfl, rfl⟩
theorem rd_len (s : ByteArray) (p : Nat) (tk : Tk) (nx : Nat) (h : rd s p = (tk, nx, 0)) : nx = p + tokLen (s.data.toList.drop p) ∧ 0 < tokLen (s.data.toList.drop p) := by
  have h1 := (rd_move s s p p _ rfl rfl rfl).2 tk nx h
  refine ⟨h1.1, ?_⟩
  rcases Nat.eq_zero_or_pos (tokLen (s.data.toList.drop p)) with h0 | h0
  · rw [rd_none s p h0] at h; simp at h
  · exact h0
end Go.Proofs.YtdaghppcomckbaaGreatDoor
