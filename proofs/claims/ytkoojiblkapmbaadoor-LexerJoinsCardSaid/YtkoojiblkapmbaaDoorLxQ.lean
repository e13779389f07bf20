/- Runs of tokens: what Lex returns, as a relation; how it moves to another source. No conditions. -/
import Derived.Test.YtkoojiblkapmbaaDoorLxM
namespace Go.Proofs.YtkoojiblkapmbaaDoor
open Go.RowKit
set_option linter.unusedVariables false
set_option linter.unusedSimpArgs false

/-- from the end of a token on, these tokens, the last one ending there -/
inductive Run (s : ByteArray) : Nat → List Tk → Nat → Prop
  | nil (r : Nat) : Run s r [] r
  | cons {r nx r' : Nat} {tk : Tk} {ts : List Tk} (hp : gapE s r < s.size) (hq : rd s (gapE s r) = (tk, nx, 0)) (h : Run s nx ts r') : Run s r (tk :: ts) r'

theorem Run.app {s : ByteArray} {r r' r'' : Nat} {ts us : List Tk} (h : Run s r ts r') (k : Run s r' us r'') : Run s r (ts ++ us) r'' := by
  induction h with
  | nil r => exact k
  | cons hp hq h ih => exact Run.cons hp hq (ih k)
theorem Run.split {s : ByteArray} (ts : List Tk) : ∀ {us : List Tk} {r r'' : Nat}, Run s r (ts ++ us) r'' → ∃ r', Run s r ts r' ∧ Run s r' us r'' := by
  induction ts with
  | nil => intro us r r'' h; exact ⟨r, Run.nil r, h⟩
  | cons t ts ih =>
    intro us r r'' h
    cases h with
    | cons hp hq h =>
      obtain ⟨r', h1, h2⟩ := ih h
      exact ⟨r', Run.cons hp hq h1, h2⟩
theorem Run.le {s : ByteArray} {r r' : Nat} {ts : List Tk} (h : Run s r ts r') : r ≤ r' := by
  induction h with
  | nil r => exact Nat.le_refl _
  | cons hp hq h ih =>
    have h1 := rd_ok s _ _ _ hp hq
    have h2 := gapE_ge s ‹Nat›
    exact Nat.le_trans (Nat.le_trans (gapE_ge s _) (Nat.le_of_lt h1.1)) ih
theorem Run.size {s : ByteArray} {r r' : Nat} {ts : List Tk} (h : Run s r ts r') (hr : r ≤ s.size) : r' ≤ s.size := by
  induction h with
  | nil r => exact hr
  | cons hp hq h ih => exact ih (rd_ok s _ _ _ hp hq).2

/-- lexF and runs -/
theorem Run.lexF {s : ByteArray} {r r' : Nat} {ts : List Tk} (h : Run s r ts r') : ∀ (f c : Nat), s.size ≤ gapE s r + f → c + ts.length ≤ 3000 →
    ∃ g, s.size ≤ gapE s r' + g ∧ lexF s (f + 1) (gapE s r) c = (ts ++ (lexF s (g + 1) (gapE s r') (c + ts.length)).1, (lexF s (g + 1) (gapE s r') (c + ts.length)).2) := by
  induction h with
  | nil r => intro f c hf _; exact ⟨f, hf, by simp⟩
  | @cons r nx r' tk ts hp hq h ih =>
    intro f c hf hc
    simp only [List.length_cons] at hc
    have hnx := rd_ok s _ _ _ hp hq
    have hg := gapE_ge s nx
    obtain ⟨f', rfl⟩ : ∃ f', f = f' + 1 := ⟨f - 1, by omega⟩
    obtain ⟨g, hg1, hg2⟩ := ih f' (c + 1) (by omega) (by omega)
    refine ⟨g, hg1, ?_⟩
    rw [lexF_tok s _ _ _ tk nx hp (by omega) hq, hg2]
    simp only [List.length_cons, List.cons_append]
    rw [show c + 1 + ts.length = c + (ts.length + 1) by omega]
theorem lx_ok {s : ByteArray} {r : Nat} {ts : List Tk} (hs : s.size ≤ 10000) (h : Run s 0 ts r) (hr : s.size ≤ gapE s r) (hl : ts.length ≤ 3000) : lx s = (ts, 0, 0) := by
  obtain ⟨g, _, h2⟩ := h.lexF s.size 0 (by omega) (by omega)
  rw [lexF_done s g _ _ hr] at h2
  unfold lx
  rw [if_neg (by omega), h2]
  simp
theorem lx_bad {s : ByteArray} {r : Nat} {ts : List Tk} {er : Int} (hs : s.size ≤ 10000) (h : Run s 0 ts r) (hr : gapE s r < s.size) (hl : ts.length ≤ 3000) (he : er ≠ 0)
    (hx : (ts.length = 3000 ∧ er = 2) ∨ (ts.length ≠ 3000 ∧ (rd s (gapE s r)).2.2 = er)) : lx s = ([], er, gapE s r) := by
  obtain ⟨g, _, h2⟩ := h.lexF s.size 0 (by omega) (by omega)
  rw [Nat.zero_add] at h2
  have h3 : _root_.Go.Proofs.YtkoojiblkapmbaaDoor.lexF s (g + 1) (gapE s r) ts.length = ([], er, gapE s r) := by
    rcases hx with ⟨h3, rfl⟩ | ⟨h3, h4⟩
    · rw [h3]; exact lexF_many s g _ hr
    · exact lexF_bad s g _ _ _ _ er hr h3 (show rd s (gapE s r) = ((rd s (gapE s r)).1, (rd s (gapE s r)).2.1, er) by rw [← h4]) he
  rw [h3] at h2
  unfold lx
  rw [if_neg (by omega), h2, if_pos he]
theorem lexF_run (s : ByteArray) : ∀ (f r c : Nat), s.size ≤ gapE s r + f → c ≤ 3000 → ∃ ts r', Run s r ts r' ∧ c + ts.length ≤ 3000 ∧ (lexF s (f + 1) (gapE s r) c).1 = ts ∧
    ((s.size ≤ gapE s r' ∧ (lexF s (f + 1) (gapE s r) c).2 = (0, 0)) ∨ (gapE s r' < s.size ∧ c + ts.length = 3000 ∧ (lexF s (f + 1) (gapE s r) c).2 = (2, gapE s r')) ∨
      (gapE s r' < s.size ∧ c + ts.length ≠ 3000 ∧ (rd s (gapE s r')).2.2 ≠ 0 ∧ (lexF s (f + 1) (gapE s r) c).2 = ((rd s (gapE s r')).2.2, gapE s r'))) := by
  intro f
  induction f with
  | zero =>
    intro r c hf hc
    refine ⟨[], r, Run.nil r, by simpa using hc, ?_, Or.inl ⟨by omega, ?_⟩⟩ <;> rw [lexF_done s _ _ _ (by omega)]
  | succ f ih =>
    intro r c hf hc
    by_cases h1 : s.size ≤ gapE s r
    · refine ⟨[], r, Run.nil r, by simpa using hc, ?_, Or.inl ⟨h1, ?_⟩⟩ <;> rw [lexF_done s _ _ _ h1]
    by_cases h2 : c = 3000
    · subst h2
      refine ⟨[], r, Run.nil r, by simp, ?_, Or.inr (Or.inl ⟨by omega, by simp, ?_⟩)⟩ <;> rw [lexF_many s _ _ (by omega)]
    obtain ⟨tk, nx, er, hq⟩ : ∃ tk nx er, rd s (gapE s r) = (tk, nx, er) := ⟨_, _, _, rfl⟩
    by_cases he : er = 0
    · subst he
      have hnx := rd_ok s _ _ _ (by omega) hq
      have hg := gapE_ge s nx
      obtain ⟨ts, r', h3, h4, h5, h6⟩ := ih nx (c + 1) (by omega) (by omega)
      refine ⟨tk :: ts, r', Run.cons (by omega) hq h3, by simp only [List.length_cons]; omega, ?_, ?_⟩
      · rw [lexF_tok s _ _ _ tk nx (by omega) h2 hq, h5]
      · rw [lexF_tok s _ _ _ tk nx (by omega) h2 hq]
        simp only [List.length_cons]
        rw [show c + (ts.length + 1) = c + 1 + ts.length by omega]
        exact h6
    · refine ⟨[], r, Run.nil r, by simpa using hc, ?_, Or.inr (Or.inr ⟨by omega, by simpa using h2, by rw [hq]; exact he, ?_⟩)⟩ <;> rw [lexF_bad s _ _ _ tk nx er (by omega) h2 hq he]
      rw [hq]
theorem lx_run (s : ByteArray) (hs : s.size ≤ 10000) : ∃ ts r, Run s 0 ts r ∧ ts.length ≤ 3000 ∧
    ((s.size ≤ gapE s r ∧ lx s = (ts, 0, 0)) ∨ (∃ er, er ≠ 0 ∧ gapE s r < s.size ∧ ((ts.length = 3000 ∧ er = 2) ∨ (ts.length ≠ 3000 ∧ (rd s (gapE s r)).2.2 = er)) ∧ lx s = ([], er, gapE s r))) := by
  obtain ⟨ts, r, h1, h2, h3, h4⟩ := lexF_run s s.size 0 0 (by have := gapE_ge s 0; omega) (by omega)
  rw [Nat.zero_add] at h2 h4
  refine ⟨ts, r, h1, h2, ?_⟩
  rcases h4 with ⟨h5, _⟩ | ⟨h5, h6, _⟩ | ⟨h5, h6, h7, _⟩
  · exact Or.inl ⟨h5, lx_ok hs h1 h5 h2⟩
  · exact Or.inr ⟨2, by decide, h5, Or.inl ⟨h6, rfl⟩, lx_bad hs h1 h5 h2 (by decide) (Or.inl ⟨h6, rfl⟩)⟩
  · exact Or.inr ⟨_, h7, h5, Or.inr ⟨h6, rfl⟩, lx_bad hs h1 h5 h2 h7 (Or.inr ⟨h6, rfl⟩)⟩

/-- a token whose bytes stand elsewhere, too, and end there, too -/
theorem rd_move (s s' : ByteArray) (p p' n : Nat) (h1 : tokLen (s.data.toList.drop p) = n) (h2 : tokLen (s'.data.toList.drop p') = n) (h3 : (s.data.toList.drop p).take n = (s'.data.toList.drop p').take n) :
    (rd s' p').2.2 = (rd s p).2.2 ∧ ∀ tk nx, rd s p = (tk, nx, 0) → nx = p + n ∧ rd s' p' = (⟨tk.k, tk.x, tk.m, p'⟩, p' + n, 0) := by
  have hx : s'.extract p' (p' + n) = s.extract p (p + n) := by
    have : (s'.extract p' (p' + n)).data.toList = (s.extract p (p + n)).data.toList := by rw [sub_bytes, sub_bytes, h3]
    have h4 : (s'.extract p' (p' + n)).data = (s.extract p (p + n)).data := Array.toList_inj.1 this
    cases h5 : s'.extract p' (p' + n)
    cases h6 : s.extract p (p + n)
    rw [h5, h6] at h4
    simp only at h4
    rw [h4]
  by_cases h0 : n = 0
  · subst h0
    rw [rd_none s p h1, rd_none s' p' h2]
    refine ⟨rfl, fun tk nx h => ?_⟩
    simp at h
  · rw [rd_tok s p n h1 h0, rd_tok s' p' n h2 h0, hx]
    by_cases he : (tkP (s.extract p (p + n))).2 ≠ 0
    · rw [if_pos he, if_pos he]
      refine ⟨rfl, fun tk nx h => ?_⟩
      simp only [Prod.mk.injEq] at h
      exact absurd h.2.2 he
    · rw [if_neg he, if_neg he]
      refine ⟨rfl, fun tk nx h => ?_⟩
      simp only [Prod.mk.injEq] at h
      obtain ⟨rfl, rfl, _⟩ := h
      exact ⟨rfl, rfl⟩
theorem rd_len (s : ByteArray) (p : Nat) (tk : Tk) (nx : Nat) (h : rd s p = (tk, nx, 0)) : nx = p + tokLen (s.data.toList.drop p) ∧ 0 < tokLen (s.data.toList.drop p) := by
  have h1 := (rd_move s s p p _ rfl rfl rfl).2 tk nx h
  refine ⟨h1.1, ?_⟩
  rcases Nat.eq_zero_or_pos (tokLen (s.data.toList.drop p)) with h0 | h0
  · rw [rd_none s p h0] at h; simp at h
  · exact h0
end Go.Proofs.YtkoojiblkapmbaaDoor
