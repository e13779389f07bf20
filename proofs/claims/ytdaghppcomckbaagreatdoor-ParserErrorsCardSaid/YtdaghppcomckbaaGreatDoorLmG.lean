/- Texts of one proof: LyZ, LyJ. -/
import Derived.Test.YtdaghppcomckbaaGreatDoorLmF
/- How a run of tokens moves to another source: the same beginning, or the same end. No conditions. -/
namespace Go.Proofs.YtdaghppcomckbaaGreatDoor
open Go.RowKit
set_option linter.unusedVariables false
set_option linter.unusedSimpArgs false

/-- the same first bytes, and then the end or a byte that continues no token -/
structure Pre (s s' : ByteArray) (e : Nat) : Prop where
  le : e ≤ s.size
  same : s'.data.toList.take e = s.data.toList.take e
  le' : e ≤ s'.size
  stop : s'.data.toList.drop e = [] ∨ ∃ g rest, s'.data.toList.drop e = g :: rest ∧ brk g

theorem drop_parts (l : List UInt8) (p e : Nat) (h : p ≤ e) (he : e ≤ l.length) : l.drop p = (l.take e).drop p ++ l.drop e ∧ ((l.take e).drop p).length = e - p := by
  constructor
  · conv => lhs; rw [← List.take_append_drop e l]
    rw [List.drop_append_of_le_length (by rw [List.length_take]; omega)]
  · rw [List.length_drop, List.length_take]; omega
theorem Pre.parts {s s' : ByteArray} {e p : Nat} (h : Pre s s' e) (hp : p ≤ e) : ∃ x, s.data.toList.drop p = x ++ s.data.toList.drop e ∧ s'.data.toList.drop p = x ++ s'.data.toList.drop e ∧ x.length = e - p := by
  have h1 := drop_parts s.data.toList p e hp (by rw [len_list]; exact h.le)
  have h2 := drop_parts s'.data.toList p e hp (by rw [len_list]; exact h.le')
  rw [h.same] at h2
  exact ⟨_, h1.1, h2.1, h1.2⟩
theorem Pre.tok {s s' : ByteArray} {e p : Nat} (h : Pre s s' e) (hp : p < e) (hn : p + tokLen (s.data.toList.drop p) ≤ e) :
    tokLen (s'.data.toList.drop p) = tokLen (s.data.toList.drop p) ∧ (s.data.toList.drop p).take (tokLen (s.data.toList.drop p)) = (s'.data.toList.drop p).take (tokLen (s.data.toList.drop p)) := by
  obtain ⟨x, h1, h2, h3⟩ := h.parts (Nat.le_of_lt hp)
  have hx : x ≠ [] := by intro h0; rw [h0] at h3; simp at h3; omega
  have hcut := tokLen_cut x (s.data.toList.drop e) hx (by rw [← h1]; omega)
  rw [← h1] at hcut
  have h4 : tokLen (s'.data.toList.drop p) = tokLen x := by
    rw [h2]
    rcases h.stop with h5 | ⟨g, rest, h5, h6⟩
    · rw [h5, List.append_nil]
    · rw [h5]; exact tokLen_brk x g rest hx h6
  refine ⟨h4.trans hcut, ?_⟩
  conv => lhs; rw [h1]
  rw [h2]
  have hl : tokLen (s.data.toList.drop p) ≤ x.length := by omega
  rw [h1] at hl ⊢
  rw [List.take_append_of_le_length hl, List.take_append_of_le_length hl]
theorem Pre.gap {s s' : ByteArray} {e r : Nat} (h : Pre s s' e) (hr : r ≤ e) (hg : gapE s r < e) : gapE s' r = gapE s r := by
  obtain ⟨x, h1, h2, h3⟩ := h.parts hr
  unfold gapE at hg ⊢
  have hlt : gapLen false (x ++ s.data.toList.drop e) < x.length := by rw [← h1]; omega
  have h4 := gapLen_cut x _ false hlt
  rw [h1, h2, ← h4]
  rw [← h4] at hlt
  rw [gapLen_part x false _ hlt]
theorem Pre.run {s s' : ByteArray} {e : Nat} (h : Pre s s' e) {r r' : Nat} {ts : List Tk} (hr : Run s r ts r') (he : r' ≤ e) : Run s' r ts r' := by
  induction hr with
  | nil r => exact Run.nil r
  | @cons r nx r' tk ts hp hq hrun ih =>
    have hnx := rd_len s _ tk nx hq
    have h1 := hrun.le
    have hge := gapE_ge s r
    have hpe : gapE s r < e := by omega
    have hg := h.gap (by omega) hpe
    have ht := h.tok hpe (by omega)
    have hm := (rd_move s s' (gapE s r) (gapE s r) _ rfl ht.1 ht.2).2 tk nx hq
    have ha := rd_at s _ tk nx hq
    refine Run.cons (by rw [hg]; have := h.le'; omega) (nx := nx) ?_ (ih he)
    rw [hg, hm.2, ← hm.1]
    cases tk
    simp only at ha
    rw [ha]

/-- the same bytes from an offset on -/
def Suf (s s' : ByteArray) (r d : Nat) : Prop := s'.data.toList.drop (r + d) = s.data.toList.drop r
theorem Suf.more {s s' : ByteArray} {r d k : Nat} (h : Suf s s' r d) (hk : r ≤ k) : Suf s s' k d := by
  unfold Suf at h ⊢
  rw [show k + d = (r + d) + (k - r) by omega, ← List.drop_drop, h, List.drop_drop, show r + (k - r) = k by omega]
theorem Suf.size {s s' : ByteArray} {r d : Nat} (h : Suf s s' r d) (hr : r < s.size) : s'.size = s.size + d := by
  unfold Suf at h
  have := congrArg List.length h
  rw [List.length_drop, List.length_drop, len_list, len_list] at this
  omega
theorem Suf.gap {s s' : ByteArray} {r d : Nat} (h : Suf s s' r d) : gapE s' (r + d) = gapE s r + d := by
  unfold gapE
  rw [show s'.data.toList.drop (r + d) = s.data.toList.drop r from h]
  omega
theorem Suf.rd {s s' : ByteArray} {p d : Nat} (h : Suf s s' p d) {tk : Tk} {nx : Nat} (hq : rd s p = (tk, nx, 0)) : rd s' (p + d) = (shiftT d tk, nx + d, 0) := by
  have ha := rd_at s p tk nx hq
  have hm := (rd_move s s' p (p + d) _ rfl (by rw [show s'.data.toList.drop (p + d) = s.data.toList.drop p from h]) (by rw [show s'.data.toList.drop (p + d) = s.data.toList.drop p from h])).2 tk nx hq
  rw [hm.2, hm.1]
  unfold shiftT
  rw [ha]
  have e1 : ((p + d : Nat) : Int) = (p : Int) + (d : Int) := by omega
  rw [e1, show p + d + tokLen (s.data.toList.drop p) = p + tokLen (s.data.toList.drop p) + d by omega]
theorem Suf.run {s s' : ByteArray} {d : Nat} {r r' : Nat} {ts : List Tk} (hr : Run s r ts r') : Suf s s' r d → Run s' (r + d) (ts.map (shiftT d)) (r' + d) := by
  induction hr with
  | nil r => intro _; exact Run.nil _
  | @cons r nx r' tk ts hp hq hrun ih =>
    intro h
    have hnx := rd_ok s _ tk nx hp hq
    have hge := gapE_ge s r
    have hk := h.more hge
    refine Run.cons ?_ (nx := nx + d) ?_ (ih (h.more (by omega)))
    · rw [h.gap, hk.size hp]; omega
    · rw [h.gap]; exact hk.rd hq
/-- the same, where the gap before may be another one -/
theorem Suf.join {s s' : ByteArray} {d r r1 r' : Nat} {ts : List Tk} (hr : Run s r ts r') (h : Suf s s' (gapE s r) d) (hg : gapE s' r1 = gapE s r + d) : ∃ r1', Run s' r1 (ts.map (shiftT d)) r1' ∧ gapE s' r1' = gapE s r' + d ∧ (ts ≠ [] → r1' = r' + d) ∧ (ts = [] → r1' = r1) := by
  cases hr with
  | nil => exact ⟨r1, Run.nil _, hg, fun h => absurd rfl h, fun _ => rfl⟩
  | @cons _ nx _ tk ts hp hq hrun =>
    have hnx := rd_ok s _ tk nx hp hq
    have h2 := h.more (Nat.le_of_lt hnx.1)
    refine ⟨r' + d, Run.cons (by rw [hg, h.size hp]; omega) (nx := nx + d) (by rw [hg]; exact h.rd hq) (h2.run hrun), ?_, fun _ => rfl, fun h => by cases h⟩
    exact (h2.more hrun.le).gap
end Go.Proofs.YtdaghppcomckbaaGreatDoor

/- What Lex returns for two sources joined by a line feed. No conditions. -/
namespace Go.Proofs.YtdaghppcomckbaaGreatDoor
open Go.RowKit
set_option linter.unusedVariables false
set_option linter.unusedSimpArgs false

theorem lx_inv {s : ByteArray} {ts : List Tk} {p : Nat} (hs : s.size ≤ 10000) (h : lx s = (ts, 0, p)) : ∃ r, Run s 0 ts r ∧ s.size ≤ gapE s r ∧ ts.length ≤ 3000 := by
  obtain ⟨ts', r, h1, h2, h3⟩ := lx_run s hs
  rcases h3 with ⟨h4, h5⟩ | ⟨er, he, _, _, h5⟩
  · rw [h] at h5
    simp only [Prod.mk.injEq] at h5
    rw [h5.1]
    exact ⟨r, h1, h4, h2⟩
  · rw [h] at h5
    simp only [Prod.mk.injEq] at h5
    exact absurd h5.2.1.symm he
theorem lx_err_nil {s : ByteArray} {ts : List Tk} {er : Int} {p : Nat} (h : lx s = (ts, er, p)) (he : er ≠ 0) : ts = [] := by
  unfold lx at h
  split at h
  · simp only [Prod.mk.injEq] at h; exact h.1.symm
  · split at h
    · simp only [Prod.mk.injEq] at h; exact h.1.symm
    · simp only [Prod.mk.injEq] at h; exact absurd h.2.1.symm he
theorem gap_all {s : ByteArray} {r : Nat} (hr : r ≤ s.size) (h : s.size ≤ gapE s r) : gapLen false (s.data.toList.drop r) = (s.data.toList.drop r).length := by
  unfold gapE at h
  have h1 := gapLen_le (s.data.toList.drop r) false
  have h2 : (s.data.toList.drop r).length = s.size - r := by simp
  omega

theorem Run.head_lt {s : ByteArray} {r r' : Nat} {ts : List Tk} (h : Run s r ts r') (hne : ts ≠ []) : gapE s r < s.size := by
  cases h with
  | nil => exact absurd rfl hne
  | cons hp _ _ => exact hp
theorem join_run (a b s : ByteArray) (ra : Nat) (l m : List Tk) (rb : Nat) (hs : s.data.toList = a.data.toList ++ 10 :: b.data.toList) (h1 : Run a 0 l ra) (h2 : a.size ≤ gapE a ra) (h3 : Run b 0 m rb) :
    ∃ r, Run s 0 (l ++ m.map (shiftT ((a.size + 1 : Nat) : Int))) r ∧ gapE s r = gapE b rb + (a.size + 1) := by
  have hra := h1.size (Nat.zero_le _)
  have hsz : s.size = a.size + 1 + b.size := by
    have := congrArg List.length hs
    simp only [List.length_append, List.length_cons, len_list] at this
    omega
  have hpre : Pre a s a.size := ⟨Nat.le_refl _, by rw [hs, List.take_append_of_le_length (by rw [len_list]; omega)], by omega, Or.inr ⟨10, b.data.toList, by
    rw [hs, List.drop_append_of_le_length (by rw [len_list]; omega), List.drop_eq_nil_of_le (by rw [len_list]; omega)]; rfl, by decide, by decide⟩⟩
  have hrun := hpre.run h1 hra
  have hsuf : Suf b s 0 (a.size + 1) := by
    unfold Suf
    rw [hs, Nat.zero_add, List.drop_zero, ← len_list a, ← List.drop_drop, List.drop_left]
    rfl
  have hgap : gapE s ra = gapE b 0 + (a.size + 1) := by
    have h4 := gap_all hra h2
    have h5 : s.data.toList.drop ra = a.data.toList.drop ra ++ 10 :: b.data.toList := by rw [hs, List.drop_append_of_le_length (by rw [len_list]; omega)]
    unfold gapE
    rw [h5, gapLen_all _ false _ h4]
    have h6 : ∀ c, gapLen c (10 :: b.data.toList) = gapLen false b.data.toList + 1 := by intro c; cases c <;> rfl
    rw [h6, List.length_drop, len_list, List.drop_zero]
    omega
  obtain ⟨r1, h7, h8, _, _⟩ := Suf.join h3 (hsuf.more (Nat.zero_le _)) hgap
  exact ⟨r1, hrun.app h7, h8⟩
theorem join_size (a b s : ByteArray) (hs : s.data.toList = a.data.toList ++ 10 :: b.data.toList) : s.size = a.size + 1 + b.size := by
  have := congrArg List.length hs
  simp only [List.length_append, List.length_cons, len_list] at this
  omega
theorem join_ok (a b s : ByteArray) (l m : List Tk) (p q : Nat) (hs : s.data.toList = a.data.toList ++ 10 :: b.data.toList) (ha : a.size ≤ 10000) (hb : b.size ≤ 10000) (h10 : s.size ≤ 10000)
    (h1 : lx a = (l, 0, p)) (h2 : lx b = (m, 0, q)) (hl : l.length + m.length ≤ 3000) : lx s = (l ++ m.map (shiftT ((a.size + 1 : Nat) : Int)), 0, 0) := by
  obtain ⟨ra, h3, h4, _⟩ := lx_inv ha h1
  obtain ⟨rb, h5, h6, _⟩ := lx_inv hb h2
  obtain ⟨r, h7, h8⟩ := join_run a b s ra l m rb hs h3 h4 h5
  have hz := join_size a b s hs
  exact lx_ok h10 h7 (by omega) (by simpa using hl)
theorem join_many (a b s : ByteArray) (l m : List Tk) (p q : Nat) (hs : s.data.toList = a.data.toList ++ 10 :: b.data.toList) (ha : a.size ≤ 10000) (hb : b.size ≤ 10000) (h10 : s.size ≤ 10000)
    (h1 : lx a = (l, 0, p)) (h2 : lx b = (m, 0, q)) (hl : 3000 < l.length + m.length) : ∃ i, lx s = ([], 2, i) ∧ a.size < i := by
  obtain ⟨ra, h3, h4, h5⟩ := lx_inv ha h1
  obtain ⟨rb, h6, h7, _⟩ := lx_inv hb h2
  rw [← List.take_append_drop (3000 - l.length) m] at h6
  obtain ⟨rk, h8, h9⟩ := Run.split _ h6
  have hne : m.drop (3000 - l.length) ≠ [] := by
    intro h
    have := congrArg List.length h
    simp at this
    omega
  have hlt : gapE b rk < b.size := h9.head_lt hne
  obtain ⟨r, h10', h11⟩ := join_run a b s ra l _ rk hs h3 h4 h8
  have hz := join_size a b s hs
  exact ⟨gapE s r, lx_bad h10 h10' (by omega) (by simp; omega) (by decide) (Or.inl ⟨by simp; omega, rfl⟩), by omega⟩

end Go.Proofs.YtdaghppcomckbaaGreatDoor
