/- The reference's Text, and what it gives for tokens that Lex returns; no conditions but sizes. -/
import Derived.Test.YtkoojiblkapmbaaDoorLxDg
import Derived.Test.YtkoojiblkapmbaaDoorLxJ
namespace Go.Proofs.YtkoojiblkapmbaaDoor
open Go.RowKit
set_option linter.unusedVariables false
set_option linter.unusedSimpArgs false

def txtB (t : Tk) : ByteArray := if t.k = 2 then ⟨(digL t.m.toNat).toArray⟩ else t.x
def TextPost (t : Tk) (w : World) (e : Ending) (w' : World) : Prop := e = .returned (.string (txtB t)) ∧ Below w.heap.size w w'
set_option maxHeartbeats 400000 in
set_option maxRecDepth 100000 in
theorem Text_num (x : ByteArray) (m : Nat) (a : Int) (w : World) (hm : m ≤ 1000000000) :
    Calls Tryd.prog 14 #[.agg #[.int .i64 2, .string x, .int .i64 m, .int .i64 a]] w (DigPost m w) := by
  have hmx : max (0 : Int) (m : Int) = (m : Int) := by omega
  have HM := Lib.hid hm
  clear hm
  go_enter Tryd.func14, Tryd.ntmps14
  go_wp2_with fail
  refine (digits_any m _ HM.out).mono ?_
  rintro e w' ⟨rfl, hb⟩
  go_wp2
  go_ret
  exact ⟨rfl, ((Below.refl _ _).alloc (Nat.le_refl _) _).trans (hb.mono (by simp))⟩
set_option maxHeartbeats 400000 in
set_option maxRecDepth 100000 in
theorem Text_other (k : Int) (x : ByteArray) (m : Int) (a : Int) (w : World) (hk : (k == 2) = false) :
    Calls Tryd.prog 14 #[.agg #[.int .i64 k, .string x, .int .i64 m, .int .i64 a]] w fun e w' => e = .returned (.string x) ∧ Below w.heap.size w w' := by
  go_enter Tryd.func14, Tryd.ntmps14
  go_wp2
  go_ret
  exact ⟨rfl, (Below.refl _ _).alloc (Nat.le_refl _) _⟩
theorem Text_any (t : Tk) (w : World) (hm : 0 ≤ t.m ∧ t.m ≤ 1000000000) :
    Calls Tryd.prog 14 #[.agg #[.int .i64 t.k, .string t.x, .int .i64 t.m, .int .i64 t.a]] w (TextPost t w) := by
  by_cases h : t.k = 2
  · obtain ⟨m, hm'⟩ := Int.eq_ofNat_of_zero_le hm.1
    rw [h, hm']
    refine (Text_num t.x m t.a w (by omega)).mono ?_
    rintro e w' ⟨rfl, hb⟩
    refine ⟨?_, hb⟩
    unfold txtB
    rw [if_pos h, hm']
    rfl
  · refine (Text_other t.k t.x t.m t.a w (by simp [h])).mono ?_
    rintro e w' ⟨rfl, hb⟩
    refine ⟨?_, hb⟩
    unfold txtB
    rw [if_neg h]

theorem digB_of (b : UInt8) (h : 48 ≤ b.toNat ∧ b.toNat ≤ 57) : digB (b.toNat - 48) = b := by
  apply UInt8.toNat_inj.1
  rw [digB_nat _ (by omega)]
  omega
theorem decVal_pos (b : UInt8) (r : List UInt8) (hb : 48 < b.toNat) : 1 ≤ decVal 0 (b :: r) := by
  rw [decVal_cons]
  have h1 := decVal_ge r (decStep 0 b)
  rw [decStep_eq] at h1
  exact Nat.le_trans (show 1 ≤ 0 * 10 + (b.toNat - 48) by omega) (by rw [decStep_eq]; exact h1)
theorem digL_of (n d : Nat) (hn : 1 ≤ n) (hd : d < 10) : digL (n * 10 + d) = digL n ++ [digB d] := by
  rw [digL, if_neg (by omega), show (n * 10 + d) / 10 = n by omega, show (n * 10 + d) % 10 = d by omega]
/-- digits without leading zeros are what the number is written as -/
theorem digL_dec : ∀ (n : Nat) (l : List UInt8), l.length = n → l ≠ [] → (∀ b ∈ l, 48 ≤ b.toNat ∧ b.toNat ≤ 57) → (l.length = 1 ∨ ∃ b r, l = b :: r ∧ 48 < b.toNat) → digL (decVal 0 l) = l := by
  intro n
  induction n with
  | zero => intro l h0 h1; exact absurd (List.eq_nil_of_length_eq_zero h0) h1
  | succ n ih =>
    intro l hlen hne hd hz
    have hsplit : l.dropLast ++ [l.getLast hne] = l := List.dropLast_concat_getLast hne
    have hlast := hd (l.getLast hne) (List.getLast_mem hne)
    generalize hy : l.getLast hne = y at *
    generalize hx : l.dropLast = x at *
    subst hsplit
    have hxl : x.length = n := by simpa using hlen
    rw [decVal_snoc, decStep_eq]
    by_cases hx0 : x = []
    · subst hx0
      show digL (0 * 10 + (y.toNat - 48)) = [y]
      rw [Nat.zero_mul, Nat.zero_add, digL, if_pos (by omega), digB_of y hlast]
    · obtain ⟨b, r, rfl⟩ : ∃ b r, x = b :: r := by
        cases x with
        | nil => exact absurd rfl hx0
        | cons b r => exact ⟨b, r, rfl⟩
      have hb48 : 48 < b.toNat := by
        rcases hz with hz | ⟨b', r', hz, hz2⟩
        · simp at hz
        · simp only [List.cons_append, List.cons.injEq] at hz
          rw [hz.1]; exact hz2
      have hpos := decVal_pos b r hb48
      rw [digL_of _ _ hpos (by omega), digB_of y hlast, ih (b :: r) hxl hx0 (fun c hc => hd c (by simp at hc ⊢; rcases hc with h | h <;> simp [h])) (Or.inr ⟨b, r, rfl, hb48⟩)]

/-- what the text of a token is, and how great its number is -/
theorem rd_text (s : ByteArray) (p nx : Nat) (tk : Tk) (hp : p < s.size) (hq : rd s p = (tk, nx, 0)) : txtB tk = s.extract p nx ∧ 0 ≤ tk.m ∧ tk.m ≤ 1000000000 := by
  obtain ⟨n, hn⟩ : ∃ n, tokLen (s.data.toList.drop p) = n := ⟨_, rfl⟩
  obtain ⟨h1, h2⟩ := rd_len s p tk nx hq
  rw [hn] at h1 h2
  subst h1
  unfold rd at hq
  rw [hn, if_neg (by omega)] at hq
  have hsb := sub_bytes s p n
  by_cases he : tokErr ((s.data.toList.drop p).take n) ≠ 0
  · rw [if_pos he] at hq
    simp only [Prod.mk.injEq] at hq
    exact absurd hq.2.2 he
  · rw [if_neg he] at hq
    simp only [Prod.mk.injEq] at hq
    have he0 : tokErr ((s.data.toList.drop p).take n) = 0 := Classical.byContradiction he
    obtain ⟨n', rfl⟩ : ∃ n', n = n' + 1 := ⟨n - 1, by omega⟩
    have hl : (s.data.toList.drop p).take (n' + 1) = s[p]'hp :: (s.data.toList.drop (p + 1)).take n' := by rw [head_of s p hp, List.take_succ_cons]
    rw [← hq.1]
    unfold tokOf
    rw [hsb, hl]
    simp only
    by_cases h4 : cls (s[p]'hp).toNat = 4
    · rw [if_pos h4]
      exact ⟨by unfold txtB; rw [if_neg (by show ¬ ((1 : Int) = 2); decide)], by show (0 : Int) ≤ 0; decide, by show (0 : Int) ≤ 1000000000; decide⟩
    rw [if_neg h4]
    by_cases h5 : cls (s[p]'hp).toNat = 5
    · rw [if_pos h5]
      have hdig := tok_head_dig s p (n' + 1) hp hn h5
      rw [hsb, hl] at hdig
      rw [hl] at he0
      simp only [tokErr] at he0
      rw [if_neg h4, if_pos h5] at he0
      by_cases hz : 1 < (s[p]'hp :: (s.data.toList.drop (p + 1)).take n').length ∧ (s[p]'hp).toNat = 48
      · rw [if_pos hz] at he0; exact absurd he0 (by decide)
      rw [if_neg hz] at he0
      by_cases hv : 1000000000 < decVal 0 (s[p]'hp :: (s.data.toList.drop (p + 1)).take n')
      · rw [if_pos hv] at he0; exact absurd he0 (by decide)
      refine ⟨?_, by show (0 : Int) ≤ (decVal 0 _ : Nat); omega, by show ((decVal 0 _ : Nat) : Int) ≤ 1000000000; omega⟩
      unfold txtB
      rw [if_pos rfl]
      have hx := digL_dec _ (s[p]'hp :: (s.data.toList.drop (p + 1)).take n') rfl (by simp) hdig (by
        by_cases h1 : (s[p]'hp :: (s.data.toList.drop (p + 1)).take n').length = 1
        · exact Or.inl h1
        · refine Or.inr ⟨_, _, rfl, ?_⟩
          have h48 := (hdig (s[p]'hp) (by simp)).1
          simp only [List.length_cons] at hz h1
          omega)
      have : (s.extract p (p + (n' + 1))) = ⟨(digL (decVal 0 (s[p]'hp :: (s.data.toList.drop (p + 1)).take n'))).toArray⟩ := by
        rw [hx, ← hl, ← hsb]
      rw [this]
      rfl
    · rw [if_neg h5]
      exact ⟨by unfold txtB; rw [if_neg (by show ¬ ((3 : Int) = 2); decide)], by show (0 : Int) ≤ 0; decide, by show (0 : Int) ≤ 1000000000; decide⟩
end Go.Proofs.YtkoojiblkapmbaaDoor
