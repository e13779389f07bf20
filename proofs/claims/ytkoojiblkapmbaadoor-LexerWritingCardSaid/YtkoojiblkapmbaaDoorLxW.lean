/- The reference's Token in one piece, and the contract of its Lex; no conditions but sizes. -/
import Derived.Test.YtkoojiblkapmbaaDoorLxV
import Derived.Test.YtkoojiblkapmbaaDoorLxF
namespace Go.Proofs.YtkoojiblkapmbaaDoor
open Go.RowKit
set_option linter.unusedVariables false
set_option linter.unusedSimpArgs false

/-- what Token returns -/
def tkP (x : ByteArray) : Tk × Int := if tokErr x.data.toList ≠ 0 then (Tk.zero, tokErr x.data.toList) else (tokOf x 0, 0)
theorem tkP_bad {x : ByteArray} {e : Int} (h : tokErr x.data.toList = e) (he : e ≠ 0) : tkP x = (Tk.zero, e) := by unfold tkP; rw [h, if_pos he]
theorem tkP_ok {x : ByteArray} {t : Tk} (h : tokErr x.data.toList = 0) (ht : tokOf x 0 = t) : tkP x = (t, 0) := by unfold tkP; rw [h, if_neg (by decide), ht]
theorem head_x (x : ByteArray) (hx : 0 < x.size) : x.data.toList = x[0]'hx :: x.data.toList.drop 1 := by
  have := head_of x 0 hx
  rw [List.drop_zero] at this
  exact this
def TkPost (x : ByteArray) (w : World) (e : Ending) (w' : World) : Prop :=
  e = .returned (.tuple #[.agg #[.int .i64 (tkP x).1.k, .string (tkP x).1.x, .int .i64 (tkP x).1.m, .int .i64 (tkP x).1.a], .int .i64 (tkP x).2]) ∧ Below w.heap.size w w'
theorem len_list (x : ByteArray) : x.data.toList.length = x.size := by simp

theorem Token_any (x : ByteArray) (w : World) (hx : 0 < x.size) (hs : x.size ≤ 100000) (hdig : cls (x[0]'hx).toNat = 5 → ∀ b ∈ x.data.toList, 48 ≤ b.toNat ∧ b.toNat ≤ 57) :
    Calls Tryd.prog 21 #[.string x] w (TkPost x w) := by
  have hh := head_x x hx
  have hl := len_list x
  by_cases h4 : cls (x[0]'hx).toNat = 4
  · by_cases hn : 12 < x.size
    · have hp : tkP x = (Tk.zero, 3) := tkP_bad (by
        have hn2 := hn
        rw [← hl] at hn2
        rw [hh] at hn2 ⊢
        simp only [tokErr]
        rw [if_pos h4, if_pos hn2]) (by decide)
      unfold TkPost
      rw [hp]
      exact Token_long x w hx hs h4 hn
    · have hp : tkP x = (⟨1, x, 0, 0⟩, 0) := tkP_ok (by
        have hn2 := hn
        rw [← hl] at hn2
        rw [hh] at hn2 ⊢
        simp only [tokErr]
        rw [if_pos h4, if_neg hn2]) (by
        unfold tokOf
        rw [hh]
        simp only
        rw [if_pos h4]; rfl)
      unfold TkPost
      rw [hp]
      exact Token_name x w hx hs h4 (by omega)
  by_cases h5 : cls (x[0]'hx).toNat = 5
  · by_cases hz : 1 < x.size ∧ (x[0]'hx).toNat = 48
    · have hp : tkP x = (Tk.zero, 7) := tkP_bad (by
        have hz2 := hz
        rw [← hl] at hz2
        rw [hh] at hz2 ⊢
        simp only [tokErr]
        rw [if_neg h4, if_pos h5, if_pos hz2]) (by decide)
      unfold TkPost
      rw [hp]
      exact Token_zero x w hx hs h5 hz.1 (by rw [hz.2]; rfl)
    · have hz2 := hz
      rw [← hl] at hz2
      have hnum : Calls Tryd.prog 21 #[.string x] w (NumPost x w) := by
        by_cases h1 : x.size = 1
        · exact Token_num_one x w hx hs h5 h1 (hdig h5)
        · exact Token_num_more x w hx hs h5 (by omega) (by simp; omega) (hdig h5)
      refine hnum.mono ?_
      rintro e w' ⟨rfl, hb⟩
      refine ⟨?_, hb⟩
      by_cases hv : 1000000000 < decVal 0 x.data.toList
      · have hp : tkP x = (Tk.zero, 3) := tkP_bad (by
          rw [hh] at hz2 hv ⊢
          simp only [tokErr]
          rw [if_neg h4, if_pos h5, if_neg hz2, if_pos hv]) (by decide)
        rw [hp, if_pos hv]
        rfl
      · have hp : tkP x = (⟨2, ⟨#[]⟩, decVal 0 x.data.toList, 0⟩, 0) := tkP_ok (by
          rw [hh] at hz2 hv ⊢
          simp only [tokErr]
          rw [if_neg h4, if_pos h5, if_neg hz2, if_neg hv]) (by
          unfold tokOf
          rw [hh]
          simp only
          rw [if_neg h4, if_pos h5]; rfl)
        rw [hp, if_neg hv]
  · have hp : tkP x = (⟨3, x, 0, 0⟩, 0) := tkP_ok (by
      rw [hh]
      simp only [tokErr]
      rw [if_neg h4, if_neg h5]) (by
      unfold tokOf
      rw [hh]
      simp only
      rw [if_neg h4, if_neg h5]; rfl)
    unfold TkPost
    rw [hp]
    exact Token_punct x w hx hs h4 h5

/-- what read returns, by End and Token -/
theorem rd_none (s : ByteArray) (p : Nat) (h : tokLen (s.data.toList.drop p) = 0) : rd s p = (Tk.zero, 0, 7) := by unfold rd; rw [if_pos h]
theorem rd_tok (s : ByteArray) (p n : Nat) (hn : tokLen (s.data.toList.drop p) = n) (h0 : n ≠ 0) : rd s p = if (tkP (s.extract p (p + n))).2 ≠ 0 then (Tk.zero, 0, (tkP (s.extract p (p + n))).2) else (⟨(tkP (s.extract p (p + n))).1.k, (tkP (s.extract p (p + n))).1.x, (tkP (s.extract p (p + n))).1.m, p⟩, p + n, 0) := by
  unfold rd
  rw [hn, if_neg h0, ← sub_bytes]
  by_cases he : tokErr (s.extract p (p + n)).data.toList ≠ 0
  · rw [if_pos he, tkP_bad rfl he, if_pos he]
  · have he0 : tokErr (s.extract p (p + n)).data.toList = 0 := Classical.byContradiction he
    rw [if_neg he, tkP_ok he0 rfl, if_neg (by show ¬ ((0 : Int) ≠ 0); decide)]
    have : ∀ q : Nat, tokOf (s.extract p (p + n)) q = ⟨(tokOf (s.extract p (p + n)) 0).k, (tokOf (s.extract p (p + n)) 0).x, (tokOf (s.extract p (p + n)) 0).m, q⟩ := by
      intro q
      unfold tokOf
      split
      · rfl
      · split
        · rfl
        · split <;> rfl
    rw [this p]
theorem tok_head_dig (s : ByteArray) (p n : Nat) (hp : p < s.size) (hn : tokLen (s.data.toList.drop p) = n) (h5 : cls (s[p]'hp).toNat = 5) : ∀ b ∈ (s.extract p (p + n)).data.toList, 48 ≤ b.toNat ∧ b.toNat ≤ 57 := by
  apply digits_of
  rw [← hn, head_of s p hp]
  simp only [tokLen]
  rw [if_neg (by omega), if_pos h5]
end Go.Proofs.YtkoojiblkapmbaaDoor
