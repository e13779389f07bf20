/- Mathematics of the lexer: what a token and a gap are does not depend on what stands far behind; runs of tokens. No conditions. -/
import Derived.Test.YtkoojiblkapmbaaDoorLxY
namespace Go.Proofs.YtkoojiblkapmbaaDoor
open Go.RowKit
set_option linter.unusedVariables false
set_option linter.unusedSimpArgs false

/-- a byte that continues no token -/
def brk (g : UInt8) : Prop := nameB (cls g.toNat) = false ∧ g ≠ 61
theorem brk_dig {g : UInt8} (h : brk g) : ((cls g.toNat : Int) == 5) = false := by
  have h1 := h.1
  simp only [nameB, Bool.or_eq_false_iff, decide_eq_false_iff_not] at h1
  simp; omega
theorem runLen_cons (p : Nat → Bool) (b : UInt8) (r : List UInt8) : runLen p (b :: r) = if p (cls b.toNat) then runLen p r + 1 else 0 := rfl
theorem runLen_all (p : Nat → Bool) (x : List UInt8) : ∀ y : List UInt8, runLen p x = x.length → runLen p (x ++ y) = x.length + runLen p y := by
  induction x with
  | nil => intro y _; simp
  | cons b r ih =>
    intro y h
    rw [runLen_cons] at h
    rw [List.cons_append, runLen_cons]
    by_cases hp : p (cls b.toNat) = true
    · rw [if_pos hp] at h ⊢
      simp only [List.length_cons] at h ⊢
      rw [ih y (by omega)]; omega
    · rw [if_neg hp] at h; simp at h
theorem runLen_part (p : Nat → Bool) (x : List UInt8) : ∀ y : List UInt8, runLen p x < x.length → runLen p (x ++ y) = runLen p x := by
  induction x with
  | nil => intro y h; simp at h
  | cons b r ih =>
    intro y h
    rw [runLen_cons] at h
    rw [List.cons_append, runLen_cons, runLen_cons]
    by_cases hp : p (cls b.toNat) = true
    · rw [if_pos hp] at h
      simp only [List.length_cons] at h
      rw [if_pos hp, if_pos hp, ih y (by omega)]
    · rw [if_neg hp, if_neg hp]
theorem runLen_cut (p : Nat → Bool) (x y : List UInt8) (h : runLen p (x ++ y) ≤ x.length) : runLen p x = runLen p (x ++ y) := by
  by_cases h1 : runLen p x = x.length
  · rw [runLen_all p x y h1] at h ⊢; omega
  · exact (runLen_part p x y (by have := runLen_le p x; omega)).symm
theorem runLen_brk (p : Nat → Bool) (x : List UInt8) (g : UInt8) (r : List UInt8) (hg : p (cls g.toNat) = false) : runLen p (x ++ g :: r) = runLen p x := by
  have h0 : runLen p (g :: r) = 0 := by rw [runLen_cons, hg]; rfl
  by_cases h1 : runLen p x = x.length
  · rw [runLen_all p x _ h1, h0]; omega
  · exact runLen_part p x _ (by have := runLen_le p x; omega)
theorem tokLen_cons (b : UInt8) (r : List UInt8) : tokLen (b :: r) = if cls b.toNat = 4 then runLen nameB (b :: r)
    else if cls b.toNat = 5 then runLen (fun n => (n : Int) == 5) (b :: r)
    else if cls b.toNat = 7 then 1
    else if cls b.toNat = 8 then (if r.head? = some 61 then 2 else 1)
    else if cls b.toNat = 9 then (if r.head? = some 61 then 2 else 0)
    else 0 := rfl
theorem head_app (r y : List UInt8) (h : r ≠ []) : (r ++ y).head? = r.head? := by
  cases r with
  | nil => exact absurd rfl h
  | cons a b => rfl
/-- a token that ends within x is the same without what follows -/
theorem tokLen_cut (x y : List UInt8) (hx : x ≠ []) (h : tokLen (x ++ y) ≤ x.length) : tokLen x = tokLen (x ++ y) := by
  cases x with
  | nil => exact absurd rfl hx
  | cons b r =>
    have hc := runLen_cut nameB (b :: r) y
    have hd := runLen_cut (fun n => (n : Int) == 5) (b :: r) y
    rw [List.cons_append] at h hc hd ⊢
    rw [tokLen_cons] at h ⊢
    rw [tokLen_cons]
    by_cases h4 : cls b.toNat = 4
    · rw [if_pos h4] at h ⊢; rw [if_pos h4]; exact hc h
    rw [if_neg h4] at h ⊢; rw [if_neg h4]
    by_cases h5 : cls b.toNat = 5
    · rw [if_pos h5] at h ⊢; rw [if_pos h5]; exact hd h
    rw [if_neg h5] at h ⊢; rw [if_neg h5]
    by_cases h7 : cls b.toNat = 7
    · rw [if_pos h7, if_pos h7]
    rw [if_neg h7] at h ⊢; rw [if_neg h7]
    by_cases hr : r = []
    · subst hr
      rw [List.nil_append] at h ⊢
      by_cases hy : y.head? = some 61
      · rw [if_pos hy] at h ⊢
        by_cases h8 : cls b.toNat = 8
        · rw [if_pos h8] at h; simp at h
        · rw [if_neg h8] at h ⊢; rw [if_neg h8]
          by_cases h9 : cls b.toNat = 9
          · rw [if_pos h9, if_pos hy] at h; simp at h
          · rw [if_neg h9, if_neg h9]
      · rw [if_neg hy, if_neg hy]; rfl
    · rw [head_app r y hr]
/-- a byte that continues no token ends it -/
theorem tokLen_brk (x : List UInt8) (g : UInt8) (r : List UInt8) (hx : x ≠ []) (hg : brk g) : tokLen (x ++ g :: r) = tokLen x := by
  cases x with
  | nil => exact absurd rfl hx
  | cons b t =>
    have hc := runLen_brk nameB (b :: t) g r hg.1
    have hd := runLen_brk (fun n => (n : Int) == 5) (b :: t) g r (brk_dig hg)
    rw [List.cons_append] at hc hd ⊢
    rw [tokLen_cons, tokLen_cons, hc, hd]
    have hh : (t ++ g :: r).head? = some 61 ↔ t.head? = some 61 := by
      cases t with
      | nil => simp; exact hg.2
      | cons a b => rfl
    by_cases h61 : t.head? = some 61
    · rw [if_pos (hh.2 h61), if_pos h61, if_pos (hh.2 h61), if_pos h61]
    · rw [if_neg (fun h => h61 (hh.1 h)), if_neg h61, if_neg (fun h => h61 (hh.1 h)), if_neg h61]

/-- inside a comment behind these bytes? -/
def cmt (c : Bool) : List UInt8 → Bool
  | [] => c
  | b :: r => cmt ((b == 35 || c) && b != 10) r
theorem gapLen_all (x : List UInt8) : ∀ (c : Bool) (y : List UInt8), gapLen c x = x.length → gapLen c (x ++ y) = x.length + gapLen (cmt c x) y := by
  induction x with
  | nil => intro c y _; simp [cmt]
  | cons b r ih =>
    intro c y h
    simp only [gapLen, List.length_cons] at h
    simp only [List.cons_append, gapLen, cmt, List.length_cons]
    split at h
    · omega
    · rename_i h1
      rw [if_neg h1, ih _ _ (by omega)]; omega
theorem gapLen_part (x : List UInt8) : ∀ (c : Bool) (y : List UInt8), gapLen c x < x.length → gapLen c (x ++ y) = gapLen c x := by
  induction x with
  | nil => intro c y h; simp at h
  | cons b r ih =>
    intro c y h
    simp only [gapLen, List.length_cons] at h
    simp only [List.cons_append, gapLen]
    split at h
    · rename_i h1; rw [if_pos h1, if_pos h1]
    · rename_i h1; rw [if_neg h1, if_neg h1, ih _ _ (by omega)]
theorem gapLen_cut (x y : List UInt8) (c : Bool) (h : gapLen c (x ++ y) < x.length) : gapLen c x = gapLen c (x ++ y) := by
  by_cases h1 : gapLen c x = x.length
  · rw [gapLen_all x c y h1] at h; omega
  · exact (gapLen_part x c y (by have := gapLen_le x c; omega)).symm
theorem gapLen_cut_all (x y : List UInt8) (c : Bool) (h : x.length ≤ gapLen c (x ++ y)) : gapLen c x = x.length := by
  by_cases h1 : gapLen c x = x.length
  · exact h1
  · have h2 := gapLen_le x c
    rw [gapLen_part x c y (by omega)] at h
    omega
end Go.Proofs.YtkoojiblkapmbaaDoor
