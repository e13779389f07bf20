/- Texts of one proof: LxN. -/
import Derived.Lib.AtoiAll
import Derived.Test.YtdaghppcomckbaaGreatDoorRows
/- Digits as numbers, and what strconv.Atoi makes of them. Plain mathematics, no conditions. -/
namespace Go.Proofs.YtdaghppcomckbaaGreatDoor
def decStep (acc : Nat) (b : UInt8) : Nat := acc * 10 + (b.toNat - 48)
theorem decStep_eq (acc : Nat) (b : UInt8) : decStep acc b = acc * 10 + (b.toNat - 48) := by rw [decStep]
attribute [irreducible] decStep
def decVal (acc : Nat) : List UInt8 → Nat
  | [] => acc
  | b :: r => decVal (decStep acc b) r
theorem decVal_cons (acc : Nat) (b : UInt8) (r : List UInt8) : decVal acc (b :: r) = decVal (decStep acc b) r := rfl
theorem le_step (acc d z : Nat) (h : acc * 10 + d ≤ z) : acc ≤ z := by omega
theorem decVal_ge (l : List UInt8) : ∀ acc : Nat, acc ≤ decVal acc l := by
  induction l with
  | nil => intro acc; exact Nat.le_refl _
  | cons b r ih => intro acc; rw [decVal_cons]; exact le_step acc (b.toNat - 48) _ (by rw [← decStep_eq]; exact ih _)
def M64 : Nat := 18446744073709551616
theorem M64_eq : M64 = 18446744073709551616 := by unfold M64; rfl
theorem no_over (acc d : Nat) (h : acc * 10 + d < M64) : ¬ 1844674407370955162 ≤ acc := by rw [M64_eq] at h; omega
theorem parse_nil (acc : Nat) : Lib.parseUint10 acc [] = .ok acc := by rw [Lib.parseUint10]
theorem parse_cons (acc : Nat) (c : UInt8) (r : List UInt8) (h : 48 ≤ c.toNat ∧ c.toNat ≤ 57) : Lib.parseUint10 acc (c :: r) =
    if 1844674407370955162 ≤ acc then .range else if M64 ≤ decStep acc c then .range else Lib.parseUint10 (decStep acc c) r := by
  rw [Lib.parseUint10, if_pos h, M64_eq, decStep_eq]
theorem parse_digits_ok (l : List UInt8) : (∀ b ∈ l, 48 ≤ b.toNat ∧ b.toNat ≤ 57) → ∀ acc : Nat, decVal acc l < M64 → Lib.parseUint10 acc l = .ok (decVal acc l) := by
  induction l with
  | nil => intro _ acc _; rw [parse_nil, decVal]
  | cons b r ih =>
    intro hd acc h
    have hge := decVal_ge r (decStep acc b)
    rw [decVal_cons] at h ⊢
    have h2 : decStep acc b < M64 := Nat.lt_of_le_of_lt hge h
    have h1 : ¬ 1844674407370955162 ≤ acc := no_over acc (b.toNat - 48) (by rw [← decStep_eq]; exact h2)
    rw [parse_cons _ _ _ (hd b (by simp)), if_neg h1, if_neg (Nat.not_le.2 h2)]
    exact ih (fun x hx => hd x (by simp [hx])) _ h
theorem parse_digits_range (l : List UInt8) : (∀ b ∈ l, 48 ≤ b.toNat ∧ b.toNat ≤ 57) → ∀ acc : Nat, acc < M64 → ¬ decVal acc l < M64 → Lib.parseUint10 acc l = .range := by
  induction l with
  | nil => intro _ acc h0 h; rw [decVal] at h; exact absurd h0 h
  | cons b r ih =>
    intro hd acc h0 h
    rw [decVal_cons] at h
    rw [parse_cons _ _ _ (hd b (by simp))]
    by_cases h1 : 1844674407370955162 ≤ acc
    · rw [if_pos h1]
    · rw [if_neg h1]
      by_cases h2 : M64 ≤ decStep acc b
      · rw [if_pos h2]
      · rw [if_neg h2]
        exact ih (fun x hx => hd x (by simp [hx])) _ (Nat.not_le.1 h2) h
def M63 : Nat := 9223372036854775808
theorem M63_eq : M63 = 9223372036854775808 := by unfold M63; rfl
theorem atoi_head (c : UInt8) (r : List UInt8) (hc : 48 ≤ c.toNat ∧ c.toNat ≤ 57) : Lib.atoiAll (c :: r) = match Lib.parseMag (c :: r) with
    | .syntax => .syntax
    | .range => .range
    | .ok u => if M63 ≤ u then .range else .ok (u : Int) := by
  have h45 : ¬ c.toNat = 45 := by omega
  simp only [Lib.atoiAll]
  rw [if_neg (show ¬ (c.toNat = 43 ∨ c.toNat = 45) by omega)]
  cases Lib.parseMag (c :: r) <;> simp [h45, M63_eq]
theorem mag_eq (c : UInt8) (r : List UInt8) : Lib.parseMag (c :: r) = Lib.parseUint10 0 (c :: r) := by
  unfold Lib.parseMag
  rw [if_neg (by simp)]
theorem atoi_digits_ok (l : List UInt8) (hl : l ≠ []) (hd : ∀ b ∈ l, 48 ≤ b.toNat ∧ b.toNat ≤ 57) (h : decVal 0 l < M63) : Lib.atoiAll l = .ok (decVal 0 l : Int) := by
  match l, hl with
  | c :: r, _ =>
    rw [atoi_head c r (hd c (by simp)), mag_eq, parse_digits_ok (c :: r) hd 0 (by have := M63_eq; have := M64_eq; omega)]
    show (if M63 ≤ decVal 0 (c :: r) then _ else _) = _
    rw [if_neg (by omega)]
theorem atoi_digits_range (l : List UInt8) (hl : l ≠ []) (hd : ∀ b ∈ l, 48 ≤ b.toNat ∧ b.toNat ≤ 57) (h : ¬ decVal 0 l < M63) : Lib.atoiAll l = .range := by
  match l, hl with
  | c :: r, _ =>
    rw [atoi_head c r (hd c (by simp)), mag_eq]
    by_cases h2 : decVal 0 (c :: r) < M64
    · rw [parse_digits_ok (c :: r) hd 0 h2]
      show (if M63 ≤ decVal 0 (c :: r) then _ else _) = _
      rw [if_pos (by omega)]
    · rw [parse_digits_range (c :: r) hd 0 (by rw [M64_eq]; omega) h2]
end Go.Proofs.YtdaghppcomckbaaGreatDoor
