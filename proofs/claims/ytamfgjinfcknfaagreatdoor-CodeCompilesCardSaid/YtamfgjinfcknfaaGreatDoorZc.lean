/- Texts of one proof: LxA, LxN, LxB. -/
import Derived.Test.YtamfgjinfcknfaaGreatDoorRows
import Derived.WalkKit
import Derived.LoopTactic
import Derived.Outline
import Derived.Deep.QuietTactic
import Derived.BigQuiet
import Derived.Lib.Hide
import Derived.Below
import Derived.Lib.LaidTab
import Derived.Lib.AtoiAll
set_option linter.unusedVariables false
set_option linter.unusedSimpArgs false
set_option maxRecDepth 100000
set_option maxHeartbeats 8000000
namespace Go.Proofs.YtamfgjinfcknfaaGreatDoor
open Go.RowKit
def clsTab : List Int := [0, 0, 0, 0, 0, 0, 0, 0, 0, 1, 2, 0, 0, 0, 0, 0, 0, 0, 0, 0, 0, 0, 0, 0, 0, 0, 0, 0, 0, 0, 0, 0, 1, 9, 0, 3, 0, 0, 0, 0, 7, 7, 7, 7, 7, 7, 0, 7, 5, 5, 5, 5, 5, 5, 5, 5, 5, 5, 0, 7, 8, 8, 8, 0, 0, 0, 0, 0, 0, 0, 0, 0, 0, 0, 0, 0, 0, 0, 0, 0, 0, 0, 0, 0, 0, 0, 0, 0, 0, 0, 0, 0, 0, 0, 0, 6, 0, 4, 4, 4, 4, 4, 4, 4, 4, 4, 4, 4, 4, 4, 4, 4, 4, 4, 4, 4, 4, 4, 4, 4, 4, 4, 4, 7, 0, 7, 0, 0]
def cls (n : Nat) : Nat := (clsTab.getD n 0).toNat
def Tab (w : World) : Prop := ∀ i, i < 128 → w.cell? ⟨4, i, none⟩ = some (.int .u8 (cls i))
theorem Tab.cell {w : World} (h : Tab w) (i : Nat) (hi : i < 128) : w.cell? ⟨4, i, none⟩ = some (.int .u8 (cls i)) := h i hi
theorem classOf_any (n : Nat) (w : World) (hT : Tab w) (hn : n < 256) :
  Calls Tryz.prog 136 #[.int .u8 n] w fun e w' => e = .returned (.int .u8 (cls n)) ∧ w = w' := by
 by_cases h : n < 128
 ·have hc := hT.cell n h
  clear hT
  go_enter Tryz.func136, Tryz.ntmps136
  go_wp2
  go_ret
  exact ⟨rfl, rfl⟩
 ·have hz : cls n = 0 := by unfold cls; rw [List.getD_eq_getElem?_getD, List.getElem?_eq_none (by simp [clsTab]; omega)]; rfl
  rw [hz]
  clear hT hz
  go_enter Tryz.func136, Tryz.ntmps136
  go_wp2
  go_ret
  exact ⟨rfl, rfl⟩
theorem clo_feed (n : Nat) (w : World) (_hn : n < 256) :
  Calls Tryz.prog 138 #[.int .u8 n] w fun e w' => e = .returned (.bool ((n : Int) != 2)) ∧ w = w' := by
 go_enter Tryz.func138, Tryz.ntmps138
 go_wp2
 go_ret
 exact ⟨rfl, rfl⟩
theorem clo_digit (n : Nat) (w : World) (_hn : n < 256) :
  Calls Tryz.prog 149 #[.int .u8 n] w fun e w' => e = .returned (.bool ((n : Int) == 5)) ∧ w = w' := by
 go_enter Tryz.func149, Tryz.ntmps149
 go_wp2
 go_ret
 exact ⟨rfl, rfl⟩
def nameB (n : Nat) : Bool := decide (n = 4) || decide (n = 5) || decide (n = 6)
theorem clo_name (n : Nat) (w : World) (_hn : n < 256) :
  Calls Tryz.prog 148 #[.int .u8 n] w fun e w' => e = .returned (.bool (nameB n)) ∧ w = w' := by
 by_cases h4 : n = 4
 ·subst h4
  go_enter Tryz.func148, Tryz.ntmps148
  go_wp2
  go_ret
  exact ⟨rfl, rfl⟩
 by_cases h5 : n = 5
 ·subst h5
  go_enter Tryz.func148, Tryz.ntmps148
  go_wp2
  go_ret
  exact ⟨rfl, rfl⟩
 have e4 : ((n : Int) == 4) = false := by simp; omega
 have e5 : ((n : Int) == 5) = false := by simp; omega
 have hr : nameB n = ((n : Int) == 6) := by simp only [nameB, h4, h5, decide_false, Bool.false_or]; rw [Bool.eq_iff_iff]; simp; omega
 rw [hr]
 clear h4 h5 hr
 go_enter Tryz.func148, Tryz.ntmps148
 go_wp2
 go_ret
 exact ⟨rfl, rfl⟩
def runLen (p : Nat → Bool) : List UInt8 → Nat
 | [] => 0
 | b :: r => if p (cls b.toNat) then runLen p r + 1 else 0
theorem runLen_le (p : Nat → Bool) (l : List UInt8) : runLen p l ≤ l.length := by
 induction l with
 | nil => exact Nat.le_refl _
 | cons b r ih => simp only [runLen, List.length_cons]; split <;> omega
theorem runLen_yes (p : Nat → Bool) (l : List UInt8) (k : Nat) (hk : k < l.length) (hp : p (cls l[k].toNat) = true) : runLen p (l.drop k) = runLen p (l.drop (k + 1)) + 1 := by
 rw [List.drop_eq_getElem_cons hk]
 simp [runLen, hp]
theorem runLen_no (p : Nat → Bool) (l : List UInt8) (k : Nat) (hk : k < l.length) (hp : p (cls l[k].toNat) = false) : runLen p (l.drop k) = 0 := by
 rw [List.drop_eq_getElem_cons hk]
 simp [runLen, hp]
theorem runLen_end (p : Nat → Bool) (l : List UInt8) (k : Nat) (hk : l.length ≤ k) : runLen p (l.drop k) = 0 := by
 rw [List.drop_eq_nil_of_le hk]; rfl
theorem byte_lt (b : UInt8) : b.toNat < 256 := b.toNat_lt
theorem cls_lt (n : Nat) : cls n < 256 := by
 by_cases h : n < 128
 ·have : ∀ n, n < 128 → cls n < 256 := by decide
  exact this n h
 ·unfold cls; rw [List.getD_eq_getElem?_getD, List.getElem?_eq_none (by simp [clsTab]; omega)]; decide
theorem ret_int {k : IntKind} {a b : Int} (h : a = b) : Ending.returned (.int k a) = .returned (.int k b) := by rw [h]
theorem end_feed (s : ByteArray) (at0 : Nat) (w : World) (hT : Tab w) (hat : at0 ≤ s.size) (hs : s.size ≤ maxLen) :
  Calls Tryz.prog 137 #[.string s, .int .i64 at0, .func (.func 138) #[] #[]] w fun e w' => e = .returned (.int .i64 ((at0 + runLen (fun n => (n : Int) != 2) (s.data.toList.drop at0) : Nat) : Int)) ∧ w = w' := by
 unfold maxLen at hs
 go_enter Tryz.func137, Tryz.ntmps137
 go_wp2
 go_loop [1] (fun i => ∃ k : Nat, at0 ≤ k ∧ k ≤ s.size ∧ i = .int .i64 k ∧ Hid (k + runLen (fun n => (n : Int) != 2) (s.data.toList.drop k) = at0 + runLen (fun n => (n : Int) != 2) (s.data.toList.drop at0))) (fun i => s.size - (intOf i).toNat)
 case atStart => exact ⟨at0, Nat.le_refl _, hat, rfl, rfl⟩
 case round =>
  obtain ⟨k, hk0, hk, rfl, hr⟩ := hrel
  by_cases hlt : k < s.size
  ·have hb := byte_lt s[k]
   have hc := cls_lt s[k].toNat
   cases hp : (fun n => (n : Int) != 2) (cls s[k].toNat)
   ·have hq := Lib.hid (runLen_no (fun n => (n : Int) != 2) s.data.toList k (by simpa using hlt) hp)
    have hp' := Lib.hid hp
    clear hp
    go_wp2_with fail
    refine (classOf_any _ _ hT hb).mono ?_
    rintro e w' ⟨rfl, rfl⟩
    go_wp2_with fail
    refine (clo_feed _ _ hc).mono ?_
    have hp2 := hp'.out
    rw [hp2]
    clear hp2
    rintro e w' ⟨rfl, rfl⟩
    go_wp2
    go_ret
    exact ⟨ret_int (by have h1 := hr.out; have h2 := hq.out; omega), rfl⟩
   ·have hq := Lib.hid (runLen_yes (fun n => (n : Int) != 2) s.data.toList k (by simpa using hlt) hp)
    have hp' := Lib.hid hp
    clear hp
    go_wp2_with fail
    refine (classOf_any _ _ hT hb).mono ?_
    rintro e w' ⟨rfl, rfl⟩
    go_wp2_with fail
    refine (clo_feed _ _ hc).mono ?_
    have hp2 := hp'.out
    rw [hp2]
    clear hp2
    rintro e w' ⟨rfl, rfl⟩
    go_wp2
    go_round
    case rel => exact ⟨k + 1, by omega, by omega, by go_num, by have h1 := hr.out; have h2 := hq.out; show _ = _; omega⟩
    case measure => simp [intOf]; omega
  ·have hq := Lib.hid (runLen_end (fun n => (n : Int) != 2) s.data.toList k (by simp; omega))
   go_wp2
   go_ret
   exact ⟨ret_int (by have h1 := hr.out; have h2 := hq.out; omega), rfl⟩
theorem end_digit (s : ByteArray) (at0 : Nat) (w : World) (hT : Tab w) (hat : at0 ≤ s.size) (hs : s.size ≤ maxLen) :
  Calls Tryz.prog 137 #[.string s, .int .i64 at0, .func (.func 149) #[] #[]] w fun e w' => e = .returned (.int .i64 ((at0 + runLen (fun n => (n : Int) == 5) (s.data.toList.drop at0) : Nat) : Int)) ∧ w = w' := by
 unfold maxLen at hs
 go_enter Tryz.func137, Tryz.ntmps137
 go_wp2
 go_loop [1] (fun i => ∃ k : Nat, at0 ≤ k ∧ k ≤ s.size ∧ i = .int .i64 k ∧ Hid (k + runLen (fun n => (n : Int) == 5) (s.data.toList.drop k) = at0 + runLen (fun n => (n : Int) == 5) (s.data.toList.drop at0))) (fun i => s.size - (intOf i).toNat)
 case atStart => exact ⟨at0, Nat.le_refl _, hat, rfl, rfl⟩
 case round =>
  obtain ⟨k, hk0, hk, rfl, hr⟩ := hrel
  by_cases hlt : k < s.size
  ·have hb := byte_lt s[k]
   have hc := cls_lt s[k].toNat
   cases hp : (fun n => (n : Int) == 5) (cls s[k].toNat)
   ·have hq := Lib.hid (runLen_no (fun n => (n : Int) == 5) s.data.toList k (by simpa using hlt) hp)
    have hp' := Lib.hid hp
    clear hp
    go_wp2_with fail
    refine (classOf_any _ _ hT hb).mono ?_
    rintro e w' ⟨rfl, rfl⟩
    go_wp2_with fail
    refine (clo_digit _ _ hc).mono ?_
    have hp2 := hp'.out
    rw [hp2]
    clear hp2
    rintro e w' ⟨rfl, rfl⟩
    go_wp2
    go_ret
    exact ⟨ret_int (by have h1 := hr.out; have h2 := hq.out; omega), rfl⟩
   ·have hq := Lib.hid (runLen_yes (fun n => (n : Int) == 5) s.data.toList k (by simpa using hlt) hp)
    have hp' := Lib.hid hp
    clear hp
    go_wp2_with fail
    refine (classOf_any _ _ hT hb).mono ?_
    rintro e w' ⟨rfl, rfl⟩
    go_wp2_with fail
    refine (clo_digit _ _ hc).mono ?_
    have hp2 := hp'.out
    rw [hp2]
    clear hp2
    rintro e w' ⟨rfl, rfl⟩
    go_wp2
    go_round
    case rel => exact ⟨k + 1, by omega, by omega, by go_num, by have h1 := hr.out; have h2 := hq.out; show _ = _; omega⟩
    case measure => simp [intOf]; omega
  ·have hq := Lib.hid (runLen_end (fun n => (n : Int) == 5) s.data.toList k (by simp; omega))
   go_wp2
   go_ret
   exact ⟨ret_int (by have h1 := hr.out; have h2 := hq.out; omega), rfl⟩
theorem end_name (s : ByteArray) (at0 : Nat) (w : World) (hT : Tab w) (hat : at0 ≤ s.size) (hs : s.size ≤ maxLen) :
  Calls Tryz.prog 137 #[.string s, .int .i64 at0, .func (.func 148) #[] #[]] w fun e w' => e = .returned (.int .i64 ((at0 + runLen nameB (s.data.toList.drop at0) : Nat) : Int)) ∧ w = w' := by
 unfold maxLen at hs
 go_enter Tryz.func137, Tryz.ntmps137
 go_wp2
 go_loop [1] (fun i => ∃ k : Nat, at0 ≤ k ∧ k ≤ s.size ∧ i = .int .i64 k ∧ Hid (k + runLen nameB (s.data.toList.drop k) = at0 + runLen nameB (s.data.toList.drop at0))) (fun i => s.size - (intOf i).toNat)
 case atStart => exact ⟨at0, Nat.le_refl _, hat, rfl, rfl⟩
 case round =>
  obtain ⟨k, hk0, hk, rfl, hr⟩ := hrel
  by_cases hlt : k < s.size
  ·have hb := byte_lt s[k]
   have hc := cls_lt s[k].toNat
   cases hp : nameB (cls s[k].toNat)
   ·have hq := Lib.hid (runLen_no nameB s.data.toList k (by simpa using hlt) hp)
    have hp' := Lib.hid hp
    clear hp
    go_wp2_with fail
    refine (classOf_any _ _ hT hb).mono ?_
    rintro e w' ⟨rfl, rfl⟩
    go_wp2_with fail
    refine (clo_name _ _ hc).mono ?_
    have hp2 := hp'.out
    rw [hp2]
    clear hp2
    rintro e w' ⟨rfl, rfl⟩
    go_wp2
    go_ret
    exact ⟨ret_int (by have h1 := hr.out; have h2 := hq.out; omega), rfl⟩
   ·have hq := Lib.hid (runLen_yes nameB s.data.toList k (by simpa using hlt) hp)
    have hp' := Lib.hid hp
    clear hp
    go_wp2_with fail
    refine (classOf_any _ _ hT hb).mono ?_
    rintro e w' ⟨rfl, rfl⟩
    go_wp2_with fail
    refine (clo_name _ _ hc).mono ?_
    have hp2 := hp'.out
    rw [hp2]
    clear hp2
    rintro e w' ⟨rfl, rfl⟩
    go_wp2
    go_round
    case rel => exact ⟨k + 1, by omega, by omega, by go_num, by have h1 := hr.out; have h2 := hq.out; show _ = _; omega⟩
    case measure => simp [intOf]; omega
  ·have hq := Lib.hid (runLen_end nameB s.data.toList k (by simp; omega))
   go_wp2
   go_ret
   exact ⟨ret_int (by have h1 := hr.out; have h2 := hq.out; omega), rfl⟩
end Go.Proofs.YtamfgjinfcknfaaGreatDoor
namespace Go.Proofs.YtamfgjinfcknfaaGreatDoor
def decStep (acc : Nat) (b : UInt8) : Nat := acc * 10 + (b.toNat - 48)
theorem decStep_eq (acc : Nat) (b : UInt8) : decStep acc b = acc * 10 + (b.toNat - 48) := by rw [decStep]
attribute [irreducible] decStep
def decVal (acc : Nat) : List UInt8 → Nat
 | [] => acc
 | b :: r => decVal (decStep acc b) r
theorem decVal_cons (acc : Nat) (b : UInt8) (r : List UInt8) : decVal acc (b :: r) = decVal (decStep acc b) r := rfl
theorem le_step (acc d z : Nat) (h : acc * 10 + d ≤ z) : acc ≤ z := by omega
theorem decVal_ge (l : List UInt8) : ∀ acc : Nat, acc ≤ decVal acc l := by
 induction l with
 | nil => intro acc; exact Nat.le_refl _
 | cons b r ih => intro acc; rw [decVal_cons]; exact le_step acc (b.toNat - 48) _ (by rw [← decStep_eq]; exact ih _)
def M64 : Nat := 18446744073709551616
theorem M64_eq : M64 = 18446744073709551616 := by unfold M64; rfl
theorem no_over (acc d : Nat) (h : acc * 10 + d < M64) : ¬ 1844674407370955162 ≤ acc := by rw [M64_eq] at h; omega
theorem parse_nil (acc : Nat) : Lib.parseUint10 acc [] = .ok acc := by rw [Lib.parseUint10]
theorem parse_cons (acc : Nat) (c : UInt8) (r : List UInt8) (h : 48 ≤ c.toNat ∧ c.toNat ≤ 57) : Lib.parseUint10 acc (c :: r) =
  if 1844674407370955162 ≤ acc then .range else if M64 ≤ decStep acc c then .range else Lib.parseUint10 (decStep acc c) r := by
 rw [Lib.parseUint10, if_pos h, M64_eq, decStep_eq]
theorem parse_digits_ok (l : List UInt8) : (∀ b ∈ l, 48 ≤ b.toNat ∧ b.toNat ≤ 57) → ∀ acc : Nat, decVal acc l < M64 → Lib.parseUint10 acc l = .ok (decVal acc l) := by
 induction l with
 | nil => intro _ acc _; rw [parse_nil, decVal]
 | cons b r ih =>
  intro hd acc h
  have hge := decVal_ge r (decStep acc b)
  rw [decVal_cons] at h ⊢
  have h2 : decStep acc b < M64 := Nat.lt_of_le_of_lt hge h
  have h1 : ¬ 1844674407370955162 ≤ acc := no_over acc (b.toNat - 48) (by rw [← decStep_eq]; exact h2)
  rw [parse_cons _ _ _ (hd b (by simp)), if_neg h1, if_neg (Nat.not_le.2 h2)]
  exact ih (fun x hx => hd x (by simp [hx])) _ h
theorem parse_digits_range (l : List UInt8) : (∀ b ∈ l, 48 ≤ b.toNat ∧ b.toNat ≤ 57) → ∀ acc : Nat, acc < M64 → ¬ decVal acc l < M64 → Lib.parseUint10 acc l = .range := by
 induction l with
 | nil => intro _ acc h0 h; rw [decVal] at h; exact absurd h0 h
 | cons b r ih =>
  intro hd acc h0 h
  rw [decVal_cons] at h
  rw [parse_cons _ _ _ (hd b (by simp))]
  by_cases h1 : 1844674407370955162 ≤ acc
  ·rw [if_pos h1]
  ·rw [if_neg h1]
   by_cases h2 : M64 ≤ decStep acc b
   ·rw [if_pos h2]
   ·rw [if_neg h2]
    exact ih (fun x hx => hd x (by simp [hx])) _ (Nat.not_le.1 h2) h
def M63 : Nat := 9223372036854775808
theorem M63_eq : M63 = 9223372036854775808 := by unfold M63; rfl
theorem atoi_head (c : UInt8) (r : List UInt8) (hc : 48 ≤ c.toNat ∧ c.toNat ≤ 57) : Lib.atoiAll (c :: r) = match Lib.parseMag (c :: r) with
  | .syntax => .syntax
  | .range => .range
  | .ok u => if M63 ≤ u then .range else .ok (u : Int) := by
 have h45 : ¬ c.toNat = 45 := by omega
 simp only [Lib.atoiAll]
 rw [if_neg (show ¬ (c.toNat = 43 ∨ c.toNat = 45) by omega)]
 cases Lib.parseMag (c :: r) <;> simp [h45, M63_eq]
theorem mag_eq (c : UInt8) (r : List UInt8) : Lib.parseMag (c :: r) = Lib.parseUint10 0 (c :: r) := by
 unfold Lib.parseMag
 rw [if_neg (by simp)]
theorem atoi_digits_ok (l : List UInt8) (hl : l ≠ []) (hd : ∀ b ∈ l, 48 ≤ b.toNat ∧ b.toNat ≤ 57) (h : decVal 0 l < M63) : Lib.atoiAll l = .ok (decVal 0 l : Int) := by
 match l, hl with
 | c :: r, _ =>
  rw [atoi_head c r (hd c (by simp)), mag_eq, parse_digits_ok (c :: r) hd 0 (by have := M63_eq; have := M64_eq; omega)]
  show (if M63 ≤ decVal 0 (c :: r) then _ else _) = _
  rw [if_neg (by omega)]
theorem atoi_digits_range (l : List UInt8) (hl : l ≠ []) (hd : ∀ b ∈ l, 48 ≤ b.toNat ∧ b.toNat ≤ 57) (h : ¬ decVal 0 l < M63) : Lib.atoiAll l = .range := by
 match l, hl with
 | c :: r, _ =>
  rw [atoi_head c r (hd c (by simp)), mag_eq]
  by_cases h2 : decVal 0 (c :: r) < M64
  ·rw [parse_digits_ok (c :: r) hd 0 h2]
   show (if M63 ≤ decVal 0 (c :: r) then _ else _) = _
   rw [if_pos (by omega)]
  ·rw [parse_digits_range (c :: r) hd 0 (by rw [M64_eq]; omega) h2]
end Go.Proofs.YtamfgjinfcknfaaGreatDoor
namespace Go.Proofs.YtamfgjinfcknfaaGreatDoor
open Go.RowKit
def gapLen (c : Bool) : List UInt8 → Nat
 | [] => 0
 | b :: r => if ((b == 35 || c) && b != 10) = false ∧ b ≠ 32 ∧ b ≠ 9 ∧ b ≠ 10 then 0 else gapLen ((b == 35 || c) && b != 10) r + 1
theorem gapLen_le (l : List UInt8) : ∀ c, gapLen c l ≤ l.length := by
 induction l with
 | nil => intro c; exact Nat.le_refl _
 | cons b r ih => intro c; simp only [gapLen, List.length_cons]; split <;> have := ih ((b == 35 || c) && b != 10) <;> omega
theorem cls_1 (b : UInt8) : cls b.toNat = 1 ↔ b = 9 ∨ b = 32 := by
 have h : ∀ n, n < 256 → (cls n = 1 ↔ n = 9 ∨ n = 32) := by decide +kernel
 rw [h _ b.toNat_lt, ← UInt8.toNat_inj, ← UInt8.toNat_inj]; rfl
theorem cls_2 (b : UInt8) : cls b.toNat = 2 ↔ b = 10 := by
 have h : ∀ n, n < 256 → (cls n = 2 ↔ n = 10) := by decide +kernel
 rw [h _ b.toNat_lt, ← UInt8.toNat_inj]; rfl
theorem cls_3 (b : UInt8) : cls b.toNat = 3 ↔ b = 35 := by
 have h : ∀ n, n < 256 → (cls n = 3 ↔ n = 35) := by decide +kernel
 rw [h _ b.toNat_lt, ← UInt8.toNat_inj]; rfl
theorem gapLen_comment (l : List UInt8) : gapLen true l = runLen (fun n => (n : Int) != 2) l + gapLen false (l.drop (runLen (fun n => (n : Int) != 2) l)) := by
 induction l with
 | nil => rfl
 | cons b r ih =>
  by_cases h : b = 10
  ·subst h
   have e : runLen (fun n => (n : Int) != 2) (10 :: r) = 0 := rfl
   rw [e]
   simp [gapLen]
  ·have h2 : ¬ cls b.toNat = 2 := fun hh => h ((cls_2 b).1 hh)
   have e : runLen (fun n => (n : Int) != 2) (b :: r) = runLen (fun n => (n : Int) != 2) r + 1 := by
    simp only [runLen]; rw [if_pos]; simp; omega
   rw [e]
   simp only [gapLen, List.drop_succ_cons]
   have hb : ((b == 35 || true) && b != 10) = true := by simp [h]
   rw [hb, if_neg (by simp), ih]
   omega
theorem gapLen_blank (l : List UInt8) (k : Nat) (hk : k < l.length) (h : cls l[k].toNat = 1 ∨ cls l[k].toNat = 2) : gapLen false (l.drop k) = gapLen false (l.drop (k + 1)) + 1 := by
 rw [List.drop_eq_getElem_cons hk]
 rw [cls_1, cls_2] at h
 simp only [gapLen]
 rcases h with (h | h) | h <;> simp [h]
theorem gapLen_sharp (l : List UInt8) (k : Nat) (hk : k < l.length) (h : cls l[k].toNat = 3) :
  gapLen false (l.drop k) = runLen (fun n => (n : Int) != 2) (l.drop k) + gapLen false (l.drop (k + runLen (fun n => (n : Int) != 2) (l.drop k))) := by
 rw [← List.drop_drop, List.drop_eq_getElem_cons hk]
 rw [cls_3] at h
 have e : runLen (fun n => (n : Int) != 2) (l[k] :: l.drop (k + 1)) = runLen (fun n => (n : Int) != 2) (l.drop (k + 1)) + 1 := by
  simp only [runLen]; rw [if_pos]; rw [h]; rfl
 rw [e]
 simp only [gapLen, List.drop_succ_cons]
 rw [h]
 have hb : (((35 : UInt8) == 35 || false) && (35 : UInt8) != 10) = true := rfl
 rw [hb, if_neg (by simp), gapLen_comment]
 omega
theorem gapLen_other (l : List UInt8) (k : Nat) (hk : k < l.length) (h1 : cls l[k].toNat ≠ 1) (h2 : cls l[k].toNat ≠ 2) (h3 : cls l[k].toNat ≠ 3) : gapLen false (l.drop k) = 0 := by
 rw [List.drop_eq_getElem_cons hk]
 rw [Ne, cls_1] at h1
 rw [Ne, cls_2] at h2
 rw [Ne, cls_3] at h3
 simp only [gapLen]
 rw [if_pos]
 simp_all
theorem gapLen_end (l : List UInt8) (k : Nat) (hk : l.length ≤ k) : gapLen false (l.drop k) = 0 := by
 rw [List.drop_eq_nil_of_le hk]; rfl
theorem gapEnd_any (s : ByteArray) (at0 : Nat) (w : World) (hT : Tab w) (hat : at0 ≤ s.size) (hs : s.size ≤ maxLen) :
  Calls Tryz.prog 125 #[.string s, .int .i64 at0] w fun e w' => e = .returned (.int .i64 ((at0 + gapLen false (s.data.toList.drop at0) : Nat) : Int)) ∧ w = w' := by
 have hsl := Lib.hid hs
 unfold maxLen at hs
 go_enter Tryz.func125, Tryz.ntmps125
 go_wp2
 go_loop [1] (fun i => ∃ k : Nat, at0 ≤ k ∧ k ≤ s.size ∧ i = .int .i64 k ∧ Hid (k + gapLen false (s.data.toList.drop k) = at0 + gapLen false (s.data.toList.drop at0))) (fun i => s.size - (intOf i).toNat)
 case atStart => exact ⟨at0, Nat.le_refl _, hat, rfl, rfl⟩
 case round =>
  obtain ⟨k, hk0, hk, rfl, hr⟩ := hrel
  by_cases hlt : k < s.size
  ·have hb := byte_lt s[k]
   have hkl : k < s.data.toList.length := by simpa using hlt
   by_cases h1 : cls s[k].toNat = 1
   ·have hq := Lib.hid (gapLen_blank s.data.toList k hkl (Or.inl h1))
    have H := Lib.hid h1
    clear h1
    go_wp2_with fail
    refine (classOf_any _ _ hT hb).mono ?_
    rw [H.out]
    rintro e w' ⟨rfl, rfl⟩
    go_wp2
    go_round
    case rel => exact ⟨k + 1, by omega, by omega, by go_num, by have h1 := hr.out; have h2 := hq.out; show _ = _; omega⟩
    case measure => simp [intOf]; omega
   by_cases h2 : cls s[k].toNat = 2
   ·have hq := Lib.hid (gapLen_blank s.data.toList k hkl (Or.inr h2))
    have H := Lib.hid h2
    clear h1 h2
    go_wp2_with fail
    refine (classOf_any _ _ hT hb).mono ?_
    rw [H.out]
    rintro e w' ⟨rfl, rfl⟩
    go_wp2
    go_round
    case rel => exact ⟨k + 1, by omega, by omega, by go_num, by have h1 := hr.out; have h2 := hq.out; show _ = _; omega⟩
    case measure => simp [intOf]; omega
   by_cases h3 : cls s[k].toNat = 3
   ·have hq := Lib.hid (gapLen_sharp s.data.toList k hkl h3)
    have H := Lib.hid h3
    have hpos : 0 < runLen (fun n => (n : Int) != 2) (s.data.toList.drop k) := by
     rw [runLen_yes _ _ _ hkl (by rw [show s.data.toList[k] = s[k] from rfl, h3]; rfl)]; omega
    have hle := runLen_le (fun n => (n : Int) != 2) (s.data.toList.drop k)
    rw [List.length_drop] at hle
    have hle2 : runLen (fun n => (n : Int) != 2) (s.data.toList.drop k) ≤ s.size - k := by simpa using hle
    clear h1 h2 h3 hle
    go_wp2_with fail
    refine (classOf_any _ _ hT hb).mono ?_
    rw [H.out]
    rintro e w' ⟨rfl, rfl⟩
    go_wp2_with fail
    refine (end_feed _ _ _ hT hk hsl.out).mono ?_
    rintro e w' ⟨rfl, rfl⟩
    go_wp2
    go_round
    case rel => exact ⟨k + runLen (fun n => (n : Int) != 2) (s.data.toList.drop k), by omega, by omega, by go_num, by have h1 := hr.out; have h2 := hq.out; show _ = _; omega⟩
    case measure => simp [intOf]; omega
   ·have hq := Lib.hid (gapLen_other s.data.toList k hkl h1 h2 h3)
    have e1 : ((cls s[k].toNat : Int) == 1) = false := by simp; omega
    have e2 : ((cls s[k].toNat : Int) == 2) = false := by simp; omega
    have e3 : ((cls s[k].toNat : Int) == 3) = false := by simp; omega
    clear h1 h2 h3
    go_wp2_with fail
    refine (classOf_any _ _ hT hb).mono ?_
    rintro e w' ⟨rfl, rfl⟩
    go_wp2
    go_ret
    exact ⟨ret_int (by have h1 := hr.out; have h2 := hq.out; omega), rfl⟩
  ·have hq := Lib.hid (gapLen_end s.data.toList k (by simp; omega))
   go_wp2
   go_ret
   exact ⟨ret_int (by have h1 := hr.out; have h2 := hq.out; omega), rfl⟩
end Go.Proofs.YtamfgjinfcknfaaGreatDoor
