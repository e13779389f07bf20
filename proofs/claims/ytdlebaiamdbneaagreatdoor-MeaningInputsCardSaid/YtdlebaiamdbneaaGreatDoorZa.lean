/- Texts of one proof: LxA, LxB, LxN, LxC. -/
import Derived.Test.YtdlebaiamdbneaaGreatDoorRows
import Derived.WalkKit
import Derived.LoopTactic
import Derived.Outline
import Derived.Deep.QuietTactic
import Derived.BigQuiet
import Derived.Lib.Hide
import Derived.Below
import Derived.Lib.LaidTab
import Derived.Lib.AtoiAll
import Derived.WalkSpells
import Derived.Lib.IndexBytes
import Derived.Test.YtdlebaiamdbneaaGreatDoorAtoi
set_option linter.unusedVariables false
set_option linter.unusedSimpArgs false
set_option maxRecDepth 100000
set_option maxHeartbeats 8000000
namespace Go.Proofs.YtdlebaiamdbneaaGreatDoor
open Go.RowKit
def clsTab : List Int := [0, 0, 0, 0, 0, 0, 0, 0, 0, 1, 2, 0, 0, 0, 0, 0, 0, 0, 0, 0, 0, 0, 0, 0, 0, 0, 0, 0, 0, 0, 0, 0, 1, 9, 0, 3, 0, 0, 0, 0, 7, 7, 7, 7, 7, 7, 0, 7, 5, 5, 5, 5, 5, 5, 5, 5, 5, 5, 0, 7, 8, 8, 8, 0, 0, 0, 0, 0, 0, 0, 0, 0, 0, 0, 0, 0, 0, 0, 0, 0, 0, 0, 0, 0, 0, 0, 0, 0, 0, 0, 0, 0, 0, 0, 0, 6, 0, 4, 4, 4, 4, 4, 4, 4, 4, 4, 4, 4, 4, 4, 4, 4, 4, 4, 4, 4, 4, 4, 4, 4, 4, 4, 4, 7, 0, 7, 0, 0]
def cls (n : Nat) : Nat := (clsTab.getD n 0).toNat
def Tab (w : World) : Prop := ∀ i, i < 128 → w.cell? ⟨3, i, none⟩ = some (.int .u8 (cls i))
theorem Tab.cell {w : World} (h : Tab w) (i : Nat) (hi : i < 128) : w.cell? ⟨3, i, none⟩ = some (.int .u8 (cls i)) := h i hi
theorem classOf_any (n : Nat) (w : World) (hT : Tab w) (hn : n < 256) :
  Calls Tryz.prog 151 #[.int .u8 n] w fun e w' => e = .returned (.int .u8 (cls n)) ∧ w = w' := by
 by_cases h : n < 128
 ·have hc := hT.cell n h
  clear hT
  go_enter Tryz.func151, Tryz.ntmps151
  go_wp2
  go_ret
  exact ⟨rfl, rfl⟩
 ·have hz : cls n = 0 := by unfold cls; rw [List.getD_eq_getElem?_getD, List.getElem?_eq_none (by simp [clsTab]; omega)]; rfl
  rw [hz]
  clear hT hz
  go_enter Tryz.func151, Tryz.ntmps151
  go_wp2
  go_ret
  exact ⟨rfl, rfl⟩
theorem clo_feed (n : Nat) (w : World) (_hn : n < 256) :
  Calls Tryz.prog 153 #[.int .u8 n] w fun e w' => e = .returned (.bool ((n : Int) != 2)) ∧ w = w' := by
 go_enter Tryz.func153, Tryz.ntmps153
 go_wp2
 go_ret
 exact ⟨rfl, rfl⟩
theorem clo_digit (n : Nat) (w : World) (_hn : n < 256) :
  Calls Tryz.prog 164 #[.int .u8 n] w fun e w' => e = .returned (.bool ((n : Int) == 5)) ∧ w = w' := by
 go_enter Tryz.func164, Tryz.ntmps164
 go_wp2
 go_ret
 exact ⟨rfl, rfl⟩
def nameB (n : Nat) : Bool := decide (n = 4) || decide (n = 5) || decide (n = 6)
theorem clo_name (n : Nat) (w : World) (_hn : n < 256) :
  Calls Tryz.prog 163 #[.int .u8 n] w fun e w' => e = .returned (.bool (nameB n)) ∧ w = w' := by
 by_cases h4 : n = 4
 ·subst h4
  go_enter Tryz.func163, Tryz.ntmps163
  go_wp2
  go_ret
  exact ⟨rfl, rfl⟩
 by_cases h5 : n = 5
 ·subst h5
  go_enter Tryz.func163, Tryz.ntmps163
  go_wp2
  go_ret
  exact ⟨rfl, rfl⟩
 have e4 : ((n : Int) == 4) = false := by simp; omega
 have e5 : ((n : Int) == 5) = false := by simp; omega
 have hr : nameB n = ((n : Int) == 6) := by simp only [nameB, h4, h5, decide_false, Bool.false_or]; rw [Bool.eq_iff_iff]; simp; omega
 rw [hr]
 clear h4 h5 hr
 go_enter Tryz.func163, Tryz.ntmps163
 go_wp2
 go_ret
 exact ⟨rfl, rfl⟩
def runLen (p : Nat → Bool) : List UInt8 → Nat
 | [] => 0
 | b :: r => if p (cls b.toNat) then runLen p r + 1 else 0
theorem runLen_le (p : Nat → Bool) (l : List UInt8) : runLen p l ≤ l.length := by
 induction l with
 | nil => exact Nat.le_refl _
 | cons b r ih => simp only [runLen, List.length_cons]; split <;> omega
theorem runLen_yes (p : Nat → Bool) (l : List UInt8) (k : Nat) (hk : k < l.length) (hp : p (cls l[k].toNat) = true) : runLen p (l.drop k) = runLen p (l.drop (k + 1)) + 1 := by
 rw [List.drop_eq_getElem_cons hk]
 simp [runLen, hp]
theorem runLen_no (p : Nat → Bool) (l : List UInt8) (k : Nat) (hk : k < l.length) (hp : p (cls l[k].toNat) = false) : runLen p (l.drop k) = 0 := by
 rw [List.drop_eq_getElem_cons hk]
 simp [runLen, hp]
theorem runLen_end (p : Nat → Bool) (l : List UInt8) (k : Nat) (hk : l.length ≤ k) : runLen p (l.drop k) = 0 := by
 rw [List.drop_eq_nil_of_le hk]; rfl
theorem byte_lt (b : UInt8) : b.toNat < 256 := b.toNat_lt
theorem cls_lt (n : Nat) : cls n < 256 := by
 by_cases h : n < 128
 ·have : ∀ n, n < 128 → cls n < 256 := by decide
  exact this n h
 ·unfold cls; rw [List.getD_eq_getElem?_getD, List.getElem?_eq_none (by simp [clsTab]; omega)]; decide
theorem ret_int {k : IntKind} {a b : Int} (h : a = b) : Ending.returned (.int k a) = .returned (.int k b) := by rw [h]
theorem end_feed (s : ByteArray) (at0 : Nat) (w : World) (hT : Tab w) (hat : at0 ≤ s.size) (hs : s.size ≤ maxLen) :
  Calls Tryz.prog 152 #[.string s, .int .i64 at0, .func (.func 153) #[] #[]] w fun e w' => e = .returned (.int .i64 ((at0 + runLen (fun n => (n : Int) != 2) (s.data.toList.drop at0) : Nat) : Int)) ∧ w = w' := by
 unfold maxLen at hs
 go_enter Tryz.func152, Tryz.ntmps152
 go_wp2
 go_loop [1] (fun i => ∃ k : Nat, at0 ≤ k ∧ k ≤ s.size ∧ i = .int .i64 k ∧ Hid (k + runLen (fun n => (n : Int) != 2) (s.data.toList.drop k) = at0 + runLen (fun n => (n : Int) != 2) (s.data.toList.drop at0))) (fun i => s.size - (intOf i).toNat)
 case atStart => exact ⟨at0, Nat.le_refl _, hat, rfl, rfl⟩
 case round =>
  obtain ⟨k, hk0, hk, rfl, hr⟩ := hrel
  by_cases hlt : k < s.size
  ·have hb := byte_lt s[k]
   have hc := cls_lt s[k].toNat
   cases hp : (fun n => (n : Int) != 2) (cls s[k].toNat)
   ·have hq := Lib.hid (runLen_no (fun n => (n : Int) != 2) s.data.toList k (by simpa using hlt) hp)
    have hp' := Lib.hid hp
    clear hp
    go_wp2_with fail
    refine (classOf_any _ _ hT hb).mono ?_
    rintro e w' ⟨rfl, rfl⟩
    go_wp2_with fail
    refine (clo_feed _ _ hc).mono ?_
    have hp2 := hp'.out
    rw [hp2]
    clear hp2
    rintro e w' ⟨rfl, rfl⟩
    go_wp2
    go_ret
    exact ⟨ret_int (by have h1 := hr.out; have h2 := hq.out; omega), rfl⟩
   ·have hq := Lib.hid (runLen_yes (fun n => (n : Int) != 2) s.data.toList k (by simpa using hlt) hp)
    have hp' := Lib.hid hp
    clear hp
    go_wp2_with fail
    refine (classOf_any _ _ hT hb).mono ?_
    rintro e w' ⟨rfl, rfl⟩
    go_wp2_with fail
    refine (clo_feed _ _ hc).mono ?_
    have hp2 := hp'.out
    rw [hp2]
    clear hp2
    rintro e w' ⟨rfl, rfl⟩
    go_wp2
    go_round
    case rel => exact ⟨k + 1, by omega, by omega, by go_num, by have h1 := hr.out; have h2 := hq.out; show _ = _; omega⟩
    case measure => simp [intOf]; omega
  ·have hq := Lib.hid (runLen_end (fun n => (n : Int) != 2) s.data.toList k (by simp; omega))
   go_wp2
   go_ret
   exact ⟨ret_int (by have h1 := hr.out; have h2 := hq.out; omega), rfl⟩
theorem end_digit (s : ByteArray) (at0 : Nat) (w : World) (hT : Tab w) (hat : at0 ≤ s.size) (hs : s.size ≤ maxLen) :
  Calls Tryz.prog 152 #[.string s, .int .i64 at0, .func (.func 164) #[] #[]] w fun e w' => e = .returned (.int .i64 ((at0 + runLen (fun n => (n : Int) == 5) (s.data.toList.drop at0) : Nat) : Int)) ∧ w = w' := by
 unfold maxLen at hs
 go_enter Tryz.func152, Tryz.ntmps152
 go_wp2
 go_loop [1] (fun i => ∃ k : Nat, at0 ≤ k ∧ k ≤ s.size ∧ i = .int .i64 k ∧ Hid (k + runLen (fun n => (n : Int) == 5) (s.data.toList.drop k) = at0 + runLen (fun n => (n : Int) == 5) (s.data.toList.drop at0))) (fun i => s.size - (intOf i).toNat)
 case atStart => exact ⟨at0, Nat.le_refl _, hat, rfl, rfl⟩
 case round =>
  obtain ⟨k, hk0, hk, rfl, hr⟩ := hrel
  by_cases hlt : k < s.size
  ·have hb := byte_lt s[k]
   have hc := cls_lt s[k].toNat
   cases hp : (fun n => (n : Int) == 5) (cls s[k].toNat)
   ·have hq := Lib.hid (runLen_no (fun n => (n : Int) == 5) s.data.toList k (by simpa using hlt) hp)
    have hp' := Lib.hid hp
    clear hp
    go_wp2_with fail
    refine (classOf_any _ _ hT hb).mono ?_
    rintro e w' ⟨rfl, rfl⟩
    go_wp2_with fail
    refine (clo_digit _ _ hc).mono ?_
    have hp2 := hp'.out
    rw [hp2]
    clear hp2
    rintro e w' ⟨rfl, rfl⟩
    go_wp2
    go_ret
    exact ⟨ret_int (by have h1 := hr.out; have h2 := hq.out; omega), rfl⟩
   ·have hq := Lib.hid (runLen_yes (fun n => (n : Int) == 5) s.data.toList k (by simpa using hlt) hp)
    have hp' := Lib.hid hp
    clear hp
    go_wp2_with fail
    refine (classOf_any _ _ hT hb).mono ?_
    rintro e w' ⟨rfl, rfl⟩
    go_wp2_with fail
    refine (clo_digit _ _ hc).mono ?_
    have hp2 := hp'.out
    rw [hp2]
    clear hp2
    rintro e w' ⟨rfl, rfl⟩
    go_wp2
    go_round
    case rel => exact ⟨k + 1, by omega, by omega, by go_num, by have h1 := hr.out; have h2 := hq.out; show _ = _; omega⟩
    case measure => simp [intOf]; omega
  ·have hq := Lib.hid (runLen_end (fun n => (n : Int) == 5) s.data.toList k (by simp; omega))
   go_wp2
   go_ret
   exact ⟨ret_int (by have h1 := hr.out; have h2 := hq.out; omega), rfl⟩
theorem end_name (s : ByteArray) (at0 : Nat) (w : World) (hT : Tab w) (hat : at0 ≤ s.size) (hs : s.size ≤ maxLen) :
  Calls Tryz.prog 152 #[.string s, .int .i64 at0, .func (.func 163) #[] #[]] w fun e w' => e = .returned (.int .i64 ((at0 + runLen nameB (s.data.toList.drop at0) : Nat) : Int)) ∧ w = w' := by
 unfold maxLen at hs
 go_enter Tryz.func152, Tryz.ntmps152
 go_wp2
 go_loop [1] (fun i => ∃ k : Nat, at0 ≤ k ∧ k ≤ s.size ∧ i = .int .i64 k ∧ Hid (k + runLen nameB (s.data.toList.drop k) = at0 + runLen nameB (s.data.toList.drop at0))) (fun i => s.size - (intOf i).toNat)
 case atStart => exact ⟨at0, Nat.le_refl _, hat, rfl, rfl⟩
 case round =>
  obtain ⟨k, hk0, hk, rfl, hr⟩ := hrel
  by_cases hlt : k < s.size
  ·have hb := byte_lt s[k]
   have hc := cls_lt s[k].toNat
   cases hp : nameB (cls s[k].toNat)
   ·have hq := Lib.hid (runLen_no nameB s.data.toList k (by simpa using hlt) hp)
    have hp' := Lib.hid hp
    clear hp
    go_wp2_with fail
    refine (classOf_any _ _ hT hb).mono ?_
    rintro e w' ⟨rfl, rfl⟩
    go_wp2_with fail
    refine (clo_name _ _ hc).mono ?_
    have hp2 := hp'.out
    rw [hp2]
    clear hp2
    rintro e w' ⟨rfl, rfl⟩
    go_wp2
    go_ret
    exact ⟨ret_int (by have h1 := hr.out; have h2 := hq.out; omega), rfl⟩
   ·have hq := Lib.hid (runLen_yes nameB s.data.toList k (by simpa using hlt) hp)
    have hp' := Lib.hid hp
    clear hp
    go_wp2_with fail
    refine (classOf_any _ _ hT hb).mono ?_
    rintro e w' ⟨rfl, rfl⟩
    go_wp2_with fail
    refine (clo_name _ _ hc).mono ?_
    have hp2 := hp'.out
    rw [hp2]
    clear hp2
    rintro e w' ⟨rfl, rfl⟩
    go_wp2
    go_round
    case rel => exact ⟨k + 1, by omega, by omega, by go_num, by have h1 := hr.out; have h2 := hq.out; show _ = _; omega⟩
    case measure => simp [intOf]; omega
  ·have hq := Lib.hid (runLen_end nameB s.data.toList k (by simp; omega))
   go_wp2
   go_ret
   exact ⟨ret_int (by have h1 := hr.out; have h2 := hq.out; omega), rfl⟩
end Go.Proofs.YtdlebaiamdbneaaGreatDoor
namespace Go.Proofs.YtdlebaiamdbneaaGreatDoor
open Go.RowKit
def gapLen (c : Bool) : List UInt8 → Nat
 | [] => 0
 | b :: r => if ((b == 35 || c) && b != 10) = false ∧ b ≠ 32 ∧ b ≠ 9 ∧ b ≠ 10 then 0 else gapLen ((b == 35 || c) && b != 10) r + 1
theorem gapLen_le (l : List UInt8) : ∀ c, gapLen c l ≤ l.length := by
 induction l with
 | nil => intro c; exact Nat.le_refl _
 | cons b r ih => intro c; simp only [gapLen, List.length_cons]; split <;> have := ih ((b == 35 || c) && b != 10) <;> omega
theorem cls_1 (b : UInt8) : cls b.toNat = 1 ↔ b = 9 ∨ b = 32 := by
 have h : ∀ n, n < 256 → (cls n = 1 ↔ n = 9 ∨ n = 32) := by decide +kernel
 rw [h _ b.toNat_lt, ← UInt8.toNat_inj, ← UInt8.toNat_inj]; rfl
theorem cls_2 (b : UInt8) : cls b.toNat = 2 ↔ b = 10 := by
 have h : ∀ n, n < 256 → (cls n = 2 ↔ n = 10) := by decide +kernel
 rw [h _ b.toNat_lt, ← UInt8.toNat_inj]; rfl
theorem cls_3 (b : UInt8) : cls b.toNat = 3 ↔ b = 35 := by
 have h : ∀ n, n < 256 → (cls n = 3 ↔ n = 35) := by decide +kernel
 rw [h _ b.toNat_lt, ← UInt8.toNat_inj]; rfl
theorem gapLen_comment (l : List UInt8) : gapLen true l = runLen (fun n => (n : Int) != 2) l + gapLen false (l.drop (runLen (fun n => (n : Int) != 2) l)) := by
 induction l with
 | nil => rfl
 | cons b r ih =>
  by_cases h : b = 10
  ·subst h
   have e : runLen (fun n => (n : Int) != 2) (10 :: r) = 0 := rfl
   rw [e]
   simp [gapLen]
  ·have h2 : ¬ cls b.toNat = 2 := fun hh => h ((cls_2 b).1 hh)
   have e : runLen (fun n => (n : Int) != 2) (b :: r) = runLen (fun n => (n : Int) != 2) r + 1 := by
    simp only [runLen]; rw [if_pos]; simp; omega
   rw [e]
   simp only [gapLen, List.drop_succ_cons]
   have hb : ((b == 35 || true) && b != 10) = true := by simp [h]
   rw [hb, if_neg (by simp), ih]
   omega
theorem gapLen_blank (l : List UInt8) (k : Nat) (hk : k < l.length) (h : cls l[k].toNat = 1 ∨ cls l[k].toNat = 2) : gapLen false (l.drop k) = gapLen false (l.drop (k + 1)) + 1 := by
 rw [List.drop_eq_getElem_cons hk]
 rw [cls_1, cls_2] at h
 simp only [gapLen]
 rcases h with (h | h) | h <;> simp [h]
theorem gapLen_sharp (l : List UInt8) (k : Nat) (hk : k < l.length) (h : cls l[k].toNat = 3) :
  gapLen false (l.drop k) = runLen (fun n => (n : Int) != 2) (l.drop k) + gapLen false (l.drop (k + runLen (fun n => (n : Int) != 2) (l.drop k))) := by
 rw [← List.drop_drop, List.drop_eq_getElem_cons hk]
 rw [cls_3] at h
 have e : runLen (fun n => (n : Int) != 2) (l[k] :: l.drop (k + 1)) = runLen (fun n => (n : Int) != 2) (l.drop (k + 1)) + 1 := by
  simp only [runLen]; rw [if_pos]; rw [h]; rfl
 rw [e]
 simp only [gapLen, List.drop_succ_cons]
 rw [h]
 have hb : (((35 : UInt8) == 35 || false) && (35 : UInt8) != 10) = true := rfl
 rw [hb, if_neg (by simp), gapLen_comment]
 omega
theorem gapLen_other (l : List UInt8) (k : Nat) (hk : k < l.length) (h1 : cls l[k].toNat ≠ 1) (h2 : cls l[k].toNat ≠ 2) (h3 : cls l[k].toNat ≠ 3) : gapLen false (l.drop k) = 0 := by
 rw [List.drop_eq_getElem_cons hk]
 rw [Ne, cls_1] at h1
 rw [Ne, cls_2] at h2
 rw [Ne, cls_3] at h3
 simp only [gapLen]
 rw [if_pos]
 simp_all
theorem gapLen_end (l : List UInt8) (k : Nat) (hk : l.length ≤ k) : gapLen false (l.drop k) = 0 := by
 rw [List.drop_eq_nil_of_le hk]; rfl
theorem gapEnd_any (s : ByteArray) (at0 : Nat) (w : World) (hT : Tab w) (hat : at0 ≤ s.size) (hs : s.size ≤ maxLen) :
  Calls Tryz.prog 140 #[.string s, .int .i64 at0] w fun e w' => e = .returned (.int .i64 ((at0 + gapLen false (s.data.toList.drop at0) : Nat) : Int)) ∧ w = w' := by
 have hsl := Lib.hid hs
 unfold maxLen at hs
 go_enter Tryz.func140, Tryz.ntmps140
 go_wp2
 go_loop [1] (fun i => ∃ k : Nat, at0 ≤ k ∧ k ≤ s.size ∧ i = .int .i64 k ∧ Hid (k + gapLen false (s.data.toList.drop k) = at0 + gapLen false (s.data.toList.drop at0))) (fun i => s.size - (intOf i).toNat)
 case atStart => exact ⟨at0, Nat.le_refl _, hat, rfl, rfl⟩
 case round =>
  obtain ⟨k, hk0, hk, rfl, hr⟩ := hrel
  by_cases hlt : k < s.size
  ·have hb := byte_lt s[k]
   have hkl : k < s.data.toList.length := by simpa using hlt
   by_cases h1 : cls s[k].toNat = 1
   ·have hq := Lib.hid (gapLen_blank s.data.toList k hkl (Or.inl h1))
    have H := Lib.hid h1
    clear h1
    go_wp2_with fail
    refine (classOf_any _ _ hT hb).mono ?_
    rw [H.out]
    rintro e w' ⟨rfl, rfl⟩
    go_wp2
    go_round
    case rel => exact ⟨k + 1, by omega, by omega, by go_num, by have h1 := hr.out; have h2 := hq.out; show _ = _; omega⟩
    case measure => simp [intOf]; omega
   by_cases h2 : cls s[k].toNat = 2
   ·have hq := Lib.hid (gapLen_blank s.data.toList k hkl (Or.inr h2))
    have H := Lib.hid h2
    clear h1 h2
    go_wp2_with fail
    refine (classOf_any _ _ hT hb).mono ?_
    rw [H.out]
    rintro e w' ⟨rfl, rfl⟩
    go_wp2
    go_round
    case rel => exact ⟨k + 1, by omega, by omega, by go_num, by have h1 := hr.out; have h2 := hq.out; show _ = _; omega⟩
    case measure => simp [intOf]; omega
   by_cases h3 : cls s[k].toNat = 3
   ·have hq := Lib.hid (gapLen_sharp s.data.toList k hkl h3)
    have H := Lib.hid h3
    have hpos : 0 < runLen (fun n => (n : Int) != 2) (s.data.toList.drop k) := by
     rw [runLen_yes _ _ _ hkl (by rw [show s.data.toList[k] = s[k] from rfl, h3]; rfl)]; omega
    have hle := runLen_le (fun n => (n : Int) != 2) (s.data.toList.drop k)
    rw [List.length_drop] at hle
    have hle2 : runLen (fun n => (n : Int) != 2) (s.data.toList.drop k) ≤ s.size - k := by simpa using hle
    clear h1 h2 h3 hle
    go_wp2_with fail
    refine (classOf_any _ _ hT hb).mono ?_
    rw [H.out]
    rintro e w' ⟨rfl, rfl⟩
    go_wp2_with fail
    refine (end_feed _ _ _ hT hk hsl.out).mono ?_
    rintro e w' ⟨rfl, rfl⟩
    go_wp2
    go_round
    case rel => exact ⟨k + runLen (fun n => (n : Int) != 2) (s.data.toList.drop k), by omega, by omega, by go_num, by have h1 := hr.out; have h2 := hq.out; show _ = _; omega⟩
    case measure => simp [intOf]; omega
   ·have hq := Lib.hid (gapLen_other s.data.toList k hkl h1 h2 h3)
    have e1 : ((cls s[k].toNat : Int) == 1) = false := by simp; omega
    have e2 : ((cls s[k].toNat : Int) == 2) = false := by simp; omega
    have e3 : ((cls s[k].toNat : Int) == 3) = false := by simp; omega
    clear h1 h2 h3
    go_wp2_with fail
    refine (classOf_any _ _ hT hb).mono ?_
    rintro e w' ⟨rfl, rfl⟩
    go_wp2
    go_ret
    exact ⟨ret_int (by have h1 := hr.out; have h2 := hq.out; omega), rfl⟩
  ·have hq := Lib.hid (gapLen_end s.data.toList k (by simp; omega))
   go_wp2
   go_ret
   exact ⟨ret_int (by have h1 := hr.out; have h2 := hq.out; omega), rfl⟩
end Go.Proofs.YtdlebaiamdbneaaGreatDoor
namespace Go.Proofs.YtdlebaiamdbneaaGreatDoor
def decStep (acc : Nat) (b : UInt8) : Nat := acc * 10 + (b.toNat - 48)
theorem decStep_eq (acc : Nat) (b : UInt8) : decStep acc b = acc * 10 + (b.toNat - 48) := by rw [decStep]
attribute [irreducible] decStep
def decVal (acc : Nat) : List UInt8 → Nat
 | [] => acc
 | b :: r => decVal (decStep acc b) r
theorem decVal_cons (acc : Nat) (b : UInt8) (r : List UInt8) : decVal acc (b :: r) = decVal (decStep acc b) r := rfl
theorem le_step (acc d z : Nat) (h : acc * 10 + d ≤ z) : acc ≤ z := by omega
theorem decVal_ge (l : List UInt8) : ∀ acc : Nat, acc ≤ decVal acc l := by
 induction l with
 | nil => intro acc; exact Nat.le_refl _
 | cons b r ih => intro acc; rw [decVal_cons]; exact le_step acc (b.toNat - 48) _ (by rw [← decStep_eq]; exact ih _)
def M64 : Nat := 18446744073709551616
theorem M64_eq : M64 = 18446744073709551616 := by unfold M64; rfl
theorem no_over (acc d : Nat) (h : acc * 10 + d < M64) : ¬ 1844674407370955162 ≤ acc := by rw [M64_eq] at h; omega
theorem parse_nil (acc : Nat) : Lib.parseUint10 acc [] = .ok acc := by rw [Lib.parseUint10]
theorem parse_cons (acc : Nat) (c : UInt8) (r : List UInt8) (h : 48 ≤ c.toNat ∧ c.toNat ≤ 57) : Lib.parseUint10 acc (c :: r) =
  if 1844674407370955162 ≤ acc then .range else if M64 ≤ decStep acc c then .range else Lib.parseUint10 (decStep acc c) r := by
 rw [Lib.parseUint10, if_pos h, M64_eq, decStep_eq]
theorem parse_digits_ok (l : List UInt8) : (∀ b ∈ l, 48 ≤ b.toNat ∧ b.toNat ≤ 57) → ∀ acc : Nat, decVal acc l < M64 → Lib.parseUint10 acc l = .ok (decVal acc l) := by
 induction l with
 | nil => intro _ acc _; rw [parse_nil, decVal]
 | cons b r ih =>
  intro hd acc h
  have hge := decVal_ge r (decStep acc b)
  rw [decVal_cons] at h ⊢
  have h2 : decStep acc b < M64 := Nat.lt_of_le_of_lt hge h
  have h1 : ¬ 1844674407370955162 ≤ acc := no_over acc (b.toNat - 48) (by rw [← decStep_eq]; exact h2)
  rw [parse_cons _ _ _ (hd b (by simp)), if_neg h1, if_neg (Nat.not_le.2 h2)]
  exact ih (fun x hx => hd x (by simp [hx])) _ h
theorem parse_digits_range (l : List UInt8) : (∀ b ∈ l, 48 ≤ b.toNat ∧ b.toNat ≤ 57) → ∀ acc : Nat, acc < M64 → ¬ decVal acc l < M64 → Lib.parseUint10 acc l = .range := by
 induction l with
 | nil => intro _ acc h0 h; rw [decVal] at h; exact absurd h0 h
 | cons b r ih =>
  intro hd acc h0 h
  rw [decVal_cons] at h
  rw [parse_cons _ _ _ (hd b (by simp))]
  by_cases h1 : 1844674407370955162 ≤ acc
  ·rw [if_pos h1]
  ·rw [if_neg h1]
   by_cases h2 : M64 ≤ decStep acc b
   ·rw [if_pos h2]
   ·rw [if_neg h2]
    exact ih (fun x hx => hd x (by simp [hx])) _ (Nat.not_le.1 h2) h
def M63 : Nat := 9223372036854775808
theorem M63_eq : M63 = 9223372036854775808 := by unfold M63; rfl
theorem atoi_head (c : UInt8) (r : List UInt8) (hc : 48 ≤ c.toNat ∧ c.toNat ≤ 57) : Lib.atoiAll (c :: r) = match Lib.parseMag (c :: r) with
  | .syntax => .syntax
  | .range => .range
  | .ok u => if M63 ≤ u then .range else .ok (u : Int) := by
 have h45 : ¬ c.toNat = 45 := by omega
 simp only [Lib.atoiAll]
 rw [if_neg (show ¬ (c.toNat = 43 ∨ c.toNat = 45) by omega)]
 cases Lib.parseMag (c :: r) <;> simp [h45, M63_eq]
theorem mag_eq (c : UInt8) (r : List UInt8) : Lib.parseMag (c :: r) = Lib.parseUint10 0 (c :: r) := by
 unfold Lib.parseMag
 rw [if_neg (by simp)]
theorem atoi_digits_ok (l : List UInt8) (hl : l ≠ []) (hd : ∀ b ∈ l, 48 ≤ b.toNat ∧ b.toNat ≤ 57) (h : decVal 0 l < M63) : Lib.atoiAll l = .ok (decVal 0 l : Int) := by
 match l, hl with
 | c :: r, _ =>
  rw [atoi_head c r (hd c (by simp)), mag_eq, parse_digits_ok (c :: r) hd 0 (by have := M63_eq; have := M64_eq; omega)]
  show (if M63 ≤ decVal 0 (c :: r) then _ else _) = _
  rw [if_neg (by omega)]
theorem atoi_digits_range (l : List UInt8) (hl : l ≠ []) (hd : ∀ b ∈ l, 48 ≤ b.toNat ∧ b.toNat ≤ 57) (h : ¬ decVal 0 l < M63) : Lib.atoiAll l = .range := by
 match l, hl with
 | c :: r, _ =>
  rw [atoi_head c r (hd c (by simp)), mag_eq]
  by_cases h2 : decVal 0 (c :: r) < M64
  ·rw [parse_digits_ok (c :: r) hd 0 h2]
   show (if M63 ≤ decVal 0 (c :: r) then _ else _) = _
   rw [if_pos (by omega)]
  ·rw [parse_digits_range (c :: r) hd 0 (by rw [M64_eq]; omega) h2]
end Go.Proofs.YtdlebaiamdbneaaGreatDoor
namespace Go.Proofs.YtdlebaiamdbneaaGreatDoor
open Go.RowKit
theorem Tab.alloc {w : World} (h : Tab w) (o : Obj) : Tab (w.alloc o) := fun i hi => by
 have hc := h i hi
 rw [World.cell?_alloc_lt w o _ (World.block_lt_of_cell? w _ hc)]
 exact hc
theorem Tab.below {B : Nat} {w w' : World} (h : Tab w) (hb : Below B w w') (hB : 3 < B) : Tab w' := fun i hi => by
 rw [hb.cell (p := ⟨3, i, none⟩) hB]
 exact h i hi
theorem slice_ok (s : ByteArray) (a n : Nat) (h : a + n ≤ s.size) (wx : World) :
  (Instr.slice 9 (.string s) (some (.int .i64 (a : Int))) (some (.int .i64 ((a : Int) + (n : Int)))) none).run Tryz.prog wx = .ok (.string (s.extract a (a + n))) wx := by
 have h2 := run_slice_string (P := Tryz.prog) wx 9 s .i64 .i64 (a : Int) ((a : Int) + (n : Int)) Tryz.underlying9 (by omega) (by omega) (by omega)
 rw [h2]
 rw [show ((a : Int)).toNat = a from by omega, show ((a : Int) + (n : Int)).toNat = a + n from by omega]
theorem readName_long (s : ByteArray) (at0 n : Nat) (w : World) (hT : Tab w) (hat : at0 + n ≤ s.size) (hs : s.size ≤ maxLen) (hn : Hid (runLen nameB (s.data.toList.drop at0) = n)) (h : 12 < n) :
  Calls Tryz.prog 154 #[.string s, .int .i64 at0] w fun e w' => e = .returned (.tuple #[.agg #[.int .i64 0, .string ⟨#[]⟩, .int .i64 0, .int .i64 0], .int .i64 0, .int .i64 3]) ∧ Below w.heap.size w w' := by
 have hsl := Lib.hid hs
 have hsn := slice_ok s at0 n hat
 unfold maxLen at hs
 go_enter Tryz.func154, Tryz.ntmps154
 go_wp2_with fail
 refine (end_name _ _ _ (hT.alloc _) (by omega) hsl.out).mono ?_
 rw [hn.out]
 rintro e w' ⟨rfl, rfl⟩
 go_wp2
 exact bodyPost_ret (v := .tuple #[.agg #[.int .i64 0, .string ⟨#[]⟩, .int .i64 0, .int .i64 0], .int .i64 0, .int .i64 3]) (by simp [results, Tryz.results154, go_sem]) rfl ⟨rfl, ((Below.refl _ _).alloc (Nat.le_refl _) _)⟩
theorem readName_ok (s : ByteArray) (at0 n : Nat) (w : World) (hT : Tab w) (hat : at0 + n ≤ s.size) (hs : s.size ≤ maxLen) (hn : Hid (runLen nameB (s.data.toList.drop at0) = n)) (h : n ≤ 12) :
  Calls Tryz.prog 154 #[.string s, .int .i64 at0] w fun e w' => e = .returned (.tuple #[.agg #[.int .i64 1, .string (s.extract at0 (at0 + n)), .int .i64 0, .int .i64 at0], .int .i64 ((at0 + n : Nat) : Int), .int .i64 0]) ∧ Below w.heap.size w w' := by
 have hsl := Lib.hid hs
 have hsn := slice_ok s at0 n hat
 unfold maxLen at hs
 go_enter Tryz.func154, Tryz.ntmps154
 go_wp2_with fail
 refine (end_name _ _ _ (hT.alloc _) (by omega) hsl.out).mono ?_
 rw [hn.out]
 rintro e w' ⟨rfl, rfl⟩
 go_wp2
 exact bodyPost_ret (v := .tuple #[.agg #[.int .i64 1, .string (s.extract at0 (at0 + n)), .int .i64 0, .int .i64 at0], .int .i64 ((at0 + n : Nat) : Int), .int .i64 0]) (by simp [results, Tryz.results154, go_sem]) rfl ⟨rfl, ((Below.refl _ _).alloc (Nat.le_refl _) _)⟩
theorem cls_5 (b : UInt8) : cls b.toNat = 5 ↔ 48 ≤ b.toNat ∧ b.toNat ≤ 57 := by
 have h : ∀ n, n < 256 → (cls n = 5 ↔ 48 ≤ n ∧ n ≤ 57) := by decide +kernel
 exact h _ b.toNat_lt
theorem runLen_mem (p : Nat → Bool) (l : List UInt8) : ∀ b ∈ l.take (runLen p l), p (cls b.toNat) = true := by
 induction l with
 | nil => intro b hb; simp at hb
 | cons c r ih =>
  intro b hb
  simp only [runLen] at hb
  split at hb
  ·rename_i hc
   rw [List.take_succ_cons, List.mem_cons] at hb
   rcases hb with rfl | hb
   ·exact hc
   ·exact ih b hb
  ·simp at hb
theorem dig_mem (l : List UInt8) : ∀ b ∈ l.take (runLen (fun n => (n : Int) == 5) l), 48 ≤ b.toNat ∧ b.toNat ≤ 57 := by
 intro b hb
 have h := runLen_mem (fun n => (n : Int) == 5) l b hb
 simp only [beq_iff_eq] at h
 exact (cls_5 b).1 (by omega)
theorem atoi_ok (s : ByteArray) (hmax : s.size ≤ 9223372036854775806) (v : Int) (h : Lib.atoiAll s.data.toList = .ok v) (w : World) :
  Calls Tryz.prog 165 #[.string s] w fun e w' => e = .returned (.tuple #[.int .i64 v, .nilIface]) ∧ Below w.heap.size w w' :=
 (Any.strconv_Atoi_ok Tryz.laysC172 s hmax v h w).mono fun e w' ⟨h1, h2⟩ => ⟨h1, by
  rcases h2 with rfl | ⟨t, rfl⟩
  ·exact Below.refl _ _
  ·exact Lib.bytesWorld_below _ _ _⟩
def RangeErr (s : ByteArray) (w : World) (e : Ending) (w' : World) : Prop := ∃ N, e = .returned (.tuple #[.int .i64 (Lib.atoiSat s.data.toList), .iface 185 (.pointer (some ⟨N, 0, none⟩))]) ∧ Below w.heap.size w w'
theorem atoi_range (s : ByteArray) (hlim : s.size ≤ 281474976710656) (h : Lib.atoiAll s.data.toList = .range) (ev : Value) (w : World) (hv : w.cell? ⟨7, 0, none⟩ = some ev) (hev : ev = .nilIface ∨ ∃ te pe, ev = .iface te pe) :
  Calls Tryz.prog 165 #[.string s] w (RangeErr s w) :=
 (Any.strconv_Atoi_range Tryz.laysC172 s hlim h ev w hv hev).mono fun e w' ⟨N, h1, _, _, h4⟩ => ⟨N, h1, h4⟩
def LaidW (w : World) : Prop := Tab w ∧ (∃ te pe, w.cell? ⟨6, 0, none⟩ = some (.iface te pe)) ∧ (∃ te pe, w.cell? ⟨7, 0, none⟩ = some (.iface te pe))
theorem cell_alloc {w : World} {a : Addr} {v : Value} (h : w.cell? a = some v) (o : Obj) : (w.alloc o).cell? a = some v := by
 rw [World.cell?_alloc_lt w o _ (World.block_lt_of_cell? w _ h)]; exact h
theorem LaidW.alloc {w : World} (h : LaidW w) (o : Obj) : LaidW (w.alloc o) := by
 obtain ⟨h1, ⟨t2, p2, h2⟩, ⟨t3, p3, h3⟩⟩ := h
 exact ⟨h1.alloc o, ⟨t2, p2, cell_alloc h2 o⟩, ⟨t3, p3, cell_alloc h3 o⟩⟩
theorem LaidW.below {B : Nat} {w w' : World} (h : LaidW w) (hb : Below B w w') (hB : 7 < B) : LaidW w' := by
 obtain ⟨h1, ⟨t2, p2, h2⟩, ⟨t3, p3, h3⟩⟩ := h
 exact ⟨h1.below hb (by omega), ⟨t2, p2, by rw [hb.cell (by show 6 < B; omega)]; exact h2⟩, ⟨t3, p3, by rw [hb.cell (by show 7 < B; omega)]; exact h3⟩⟩
theorem sub_bytes (s : ByteArray) (a n : Nat) : (s.extract a (a + n)).data.toList = (s.data.toList.drop a).take n := by
 rw [Lib.extract_data, Nat.add_sub_cancel_left]
theorem digits_of (s : ByteArray) (at0 n : Nat) (hn : runLen (fun n => (n : Int) == 5) (s.data.toList.drop at0) = n) : ∀ b ∈ (s.extract at0 (at0 + n)).data.toList, 48 ≤ b.toNat ∧ b.toNat ≤ 57 := by
 rw [sub_bytes, ← hn]
 exact dig_mem _
theorem set4 {B b : Nat} {a w : World} {v0 v1 v2 v3 : Value} (h : Below B a w) (hB : B ≤ b) : Below B a ((((w.setCell ⟨b, 0, none⟩ v0).setCell ⟨b, 1, none⟩ v1).setCell ⟨b, 2, none⟩ v2).setCell ⟨b, 3, none⟩ v3) :=
 (((h.setCell (p := ⟨b, 0, none⟩) hB _).setCell (p := ⟨b, 1, none⟩) hB _).setCell (p := ⟨b, 2, none⟩) hB _).setCell (p := ⟨b, 3, none⟩) hB _
theorem bcell {W w1 : World} (hb : Below W.heap.size W w1) : (∀ b o, b < W.heap.size → w1.cell? ⟨b, o, none⟩ = W.cell? ⟨b, o, none⟩) ∧ (∀ b o, b < W.heap.size → w1.frozen? ⟨b, o, none⟩ = W.frozen? ⟨b, o, none⟩) :=
 ⟨fun b o h => hb.cell (p := ⟨b, o, none⟩) h, fun b o h => hb.frozen (p := ⟨b, o, none⟩) h⟩
theorem readNumber_ok (s : ByteArray) (at0 n v : Nat) (w : World) (hL : LaidW w) (hlt : at0 < s.size) (hat : at0 + n ≤ s.size) (hs : s.size ≤ 10000) (hn : Hid (runLen (fun n => (n : Int) == 5) (s.data.toList.drop at0) = n)) (h : n = 1 ∨ (1 < n ∧ (((s[at0]'hlt).toNat : Int) == 48) = false))
  (hv : Hid (Lib.atoiAll (s.extract at0 (at0 + n)).data.toList = .ok (v : Int))) (hv2 : v ≤ 1000000000) :
  Calls Tryz.prog 155 #[.string s, .int .i64 at0] w fun e w' => e = .returned (.tuple #[.agg #[.int .i64 2, .string ⟨#[]⟩, .int .i64 v, .int .i64 at0], .int .i64 ((at0 + n : Nat) : Int), .int .i64 0]) ∧ Below w.heap.size w w' := by
 have hsl := Lib.hid (show s.size ≤ maxLen by unfold maxLen; omega)
 have hsn := slice_ok s at0 n hat
 have hz : (s.extract at0 (at0 + n)).size ≤ s.size := by rw [ByteArray.size_extract]; omega
 have HZ := Lib.hid hz
 clear hz
 rcases h with h | ⟨h, h48⟩
 all_goals try subst h
 all_goals
  go_enter Tryz.func155, Tryz.ntmps155
  go_wp2_with fail
  refine (end_digit _ _ _ (hL.1.alloc _) (by omega) hsl.out).mono ?_
  rw [hn.out]
  rintro e w' ⟨rfl, rfl⟩
  go_wp2_with fail
  refine (atoi_ok _ (by have := HZ.out; omega) _ hv.out _).mono ?_
  rintro e w' ⟨rfl, hb⟩
  obtain ⟨hc, hf⟩ := bcell hb
  have hz : w.heap.size + 1 ≤ w'.heap.size := by have := hb.size; simpa using this
  go_wp2
  exact bodyPost_ret (v := (.tuple #[.agg #[.int .i64 2, .string ⟨#[]⟩, .int .i64 v, .int .i64 at0], .int .i64 ((at0 + _ : Nat) : Int), .int .i64 0])) (by simp [results, Tryz.results155, go_sem, hc, hz]) rfl ⟨rfl, set4 (((Below.refl _ _).alloc (Nat.le_refl _) _).trans (hb.mono (by simp))) (Nat.le_refl _)⟩
theorem readNumber_big (s : ByteArray) (at0 n v : Nat) (w : World) (hL : LaidW w) (hlt : at0 < s.size) (hat : at0 + n ≤ s.size) (hs : s.size ≤ 10000) (hn : Hid (runLen (fun n => (n : Int) == 5) (s.data.toList.drop at0) = n)) (h : n = 1 ∨ (1 < n ∧ (((s[at0]'hlt).toNat : Int) == 48) = false))
  (hv : Hid (Lib.atoiAll (s.extract at0 (at0 + n)).data.toList = .ok (v : Int))) (hv2 : 1000000000 < v) :
  Calls Tryz.prog 155 #[.string s, .int .i64 at0] w fun e w' => e = .returned (.tuple #[.agg #[.int .i64 0, .string ⟨#[]⟩, .int .i64 0, .int .i64 0], .int .i64 0, .int .i64 3]) ∧ Below w.heap.size w w' := by
 have hsl := Lib.hid (show s.size ≤ maxLen by unfold maxLen; omega)
 have hsn := slice_ok s at0 n hat
 have hz : (s.extract at0 (at0 + n)).size ≤ s.size := by rw [ByteArray.size_extract]; omega
 have HZ := Lib.hid hz
 clear hz
 rcases h with h | ⟨h, h48⟩
 all_goals try subst h
 all_goals
  go_enter Tryz.func155, Tryz.ntmps155
  go_wp2_with fail
  refine (end_digit _ _ _ (hL.1.alloc _) (by omega) hsl.out).mono ?_
  rw [hn.out]
  rintro e w' ⟨rfl, rfl⟩
  go_wp2_with fail
  refine (atoi_ok _ (by have := HZ.out; omega) _ hv.out _).mono ?_
  rintro e w' ⟨rfl, hb⟩
  obtain ⟨hc, hf⟩ := bcell hb
  have hz : w.heap.size + 1 ≤ w'.heap.size := by have := hb.size; simpa using this
  go_wp2
  exact bodyPost_ret (v := (.tuple #[.agg #[.int .i64 0, .string ⟨#[]⟩, .int .i64 0, .int .i64 0], .int .i64 0, .int .i64 3])) (by simp [results, Tryz.results155, go_sem, hc, hz]) rfl ⟨rfl, set4 (((Below.refl _ _).alloc (Nat.le_refl _) _).trans (hb.mono (by simp))) (Nat.le_refl _)⟩
theorem readNumber_range (s : ByteArray) (at0 n : Nat) (w : World) (hL : LaidW w) (hlt : at0 < s.size) (hat : at0 + n ≤ s.size) (hs : s.size ≤ 10000) (hn : Hid (runLen (fun n => (n : Int) == 5) (s.data.toList.drop at0) = n)) (h : n = 1 ∨ (1 < n ∧ (((s[at0]'hlt).toNat : Int) == 48) = false))
  (hv : Hid (Lib.atoiAll (s.extract at0 (at0 + n)).data.toList = .range)) :
  Calls Tryz.prog 155 #[.string s, .int .i64 at0] w fun e w' => e = .returned (.tuple #[.agg #[.int .i64 0, .string ⟨#[]⟩, .int .i64 0, .int .i64 0], .int .i64 0, .int .i64 3]) ∧ Below w.heap.size w w' := by
 obtain ⟨te, pe, hev⟩ := hL.2.2
 have hsl := Lib.hid (show s.size ≤ maxLen by unfold maxLen; omega)
 have hsn := slice_ok s at0 n hat
 have hz : (s.extract at0 (at0 + n)).size ≤ s.size := by rw [ByteArray.size_extract]; omega
 have HZ := Lib.hid hz
 clear hz
 rcases h with h | ⟨h, h48⟩
 all_goals try subst h
 all_goals
  go_enter Tryz.func155, Tryz.ntmps155
  go_wp2_with fail
  refine (end_digit _ _ _ (hL.1.alloc _) (by omega) hsl.out).mono ?_
  rw [hn.out]
  rintro e w' ⟨rfl, rfl⟩
  go_wp2_with fail
  refine (atoi_range _ (by have := HZ.out; omega) hv.out _ _ (cell_alloc hev _) (Or.inr ⟨_, _, rfl⟩)).mono ?_
  rintro e w' ⟨N, rfl, hb⟩
  obtain ⟨hc, hf⟩ := bcell hb
  have hz : w.heap.size + 1 ≤ w'.heap.size := by have := hb.size; simpa using this
  go_wp2
  exact bodyPost_ret (v := (.tuple #[.agg #[.int .i64 0, .string ⟨#[]⟩, .int .i64 0, .int .i64 0], .int .i64 0, .int .i64 3])) (by simp [results, Tryz.results155, go_sem, hc, hz]) rfl ⟨rfl, set4 (((Below.refl _ _).alloc (Nat.le_refl _) _).trans (hb.mono (by simp))) (Nat.le_refl _)⟩
end Go.Proofs.YtdlebaiamdbneaaGreatDoor
