/- The gap function of the lexer as mathematics, and the contract of gapEnd; condition: the listed package-level variables hold what the text lays. -/
import Derived.Test.YtkoojiblkapmbaaDoorLxA
namespace Go.Proofs.YtkoojiblkapmbaaDoor
open Go.RowKit
set_option linter.unusedVariables false
set_option linter.unusedSimpArgs false

/-- the bytes of the gap at the head; c: inside a comment -/
def gapLen (c : Bool) : List UInt8 → Nat
  | [] => 0
  | b :: r => if ((b == 35 || c) && b != 10) = false ∧ b ≠ 32 ∧ b ≠ 9 ∧ b ≠ 10 then 0 else gapLen ((b == 35 || c) && b != 10) r + 1
theorem gapLen_le (l : List UInt8) : ∀ c, gapLen c l ≤ l.length := by
  induction l with
  | nil => intro c; exact Nat.le_refl _
  | cons b r ih => intro c; simp only [gapLen, List.length_cons]; split <;> have := ih ((b == 35 || c) && b != 10) <;> omega

theorem cls_1 (b : UInt8) : cls b.toNat = 1 ↔ b = 9 ∨ b = 32 := by
  have h : ∀ n, n < 256 → (cls n = 1 ↔ n = 9 ∨ n = 32) := by decide +kernel
  rw [h _ b.toNat_lt, ← UInt8.toNat_inj, ← UInt8.toNat_inj]; rfl
theorem cls_2 (b : UInt8) : cls b.toNat = 2 ↔ b = 10 := by
  have h : ∀ n, n < 256 → (cls n = 2 ↔ n = 10) := by decide +kernel
  rw [h _ b.toNat_lt, ← UInt8.toNat_inj]; rfl
theorem cls_3 (b : UInt8) : cls b.toNat = 3 ↔ b = 35 := by
  have h : ∀ n, n < 256 → (cls n = 3 ↔ n = 35) := by decide +kernel
  rw [h _ b.toNat_lt, ← UInt8.toNat_inj]; rfl

/-- a comment runs to the line feed -/
theorem gapLen_comment (l : List UInt8) : gapLen true l = runLen (fun n => (n : Int) != 2) l + gapLen false (l.drop (runLen (fun n => (n : Int) != 2) l)) := by
  induction l with
  | nil => rfl
  | cons b r ih =>
    by_cases h : b = 10
    · subst h
      have e : runLen (fun n => (n : Int) != 2) (10 :: r) = 0 := rfl
      rw [e]
      simp [gapLen]
    · have h2 : ¬ cls b.toNat = 2 := fun hh => h ((cls_2 b).1 hh)
      have e : runLen (fun n => (n : Int) != 2) (b :: r) = runLen (fun n => (n : Int) != 2) r + 1 := by
        simp only [runLen]; rw [if_pos]; simp; omega
      rw [e]
      simp only [gapLen, List.drop_succ_cons]
      have hb : ((b == 35 || true) && b != 10) = true := by simp [h]
      rw [hb, if_neg (by simp), ih]
      omega
theorem gapLen_blank (l : List UInt8) (k : Nat) (hk : k < l.length) (h : cls l[k].toNat = 1 ∨ cls l[k].toNat = 2) : gapLen false (l.drop k) = gapLen false (l.drop (k + 1)) + 1 := by
  rw [List.drop_eq_getElem_cons hk]
  rw [cls_1, cls_2] at h
  simp only [gapLen]
  rcases h with (h | h) | h <;> simp [h]
theorem gapLen_sharp (l : List UInt8) (k : Nat) (hk : k < l.length) (h : cls l[k].toNat = 3) :
    gapLen false (l.drop k) = runLen (fun n => (n : Int) != 2) (l.drop k) + gapLen false (l.drop (k + runLen (fun n => (n : Int) != 2) (l.drop k))) := by
  rw [← List.drop_drop, List.drop_eq_getElem_cons hk]
  rw [cls_3] at h
  have e : runLen (fun n => (n : Int) != 2) (l[k] :: l.drop (k + 1)) = runLen (fun n => (n : Int) != 2) (l.drop (k + 1)) + 1 := by
    simp only [runLen]; rw [if_pos]; rw [h]; rfl
  rw [e]
  simp only [gapLen, List.drop_succ_cons]
  rw [h]
  have hb : (((35 : UInt8) == 35 || false) && (35 : UInt8) != 10) = true := rfl
  rw [hb, if_neg (by simp), gapLen_comment]
  omega
theorem gapLen_other (l : List UInt8) (k : Nat) (hk : k < l.length) (h1 : cls l[k].toNat ≠ 1) (h2 : cls l[k].toNat ≠ 2) (h3 : cls l[k].toNat ≠ 3) : gapLen false (l.drop k) = 0 := by
  rw [List.drop_eq_getElem_cons hk]
  rw [Ne, cls_1] at h1
  rw [Ne, cls_2] at h2
  rw [Ne, cls_3] at h3
  simp only [gapLen]
  rw [if_pos]
  simp_all
theorem gapLen_end (l : List UInt8) (k : Nat) (hk : l.length ≤ k) : gapLen false (l.drop k) = 0 := by
  rw [List.drop_eq_nil_of_le hk]; rfl

set_option maxHeartbeats 400000 in
set_option maxRecDepth 100000 in
theorem gapEnd_any (s : ByteArray) (at0 : Nat) (w : World) (hT : Tab w) (hat : at0 ≤ s.size) (hs : s.size ≤ maxLen) :
    Calls Tryd.prog 19 #[.string s, .int .i64 at0] w fun e w' => e = .returned (.int .i64 ((at0 + gapLen false (s.data.toList.drop at0) : Nat) : Int)) ∧ w = w' := by
  have hsl := Lib.hid hs
  unfold maxLen at hs
  go_enter Tryd.func19, Tryd.ntmps19
  go_wp2
  go_loop [1] (fun i => ∃ k : Nat, at0 ≤ k ∧ k ≤ s.size ∧ i = .int .i64 k ∧ Hid (k + gapLen false (s.data.toList.drop k) = at0 + gapLen false (s.data.toList.drop at0))) (fun i => s.size - (intOf i).toNat)
  case atStart => exact ⟨at0, Nat.le_refl _, hat, rfl, rfl⟩
  case round =>
    obtain ⟨k, hk0, hk, rfl, hr⟩ := hrel
    by_cases hlt : k < s.size
    · have hb := byte_lt s[k]
      have hkl : k < s.data.toList.length := by simpa using hlt
      by_cases h1 : cls s[k].toNat = 1
      · have hq := Lib.hid (gapLen_blank s.data.toList k hkl (Or.inl h1))
        have H := Lib.hid h1
        clear h1
        go_wp2_with fail
        refine (classOf_any _ _ hT hb).mono ?_
        rw [H.out]
        rintro e w' ⟨rfl, rfl⟩
        go_wp2
        go_round
        case rel => exact ⟨k + 1, by omega, by omega, by go_num, by have h1 := hr.out; have h2 := hq.out; show _ = _; omega⟩
        case measure => simp [intOf]; omega
      by_cases h2 : cls s[k].toNat = 2
      · have hq := Lib.hid (gapLen_blank s.data.toList k hkl (Or.inr h2))
        have H := Lib.hid h2
        clear h1 h2
        go_wp2_with fail
        refine (classOf_any _ _ hT hb).mono ?_
        rw [H.out]
        rintro e w' ⟨rfl, rfl⟩
        go_wp2
        go_round
        case rel => exact ⟨k + 1, by omega, by omega, by go_num, by have h1 := hr.out; have h2 := hq.out; show _ = _; omega⟩
        case measure => simp [intOf]; omega
      by_cases h3 : cls s[k].toNat = 3
      · have hq := Lib.hid (gapLen_sharp s.data.toList k hkl h3)
        have H := Lib.hid h3
        have hpos : 0 < runLen (fun n => (n : Int) != 2) (s.data.toList.drop k) := by
          rw [runLen_yes _ _ _ hkl (by rw [show s.data.toList[k] = s[k] from rfl, h3]; rfl)]; omega
        have hle := runLen_le (fun n => (n : Int) != 2) (s.data.toList.drop k)
        rw [List.length_drop] at hle
        have hle2 : runLen (fun n => (n : Int) != 2) (s.data.toList.drop k) ≤ s.size - k := by simpa using hle
        clear h1 h2 h3 hle
        go_wp2_with fail
        refine (classOf_any _ _ hT hb).mono ?_
        rw [H.out]
        rintro e w' ⟨rfl, rfl⟩
        go_wp2_with fail
        refine (end_feed _ _ _ hT hk hsl.out).mono ?_
        rintro e w' ⟨rfl, rfl⟩
        go_wp2
        go_round
        case rel => exact ⟨k + runLen (fun n => (n : Int) != 2) (s.data.toList.drop k), by omega, by omega, by go_num, by have h1 := hr.out; have h2 := hq.out; show _ = _; omega⟩
        case measure => simp [intOf]; omega
      · have hq := Lib.hid (gapLen_other s.data.toList k hkl h1 h2 h3)
        have e1 : ((cls s[k].toNat : Int) == 1) = false := by simp; omega
        have e2 : ((cls s[k].toNat : Int) == 2) = false := by simp; omega
        have e3 : ((cls s[k].toNat : Int) == 3) = false := by simp; omega
        clear h1 h2 h3
        go_wp2_with fail
        refine (classOf_any _ _ hT hb).mono ?_
        rintro e w' ⟨rfl, rfl⟩
        go_wp2
        go_ret
        exact ⟨ret_int (by have h1 := hr.out; have h2 := hq.out; omega), rfl⟩
    · have hq := Lib.hid (gapLen_end s.data.toList k (by simp; omega))
      go_wp2
      go_ret
      exact ⟨ret_int (by have h1 := hr.out; have h2 := hq.out; omega), rfl⟩
end Go.Proofs.YtkoojiblkapmbaaDoor
