/- Contracts of the reference's Letter, Digit and Gap, for every byte, string and offset; no conditions. -/
import Derived.Test.YtkoojiblkapmbaaDoorLxB
namespace Go.Proofs.YtkoojiblkapmbaaDoor
open Go.RowKit
set_option linter.unusedVariables false
set_option linter.unusedSimpArgs false

theorem Letter_any (n : Nat) (w : World) (hn : n < 256) : Calls Tryd.prog 23 #[.int .u8 n] w fun e w' => e = .returned (.bool (decide (cls n = 4))) ∧ w = w' := by
  have h : ∀ n, n < 256 → (cls n = 4 ↔ 97 ≤ n ∧ n ≤ 122) := by decide +kernel
  have h1 := h n hn
  by_cases ha : 97 ≤ n
  · by_cases hb : n ≤ 122
    · rw [decide_eq_true (h1.2 ⟨ha, hb⟩)]
      have hd : decide ((n : Int) ≤ 122) = true := by simp; omega
      clear h h1
      go_enter Tryd.func23, Tryd.ntmps23
      go_wp2
      go_ret
      exact ⟨rfl, rfl⟩
    · rw [decide_eq_false (fun hh => hb (h1.1 hh).2)]
      have hd : decide ((n : Int) ≤ 122) = false := by simp; omega
      clear h h1
      go_enter Tryd.func23, Tryd.ntmps23
      go_wp2
      go_ret
      exact ⟨rfl, rfl⟩
  · rw [decide_eq_false (fun hh => ha (h1.1 hh).1)]
    have hd : decide (97 ≤ (n : Int)) = false := by simp; omega
    clear h h1
    go_enter Tryd.func23, Tryd.ntmps23
    go_wp2
    go_ret
    exact ⟨rfl, rfl⟩
theorem Digit_any (n : Nat) (w : World) (hn : n < 256) : Calls Tryd.prog 24 #[.int .u8 n] w fun e w' => e = .returned (.bool (decide (cls n = 5))) ∧ w = w' := by
  have h : ∀ n, n < 256 → (cls n = 5 ↔ 48 ≤ n ∧ n ≤ 57) := by decide +kernel
  have h1 := h n hn
  by_cases ha : 48 ≤ n
  · by_cases hb : n ≤ 57
    · rw [decide_eq_true (h1.2 ⟨ha, hb⟩)]
      have hd : decide ((n : Int) ≤ 57) = true := by simp; omega
      clear h h1
      go_enter Tryd.func24, Tryd.ntmps24
      go_wp2
      go_ret
      exact ⟨rfl, rfl⟩
    · rw [decide_eq_false (fun hh => hb (h1.1 hh).2)]
      have hd : decide ((n : Int) ≤ 57) = false := by simp; omega
      clear h h1
      go_enter Tryd.func24, Tryd.ntmps24
      go_wp2
      go_ret
      exact ⟨rfl, rfl⟩
  · rw [decide_eq_false (fun hh => ha (h1.1 hh).1)]
    have hd : decide (48 ≤ (n : Int)) = false := by simp; omega
    clear h h1
    go_enter Tryd.func24, Tryd.ntmps24
    go_wp2
    go_ret
    exact ⟨rfl, rfl⟩

theorem gapLen_step (c : Bool) (l : List UInt8) (k : Nat) (hk : k < l.length) (h : ¬ (((l[k] == 35 || c) && l[k] != 10) = false ∧ l[k] ≠ 32 ∧ l[k] ≠ 9 ∧ l[k] ≠ 10)) :
    gapLen c (l.drop k) = gapLen ((l[k] == 35 || c) && l[k] != 10) (l.drop (k + 1)) + 1 := by
  rw [List.drop_eq_getElem_cons hk]
  simp only [gapLen]
  rw [if_neg h]
theorem gapLen_stop (c : Bool) (l : List UInt8) (k : Nat) (hk : k < l.length) (h : ((l[k] == 35 || c) && l[k] != 10) = false ∧ l[k] ≠ 32 ∧ l[k] ≠ 9 ∧ l[k] ≠ 10) :
    gapLen c (l.drop k) = 0 := by
  rw [List.drop_eq_getElem_cons hk]
  simp only [gapLen]
  rw [if_pos h]
theorem gapLen_fin (c : Bool) (l : List UInt8) (k : Nat) (hk : l.length ≤ k) : gapLen c (l.drop k) = 0 := by
  rw [List.drop_eq_nil_of_le hk]; rfl
theorem byte_ne (b : UInt8) (n : Nat) (hn : n < 256) (h : b ≠ UInt8.ofNat n) : b.toNat ≠ n := by
  intro hh
  exact h (UInt8.toNat_inj.1 (by rw [hh]; simp; omega))

set_option maxHeartbeats 800000 in
set_option maxRecDepth 100000 in
theorem Gap_any (s : ByteArray) (at0 : Nat) (w : World) (hat : at0 ≤ s.size) (hs : s.size ≤ 100000) :
    Calls Tryd.prog 15 #[.string s, .int .i64 at0] w fun e w' => e = .returned (.int .i64 ((at0 + gapLen false (s.data.toList.drop at0) : Nat) : Int)) ∧ w = w' := by
  go_enter Tryd.func15, Tryd.ntmps15
  go_wp2
  go_loop [1, 5] (fun i cm => ∃ (k : Nat) (c : Bool), at0 ≤ k ∧ k ≤ s.size ∧ i = .int .i64 k ∧ cm = .bool c ∧ Hid (k + gapLen c (s.data.toList.drop k) = at0 + gapLen false (s.data.toList.drop at0))) (fun i _ => s.size - (intOf i).toNat)
  case atStart => exact ⟨at0, false, Nat.le_refl _, hat, rfl, rfl, rfl⟩
  case round =>
    obtain ⟨k, c, hk0, hk, rfl, rfl, hr⟩ := hrel
    by_cases hlt : k < s.size
    · have hkl : k < s.data.toList.length := by simpa using hlt
      have hst := gapLen_step c s.data.toList k hkl
      have hsp := gapLen_stop c s.data.toList k hkl
      have hge : s.data.toList[k] = s[k] := rfl
      rw [hge] at hst hsp
      have hb := byte_lt s[k]
      by_cases h35 : s[k] = 35
      · rw [h35] at hst
        have hq := Lib.hid (hst (by simp))
        have e1 : ((s[k].toNat : Int) == 35) = true := by rw [h35]; rfl
        have e2 : ((s[k].toNat : Int) == 10) = false := by rw [h35]; rfl
        clear hst hsp h35 hge
        go_wp2
        go_round
        case rel => exact ⟨k + 1, true, by omega, by omega, by go_num, rfl, by have h1 := hr.out; have h2 := hq.out; show _ = _; simp at h2; omega⟩
        case measure => simp [intOf]; omega
      have e1 : ((s[k].toNat : Int) == 35) = false := by have := byte_ne s[k] 35 (by decide) h35; simp; omega
      by_cases h10 : s[k] = 10
      · rw [h10] at hst
        have hq := Lib.hid (hst (by simp))
        have e2 : ((s[k].toNat : Int) == 10) = true := by rw [h10]; rfl
        have e3 : ((s[k].toNat : Int) != 10) = false := by rw [h10]; rfl
        have e32 : ((s[k].toNat : Int) != 32) = true := by rw [h10]; rfl
        have e9 : ((s[k].toNat : Int) != 9) = true := by rw [h10]; rfl
        clear hst hsp h35 h10 hge
        go_wp2
        go_round
        case rel => exact ⟨k + 1, false, by omega, by omega, by go_num, rfl, by have h1 := hr.out; have h2 := hq.out; show _ = _; simp at h2; omega⟩
        case measure => simp [intOf]; omega
      have e2 : ((s[k].toNat : Int) == 10) = false := by have := byte_ne s[k] 10 (by decide) h10; simp; omega
      have e10 : ((s[k].toNat : Int) != 10) = true := by have := byte_ne s[k] 10 (by decide) h10; rw [bne_iff_ne]; omega
      cases c with
      | true =>
        have hq := Lib.hid (hst (by simp [h10]))
        have hn : ((s[k] == 35 || true) && s[k] != 10) = true := by simp [h10]
        rw [hn] at hq
        clear hst hsp h35 h10 hge hn
        go_wp2
        go_round
        case rel => exact ⟨k + 1, true, by omega, by omega, by go_num, rfl, by have h1 := hr.out; have h2 := hq.out; show _ = _; omega⟩
        case measure => simp [intOf]; omega
      | false =>
        have hn : ((s[k] == 35 || false) && s[k] != 10) = false := by simp [h35]
        by_cases h32 : s[k] = 32
        · have hq := Lib.hid (hst (by simp [h32]))
          rw [hn] at hq
          have e3 : ((s[k].toNat : Int) != 32) = false := by rw [h32]; rfl
          clear hst hsp h35 h10 h32 hge hn
          go_wp2
          go_round
          case rel => exact ⟨k + 1, false, by omega, by omega, by go_num, rfl, by have h1 := hr.out; have h2 := hq.out; show _ = _; omega⟩
          case measure => simp [intOf]; omega
        have e32 : ((s[k].toNat : Int) != 32) = true := by have := byte_ne s[k] 32 (by decide) h32; rw [bne_iff_ne]; omega
        by_cases h9 : s[k] = 9
        · have hq := Lib.hid (hst (by simp [h9]))
          rw [hn] at hq
          have e3 : ((s[k].toNat : Int) != 9) = false := by rw [h9]; rfl
          clear hst hsp h35 h10 h32 h9 hge hn
          go_wp2
          go_round
          case rel => exact ⟨k + 1, false, by omega, by omega, by go_num, rfl, by have h1 := hr.out; have h2 := hq.out; show _ = _; omega⟩
          case measure => simp [intOf]; omega
        · have e9 : ((s[k].toNat : Int) != 9) = true := by have := byte_ne s[k] 9 (by decide) h9; rw [bne_iff_ne]; omega
          have hq := Lib.hid (hsp ⟨hn, h32, h9, h10⟩)
          clear hst hsp h35 h10 h32 h9 hge hn
          go_wp2
          go_ret
          exact ⟨ret_int (by have h1 := hr.out; have h2 := hq.out; omega), rfl⟩
    · have hq := Lib.hid (gapLen_fin c s.data.toList k (by simp; omega))
      go_wp2
      go_ret
      exact ⟨ret_int (by have h1 := hr.out; have h2 := hq.out; omega), rfl⟩
end Go.Proofs.YtkoojiblkapmbaaDoor
