/- Texts of one proof: LxR, LxS. -/
import Derived.Test.YtdaghppcomckbaaGreatDoorLmA
import Derived.Test.YtdaghppcomckbaaGreatDoorLmB
import Derived.Deep.LoopGhost
/- Contracts of the reference's Letter, Digit and Gap, for every byte, string and offset; no conditions. -/
namespace Go.Proofs.YtdaghppcomckbaaGreatDoor
open Go.RowKit
set_option linter.unusedVariables false
set_option linter.unusedSimpArgs false

theorem Letter_any (n : Nat) (w : World) (hn : n < 256) : Calls Tryz.prog 44 #[.int .u8 n] w fun e w' => e = .returned (.bool (decide (cls n = 4))) ∧ w = w' := by
  have h : ∀ n, n < 256 → (cls n = 4 ↔ 97 ≤ n ∧ n ≤ 122) := by decide +kernel
  have h1 := h n hn
  by_cases ha : 97 ≤ n
  · by_cases hb : n ≤ 122
    · rw [decide_eq_true (h1.2 ⟨ha, hb⟩)]
      have hd : decide ((n : Int) ≤ 122) = true := by simp; omega
      clear h h1
      go_enter Tryz.func44, Tryz.ntmps44
      go_wp2
      go_ret
      exact ⟨rfl, rfl⟩
    · rw [decide_eq_false (fun hh => hb (h1.1 hh).2)]
      have hd : decide ((n : Int) ≤ 122) = false := by simp; omega
      clear h h1
      go_enter Tryz.func44, Tryz.ntmps44
      go_wp2
      go_ret
      exact ⟨rfl, rfl⟩
  · rw [decide_eq_false (fun hh => ha (h1.1 hh).1)]
    have hd : decide (97 ≤ (n : Int)) = false := by simp; omega
    clear h h1
    go_enter Tryz.func44, Tryz.ntmps44
    go_wp2
    go_ret
    exact ⟨rfl, rfl⟩
theorem Digit_any (n : Nat) (w : World) (hn : n < 256) : Calls Tryz.prog 45 #[.int .u8 n] w fun e w' => e = .returned (.bool (decide (cls n = 5))) ∧ w = w' := by
  have h : ∀ n, n < 256 → (cls n = 5 ↔ 48 ≤ n ∧ n ≤ 57) := by decide +kernel
  have h1 := h n hn
  by_cases ha : 48 ≤ n
  · by_cases hb : n ≤ 57
    · rw [decide_eq_true (h1.2 ⟨ha, hb⟩)]
      have hd : decide ((n : Int) ≤ 57) = true := by simp; omega
      clear h h1
      go_enter Tryz.func45, Tryz.ntmps45
      go_wp2
      go_ret
      exact ⟨rfl, rfl⟩
    · rw [decide_eq_false (fun hh => hb (h1.1 hh).2)]
      have hd : decide ((n : Int) ≤ 57) = false := by simp; omega
      clear h h1
      go_enter Tryz.func45, Tryz.ntmps45
      go_wp2
      go_ret
      exact ⟨rfl, rfl⟩
  · rw [decide_eq_false (fun hh => ha (h1.1 hh).1)]
    have hd : decide (48 ≤ (n : Int)) = false := by simp; omega
    clear h h1
    go_enter Tryz.func45, Tryz.ntmps45
    go_wp2
    go_ret
    exact ⟨rfl, rfl⟩

theorem gapLen_step (c : Bool) (l : List UInt8) (k : Nat) (hk : k < l.length) (h : ¬ (((l[k] == 35 || c) && l[k] != 10) = false ∧ l[k] ≠ 32 ∧ l[k] ≠ 9 ∧ l[k] ≠ 10)) :
    gapLen c (l.drop k) = gapLen ((l[k] == 35 || c) && l[k] != 10) (l.drop (k + 1)) + 1 := by
  rw [List.drop_eq_getElem_cons hk]
  simp only [gapLen]
  rw [if_neg h]
theorem gapLen_stop (c : Bool) (l : List UInt8) (k : Nat) (hk : k < l.length) (h : ((l[k] == 35 || c) && l[k] != 10) = false ∧ l[k] ≠ 32 ∧ l[k] ≠ 9 ∧ l[k] ≠ 10) :
    gapLen c (l.drop k) = 0 := by
  rw [List.drop_eq_getElem_cons hk]
  simp only [gapLen]
  rw [if_pos h]
theorem gapLen_fin (c : Bool) (l : List UInt8) (k : Nat) (hk : l.length ≤ k) : gapLen c (l.drop k) = 0 := by
  rw [List.drop_eq_nil_of_le hk]; rfl
theorem byte_ne (b : UInt8) (n : Nat) (hn : n < 256) (h : b ≠ UInt8.ofNat n) : b.toNat ≠ n := by
  intro hh
  exact h (UInt8.toNat_inj.1 (by rw [hh]; simp; omega))

set_option maxHeartbeats 800000 in
set_option maxRecDepth 100000 in
theorem Gap_any (s : ByteArray) (at0 : Nat) (w : World) (hat : at0 ≤ s.size) (hs : s.size ≤ 100000) :
    Calls Tryz.prog 23 #[.string s, .int .i64 at0] w fun e w' => e = .returned (.int .i64 ((at0 + gapLen false (s.data.toList.drop at0) : Nat) : Int)) ∧ w = w' := by
  go_enter Tryz.func23, Tryz.ntmps23
  go_wp2
  go_loop [1, 5] (fun i cm => ∃ (k : Nat) (c : Bool), at0 ≤ k ∧ k ≤ s.size ∧ i = .int .i64 k ∧ cm = .bool c ∧ Hid (k + gapLen c (s.data.toList.drop k) = at0 + gapLen false (s.data.toList.drop at0))) (fun i _ => s.size - (intOf i).toNat)
  case atStart => exact ⟨at0, false, Nat.le_refl _, hat, rfl, rfl, rfl⟩
  case round =>
    obtain ⟨k, c, hk0, hk, rfl, rfl, hr⟩ := hrel
    by_cases hlt : k < s.size
    · have hkl : k < s.data.toList.length := by simpa using hlt
      have hst := gapLen_step c s.data.toList k hkl
      have hsp := gapLen_stop c s.data.toList k hkl
      have hge : s.data.toList[k] = s[k] := rfl
      rw [hge] at hst hsp
      have hb := byte_lt s[k]
      by_cases h35 : s[k] = 35
      · rw [h35] at hst
        have hq := Lib.hid (hst (by simp))
        have e1 : ((s[k].toNat : Int) == 35) = true := by rw [h35]; rfl
        have e2 : ((s[k].toNat : Int) == 10) = false := by rw [h35]; rfl
        clear hst hsp h35 hge
        go_wp2
        go_round
        case rel => exact ⟨k + 1, true, by omega, by omega, by go_num, rfl, by have h1 := hr.out; have h2 := hq.out; show _ = _; simp at h2; omega⟩
        case measure => simp [intOf]; omega
      have e1 : ((s[k].toNat : Int) == 35) = false := by have := byte_ne s[k] 35 (by decide) h35; simp; omega
      by_cases h10 : s[k] = 10
      · rw [h10] at hst
        have hq := Lib.hid (hst (by simp))
        have e2 : ((s[k].toNat : Int) == 10) = true := by rw [h10]; rfl
        have e3 : ((s[k].toNat : Int) != 10) = false := by rw [h10]; rfl
        have e32 : ((s[k].toNat : Int) != 32) = true := by rw [h10]; rfl
        have e9 : ((s[k].toNat : Int) != 9) = true := by rw [h10]; rfl
        clear hst hsp h35 h10 hge
        go_wp2
        go_round
        case rel => exact ⟨k + 1, false, by omega, by omega, by go_num, rfl, by have h1 := hr.out; have h2 := hq.out; show _ = _; simp at h2; omega⟩
        case measure => simp [intOf]; omega
      have e2 : ((s[k].toNat : Int) == 10) = false := by have := byte_ne s[k] 10 (by decide) h10; simp; omega
      have e10 : ((s[k].toNat : Int) != 10) = true := by have := byte_ne s[k] 10 (by decide) h10; rw [bne_iff_ne]; omega
      cases c with
      | true =>
        have hq := Lib.hid (hst (by simp [h10]))
        have hn : ((s[k] == 35 || true) && s[k] != 10) = true := by simp [h10]
        rw [hn] at hq
        clear hst hsp h35 h10 hge hn
        go_wp2
        go_round
        case rel => exact ⟨k + 1, true, by omega, by omega, by go_num, rfl, by have h1 := hr.out; have h2 := hq.out; show _ = _; omega⟩
        case measure => simp [intOf]; omega
      | false =>
        have hn : ((s[k] == 35 || false) && s[k] != 10) = false := by simp [h35]
        by_cases h32 : s[k] = 32
        · have hq := Lib.hid (hst (by simp [h32]))
          rw [hn] at hq
          have e3 : ((s[k].toNat : Int) != 32) = false := by rw [h32]; rfl
          clear hst hsp h35 h10 h32 hge hn
          go_wp2
          go_round
          case rel => exact ⟨k + 1, false, by omega, by omega, by go_num, rfl, by have h1 := hr.out; have h2 := hq.out; show _ = _; omega⟩
          case measure => simp [intOf]; omega
        have e32 : ((s[k].toNat : Int) != 32) = true := by have := byte_ne s[k] 32 (by decide) h32; rw [bne_iff_ne]; omega
        by_cases h9 : s[k] = 9
        · have hq := Lib.hid (hst (by simp [h9]))
          rw [hn] at hq
          have e3 : ((s[k].toNat : Int) != 9) = false := by rw [h9]; rfl
          clear hst hsp h35 h10 h32 h9 hge hn
          go_wp2
          go_round
          case rel => exact ⟨k + 1, false, by omega, by omega, by go_num, rfl, by have h1 := hr.out; have h2 := hq.out; show _ = _; omega⟩
          case measure => simp [intOf]; omega
        · have e9 : ((s[k].toNat : Int) != 9) = true := by have := byte_ne s[k] 9 (by decide) h9; rw [bne_iff_ne]; omega
          have hq := Lib.hid (hsp ⟨hn, h32, h9, h10⟩)
          clear hst hsp h35 h10 h32 h9 hge hn
          go_wp2
          go_ret
          exact ⟨ret_int (by have h1 := hr.out; have h2 := hq.out; omega), rfl⟩
    · have hq := Lib.hid (gapLen_fin c s.data.toList k (by simp; omega))
      go_wp2
      go_ret
      exact ⟨ret_int (by have h1 := hr.out; have h2 := hq.out; omega), rfl⟩
end Go.Proofs.YtdaghppcomckbaaGreatDoor

/- Contracts of the reference's Punct and End; no conditions but sizes. -/
namespace Go.Proofs.YtdaghppcomckbaaGreatDoor
open Go.RowKit
set_option linter.unusedVariables false
set_option linter.unusedSimpArgs false

def puncts : List ByteArray := [⟨#[60, 61]⟩, ⟨#[62, 61]⟩, ⟨#[61, 61]⟩, ⟨#[33, 61]⟩, ⟨#[59]⟩, ⟨#[123]⟩, ⟨#[125]⟩, ⟨#[40]⟩, ⟨#[41]⟩, ⟨#[44]⟩, ⟨#[43]⟩, ⟨#[45]⟩, ⟨#[42]⟩, ⟨#[47]⟩, ⟨#[61]⟩, ⟨#[60]⟩, ⟨#[62]⟩]
def punct (k : Nat) : ByteArray := puncts.getD k ⟨#[]⟩
def PunctPost (w : World) (e : Ending) (w' : World) : Prop := e = .returned (.slice (some ⟨w.heap.size, 0, none⟩) 17 17) ∧ Below w.heap.size w w' ∧ w.heap.size < w'.heap.size ∧ ∀ k, k < 17 → w'.cell? ⟨w.heap.size, k, none⟩ = some (.string (punct k))
set_option maxRecDepth 100000 in
theorem Punct_any (w : World) : Calls Tryz.prog 46 #[] w (PunctPost w) := by
  go_enter Tryz.func46, Tryz.ntmps46
  go_wp2
  go_ret
  refine ⟨rfl, (Below.refl _ _).alloc (Nat.le_refl _) _, by simp, fun k hk => ?_⟩
  rw [cell_of_row _ _ k _ _ (0, 0) (heap_alloc_new w _)]
  have : ∀ k, k < 17 → (#[Value.string ⟨#[60, 61]⟩, .string ⟨#[62, 61]⟩, .string ⟨#[61, 61]⟩, .string ⟨#[33, 61]⟩, .string ⟨#[59]⟩, .string ⟨#[123]⟩, .string ⟨#[125]⟩, .string ⟨#[40]⟩, .string ⟨#[41]⟩, .string ⟨#[44]⟩, .string ⟨#[43]⟩, .string ⟨#[45]⟩, .string ⟨#[42]⟩, .string ⟨#[47]⟩, .string ⟨#[61]⟩, .string ⟨#[60]⟩, .string ⟨#[62]⟩] : Array Value)[k]? = some (.string (punct k)) := by
    intro k hk
    match k, hk with
    | 0, _ | 1, _ | 2, _ | 3, _ | 4, _ | 5, _ | 6, _ | 7, _ | 8, _ | 9, _ | 10, _ | 11, _ | 12, _ | 13, _ | 14, _ | 15, _ | 16, _ => rfl
    | n + 17, h => omega
  exact this k hk

set_option maxHeartbeats 800000 in
set_option maxRecDepth 100000 in
theorem End_out (s : ByteArray) (at0 : Nat) (w : World) (hat : s.size ≤ at0) (hs : s.size ≤ 100000) (hs2 : at0 ≤ 100000) :
    Calls Tryz.prog 24 #[.string s, .int .i64 at0] w fun e w' => e = .returned (.int .i64 at0) ∧ w = w' := by
  go_enter Tryz.func24, Tryz.ntmps24
  go_wp2
  go_ret
  exact ⟨rfl, rfl⟩

set_option maxHeartbeats 800000 in
set_option maxRecDepth 100000 in
theorem End_name (s : ByteArray) (at0 : Nat) (w : World) (hat : at0 < s.size) (hs : s.size ≤ 100000) (hc : Hid (cls (s[at0]'hat).toNat = 4)) :
    Calls Tryz.prog 24 #[.string s, .int .i64 at0] w fun e w' => e = .returned (.int .i64 ((at0 + runLen nameB (s.data.toList.drop at0) : Nat) : Int)) ∧ w = w' := by
  have hb := byte_lt (s[at0]'hat)
  go_enter Tryz.func24, Tryz.ntmps24
  go_wp2_with fail
  refine (Letter_any _ _ hb).mono ?_
  rw [hc.out, decide_eq_true rfl]
  rintro e w' ⟨rfl, rfl⟩
  go_wp2_with fail
  refine (Digit_any _ _ hb).mono ?_
  rw [hc.out, decide_eq_false (by decide)]
  rintro e w' ⟨rfl, rfl⟩
  go_wp2_with fail
  go_loop [5] (fun i => ∃ k : Nat, at0 ≤ k ∧ k ≤ s.size ∧ i = .int .i64 k ∧ Hid (k + runLen nameB (s.data.toList.drop k) = at0 + runLen nameB (s.data.toList.drop at0))) (fun i => s.size - (intOf i).toNat)
  case atStart => exact ⟨at0, Nat.le_refl _, by omega, rfl, rfl⟩
  case round =>
    obtain ⟨k, hk0, hk, rfl, hr⟩ := hrel
    by_cases hlt : k < s.size
    · have hb2 := byte_lt s[k]
      by_cases h4 : cls s[k].toNat = 4
      · have hq := Lib.hid (runLen_yes nameB s.data.toList k (by simpa using hlt) (by show nameB (cls s[k].toNat) = true; rw [h4]; rfl))
        have H4 := Lib.hid h4
        clear h4
        go_wp2_with fail
        refine (Letter_any _ _ hb2).mono ?_
        rw [H4.out, decide_eq_true rfl]
        rintro e w' ⟨rfl, rfl⟩
        go_wp2_with fail
        refine (Digit_any _ _ hb2).mono ?_
        rw [H4.out, decide_eq_false (by decide)]
        rintro e w' ⟨rfl, rfl⟩
        go_wp2
        go_round
        case rel => exact ⟨k + 1, by omega, by omega, by go_num, by have h1 := hr.out; have h2 := hq.out; show _ = _; omega⟩
        case measure => simp [intOf]; omega
      by_cases h5 : cls s[k].toNat = 5
      · have hq := Lib.hid (runLen_yes nameB s.data.toList k (by simpa using hlt) (by show nameB (cls s[k].toNat) = true; rw [h5]; rfl))
        have H5 := Lib.hid h5
        clear h4 h5
        go_wp2_with fail
        refine (Letter_any _ _ hb2).mono ?_
        rw [H5.out, decide_eq_false (by decide)]
        rintro e w' ⟨rfl, rfl⟩
        go_wp2_with fail
        refine (Digit_any _ _ hb2).mono ?_
        rw [H5.out, decide_eq_true rfl]
        rintro e w' ⟨rfl, rfl⟩
        go_wp2
        go_round
        case rel => exact ⟨k + 1, by omega, by omega, by go_num, by have h1 := hr.out; have h2 := hq.out; show _ = _; omega⟩
        case measure => simp [intOf]; omega
      have H4 := Lib.hid h4
      have H5 := Lib.hid h5
      have h95 : cls s[k].toNat = 6 ↔ s[k].toNat = 95 := (by decide +kernel : ∀ n, n < 256 → (cls n = 6 ↔ n = 95)) _ hb2
      by_cases h6 : cls s[k].toNat = 6
      · have hq := Lib.hid (runLen_yes nameB s.data.toList k (by simpa using hlt) (by show nameB (cls s[k].toNat) = true; rw [h6]; rfl))
        have e6 : ((s[k].toNat : Int) != 95) = false := by rw [h95.1 h6]; rfl
        clear h4 h5 h6 h95
        go_wp2_with fail
        refine (Letter_any _ _ hb2).mono ?_
        rw [decide_eq_false H4.out]
        rintro e w' ⟨rfl, rfl⟩
        go_wp2_with fail
        refine (Digit_any _ _ hb2).mono ?_
        rw [decide_eq_false H5.out]
        rintro e w' ⟨rfl, rfl⟩
        go_wp2
        go_round
        case rel => exact ⟨k + 1, by omega, by omega, by go_num, by have h1 := hr.out; have h2 := hq.out; show _ = _; omega⟩
        case measure => simp [intOf]; omega
      · have hq := Lib.hid (runLen_no nameB s.data.toList k (by simpa using hlt) (by show nameB (cls s[k].toNat) = false; simp [nameB, h4, h5, h6]))
        have e6 : ((s[k].toNat : Int) != 95) = true := by rw [bne_iff_ne]; intro hh; exact h6 (h95.2 (by omega))
        clear h4 h5 h6 h95
        go_wp2_with fail
        refine (Letter_any _ _ hb2).mono ?_
        rw [decide_eq_false H4.out]
        rintro e w' ⟨rfl, rfl⟩
        go_wp2_with fail
        refine (Digit_any _ _ hb2).mono ?_
        rw [decide_eq_false H5.out]
        rintro e w' ⟨rfl, rfl⟩
        go_wp2
        go_ret
        exact ⟨ret_int (by have h1 := hr.out; have h2 := hq.out; omega), rfl⟩
    · have hq := Lib.hid (runLen_end nameB s.data.toList k (by simp; omega))
      go_wp2
      go_ret
      exact ⟨ret_int (by have h1 := hr.out; have h2 := hq.out; omega), rfl⟩

set_option maxHeartbeats 800000 in
set_option maxRecDepth 100000 in
theorem End_digit (s : ByteArray) (at0 : Nat) (w : World) (hat : at0 < s.size) (hs : s.size ≤ 100000) (hc : Hid (cls (s[at0]'hat).toNat = 5)) :
    Calls Tryz.prog 24 #[.string s, .int .i64 at0] w fun e w' => e = .returned (.int .i64 ((at0 + runLen (fun n => (n : Int) == 5) (s.data.toList.drop at0) : Nat) : Int)) ∧ w = w' := by
  have hb := byte_lt (s[at0]'hat)
  go_enter Tryz.func24, Tryz.ntmps24
  go_wp2_with fail
  refine (Letter_any _ _ hb).mono ?_
  rw [hc.out, decide_eq_false (by decide)]
  rintro e w' ⟨rfl, rfl⟩
  go_wp2_with fail
  refine (Digit_any _ _ hb).mono ?_
  rw [hc.out, decide_eq_true rfl]
  rintro e w' ⟨rfl, rfl⟩
  go_wp2_with fail
  go_loop [5] (fun i => ∃ k : Nat, at0 ≤ k ∧ k ≤ s.size ∧ i = .int .i64 k ∧ Hid (k + runLen (fun n => (n : Int) == 5) (s.data.toList.drop k) = at0 + runLen (fun n => (n : Int) == 5) (s.data.toList.drop at0))) (fun i => s.size - (intOf i).toNat)
  case atStart => exact ⟨at0, Nat.le_refl _, by omega, rfl, rfl⟩
  case round =>
    obtain ⟨k, hk0, hk, rfl, hr⟩ := hrel
    by_cases hlt : k < s.size
    · have hb2 := byte_lt s[k]
      by_cases h5 : cls s[k].toNat = 5
      · have hq := Lib.hid (runLen_yes (fun n => (n : Int) == 5) s.data.toList k (by simpa using hlt) (by show ((cls s[k].toNat : Int) == 5) = true; rw [h5]; rfl))
        have H5 := Lib.hid h5
        clear h5
        go_wp2_with fail
        refine (Letter_any _ _ hb2).mono ?_
        rw [H5.out, decide_eq_false (by decide)]
        rintro e w' ⟨rfl, rfl⟩
        go_wp2_with fail
        refine (Digit_any _ _ hb2).mono ?_
        rw [H5.out, decide_eq_true rfl]
        rintro e w' ⟨rfl, rfl⟩
        go_wp2
        go_round
        case rel => exact ⟨k + 1, by omega, by omega, by go_num, by have h1 := hr.out; have h2 := hq.out; show _ = _; omega⟩
        case measure => simp [intOf]; omega
      · have hq := Lib.hid (runLen_no (fun n => (n : Int) == 5) s.data.toList k (by simpa using hlt) (by show ((cls s[k].toNat : Int) == 5) = false; simp; omega))
        have H5 := Lib.hid h5
        clear h5
        cases h4 : decide (cls s[k].toNat = 4)
        all_goals
          have H4 := Lib.hid h4
          clear h4
          go_wp2_with fail
          refine (Letter_any _ _ hb2).mono ?_
          rw [H4.out]
          rintro e w' ⟨rfl, rfl⟩
          go_wp2_with fail
          refine (Digit_any _ _ hb2).mono ?_
          rw [decide_eq_false H5.out]
          rintro e w' ⟨rfl, rfl⟩
          go_wp2
          go_ret
          exact ⟨ret_int (by have h1 := hr.out; have h2 := hq.out; omega), rfl⟩
    · have hq := Lib.hid (runLen_end (fun n => (n : Int) == 5) s.data.toList k (by simp; omega))
      go_wp2
      go_ret
      exact ⟨ret_int (by have h1 := hr.out; have h2 := hq.out; omega), rfl⟩
end Go.Proofs.YtdaghppcomckbaaGreatDoor
