/- Contracts of the reference's Punct and End; no conditions but sizes. -/
import Derived.Test.YtkoojiblkapmbaaDoorLxR
import Derived.Test.YtkoojiblkapmbaaDoorLxE
import Derived.Deep.LoopGhost
namespace Go.Proofs.YtkoojiblkapmbaaDoor
open Go.RowKit
set_option linter.unusedVariables false
set_option linter.unusedSimpArgs false

def puncts : List ByteArray := [⟨#[60, 61]⟩, ⟨#[62, 61]⟩, ⟨#[61, 61]⟩, ⟨#[33, 61]⟩, ⟨#[59]⟩, ⟨#[123]⟩, ⟨#[125]⟩, ⟨#[40]⟩, ⟨#[41]⟩, ⟨#[44]⟩, ⟨#[43]⟩, ⟨#[45]⟩, ⟨#[42]⟩, ⟨#[47]⟩, ⟨#[61]⟩, ⟨#[60]⟩, ⟨#[62]⟩]
def punct (k : Nat) : ByteArray := puncts.getD k ⟨#[]⟩
def PunctPost (w : World) (e : Ending) (w' : World) : Prop := e = .returned (.slice (some ⟨w.heap.size, 0, none⟩) 17 17) ∧ Below w.heap.size w w' ∧ w.heap.size < w'.heap.size ∧ ∀ k, k < 17 → w'.cell? ⟨w.heap.size, k, none⟩ = some (.string (punct k))
set_option maxRecDepth 100000 in
theorem Punct_any (w : World) : Calls Tryd.prog 25 #[] w (PunctPost w) := by
  go_enter Tryd.func25, Tryd.ntmps25
  go_wp2
  go_ret
  refine ⟨rfl, (Below.refl _ _).alloc (Nat.le_refl _) _, by simp, fun k hk => ?_⟩
  rw [cell_of_row _ _ k _ _ (0, 0) (heap_alloc_new w _)]
  have : ∀ k, k < 17 → (#[Value.string ⟨#[60, 61]⟩, .string ⟨#[62, 61]⟩, .string ⟨#[61, 61]⟩, .string ⟨#[33, 61]⟩, .string ⟨#[59]⟩, .string ⟨#[123]⟩, .string ⟨#[125]⟩, .string ⟨#[40]⟩, .string ⟨#[41]⟩, .string ⟨#[44]⟩, .string ⟨#[43]⟩, .string ⟨#[45]⟩, .string ⟨#[42]⟩, .string ⟨#[47]⟩, .string ⟨#[61]⟩, .string ⟨#[60]⟩, .string ⟨#[62]⟩] : Array Value)[k]? = some (.string (punct k)) := by
    intro k hk
    match k, hk with
    | 0, _ | 1, _ | 2, _ | 3, _ | 4, _ | 5, _ | 6, _ | 7, _ | 8, _ | 9, _ | 10, _ | 11, _ | 12, _ | 13, _ | 14, _ | 15, _ | 16, _ => rfl
    | n + 17, h => omega
  exact this k hk

set_option maxHeartbeats 800000 in
set_option maxRecDepth 100000 in
theorem End_out (s : ByteArray) (at0 : Nat) (w : World) (hat : s.size ≤ at0) (hs : s.size ≤ 100000) (hs2 : at0 ≤ 100000) :
    Calls Tryd.prog 17 #[.string s, .int .i64 at0] w fun e w' => e = .returned (.int .i64 at0) ∧ w = w' := by
  go_enter Tryd.func17, Tryd.ntmps17
  go_wp2
  go_ret
  exact ⟨rfl, rfl⟩

set_option maxHeartbeats 800000 in
set_option maxRecDepth 100000 in
theorem End_name (s : ByteArray) (at0 : Nat) (w : World) (hat : at0 < s.size) (hs : s.size ≤ 100000) (hc : Hid (cls (s[at0]'hat).toNat = 4)) :
    Calls Tryd.prog 17 #[.string s, .int .i64 at0] w fun e w' => e = .returned (.int .i64 ((at0 + runLen nameB (s.data.toList.drop at0) : Nat) : Int)) ∧ w = w' := by
  have hb := byte_lt (s[at0]'hat)
  go_enter Tryd.func17, Tryd.ntmps17
  go_wp2_with fail
  refine (Letter_any _ _ hb).mono ?_
  rw [hc.out, decide_eq_true rfl]
  rintro e w' ⟨rfl, rfl⟩
  go_wp2_with fail
  refine (Digit_any _ _ hb).mono ?_
  rw [hc.out, decide_eq_false (by decide)]
  rintro e w' ⟨rfl, rfl⟩
  go_wp2_with fail
  go_loop [5] (fun i => ∃ k : Nat, at0 ≤ k ∧ k ≤ s.size ∧ i = .int .i64 k ∧ Hid (k + runLen nameB (s.data.toList.drop k) = at0 + runLen nameB (s.data.toList.drop at0))) (fun i => s.size - (intOf i).toNat)
  case atStart => exact ⟨at0, Nat.le_refl _, by omega, rfl, rfl⟩
  case round =>
    obtain ⟨k, hk0, hk, rfl, hr⟩ := hrel
    by_cases hlt : k < s.size
    · have hb2 := byte_lt s[k]
      by_cases h4 : cls s[k].toNat = 4
      · have hq := Lib.hid (runLen_yes nameB s.data.toList k (by simpa using hlt) (by show nameB (cls s[k].toNat) = true; rw [h4]; rfl))
        have H4 := Lib.hid h4
        clear h4
        go_wp2_with fail
        refine (Letter_any _ _ hb2).mono ?_
        rw [H4.out, decide_eq_true rfl]
        rintro e w' ⟨rfl, rfl⟩
        go_wp2_with fail
        refine (Digit_any _ _ hb2).mono ?_
        rw [H4.out, decide_eq_false (by decide)]
        rintro e w' ⟨rfl, rfl⟩
        go_wp2
        go_round
        case rel => exact ⟨k + 1, by omega, by omega, by go_num, by have h1 := hr.out; have h2 := hq.out; show _ = _; omega⟩
        case measure => simp [intOf]; omega
      by_cases h5 : cls s[k].toNat = 5
      · have hq := Lib.hid (runLen_yes nameB s.data.toList k (by simpa using hlt) (by show nameB (cls s[k].toNat) = true; rw [h5]; rfl))
        have H5 := Lib.hid h5
        clear h4 h5
        go_wp2_with fail
        refine (Letter_any _ _ hb2).mono ?_
        rw [H5.out, decide_eq_false (by decide)]
        rintro e w' ⟨rfl, rfl⟩
        go_wp2_with fail
        refine (Digit_any _ _ hb2).mono ?_
        rw [H5.out, decide_eq_true rfl]
        rintro e w' ⟨rfl, rfl⟩
        go_wp2
        go_round
        case rel => exact ⟨k + 1, by omega, by omega, by go_num, by have h1 := hr.out; have h2 := hq.out; show _ = _; omega⟩
        case measure => simp [intOf]; omega
      have H4 := Lib.hid h4
      have H5 := Lib.hid h5
      have h95 : cls s[k].toNat = 6 ↔ s[k].toNat = 95 := (by decide +kernel : ∀ n, n < 256 → (cls n = 6 ↔ n = 95)) _ hb2
      by_cases h6 : cls s[k].toNat = 6
      · have hq := Lib.hid (runLen_yes nameB s.data.toList k (by simpa using hlt) (by show nameB (cls s[k].toNat) = true; rw [h6]; rfl))
        have e6 : ((s[k].toNat : Int) != 95) = false := by rw [h95.1 h6]; rfl
        clear h4 h5 h6 h95
        go_wp2_with fail
        refine (Letter_any _ _ hb2).mono ?_
        rw [decide_eq_false H4.out]
        rintro e w' ⟨rfl, rfl⟩
        go_wp2_with fail
        refine (Digit_any _ _ hb2).mono ?_
        rw [decide_eq_false H5.out]
        rintro e w' ⟨rfl, rfl⟩
        go_wp2
        go_round
        case rel => exact ⟨k + 1, by omega, by omega, by go_num, by have h1 := hr.out; have h2 := hq.out; show _ = _; omega⟩
        case measure => simp [intOf]; omega
      · have hq := Lib.hid (runLen_no nameB s.data.toList k (by simpa using hlt) (by show nameB (cls s[k].toNat) = false; simp [nameB, h4, h5, h6]))
        have e6 : ((s[k].toNat : Int) != 95) = true := by rw [bne_iff_ne]; intro hh; exact h6 (h95.2 (by omega))
        clear h4 h5 h6 h95
        go_wp2_with fail
        refine (Letter_any _ _ hb2).mono ?_
        rw [decide_eq_false H4.out]
        rintro e w' ⟨rfl, rfl⟩
        go_wp2_with fail
        refine (Digit_any _ _ hb2).mono ?_
        rw [decide_eq_false H5.out]
        rintro e w' ⟨rfl, rfl⟩
        go_wp2
        go_ret
        exact ⟨ret_int (by have h1 := hr.out; have h2 := hq.out; omega), rfl⟩
    · have hq := Lib.hid (runLen_end nameB s.data.toList k (by simp; omega))
      go_wp2
      go_ret
      exact ⟨ret_int (by have h1 := hr.out; have h2 := hq.out; omega), rfl⟩

set_option maxHeartbeats 800000 in
set_option maxRecDepth 100000 in
theorem End_digit (s : ByteArray) (at0 : Nat) (w : World) (hat : at0 < s.size) (hs : s.size ≤ 100000) (hc : Hid (cls (s[at0]'hat).toNat = 5)) :
    Calls Tryd.prog 17 #[.string s, .int .i64 at0] w fun e w' => e = .returned (.int .i64 ((at0 + runLen (fun n => (n : Int) == 5) (s.data.toList.drop at0) : Nat) : Int)) ∧ w = w' := by
  have hb := byte_lt (s[at0]'hat)
  go_enter Tryd.func17, Tryd.ntmps17
  go_wp2_with fail
  refine (Letter_any _ _ hb).mono ?_
  rw [hc.out, decide_eq_false (by decide)]
  rintro e w' ⟨rfl, rfl⟩
  go_wp2_with fail
  refine (Digit_any _ _ hb).mono ?_
  rw [hc.out, decide_eq_true rfl]
  rintro e w' ⟨rfl, rfl⟩
  go_wp2_with fail
  go_loop [5] (fun i => ∃ k : Nat, at0 ≤ k ∧ k ≤ s.size ∧ i = .int .i64 k ∧ Hid (k + runLen (fun n => (n : Int) == 5) (s.data.toList.drop k) = at0 + runLen (fun n => (n : Int) == 5) (s.data.toList.drop at0))) (fun i => s.size - (intOf i).toNat)
  case atStart => exact ⟨at0, Nat.le_refl _, by omega, rfl, rfl⟩
  case round =>
    obtain ⟨k, hk0, hk, rfl, hr⟩ := hrel
    by_cases hlt : k < s.size
    · have hb2 := byte_lt s[k]
      by_cases h5 : cls s[k].toNat = 5
      · have hq := Lib.hid (runLen_yes (fun n => (n : Int) == 5) s.data.toList k (by simpa using hlt) (by show ((cls s[k].toNat : Int) == 5) = true; rw [h5]; rfl))
        have H5 := Lib.hid h5
        clear h5
        go_wp2_with fail
        refine (Letter_any _ _ hb2).mono ?_
        rw [H5.out, decide_eq_false (by decide)]
        rintro e w' ⟨rfl, rfl⟩
        go_wp2_with fail
        refine (Digit_any _ _ hb2).mono ?_
        rw [H5.out, decide_eq_true rfl]
        rintro e w' ⟨rfl, rfl⟩
        go_wp2
        go_round
        case rel => exact ⟨k + 1, by omega, by omega, by go_num, by have h1 := hr.out; have h2 := hq.out; show _ = _; omega⟩
        case measure => simp [intOf]; omega
      · have hq := Lib.hid (runLen_no (fun n => (n : Int) == 5) s.data.toList k (by simpa using hlt) (by show ((cls s[k].toNat : Int) == 5) = false; simp; omega))
        have H5 := Lib.hid h5
        clear h5
        cases h4 : decide (cls s[k].toNat = 4)
        all_goals
          have H4 := Lib.hid h4
          clear h4
          go_wp2_with fail
          refine (Letter_any _ _ hb2).mono ?_
          rw [H4.out]
          rintro e w' ⟨rfl, rfl⟩
          go_wp2_with fail
          refine (Digit_any _ _ hb2).mono ?_
          rw [decide_eq_false H5.out]
          rintro e w' ⟨rfl, rfl⟩
          go_wp2
          go_ret
          exact ⟨ret_int (by have h1 := hr.out; have h2 := hq.out; omega), rfl⟩
    · have hq := Lib.hid (runLen_end (fun n => (n : Int) == 5) s.data.toList k (by simp; omega))
      go_wp2
      go_ret
      exact ⟨ret_int (by have h1 := hr.out; have h2 := hq.out; omega), rfl⟩
end Go.Proofs.YtkoojiblkapmbaaDoor
