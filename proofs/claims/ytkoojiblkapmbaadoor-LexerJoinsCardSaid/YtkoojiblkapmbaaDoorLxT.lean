/- The contract of the reference's End at a byte that begins neither a name nor a number; no conditions but sizes. -/
import Derived.Test.YtkoojiblkapmbaaDoorLxS
import Derived.IntWalk
namespace Go.Proofs.YtkoojiblkapmbaaDoor
open Go.RowKit
set_option linter.unusedVariables false
set_option linter.unusedSimpArgs false

/-- the k-th punctuation stands at an offset -/
def pAt (s : ByteArray) (at0 k : Nat) : Prop := at0 + (punct k).size ≤ s.size ∧ (s.extract at0 (at0 + (punct k).size)).toList = (punct k).toList
theorem punct_size (k : Nat) (hk : k < 17) : 1 ≤ (punct k).size ∧ (punct k).size ≤ 2 := by
  have : ∀ k, k < 17 → 1 ≤ (punct k).size ∧ (punct k).size ≤ 2 := by decide +kernel
  exact this k hk
def EndPost (s : ByteArray) (at0 : Nat) (w : World) (e : Ending) (w' : World) : Prop :=
  ((∃ k, k < 17 ∧ pAt s at0 k ∧ (∀ j, j < k → ¬ pAt s at0 j) ∧ e = .returned (.int .i64 ((at0 + (punct k).size : Nat) : Int))) ∨ ((∀ j, j < 17 → ¬ pAt s at0 j) ∧ e = .returned (.int .i64 (at0 : Int)))) ∧ Below w.heap.size w w'
theorem endpost_yes {s : ByteArray} {at0 k : Nat} {w w' : World} (hk : k < 17) (h1 : pAt s at0 k) (h2 : ∀ j, j < k → ¬ pAt s at0 j) (hb : Below w.heap.size w w') : EndPost s at0 w (.returned (.int .i64 ((at0 + (punct k).size : Nat) : Int))) w' := ⟨Or.inl ⟨k, hk, h1, h2, rfl⟩, hb⟩
theorem endpost_no {s : ByteArray} {at0 : Nat} {w w' : World} (h : ∀ j, j < 17 → ¬ pAt s at0 j) (hb : Below w.heap.size w w') : EndPost s at0 w (.returned (.int .i64 (at0 : Int))) w' := ⟨Or.inr ⟨h, rfl⟩, hb⟩
theorem below_drewN' {B : Nat} {a w : World} (h : Below B a w) (n : Nat) : Below B a (w.drewN n) := ⟨h.os, h.tape, h.output, h.size, h.block⟩

set_option maxHeartbeats 800000 in
set_option maxRecDepth 100000 in
theorem End_punct (s : ByteArray) (at0 : Nat) (w : World) (hat : at0 < s.size) (hs : s.size ≤ 100000) (h4 : Hid (¬ cls (s[at0]'hat).toNat = 4)) (h5 : Hid (¬ cls (s[at0]'hat).toNat = 5)) :
    Calls Tryd.prog 17 #[.string s, .int .i64 at0] w (EndPost s at0 w) := by
  have hb := byte_lt (s[at0]'hat)
  go_enter Tryd.func17, Tryd.ntmps17
  go_wp2_with fail
  refine (Letter_any _ _ hb).mono ?_
  rw [decide_eq_false h4.out]
  rintro e w' ⟨rfl, rfl⟩
  go_wp2_with fail
  refine (Digit_any _ _ hb).mono ?_
  rw [decide_eq_false h5.out]
  rintro e w' ⟨rfl, rfl⟩
  go_wp2_with fail
  refine (Punct_any _).mono ?_
  rintro e w1 ⟨rfl, hb1, hz, hc⟩
  have HC := Lib.hid hc
  clear hc
  go_wp2
  go_loopw [11] (fun i wr => ∃ k : Nat, k ≤ 17 ∧ i = .int .i64 k ∧ Hid (∀ j, j < k → ¬ pAt s at0 j) ∧ Hid (∃ n, wr = w1.drewN n)) (fun i _ => 17 - (intOf i).toNat)
  case atStart => exact ⟨0, Nat.zero_le _, rfl, (fun j hj => absurd hj (by omega)), 0, rfl⟩
  case round =>
    obtain ⟨k, hk, rfl, hno, hw⟩ := hrel
    obtain ⟨nn, rfl⟩ := hw.out
    by_cases hlt : k < 17
    · have hcell := HC.out k hlt
      obtain ⟨hs1, hs2⟩ := punct_size k hlt
      by_cases hfit : at0 + (punct k).size ≤ s.size
      · by_cases heq : (s.extract at0 (at0 + (punct k).size)).toList = (punct k).toList
        · have H := Lib.hid (fun nm => endpost_yes (w := w) (w' := w1.drewN nm) hlt ⟨hfit, heq⟩ hno.out (below_drewN' hb1 nm))
          have hq : ((s.extract at0 (at0 + (punct k).size)).toList == (punct k).toList) = true := by rw [beq_iff_eq]; exact heq
          have hsn := slice_ok s at0 (punct k).size hfit
          clear heq
          generalize punct k = x at *
          go_wp2
          have hw1 : IntKind.i64.wrap ((at0 : Int) + (x.size : Int)) = (at0 : Int) + (x.size : Int) := IntWalk.i64_in _ (by omega)
          have hd1 : decide ((at0 : Int) + (x.size : Int) ≤ (s.size : Int)) = true := by simp; omega
          go_quiet (fail)
          clear hw1 hd1
          go_wp2
          go_ret
          exact H.out _
        · have hno2 := Lib.hid (show ∀ j, j < k + 1 → ¬ pAt s at0 j from fun j hj => by
            rcases Nat.lt_succ_iff_lt_or_eq.1 hj with h | rfl
            · exact hno.out j h
            · exact fun hh => heq hh.2)
          have hq : ((s.extract at0 (at0 + (punct k).size)).toList == (punct k).toList) = false := by rw [beq_eq_false_iff_ne]; exact heq
          have hsn := slice_ok s at0 (punct k).size hfit
          clear heq
          generalize punct k = x at *
          go_wp2
          have hw1 : IntKind.i64.wrap ((at0 : Int) + (x.size : Int)) = (at0 : Int) + (x.size : Int) := IntWalk.i64_in _ (by omega)
          have hd1 : decide ((at0 : Int) + (x.size : Int) ≤ (s.size : Int)) = true := by simp; omega
          go_quiet (fail)
          clear hw1 hd1
          go_wp2
          go_roundw
          case rel => exact ⟨k + 1, by omega, by go_num, hno2, _, rfl⟩
          case measure => simp [intOf]; omega
      · have hno2 := Lib.hid (show ∀ j, j < k + 1 → ¬ pAt s at0 j from fun j hj => by
          rcases Nat.lt_succ_iff_lt_or_eq.1 hj with h | rfl
          · exact hno.out j h
          · exact fun hh => hfit hh.1)
        generalize punct k = x at *
        go_wp2
        have hw1 : IntKind.i64.wrap ((at0 : Int) + (x.size : Int)) = (at0 : Int) + (x.size : Int) := IntWalk.i64_in _ (by omega)
        have hd1 : decide ((at0 : Int) + (x.size : Int) ≤ (s.size : Int)) = false := by simp; omega
        go_quiet (fail)
        clear hw1 hd1
        go_wp2
        go_roundw
        case rel => exact ⟨k + 1, by omega, by go_num, hno2, _, rfl⟩
        case measure => simp [intOf]; omega
    · have H := Lib.hid (endpost_no (w := w) (s := s) (at0 := at0) (w' := w1.drewN nn) (fun j hj => hno.out j (by omega)) (below_drewN' hb1 nn))
      go_wp2
      go_ret
      exact H.out

theorem slice_head1 (s : ByteArray) (at0 : Nat) (hat : at0 < s.size) : (s.extract at0 (at0 + 1)).toList = [s[at0]'hat] := by
  rw [Lib.toList_data, sub_bytes, head_of s at0 hat]; rfl
theorem slice_head2 (s : ByteArray) (at0 : Nat) (hat : at0 + 1 < s.size) : (s.extract at0 (at0 + 2)).toList = [s[at0]'(by omega), s[at0 + 1]'hat] := by
  rw [Lib.toList_data, sub_bytes, head_of s at0 (by omega), head_of s (at0 + 1) hat]; rfl
/-- what stands at the offset, for one and for two bytes -/
theorem pAt_one (s : ByteArray) (at0 k : Nat) (b : UInt8) (hat : at0 < s.size) (h : (punct k).size = 1) (hb : (punct k).toList = [b]) : pAt s at0 k ↔ s[at0]'hat = b := by
  unfold pAt
  rw [h, hb, slice_head1 s at0 hat]
  constructor
  · intro ⟨_, h2⟩; simpa using h2
  · intro h2; exact ⟨by omega, by rw [h2]⟩
theorem pAt_two (s : ByteArray) (at0 k : Nat) (b : UInt8) (hat : at0 < s.size) (h : (punct k).size = 2) (hb : (punct k).toList = [b, 61]) : pAt s at0 k ↔ s[at0]'hat = b ∧ (s.data.toList.drop (at0 + 1)).head? = some 61 := by
  unfold pAt
  rw [h, hb]
  constructor
  · intro ⟨h1, h2⟩
    rw [slice_head2 s at0 (by omega)] at h2
    rw [head2_of s (at0 + 1) (by omega)]
    simp at h2
    exact ⟨h2.1, by rw [h2.2]⟩
  · intro ⟨h1, h2⟩
    by_cases h3 : at0 + 1 < s.size
    · rw [head2_of s (at0 + 1) h3] at h2
      refine ⟨by omega, ?_⟩
      rw [slice_head2 s at0 h3, h1, Option.some.inj h2]
    · rw [List.drop_eq_nil_of_le (by simp; omega)] at h2
      simp at h2
end Go.Proofs.YtkoojiblkapmbaaDoor
