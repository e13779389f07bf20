/- Texts of one proof: LxT, LxU. -/
import Derived.Test.YtdaghppcomckbaaGreatDoorLmC
import Derived.IntWalk
/- The contract of the reference's End at a byte that begins neither a name nor a number; no conditions but sizes. -/
namespace Go.Proofs.YtdaghppcomckbaaGreatDoor
open Go.RowKit
set_option linter.unusedVariables false
set_option linter.unusedSimpArgs false

/-- the k-th punctuation stands at an offset -/
def pAt (s : ByteArray) (at0 k : Nat) : Prop := at0 + (punct k).size ≤ s.size ∧ (s.extract at0 (at0 + (punct k).size)).toList = (punct k).toList
theorem punct_size (k : Nat) (hk : k < 17) : 1 ≤ (punct k).size ∧ (punct k).size ≤ 2 := by
  have : ∀ k, k < 17 → 1 ≤ (punct k).size ∧ (punct k).size ≤ 2 := by decide +kernel
  exact this k hk
def EndPost (s : ByteArray) (at0 : Nat) (w : World) (e : Ending) (w' : World) : Prop :=
  ((∃ k, k < 17 ∧ pAt s at0 k ∧ (∀ j, j < k → ¬ pAt s at0 j) ∧ e = .returned (.int .i64 ((at0 + (punct k).size : Nat) : Int))) ∨ ((∀ j, j < 17 → ¬ pAt s at0 j) ∧ e = .returned (.int .i64 (at0 : Int)))) ∧ Below w.heap.size w w'
theorem endpost_yes {s : ByteArray} {at0 k : Nat} {w w' : World} (hk : k < 17) (h1 : pAt s at0 k) (h2 : ∀ j, j < k → ¬ pAt s at0 j) (hb : Below w.heap.size w w') : EndPost s at0 w (.returned (.int .i64 ((at0 + (punct k).size : Nat) : Int))) w' := ⟨Or.inl ⟨k, hk, h1, h2, rfl⟩, hb⟩
theorem endpost_no {s : ByteArray} {at0 : Nat} {w w' : World} (h : ∀ j, j < 17 → ¬ pAt s at0 j) (hb : Below w.heap.size w w') : EndPost s at0 w (.returned (.int .i64 (at0 : Int))) w' := ⟨Or.inr ⟨h, rfl⟩, hb⟩
theorem below_drewN' {B : Nat} {a w : World} (h : Below B a w) (n : Nat) : Below B a (w.drewN n) := ⟨h.os, h.tape, h.output, h.size, h.block⟩

set_option maxHeartbeats 800000 in
set_option maxRecDepth 100000 in
theorem End_punct (s : ByteArray) (at0 : Nat) (w : World) (hat : at0 < s.size) (hs : s.size ≤ 100000) (h4 : Hid (¬ cls (s[at0]'hat).toNat = 4)) (h5 : Hid (¬ cls (s[at0]'hat).toNat = 5)) :
    Calls Tryz.prog 24 #[.string s, .int .i64 at0] w (EndPost s at0 w) := by
  have hb := byte_lt (s[at0]'hat)
  go_enter Tryz.func24, Tryz.ntmps24
  go_wp2_with fail
  refine (Letter_any _ _ hb).mono ?_
  rw [decide_eq_false h4.out]
  rintro e w' ⟨rfl, rfl⟩
  go_wp2_with fail
  refine (Digit_any _ _ hb).mono ?_
  rw [decide_eq_false h5.out]
  rintro e w' ⟨rfl, rfl⟩
  go_wp2_with fail
  refine (Punct_any _).mono ?_
  rintro e w1 ⟨rfl, hb1, hz, hc⟩
  have HC := Lib.hid hc
  clear hc
  go_wp2
  go_loopw [11] (fun i wr => ∃ k : Nat, k ≤ 17 ∧ i = .int .i64 k ∧ Hid (∀ j, j < k → ¬ pAt s at0 j) ∧ Hid (∃ n, wr = w1.drewN n)) (fun i _ => 17 - (intOf i).toNat)
  case atStart => exact ⟨0, Nat.zero_le _, rfl, (fun j hj => absurd hj (by omega)), 0, rfl⟩
  case round =>
    obtain ⟨k, hk, rfl, hno, hw⟩ := hrel
    obtain ⟨nn, rfl⟩ := hw.out
    by_cases hlt : k < 17
    · have hcell := HC.out k hlt
      obtain ⟨hs1, hs2⟩ := punct_size k hlt
      by_cases hfit : at0 + (punct k).size ≤ s.size
      · by_cases heq : (s.extract at0 (at0 + (punct k).size)).toList = (punct k).toList
        · have H := Lib.hid (fun nm => endpost_yes (w := w) (w' := w1.drewN nm) hlt ⟨hfit, heq⟩ hno.out (below_drewN' hb1 nm))
          have hq : ((s.extract at0 (at0 + (punct k).size)).toList == (punct k).toList) = true := by rw [beq_iff_eq]; exact heq
          have hsn := slice_ok s at0 (punct k).size hfit
          clear heq
          generalize punct k = x at *
          go_wp2
          have hw1 : IntKind.i64.wrap ((at0 : Int) + (x.size : Int)) = (at0 : Int) + (x.size : Int) := IntWalk.i64_in _ (by omega)
          have hd1 : decide ((at0 : Int) + (x.size : Int) ≤ (s.size : Int)) = true := by simp; omega
          go_quiet (fail)
          clear hw1 hd1
          go_wp2
          go_ret
          exact H.out _
        · have hno2 := Lib.hid (show ∀ j, j < k + 1 → ¬ pAt s at0 j from fun j hj => by
            rcases Nat.lt_succ_iff_lt_or_eq.1 hj with h | rfl
            · exact hno.out j h
            · exact fun hh => heq hh.2)
          have hq : ((s.extract at0 (at0 + (punct k).size)).toList == (punct k).toList) = false := by rw [beq_eq_false_iff_ne]; exact heq
          have hsn := slice_ok s at0 (punct k).size hfit
          clear heq
          generalize punct k = x at *
          go_wp2
          have hw1 : IntKind.i64.wrap ((at0 : Int) + (x.size : Int)) = (at0 : Int) + (x.size : Int) := IntWalk.i64_in _ (by omega)
          have hd1 : decide ((at0 : Int) + (x.size : Int) ≤ (s.size : Int)) = true := by simp; omega
          go_quiet (fail)
          clear hw1 hd1
          go_wp2
          go_roundw
          case rel => exact ⟨k + 1, by omega, by go_num, hno2, _, rfl⟩
          case measure => simp [intOf]; omega
      · have hno2 := Lib.hid (show ∀ j, j < k + 1 → ¬ pAt s at0 j from fun j hj => by
          rcases Nat.lt_succ_iff_lt_or_eq.1 hj with h | rfl
          · exact hno.out j h
          · exact fun hh => hfit hh.1)
        generalize punct k = x at *
        go_wp2
        have hw1 : IntKind.i64.wrap ((at0 : Int) + (x.size : Int)) = (at0 : Int) + (x.size : Int) := IntWalk.i64_in _ (by omega)
        have hd1 : decide ((at0 : Int) + (x.size : Int) ≤ (s.size : Int)) = false := by simp; omega
        go_quiet (fail)
        clear hw1 hd1
        go_wp2
        go_roundw
        case rel => exact ⟨k + 1, by omega, by go_num, hno2, _, rfl⟩
        case measure => simp [intOf]; omega
    · have H := Lib.hid (endpost_no (w := w) (s := s) (at0 := at0) (w' := w1.drewN nn) (fun j hj => hno.out j (by omega)) (below_drewN' hb1 nn))
      go_wp2
      go_ret
      exact H.out

theorem slice_head1 (s : ByteArray) (at0 : Nat) (hat : at0 < s.size) : (s.extract at0 (at0 + 1)).toList = [s[at0]'hat] := by
  rw [Lib.toList_data, sub_bytes, head_of s at0 hat]; rfl
theorem slice_head2 (s : ByteArray) (at0 : Nat) (hat : at0 + 1 < s.size) : (s.extract at0 (at0 + 2)).toList = [s[at0]'(by omega), s[at0 + 1]'hat] := by
  rw [Lib.toList_data, sub_bytes, head_of s at0 (by omega), head_of s (at0 + 1) hat]; rfl
/-- what stands at the offset, for one and for two bytes -/
theorem pAt_one (s : ByteArray) (at0 k : Nat) (b : UInt8) (hat : at0 < s.size) (h : (punct k).size = 1) (hb : (punct k).toList = [b]) : pAt s at0 k ↔ s[at0]'hat = b := by
  unfold pAt
  rw [h, hb, slice_head1 s at0 hat]
  constructor
  · intro ⟨_, h2⟩; simpa using h2
  · intro h2; exact ⟨by omega, by rw [h2]⟩
theorem pAt_two (s : ByteArray) (at0 k : Nat) (b : UInt8) (hat : at0 < s.size) (h : (punct k).size = 2) (hb : (punct k).toList = [b, 61]) : pAt s at0 k ↔ s[at0]'hat = b ∧ (s.data.toList.drop (at0 + 1)).head? = some 61 := by
  unfold pAt
  rw [h, hb]
  constructor
  · intro ⟨h1, h2⟩
    rw [slice_head2 s at0 (by omega)] at h2
    rw [head2_of s (at0 + 1) (by omega)]
    simp at h2
    exact ⟨h2.1, by rw [h2.2]⟩
  · intro ⟨h1, h2⟩
    by_cases h3 : at0 + 1 < s.size
    · rw [head2_of s (at0 + 1) h3] at h2
      refine ⟨by omega, ?_⟩
      rw [slice_head2 s at0 h3, h1, Option.some.inj h2]
    · rw [List.drop_eq_nil_of_le (by simp; omega)] at h2
      simp at h2
end Go.Proofs.YtdaghppcomckbaaGreatDoor

/- The reference's End in one piece, and its Token; no conditions but sizes. -/
namespace Go.Proofs.YtdaghppcomckbaaGreatDoor
open Go.RowKit
set_option linter.unusedVariables false
set_option linter.unusedSimpArgs false

theorem cls_7 (b : UInt8) : cls b.toNat = 7 ↔ b = 59 ∨ b = 123 ∨ b = 125 ∨ b = 40 ∨ b = 41 ∨ b = 44 ∨ b = 43 ∨ b = 45 ∨ b = 42 ∨ b = 47 := by
  have h : ∀ n, n < 256 → (cls n = 7 ↔ n = 59 ∨ n = 123 ∨ n = 125 ∨ n = 40 ∨ n = 41 ∨ n = 44 ∨ n = 43 ∨ n = 45 ∨ n = 42 ∨ n = 47) := by decide +kernel
  rw [h _ b.toNat_lt]; simp only [← UInt8.toNat_inj]; rfl
theorem cls_8 (b : UInt8) : cls b.toNat = 8 ↔ b = 60 ∨ b = 62 ∨ b = 61 := by
  have h : ∀ n, n < 256 → (cls n = 8 ↔ n = 60 ∨ n = 62 ∨ n = 61) := by decide +kernel
  rw [h _ b.toNat_lt]; simp only [← UInt8.toNat_inj]; rfl
theorem cls_9 (b : UInt8) : cls b.toNat = 9 ↔ b = 33 := by
  have h : ∀ n, n < 256 → (cls n = 9 ↔ n = 33) := by decide +kernel
  rw [h _ b.toNat_lt]; simp only [← UInt8.toNat_inj]; rfl

def pByte : List UInt8 := [60, 62, 61, 33, 59, 123, 125, 40, 41, 44, 43, 45, 42, 47, 61, 60, 62]
theorem pAt_iff (s : ByteArray) (at0 : Nat) (hat : at0 < s.size) (k : Nat) (hk : k < 17) : pAt s at0 k ↔ s[at0]'hat = pByte.getD k 0 ∧ (k < 4 → (s.data.toList.drop (at0 + 1)).head? = some 61) := by
  by_cases h4 : k < 4
  · have hsz : (punct k).size = 2 ∧ (punct k).toList = [pByte.getD k 0, 61] := by
      have : ∀ k, k < 4 → (punct k).size = 2 ∧ (punct k).toList = [pByte.getD k 0, 61] := by decide +kernel
      exact this k h4
    rw [pAt_two s at0 k _ hat hsz.1 hsz.2]
    simp [h4]
  · have hsz : (punct k).size = 1 ∧ (punct k).toList = [pByte.getD k 0] := by
      have : ∀ k, k < 17 → ¬ k < 4 → (punct k).size = 1 ∧ (punct k).toList = [pByte.getD k 0] := by decide +kernel
      exact this k hk h4
    rw [pAt_one s at0 k _ hat hsz.1 hsz.2]
    simp [h4]

theorem punct_len (s : ByteArray) (at0 k : Nat) (hat : at0 < s.size) (hk : k < 17) (h1 : pAt s at0 k) (h2 : ∀ j, j < k → ¬ pAt s at0 j) (h4 : ¬ cls (s[at0]'hat).toNat = 4) (h5 : ¬ cls (s[at0]'hat).toNat = 5) :
    tokLen (s.data.toList.drop at0) = (punct k).size := by
  have h1' := (pAt_iff s at0 hat k hk).1 h1
  have hb := h1'.1
  by_cases hk4 : k < 4
  · have hn := h1'.2 hk4
    have hsz : (punct k).size = 2 := by
      have : ∀ k, k < 4 → (punct k).size = 2 := by decide +kernel
      exact this k hk4
    have hc : cls (s[at0]'hat).toNat = 8 ∨ cls (s[at0]'hat).toNat = 9 := by
      rw [hb]
      have : ∀ k, k < 4 → (cls (pByte.getD k 0).toNat = 8 ∨ cls (pByte.getD k 0).toNat = 9) := by decide +kernel
      exact this k hk4
    rw [hsz, head_of s at0 hat]
    simp only [tokLen]
    rw [if_neg h4, if_neg h5]
    rcases hc with hc | hc
    · rw [if_neg (by omega), if_pos hc, if_pos hn]
    · rw [if_neg (by omega), if_neg (by omega), if_pos hc, if_pos hn]
  · have hsz : (punct k).size = 1 := by
      have : ∀ k, k < 17 → ¬ k < 4 → (punct k).size = 1 := by decide +kernel
      exact this k hk hk4
    rw [hsz, head_of s at0 hat]
    simp only [tokLen]
    rw [if_neg h4, if_neg h5]
    by_cases hk14 : k < 14
    · have hc : cls (s[at0]'hat).toNat = 7 := by
        rw [hb]
        have : ∀ k, k < 14 → ¬ k < 4 → cls (pByte.getD k 0).toNat = 7 := by decide +kernel
        exact this k hk14 hk4
      rw [if_pos hc]
    · have hc : cls (s[at0]'hat).toNat = 8 := by
        rw [hb]
        have : ∀ k, k < 17 → ¬ k < 14 → cls (pByte.getD k 0).toNat = 8 := by decide +kernel
        exact this k hk hk14
      have hno : ¬ (s.data.toList.drop (at0 + 1)).head? = some 61 := by
        intro hn
        have : ∀ k, k < 17 → ¬ k < 14 → ∃ j, j < 4 ∧ pByte.getD j 0 = pByte.getD k 0 := by
          intro k hk hk2
          have hh : k = 14 ∨ k = 15 ∨ k = 16 := by omega
          rcases hh with rfl | rfl | rfl
          · exact ⟨2, by decide, rfl⟩
          · exact ⟨0, by decide, rfl⟩
          · exact ⟨1, by decide, rfl⟩
        obtain ⟨j, hj, hjb⟩ := this k hk hk14
        exact h2 j (by omega) ((pAt_iff s at0 hat j (by omega)).2 ⟨by rw [hb, hjb], fun _ => hn⟩)
      rw [if_neg (by omega), if_pos hc, if_neg hno]
theorem punct_none (s : ByteArray) (at0 : Nat) (hat : at0 < s.size) (h : ∀ j, j < 17 → ¬ pAt s at0 j) (h4 : ¬ cls (s[at0]'hat).toNat = 4) (h5 : ¬ cls (s[at0]'hat).toNat = 5) :
    tokLen (s.data.toList.drop at0) = 0 := by
  have hone : ∀ j, j < 17 → ¬ j < 4 → s[at0]'hat ≠ pByte.getD j 0 := fun j hj h4 he => h j hj ((pAt_iff s at0 hat j hj).2 ⟨he, fun hh => absurd hh h4⟩)
  have h7 : ¬ cls (s[at0]'hat).toNat = 7 := by
    rw [cls_7]
    rintro (e | e | e | e | e | e | e | e | e | e)
    · exact hone 4 (by decide) (by decide) e
    · exact hone 5 (by decide) (by decide) e
    · exact hone 6 (by decide) (by decide) e
    · exact hone 7 (by decide) (by decide) e
    · exact hone 8 (by decide) (by decide) e
    · exact hone 9 (by decide) (by decide) e
    · exact hone 10 (by decide) (by decide) e
    · exact hone 11 (by decide) (by decide) e
    · exact hone 12 (by decide) (by decide) e
    · exact hone 13 (by decide) (by decide) e
  have h8 : ¬ cls (s[at0]'hat).toNat = 8 := by
    rw [cls_8]
    rintro (e | e | e)
    · exact hone 15 (by decide) (by decide) e
    · exact hone 16 (by decide) (by decide) e
    · exact hone 14 (by decide) (by decide) e
  rw [head_of s at0 hat]
  simp only [tokLen]
  rw [if_neg h4, if_neg h5, if_neg h7, if_neg h8]
  by_cases h9 : cls (s[at0]'hat).toNat = 9
  · have hn : ¬ (s.data.toList.drop (at0 + 1)).head? = some 61 := fun hn => h 3 (by decide) ((pAt_iff s at0 hat 3 (by decide)).2 ⟨(cls_9 _).1 h9, fun _ => hn⟩)
    rw [if_pos h9, if_neg hn]
  · rw [if_neg h9]

theorem End_any (s : ByteArray) (at0 : Nat) (w : World) (hat : at0 < s.size) (hs : s.size ≤ 100000) :
    Calls Tryz.prog 24 #[.string s, .int .i64 at0] w fun e w' => e = .returned (.int .i64 ((at0 + tokLen (s.data.toList.drop at0) : Nat) : Int)) ∧ Below w.heap.size w w' := by
  by_cases h4 : cls (s[at0]'hat).toNat = 4
  · refine (End_name s at0 w hat hs h4).mono ?_
    rintro e w' ⟨rfl, rfl⟩
    rw [show tokLen (s.data.toList.drop at0) = runLen nameB (s.data.toList.drop at0) by rw [head_of s at0 hat]; simp only [tokLen]; rw [if_pos h4]]
    exact ⟨rfl, Below.refl _ _⟩
  by_cases h5 : cls (s[at0]'hat).toNat = 5
  · refine (End_digit s at0 w hat hs h5).mono ?_
    rintro e w' ⟨rfl, rfl⟩
    rw [show tokLen (s.data.toList.drop at0) = runLen (fun n => (n : Int) == 5) (s.data.toList.drop at0) by rw [head_of s at0 hat]; simp only [tokLen]; rw [if_neg h4, if_pos h5]]
    exact ⟨rfl, Below.refl _ _⟩
  refine (End_punct s at0 w hat hs h4 h5).mono ?_
  rintro e w' ⟨h, hb⟩
  rcases h with ⟨k, hk, h1, h2, rfl⟩ | ⟨h, rfl⟩
  · rw [punct_len s at0 k hat hk h1 h2 h4 h5]; exact ⟨rfl, hb⟩
  · rw [punct_none s at0 hat h h4 h5]; exact ⟨rfl, hb⟩
end Go.Proofs.YtdaghppcomckbaaGreatDoor
