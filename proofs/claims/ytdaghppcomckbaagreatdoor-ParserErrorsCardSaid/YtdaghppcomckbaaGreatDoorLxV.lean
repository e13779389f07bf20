/- Texts of one proof: LxV. -/
import Derived.Test.YtdaghppcomckbaaGreatDoorLmD
/- The contract of the reference's Token; no conditions but sizes. -/
namespace Go.Proofs.YtdaghppcomckbaaGreatDoor
open Go.RowKit
set_option linter.unusedVariables false
set_option linter.unusedSimpArgs false

theorem decVal_snoc (l : List UInt8) : ∀ (acc : Nat) (b : UInt8), decVal acc (l ++ [b]) = decStep (decVal acc l) b := by
  induction l with
  | nil => intro acc b; rfl
  | cons c r ih => intro acc b; rw [List.cons_append, decVal_cons, decVal_cons, ih]
theorem decVal_app (l r : List UInt8) (acc : Nat) : decVal acc l ≤ decVal acc (l ++ r) := by
  induction l generalizing acc with
  | nil => exact decVal_ge r acc
  | cons c l ih => rw [List.cons_append, decVal_cons, decVal_cons]; exact ih _
theorem take_snoc (l : List UInt8) (k : Nat) (h : k < l.length) : l.take (k + 1) = l.take k ++ [l[k]] := by
  rw [List.take_succ_eq_append_getElem h]
theorem ret_tup {a b : Value} (h : a = b) : Ending.returned a = .returned b := by rw [h]

set_option maxHeartbeats 400000 in
set_option maxRecDepth 100000 in
theorem Token_long (x : ByteArray) (w : World) (hx : 0 < x.size) (hs : x.size ≤ 100000) (hc : Hid (cls (x[0]'hx).toNat = 4)) (h : 12 < x.size) :
    Calls Tryz.prog 25 #[.string x] w fun e w' => e = .returned (.tuple #[.agg #[.int .i64 0, .string ⟨#[]⟩, .int .i64 0, .int .i64 0], .int .i64 3]) ∧ Below w.heap.size w w' := by
  have hb := byte_lt (x[0]'hx)
  go_enter Tryz.func25, Tryz.ntmps25
  go_wp2_with fail
  refine (Letter_any _ _ hb).mono ?_
  rw [hc.out, decide_eq_true rfl]
  rintro e w' ⟨rfl, rfl⟩
  go_wp2_with fail
  refine (Digit_any _ _ hb).mono ?_
  rw [hc.out, decide_eq_false (by decide)]
  rintro e w' ⟨rfl, rfl⟩
  go_wp2
  exact bodyPost_ret (v := (.tuple #[.agg #[.int .i64 0, .string ⟨#[]⟩, .int .i64 0, .int .i64 0], .int .i64 3])) (by simp [results, Tryz.results25, go_sem]) rfl ⟨rfl, ((Below.refl _ _).alloc (Nat.le_refl _) _)⟩
set_option maxHeartbeats 400000 in
set_option maxRecDepth 100000 in
theorem Token_name (x : ByteArray) (w : World) (hx : 0 < x.size) (hs : x.size ≤ 100000) (hc : Hid (cls (x[0]'hx).toNat = 4)) (h : x.size ≤ 12) :
    Calls Tryz.prog 25 #[.string x] w fun e w' => e = .returned (.tuple #[.agg #[.int .i64 1, .string x, .int .i64 0, .int .i64 0], .int .i64 0]) ∧ Below w.heap.size w w' := by
  have hb := byte_lt (x[0]'hx)
  go_enter Tryz.func25, Tryz.ntmps25
  go_wp2_with fail
  refine (Letter_any _ _ hb).mono ?_
  rw [hc.out, decide_eq_true rfl]
  rintro e w' ⟨rfl, rfl⟩
  go_wp2_with fail
  refine (Digit_any _ _ hb).mono ?_
  rw [hc.out, decide_eq_false (by decide)]
  rintro e w' ⟨rfl, rfl⟩
  go_wp2
  exact bodyPost_ret (v := (.tuple #[.agg #[.int .i64 1, .string x, .int .i64 0, .int .i64 0], .int .i64 0])) (by simp [results, Tryz.results25, go_sem]) rfl ⟨rfl, ((Below.refl _ _).alloc (Nat.le_refl _) _)⟩
set_option maxHeartbeats 400000 in
set_option maxRecDepth 100000 in
theorem Token_punct (x : ByteArray) (w : World) (hx : 0 < x.size) (hs : x.size ≤ 100000) (h4 : Hid (¬ cls (x[0]'hx).toNat = 4)) (h5 : Hid (¬ cls (x[0]'hx).toNat = 5)) :
    Calls Tryz.prog 25 #[.string x] w fun e w' => e = .returned (.tuple #[.agg #[.int .i64 3, .string x, .int .i64 0, .int .i64 0], .int .i64 0]) ∧ Below w.heap.size w w' := by
  have hb := byte_lt (x[0]'hx)
  go_enter Tryz.func25, Tryz.ntmps25
  go_wp2_with fail
  refine (Letter_any _ _ hb).mono ?_
  rw [decide_eq_false h4.out]
  rintro e w' ⟨rfl, rfl⟩
  go_wp2_with fail
  refine (Digit_any _ _ hb).mono ?_
  rw [decide_eq_false h5.out]
  rintro e w' ⟨rfl, rfl⟩
  go_wp2
  exact bodyPost_ret (v := (.tuple #[.agg #[.int .i64 3, .string x, .int .i64 0, .int .i64 0], .int .i64 0])) (by simp [results, Tryz.results25, go_sem]) rfl ⟨rfl, ((Below.refl _ _).alloc (Nat.le_refl _) _)⟩
set_option maxHeartbeats 400000 in
set_option maxRecDepth 100000 in
theorem Token_zero (x : ByteArray) (w : World) (hx : 0 < x.size) (hs : x.size ≤ 100000) (hc : Hid (cls (x[0]'hx).toNat = 5)) (h : 1 < x.size) (h48 : (((x[0]'hx).toNat : Int) == 48) = true) :
    Calls Tryz.prog 25 #[.string x] w fun e w' => e = .returned (.tuple #[.agg #[.int .i64 0, .string ⟨#[]⟩, .int .i64 0, .int .i64 0], .int .i64 7]) ∧ Below w.heap.size w w' := by
  have hb := byte_lt (x[0]'hx)
  go_enter Tryz.func25, Tryz.ntmps25
  go_wp2_with fail
  refine (Letter_any _ _ hb).mono ?_
  rw [hc.out, decide_eq_false (by decide)]
  rintro e w' ⟨rfl, rfl⟩
  go_wp2_with fail
  refine (Digit_any _ _ hb).mono ?_
  rw [hc.out, decide_eq_true rfl]
  rintro e w' ⟨rfl, rfl⟩
  go_wp2
  exact bodyPost_ret (v := (.tuple #[.agg #[.int .i64 0, .string ⟨#[]⟩, .int .i64 0, .int .i64 0], .int .i64 7])) (by simp [results, Tryz.results25, go_sem]) rfl ⟨rfl, ((Below.refl _ _).alloc (Nat.le_refl _) _)⟩
def NumPost (x : ByteArray) (w : World) (e : Ending) (w' : World) : Prop :=
  e = .returned (if 1000000000 < decVal 0 x.data.toList then (.tuple #[.agg #[.int .i64 0, .string ⟨#[]⟩, .int .i64 0, .int .i64 0], .int .i64 3]) else (.tuple #[.agg #[.int .i64 2, .string ⟨#[]⟩, .int .i64 (decVal 0 x.data.toList : Int), .int .i64 0], .int .i64 0])) ∧ Below w.heap.size w w'
theorem numpost_bad {x : ByteArray} {w w' : World} (h : 1000000000 < decVal 0 x.data.toList) (hb : Below w.heap.size w w') : NumPost x w (.returned (.tuple #[.agg #[.int .i64 0, .string ⟨#[]⟩, .int .i64 0, .int .i64 0], .int .i64 3])) w' := ⟨by rw [if_pos h], hb⟩
theorem numpost_ok {x : ByteArray} {w w' : World} (h : ¬ 1000000000 < decVal 0 x.data.toList) (hb : Below w.heap.size w w') : NumPost x w (.returned (.tuple #[.agg #[.int .i64 2, .string ⟨#[]⟩, .int .i64 (decVal 0 x.data.toList : Int), .int .i64 0], .int .i64 0])) w' := ⟨by rw [if_neg h], hb⟩
set_option maxHeartbeats 400000 in
set_option maxRecDepth 100000 in
theorem Token_num_one (x : ByteArray) (w : World) (hx : 0 < x.size) (hs : x.size ≤ 100000) (hc : Hid (cls (x[0]'hx).toNat = 5)) (h : x.size = 1) (hd : ∀ b ∈ x.data.toList, 48 ≤ b.toNat ∧ b.toNat ≤ 57) :
    Calls Tryz.prog 25 #[.string x] w (NumPost x w) := by
  have hb := byte_lt (x[0]'hx)
  have HD := Lib.hid hd
  clear hd
  have h1 : decide (1 < (x.size : Int)) = false := by simp; omega
  go_enter Tryz.func25, Tryz.ntmps25
  go_wp2_with fail
  refine (Letter_any _ _ hb).mono ?_
  rw [hc.out, decide_eq_false (by decide)]
  rintro e w' ⟨rfl, rfl⟩
  go_wp2_with fail
  refine (Digit_any _ _ hb).mono ?_
  rw [hc.out, decide_eq_true rfl]
  rintro e w' ⟨rfl, rfl⟩
  go_wp2_with fail
  go_loop [6, 7] (fun nv i => ∃ k : Nat, k ≤ x.size ∧ i = .int .i64 k ∧ nv = .int .i64 (decVal 0 (x.data.toList.take k) : Int) ∧ decVal 0 (x.data.toList.take k) ≤ 1000000000) (fun _ i => x.size - (intOf i).toNat)
  case atStart => exact ⟨0, Nat.zero_le _, rfl, rfl, by simp [decVal]⟩
  case round =>
    obtain ⟨k, hk, rfl, rfl, hle⟩ := hrel
    by_cases hlt : k < x.size
    · have hkl : k < x.data.toList.length := by simpa using hlt
      have hb2 := byte_lt x[k]
      obtain ⟨hd1, hd2⟩ := HD.out x[k] (by exact List.getElem_mem hkl)
      have hst : decVal 0 (x.data.toList.take (k + 1)) = decVal 0 (x.data.toList.take k) * 10 + (x[k].toNat - 48) := by
        rw [take_snoc _ _ hkl, decVal_snoc, decStep_eq]; rfl
      have happ := decVal_app (x.data.toList.take (k + 1)) (x.data.toList.drop (k + 1)) 0
      rw [List.take_append_drop] at happ
      have HST := Lib.hid hst
      have HAP := Lib.hid happ
      clear hst happ
      generalize hv : decVal 0 (x.data.toList.take k) = v at *
      have HV := Lib.hid hv
      clear hv
      by_cases hbig : 1000000000 < v * 10 + (x[k].toNat - 48)
      · have hbig' : (1000000000 : Int) < 10 * (v : Int) + ((x[k].toNat : Int) - 48) % 256 := by omega
        have H := Lib.hid (fun w' hb' => numpost_bad (x := x) (w := w) (w' := w') (by have h1 := HST.out; have h2 := HAP.out; omega) hb')
        clear hbig
        go_wp2
        exact bodyPost_ret (v := (.tuple #[.agg #[.int .i64 0, .string ⟨#[]⟩, .int .i64 0, .int .i64 0], .int .i64 3])) (by simp [results, Tryz.results25, go_sem]) rfl (H.out _ ((Below.refl _ _).alloc (Nat.le_refl _) _))
      · have hbig' : 10 * (v : Int) + ((x[k].toNat : Int) - 48) % 256 ≤ 1000000000 := by omega
        have hval : 10 * (v : Int) + ((x[k].toNat : Int) - 48) % 256 = ((v * 10 + (x[k].toNat - 48) : Nat) : Int) := by omega
        have HVAL := Lib.hid hval
        have HBIG := Lib.hid hbig
        clear hval hbig
        go_wp2
        go_round
        case rel => exact ⟨k + 1, by omega, by go_num, by rw [HST.out]; exact congrArg (Value.int .i64) (by have h3 := HVAL.out; omega), by rw [HST.out]; have := HBIG.out; omega⟩
        case measure => simp [intOf]; omega
    · have hk2 : x.data.toList.take k = x.data.toList := List.take_of_length_le (by simp; omega)
      rw [hk2] at hle ⊢
      have H := Lib.hid (fun w' hb' => numpost_ok (x := x) (w := w) (w' := w') (by omega) hb')
      clear hk2
      go_wp2
      exact bodyPost_ret (v := (.tuple #[.agg #[.int .i64 2, .string ⟨#[]⟩, .int .i64 (decVal 0 x.data.toList : Int), .int .i64 0], .int .i64 0])) (by simp [results, Tryz.results25, go_sem]) rfl (H.out _ ((Below.refl _ _).alloc (Nat.le_refl _) _))
set_option maxHeartbeats 400000 in
set_option maxRecDepth 100000 in
theorem Token_num_more (x : ByteArray) (w : World) (hx : 0 < x.size) (hs : x.size ≤ 100000) (hc : Hid (cls (x[0]'hx).toNat = 5)) (h : 1 < x.size) (h48 : (((x[0]'hx).toNat : Int) == 48) = false) (hd : ∀ b ∈ x.data.toList, 48 ≤ b.toNat ∧ b.toNat ≤ 57) :
    Calls Tryz.prog 25 #[.string x] w (NumPost x w) := by
  have hb := byte_lt (x[0]'hx)
  have HD := Lib.hid hd
  clear hd
  go_enter Tryz.func25, Tryz.ntmps25
  go_wp2_with fail
  refine (Letter_any _ _ hb).mono ?_
  rw [hc.out, decide_eq_false (by decide)]
  rintro e w' ⟨rfl, rfl⟩
  go_wp2_with fail
  refine (Digit_any _ _ hb).mono ?_
  rw [hc.out, decide_eq_true rfl]
  rintro e w' ⟨rfl, rfl⟩
  go_wp2_with fail
  go_loop [6, 7] (fun nv i => ∃ k : Nat, k ≤ x.size ∧ i = .int .i64 k ∧ nv = .int .i64 (decVal 0 (x.data.toList.take k) : Int) ∧ decVal 0 (x.data.toList.take k) ≤ 1000000000) (fun _ i => x.size - (intOf i).toNat)
  case atStart => exact ⟨0, Nat.zero_le _, rfl, rfl, by simp [decVal]⟩
  case round =>
    obtain ⟨k, hk, rfl, rfl, hle⟩ := hrel
    by_cases hlt : k < x.size
    · have hkl : k < x.data.toList.length := by simpa using hlt
      have hb2 := byte_lt x[k]
      obtain ⟨hd1, hd2⟩ := HD.out x[k] (by exact List.getElem_mem hkl)
      have hst : decVal 0 (x.data.toList.take (k + 1)) = decVal 0 (x.data.toList.take k) * 10 + (x[k].toNat - 48) := by
        rw [take_snoc _ _ hkl, decVal_snoc, decStep_eq]; rfl
      have happ := decVal_app (x.data.toList.take (k + 1)) (x.data.toList.drop (k + 1)) 0
      rw [List.take_append_drop] at happ
      have HST := Lib.hid hst
      have HAP := Lib.hid happ
      clear hst happ
      generalize hv : decVal 0 (x.data.toList.take k) = v at *
      have HV := Lib.hid hv
      clear hv
      by_cases hbig : 1000000000 < v * 10 + (x[k].toNat - 48)
      · have hbig' : (1000000000 : Int) < 10 * (v : Int) + ((x[k].toNat : Int) - 48) % 256 := by omega
        have H := Lib.hid (fun w' hb' => numpost_bad (x := x) (w := w) (w' := w') (by have h1 := HST.out; have h2 := HAP.out; omega) hb')
        clear hbig
        go_wp2
        exact bodyPost_ret (v := (.tuple #[.agg #[.int .i64 0, .string ⟨#[]⟩, .int .i64 0, .int .i64 0], .int .i64 3])) (by simp [results, Tryz.results25, go_sem]) rfl (H.out _ ((Below.refl _ _).alloc (Nat.le_refl _) _))
      · have hbig' : 10 * (v : Int) + ((x[k].toNat : Int) - 48) % 256 ≤ 1000000000 := by omega
        have hval : 10 * (v : Int) + ((x[k].toNat : Int) - 48) % 256 = ((v * 10 + (x[k].toNat - 48) : Nat) : Int) := by omega
        have HVAL := Lib.hid hval
        have HBIG := Lib.hid hbig
        clear hval hbig
        go_wp2
        go_round
        case rel => exact ⟨k + 1, by omega, by go_num, by rw [HST.out]; exact congrArg (Value.int .i64) (by have h3 := HVAL.out; omega), by rw [HST.out]; have := HBIG.out; omega⟩
        case measure => simp [intOf]; omega
    · have hk2 : x.data.toList.take k = x.data.toList := List.take_of_length_le (by simp; omega)
      rw [hk2] at hle ⊢
      have H := Lib.hid (fun w' hb' => numpost_ok (x := x) (w := w) (w' := w') (by omega) hb')
      clear hk2
      go_wp2
      exact bodyPost_ret (v := (.tuple #[.agg #[.int .i64 2, .string ⟨#[]⟩, .int .i64 (decVal 0 x.data.toList : Int), .int .i64 0], .int .i64 0])) (by simp [results, Tryz.results25, go_sem]) rfl (H.out _ ((Below.refl _ _).alloc (Nat.le_refl _) _))
end Go.Proofs.YtdaghppcomckbaaGreatDoor
