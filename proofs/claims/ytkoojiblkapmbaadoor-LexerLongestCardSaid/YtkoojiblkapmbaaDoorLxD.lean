/- Contracts of readPunct and read; condition: the listed package-level variables hold what the text lays. -/
import Derived.Test.YtkoojiblkapmbaaDoorLxC
namespace Go.Proofs.YtkoojiblkapmbaaDoor
open Go.RowKit
set_option linter.unusedVariables false
set_option linter.unusedSimpArgs false

theorem slice_ok1 (s : ByteArray) (a : Nat) (h : a + 1 ≤ s.size) (wx : World) :
    (Instr.slice 9 (.string s) (some (.int .i64 (a : Int))) (some (.int .i64 ((a : Int) + 1))) none).run Tryd.prog wx = .ok (.string (s.extract a (a + 1))) wx := by
  have h2 := run_slice_string (P := Tryd.prog) wx 9 s .i64 .i64 (a : Int) ((a : Int) + 1) Tryd.underlying9 (by omega) (by omega) (by omega)
  rw [h2, show ((a : Int)).toNat = a from by omega, show ((a : Int) + 1).toNat = a + 1 from by omega]
theorem slice_ok2 (s : ByteArray) (a : Nat) (h : a + 2 ≤ s.size) (wx : World) :
    (Instr.slice 9 (.string s) (some (.int .i64 (a : Int))) (some (.int .i64 ((a : Int) + 1 + 1))) none).run Tryd.prog wx = .ok (.string (s.extract a (a + 2))) wx := by
  have h2 := run_slice_string (P := Tryd.prog) wx 9 s .i64 .i64 (a : Int) ((a : Int) + 1 + 1) Tryd.underlying9 (by omega) (by omega) (by omega)
  rw [h2, show ((a : Int)).toNat = a from by omega, show ((a : Int) + 1 + 1).toNat = a + 2 from by omega]

set_option maxHeartbeats 400000 in
set_option maxRecDepth 100000 in
theorem readPunct_two (s : ByteArray) (at0 c : Nat) (w : World) (hL : LaidW w) (hlt0 : at0 < s.size) (hs : s.size ≤ 10000) (hc : Hid (cls (s[at0]'hlt0).toNat = c)) (hlt : at0 + 1 < s.size) (h : c = 8 ∨ c = 9) (h61 : (((s[at0 + 1]'hlt).toNat : Int) == 61) = true) :
    Calls Tryd.prog 31 #[.string s, .int .i64 at0] w fun e w' => e = .returned (.tuple #[.agg #[.int .i64 3, .string (s.extract at0 (at0 + 2)), .int .i64 0, .int .i64 at0], .int .i64 ((at0 + 2 : Nat) : Int), .int .i64 0]) ∧ Below w.heap.size w w' := by
  have hsn := slice_ok2 s at0 (by omega)
  have hb := byte_lt (s[at0]'hlt0)
  rcases h with h | h
  all_goals
    subst h
    go_enter Tryd.func31, Tryd.ntmps31
    go_wp2_with fail
    refine (classOf_any _ _ (hL.1.alloc _) hb).mono ?_
    rw [hc.out]
    rintro e w' ⟨rfl, rfl⟩
    go_wp2
    exact bodyPost_ret (v := (.tuple #[.agg #[.int .i64 3, .string (s.extract at0 (at0 + 2)), .int .i64 0, .int .i64 at0], .int .i64 ((at0 + 2 : Nat) : Int), .int .i64 0])) (by simp [results, Tryd.results31, go_sem]; try omega) rfl ⟨rfl, ((Below.refl _ _).alloc (Nat.le_refl _) _)⟩
set_option maxHeartbeats 400000 in
set_option maxRecDepth 100000 in
theorem readPunct_single (s : ByteArray) (at0 c : Nat) (w : World) (hL : LaidW w) (hlt0 : at0 < s.size) (hs : s.size ≤ 10000) (hc : Hid (cls (s[at0]'hlt0).toNat = c)) (h : c = 7) :
    Calls Tryd.prog 31 #[.string s, .int .i64 at0] w fun e w' => e = .returned (.tuple #[.agg #[.int .i64 3, .string (s.extract at0 (at0 + 1)), .int .i64 0, .int .i64 at0], .int .i64 ((at0 + 1 : Nat) : Int), .int .i64 0]) ∧ Below w.heap.size w w' := by
  have hsn := slice_ok1 s at0 (by omega)
  have hb := byte_lt (s[at0]'hlt0)
  all_goals
    subst h
    go_enter Tryd.func31, Tryd.ntmps31
    go_wp2_with fail
    refine (classOf_any _ _ (hL.1.alloc _) hb).mono ?_
    rw [hc.out]
    rintro e w' ⟨rfl, rfl⟩
    go_wp2
    exact bodyPost_ret (v := (.tuple #[.agg #[.int .i64 3, .string (s.extract at0 (at0 + 1)), .int .i64 0, .int .i64 at0], .int .i64 ((at0 + 1 : Nat) : Int), .int .i64 0])) (by simp [results, Tryd.results31, go_sem]; try omega) rfl ⟨rfl, ((Below.refl _ _).alloc (Nat.le_refl _) _)⟩
set_option maxHeartbeats 400000 in
set_option maxRecDepth 100000 in
theorem readPunct_rel_end (s : ByteArray) (at0 c : Nat) (w : World) (hL : LaidW w) (hlt0 : at0 < s.size) (hs : s.size ≤ 10000) (hc : Hid (cls (s[at0]'hlt0).toNat = c)) (h : c = 8) (hlt : ¬ at0 + 1 < s.size) :
    Calls Tryd.prog 31 #[.string s, .int .i64 at0] w fun e w' => e = .returned (.tuple #[.agg #[.int .i64 3, .string (s.extract at0 (at0 + 1)), .int .i64 0, .int .i64 at0], .int .i64 ((at0 + 1 : Nat) : Int), .int .i64 0]) ∧ Below w.heap.size w w' := by
  have hsn := slice_ok1 s at0 (by omega)
  have hb := byte_lt (s[at0]'hlt0)
  have hlt2 : decide ((at0 : Int) + 1 < (s.size : Int)) = false := by simp; omega
  all_goals
    subst h
    go_enter Tryd.func31, Tryd.ntmps31
    go_wp2_with fail
    refine (classOf_any _ _ (hL.1.alloc _) hb).mono ?_
    rw [hc.out]
    rintro e w' ⟨rfl, rfl⟩
    go_wp2
    exact bodyPost_ret (v := (.tuple #[.agg #[.int .i64 3, .string (s.extract at0 (at0 + 1)), .int .i64 0, .int .i64 at0], .int .i64 ((at0 + 1 : Nat) : Int), .int .i64 0])) (by simp [results, Tryd.results31, go_sem]; try omega) rfl ⟨rfl, ((Below.refl _ _).alloc (Nat.le_refl _) _)⟩
set_option maxHeartbeats 400000 in
set_option maxRecDepth 100000 in
theorem readPunct_rel_other (s : ByteArray) (at0 c : Nat) (w : World) (hL : LaidW w) (hlt0 : at0 < s.size) (hs : s.size ≤ 10000) (hc : Hid (cls (s[at0]'hlt0).toNat = c)) (h : c = 8) (hlt : at0 + 1 < s.size) (h61 : (((s[at0 + 1]'hlt).toNat : Int) == 61) = false) :
    Calls Tryd.prog 31 #[.string s, .int .i64 at0] w fun e w' => e = .returned (.tuple #[.agg #[.int .i64 3, .string (s.extract at0 (at0 + 1)), .int .i64 0, .int .i64 at0], .int .i64 ((at0 + 1 : Nat) : Int), .int .i64 0]) ∧ Below w.heap.size w w' := by
  have hsn := slice_ok1 s at0 (by omega)
  have hb := byte_lt (s[at0]'hlt0)
  all_goals
    subst h
    go_enter Tryd.func31, Tryd.ntmps31
    go_wp2_with fail
    refine (classOf_any _ _ (hL.1.alloc _) hb).mono ?_
    rw [hc.out]
    rintro e w' ⟨rfl, rfl⟩
    go_wp2
    exact bodyPost_ret (v := (.tuple #[.agg #[.int .i64 3, .string (s.extract at0 (at0 + 1)), .int .i64 0, .int .i64 at0], .int .i64 ((at0 + 1 : Nat) : Int), .int .i64 0])) (by simp [results, Tryd.results31, go_sem]; try omega) rfl ⟨rfl, ((Below.refl _ _).alloc (Nat.le_refl _) _)⟩
set_option maxHeartbeats 400000 in
set_option maxRecDepth 100000 in
theorem readPunct_bang_end (s : ByteArray) (at0 c : Nat) (w : World) (hL : LaidW w) (hlt0 : at0 < s.size) (hs : s.size ≤ 10000) (hc : Hid (cls (s[at0]'hlt0).toNat = c)) (h : c = 9) (hlt : ¬ at0 + 1 < s.size) :
    Calls Tryd.prog 31 #[.string s, .int .i64 at0] w fun e w' => e = .returned (.tuple #[.agg #[.int .i64 0, .string ⟨#[]⟩, .int .i64 0, .int .i64 0], .int .i64 0, .int .i64 7]) ∧ Below w.heap.size w w' := by
  have hb := byte_lt (s[at0]'hlt0)
  have hlt2 : decide ((at0 : Int) + 1 < (s.size : Int)) = false := by simp; omega
  all_goals
    subst h
    go_enter Tryd.func31, Tryd.ntmps31
    go_wp2_with fail
    refine (classOf_any _ _ (hL.1.alloc _) hb).mono ?_
    rw [hc.out]
    rintro e w' ⟨rfl, rfl⟩
    go_wp2
    exact bodyPost_ret (v := (.tuple #[.agg #[.int .i64 0, .string ⟨#[]⟩, .int .i64 0, .int .i64 0], .int .i64 0, .int .i64 7])) (by simp [results, Tryd.results31, go_sem]; try omega) rfl ⟨rfl, ((Below.refl _ _).alloc (Nat.le_refl _) _)⟩
set_option maxHeartbeats 400000 in
set_option maxRecDepth 100000 in
theorem readPunct_bang_other (s : ByteArray) (at0 c : Nat) (w : World) (hL : LaidW w) (hlt0 : at0 < s.size) (hs : s.size ≤ 10000) (hc : Hid (cls (s[at0]'hlt0).toNat = c)) (h : c = 9) (hlt : at0 + 1 < s.size) (h61 : (((s[at0 + 1]'hlt).toNat : Int) == 61) = false) :
    Calls Tryd.prog 31 #[.string s, .int .i64 at0] w fun e w' => e = .returned (.tuple #[.agg #[.int .i64 0, .string ⟨#[]⟩, .int .i64 0, .int .i64 0], .int .i64 0, .int .i64 7]) ∧ Below w.heap.size w w' := by
  have hb := byte_lt (s[at0]'hlt0)
  all_goals
    subst h
    go_enter Tryd.func31, Tryd.ntmps31
    go_wp2_with fail
    refine (classOf_any _ _ (hL.1.alloc _) hb).mono ?_
    rw [hc.out]
    rintro e w' ⟨rfl, rfl⟩
    go_wp2
    exact bodyPost_ret (v := (.tuple #[.agg #[.int .i64 0, .string ⟨#[]⟩, .int .i64 0, .int .i64 0], .int .i64 0, .int .i64 7])) (by simp [results, Tryd.results31, go_sem]; try omega) rfl ⟨rfl, ((Below.refl _ _).alloc (Nat.le_refl _) _)⟩
set_option maxHeartbeats 400000 in
set_option maxRecDepth 100000 in
theorem read_name (s : ByteArray) (at0 c : Nat) (k : Int) (x : ByteArray) (m a : Int) (n1 n2 : Int) (w : World) (hL : LaidW w) (hlt0 : at0 < s.size) (hs : s.size ≤ 10000) (hc : Hid (cls (s[at0]'hlt0).toNat = c)) (h : c = 4)
    (hR : Hid (∀ w : World, LaidW w → Calls Tryd.prog 29 #[.string s, .int .i64 at0] w fun e w' => e = .returned (.tuple #[.agg #[.int .i64 k, .string x, .int .i64 m, .int .i64 a], .int .i64 n1, .int .i64 n2]) ∧ Below w.heap.size w w')) :
    Calls Tryd.prog 20 #[.string s, .int .i64 at0] w fun e w' => e = .returned (.tuple #[.agg #[.int .i64 k, .string x, .int .i64 m, .int .i64 a], .int .i64 n1, .int .i64 n2]) ∧ Below w.heap.size w w' := by
  have hb := byte_lt (s[at0]'hlt0)
  all_goals
    subst h
    go_enter Tryd.func20, Tryd.ntmps20
    go_wp2_with fail
    refine (classOf_any _ _ (hL.1.alloc _) hb).mono ?_
    rw [hc.out]
    rintro e w' ⟨rfl, rfl⟩
    go_wp2_with fail
    refine (hR.out _ (hL.alloc _)).mono ?_
    rintro e w' ⟨rfl, hb2⟩
    obtain ⟨hcc, hff⟩ := bcell hb2
    have hz : w.heap.size + 1 ≤ w'.heap.size := by have := hb2.size; simpa using this
    go_wp2
    exact bodyPost_ret (v := (.tuple #[.agg #[.int .i64 k, .string x, .int .i64 m, .int .i64 a], .int .i64 n1, .int .i64 n2])) (by simp [results, Tryd.results20, go_sem, hcc, hz]) rfl ⟨rfl, set4 (((Below.refl _ _).alloc (Nat.le_refl _) _).trans (hb2.mono (by simp))) (Nat.le_refl _)⟩
set_option maxHeartbeats 400000 in
set_option maxRecDepth 100000 in
theorem read_number (s : ByteArray) (at0 c : Nat) (k : Int) (x : ByteArray) (m a : Int) (n1 n2 : Int) (w : World) (hL : LaidW w) (hlt0 : at0 < s.size) (hs : s.size ≤ 10000) (hc : Hid (cls (s[at0]'hlt0).toNat = c)) (h : c = 5)
    (hR : Hid (∀ w : World, LaidW w → Calls Tryd.prog 30 #[.string s, .int .i64 at0] w fun e w' => e = .returned (.tuple #[.agg #[.int .i64 k, .string x, .int .i64 m, .int .i64 a], .int .i64 n1, .int .i64 n2]) ∧ Below w.heap.size w w')) :
    Calls Tryd.prog 20 #[.string s, .int .i64 at0] w fun e w' => e = .returned (.tuple #[.agg #[.int .i64 k, .string x, .int .i64 m, .int .i64 a], .int .i64 n1, .int .i64 n2]) ∧ Below w.heap.size w w' := by
  have hb := byte_lt (s[at0]'hlt0)
  all_goals
    subst h
    go_enter Tryd.func20, Tryd.ntmps20
    go_wp2_with fail
    refine (classOf_any _ _ (hL.1.alloc _) hb).mono ?_
    rw [hc.out]
    rintro e w' ⟨rfl, rfl⟩
    go_wp2_with fail
    refine (hR.out _ (hL.alloc _)).mono ?_
    rintro e w' ⟨rfl, hb2⟩
    obtain ⟨hcc, hff⟩ := bcell hb2
    have hz : w.heap.size + 1 ≤ w'.heap.size := by have := hb2.size; simpa using this
    go_wp2
    exact bodyPost_ret (v := (.tuple #[.agg #[.int .i64 k, .string x, .int .i64 m, .int .i64 a], .int .i64 n1, .int .i64 n2])) (by simp [results, Tryd.results20, go_sem, hcc, hz]) rfl ⟨rfl, set4 (((Below.refl _ _).alloc (Nat.le_refl _) _).trans (hb2.mono (by simp))) (Nat.le_refl _)⟩
set_option maxHeartbeats 400000 in
set_option maxRecDepth 100000 in
theorem read_punct (s : ByteArray) (at0 c : Nat) (k : Int) (x : ByteArray) (m a : Int) (n1 n2 : Int) (w : World) (hL : LaidW w) (hlt0 : at0 < s.size) (hs : s.size ≤ 10000) (hc : Hid (cls (s[at0]'hlt0).toNat = c)) (h : c = 7 ∨ c = 8 ∨ c = 9)
    (hR : Hid (∀ w : World, LaidW w → Calls Tryd.prog 31 #[.string s, .int .i64 at0] w fun e w' => e = .returned (.tuple #[.agg #[.int .i64 k, .string x, .int .i64 m, .int .i64 a], .int .i64 n1, .int .i64 n2]) ∧ Below w.heap.size w w')) :
    Calls Tryd.prog 20 #[.string s, .int .i64 at0] w fun e w' => e = .returned (.tuple #[.agg #[.int .i64 k, .string x, .int .i64 m, .int .i64 a], .int .i64 n1, .int .i64 n2]) ∧ Below w.heap.size w w' := by
  have hb := byte_lt (s[at0]'hlt0)
  rcases h with h | h | h
  all_goals
    subst h
    go_enter Tryd.func20, Tryd.ntmps20
    go_wp2_with fail
    refine (classOf_any _ _ (hL.1.alloc _) hb).mono ?_
    rw [hc.out]
    rintro e w' ⟨rfl, rfl⟩
    go_wp2_with fail
    refine (hR.out _ (hL.alloc _)).mono ?_
    rintro e w' ⟨rfl, hb2⟩
    obtain ⟨hcc, hff⟩ := bcell hb2
    have hz : w.heap.size + 1 ≤ w'.heap.size := by have := hb2.size; simpa using this
    go_wp2
    exact bodyPost_ret (v := (.tuple #[.agg #[.int .i64 k, .string x, .int .i64 m, .int .i64 a], .int .i64 n1, .int .i64 n2])) (by simp [results, Tryd.results20, go_sem, hcc, hz]) rfl ⟨rfl, set4 (((Below.refl _ _).alloc (Nat.le_refl _) _).trans (hb2.mono (by simp))) (Nat.le_refl _)⟩
set_option maxHeartbeats 400000 in
set_option maxRecDepth 100000 in
theorem read_none (s : ByteArray) (at0 : Nat) (w : World) (hL : LaidW w) (hlt0 : at0 < s.size) (hs : s.size ≤ 10000)
    (h : (((cls (s[at0]'hlt0).toNat : Int) == 4) = false ∧ ((cls (s[at0]'hlt0).toNat : Int) == 5) = false) ∧ ((cls (s[at0]'hlt0).toNat : Int) == 7) = false ∧ ((cls (s[at0]'hlt0).toNat : Int) == 8) = false ∧ ((cls (s[at0]'hlt0).toNat : Int) == 9) = false) :
    Calls Tryd.prog 20 #[.string s, .int .i64 at0] w fun e w' => e = .returned (.tuple #[.agg #[.int .i64 0, .string ⟨#[]⟩, .int .i64 0, .int .i64 0], .int .i64 0, .int .i64 7]) ∧ Below w.heap.size w w' := by
  have hb := byte_lt (s[at0]'hlt0)
  obtain ⟨⟨h4, h5⟩, h7, h8, h9⟩ := h
  go_enter Tryd.func20, Tryd.ntmps20
  go_wp2_with fail
  refine (classOf_any _ _ (hL.1.alloc _) hb).mono ?_
  rintro e w' ⟨rfl, rfl⟩
  go_wp2
  exact bodyPost_ret (v := (.tuple #[.agg #[.int .i64 0, .string ⟨#[]⟩, .int .i64 0, .int .i64 0], .int .i64 0, .int .i64 7])) (by simp [results, Tryd.results20, go_sem]) rfl ⟨rfl, ((Below.refl _ _).alloc (Nat.le_refl _) _)⟩
end Go.Proofs.YtkoojiblkapmbaaDoor
