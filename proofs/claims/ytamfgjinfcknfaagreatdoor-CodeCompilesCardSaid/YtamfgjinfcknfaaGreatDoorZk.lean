/- Texts of one proof: LxD, LxE, LxF, PxA, PxB, PxD, PxE. -/
import Derived.Test.YtamfgjinfcknfaaGreatDoorZj
import Derived.Laws.AppendOwn
import Derived.OwnWalk
import Derived.WalkMore
import Derived.Deep.LoopGhost
import Derived.BigCall
import Derived.Lib.Hide
import Derived.WalkSpells
import Derived.BigQuiet
import Derived.Deep.QuietTactic
import Derived.Outline
import Derived.Laws.Rows
import Derived.Laws.NewBlocks
import Derived.Below
import Derived.Deep.AppendLies
import Derived.Deep.RegionLaw
import Derived.WalkLawsBesides
set_option linter.unusedVariables false
set_option linter.unusedSimpArgs false
set_option maxRecDepth 100000
set_option maxHeartbeats 8000000
namespace Go.Proofs.YtamfgjinfcknfaaGreatDoor
open Go.RowKit
theorem slice_ok1 (s : ByteArray) (a : Nat) (h : a + 1 ≤ s.size) (wx : World) :
  (Instr.slice 9 (.string s) (some (.int .i64 (a : Int))) (some (.int .i64 ((a : Int) + 1))) none).run Tryz.prog wx = .ok (.string (s.extract a (a + 1))) wx := by
 have h2 := run_slice_string (P := Tryz.prog) wx 9 s .i64 .i64 (a : Int) ((a : Int) + 1) Tryz.underlying9 (by omega) (by omega) (by omega)
 rw [h2, show ((a : Int)).toNat = a from by omega, show ((a : Int) + 1).toNat = a + 1 from by omega]
theorem slice_ok2 (s : ByteArray) (a : Nat) (h : a + 2 ≤ s.size) (wx : World) :
  (Instr.slice 9 (.string s) (some (.int .i64 (a : Int))) (some (.int .i64 ((a : Int) + 1 + 1))) none).run Tryz.prog wx = .ok (.string (s.extract a (a + 2))) wx := by
 have h2 := run_slice_string (P := Tryz.prog) wx 9 s .i64 .i64 (a : Int) ((a : Int) + 1 + 1) Tryz.underlying9 (by omega) (by omega) (by omega)
 rw [h2, show ((a : Int)).toNat = a from by omega, show ((a : Int) + 1 + 1).toNat = a + 2 from by omega]
theorem readPunct_two (s : ByteArray) (at0 c : Nat) (w : World) (hL : LaidW w) (hlt0 : at0 < s.size) (hs : s.size ≤ 10000) (hc : Hid (cls (s[at0]'hlt0).toNat = c)) (hlt : at0 + 1 < s.size) (h : c = 8 ∨ c = 9) (h61 : (((s[at0 + 1]'hlt).toNat : Int) == 61) = true) :
  Calls Tryz.prog 141 #[.string s, .int .i64 at0] w fun e w' => e = .returned (.tuple #[.agg #[.int .i64 3, .string (s.extract at0 (at0 + 2)), .int .i64 0, .int .i64 at0], .int .i64 ((at0 + 2 : Nat) : Int), .int .i64 0]) ∧ Below w.heap.size w w' := by
 have hsn := slice_ok2 s at0 (by omega)
 have hb := byte_lt (s[at0]'hlt0)
 rcases h with h | h
 all_goals
  subst h
  go_enter Tryz.func141, Tryz.ntmps141
  go_wp2_with fail
  refine (classOf_any _ _ (hL.1.alloc _) hb).mono ?_
  rw [hc.out]
  rintro e w' ⟨rfl, rfl⟩
  go_wp2
  exact bodyPost_ret (v := (.tuple #[.agg #[.int .i64 3, .string (s.extract at0 (at0 + 2)), .int .i64 0, .int .i64 at0], .int .i64 ((at0 + 2 : Nat) : Int), .int .i64 0])) (by simp [results, Tryz.results141, go_sem]; try omega) rfl ⟨rfl, ((Below.refl _ _).alloc (Nat.le_refl _) _)⟩
theorem readPunct_single (s : ByteArray) (at0 c : Nat) (w : World) (hL : LaidW w) (hlt0 : at0 < s.size) (hs : s.size ≤ 10000) (hc : Hid (cls (s[at0]'hlt0).toNat = c)) (h : c = 7) :
  Calls Tryz.prog 141 #[.string s, .int .i64 at0] w fun e w' => e = .returned (.tuple #[.agg #[.int .i64 3, .string (s.extract at0 (at0 + 1)), .int .i64 0, .int .i64 at0], .int .i64 ((at0 + 1 : Nat) : Int), .int .i64 0]) ∧ Below w.heap.size w w' := by
 have hsn := slice_ok1 s at0 (by omega)
 have hb := byte_lt (s[at0]'hlt0)
 all_goals
  subst h
  go_enter Tryz.func141, Tryz.ntmps141
  go_wp2_with fail
  refine (classOf_any _ _ (hL.1.alloc _) hb).mono ?_
  rw [hc.out]
  rintro e w' ⟨rfl, rfl⟩
  go_wp2
  exact bodyPost_ret (v := (.tuple #[.agg #[.int .i64 3, .string (s.extract at0 (at0 + 1)), .int .i64 0, .int .i64 at0], .int .i64 ((at0 + 1 : Nat) : Int), .int .i64 0])) (by simp [results, Tryz.results141, go_sem]; try omega) rfl ⟨rfl, ((Below.refl _ _).alloc (Nat.le_refl _) _)⟩
theorem readPunct_rel_end (s : ByteArray) (at0 c : Nat) (w : World) (hL : LaidW w) (hlt0 : at0 < s.size) (hs : s.size ≤ 10000) (hc : Hid (cls (s[at0]'hlt0).toNat = c)) (h : c = 8) (hlt : ¬ at0 + 1 < s.size) :
  Calls Tryz.prog 141 #[.string s, .int .i64 at0] w fun e w' => e = .returned (.tuple #[.agg #[.int .i64 3, .string (s.extract at0 (at0 + 1)), .int .i64 0, .int .i64 at0], .int .i64 ((at0 + 1 : Nat) : Int), .int .i64 0]) ∧ Below w.heap.size w w' := by
 have hsn := slice_ok1 s at0 (by omega)
 have hb := byte_lt (s[at0]'hlt0)
 have hlt2 : decide ((at0 : Int) + 1 < (s.size : Int)) = false := by simp; omega
 all_goals
  subst h
  go_enter Tryz.func141, Tryz.ntmps141
  go_wp2_with fail
  refine (classOf_any _ _ (hL.1.alloc _) hb).mono ?_
  rw [hc.out]
  rintro e w' ⟨rfl, rfl⟩
  go_wp2
  exact bodyPost_ret (v := (.tuple #[.agg #[.int .i64 3, .string (s.extract at0 (at0 + 1)), .int .i64 0, .int .i64 at0], .int .i64 ((at0 + 1 : Nat) : Int), .int .i64 0])) (by simp [results, Tryz.results141, go_sem]; try omega) rfl ⟨rfl, ((Below.refl _ _).alloc (Nat.le_refl _) _)⟩
theorem readPunct_rel_other (s : ByteArray) (at0 c : Nat) (w : World) (hL : LaidW w) (hlt0 : at0 < s.size) (hs : s.size ≤ 10000) (hc : Hid (cls (s[at0]'hlt0).toNat = c)) (h : c = 8) (hlt : at0 + 1 < s.size) (h61 : (((s[at0 + 1]'hlt).toNat : Int) == 61) = false) :
  Calls Tryz.prog 141 #[.string s, .int .i64 at0] w fun e w' => e = .returned (.tuple #[.agg #[.int .i64 3, .string (s.extract at0 (at0 + 1)), .int .i64 0, .int .i64 at0], .int .i64 ((at0 + 1 : Nat) : Int), .int .i64 0]) ∧ Below w.heap.size w w' := by
 have hsn := slice_ok1 s at0 (by omega)
 have hb := byte_lt (s[at0]'hlt0)
 all_goals
  subst h
  go_enter Tryz.func141, Tryz.ntmps141
  go_wp2_with fail
  refine (classOf_any _ _ (hL.1.alloc _) hb).mono ?_
  rw [hc.out]
  rintro e w' ⟨rfl, rfl⟩
  go_wp2
  exact bodyPost_ret (v := (.tuple #[.agg #[.int .i64 3, .string (s.extract at0 (at0 + 1)), .int .i64 0, .int .i64 at0], .int .i64 ((at0 + 1 : Nat) : Int), .int .i64 0])) (by simp [results, Tryz.results141, go_sem]; try omega) rfl ⟨rfl, ((Below.refl _ _).alloc (Nat.le_refl _) _)⟩
theorem readPunct_bang_end (s : ByteArray) (at0 c : Nat) (w : World) (hL : LaidW w) (hlt0 : at0 < s.size) (hs : s.size ≤ 10000) (hc : Hid (cls (s[at0]'hlt0).toNat = c)) (h : c = 9) (hlt : ¬ at0 + 1 < s.size) :
  Calls Tryz.prog 141 #[.string s, .int .i64 at0] w fun e w' => e = .returned (.tuple #[.agg #[.int .i64 0, .string ⟨#[]⟩, .int .i64 0, .int .i64 0], .int .i64 0, .int .i64 7]) ∧ Below w.heap.size w w' := by
 have hb := byte_lt (s[at0]'hlt0)
 have hlt2 : decide ((at0 : Int) + 1 < (s.size : Int)) = false := by simp; omega
 all_goals
  subst h
  go_enter Tryz.func141, Tryz.ntmps141
  go_wp2_with fail
  refine (classOf_any _ _ (hL.1.alloc _) hb).mono ?_
  rw [hc.out]
  rintro e w' ⟨rfl, rfl⟩
  go_wp2
  exact bodyPost_ret (v := (.tuple #[.agg #[.int .i64 0, .string ⟨#[]⟩, .int .i64 0, .int .i64 0], .int .i64 0, .int .i64 7])) (by simp [results, Tryz.results141, go_sem]; try omega) rfl ⟨rfl, ((Below.refl _ _).alloc (Nat.le_refl _) _)⟩
theorem readPunct_bang_other (s : ByteArray) (at0 c : Nat) (w : World) (hL : LaidW w) (hlt0 : at0 < s.size) (hs : s.size ≤ 10000) (hc : Hid (cls (s[at0]'hlt0).toNat = c)) (h : c = 9) (hlt : at0 + 1 < s.size) (h61 : (((s[at0 + 1]'hlt).toNat : Int) == 61) = false) :
  Calls Tryz.prog 141 #[.string s, .int .i64 at0] w fun e w' => e = .returned (.tuple #[.agg #[.int .i64 0, .string ⟨#[]⟩, .int .i64 0, .int .i64 0], .int .i64 0, .int .i64 7]) ∧ Below w.heap.size w w' := by
 have hb := byte_lt (s[at0]'hlt0)
 all_goals
  subst h
  go_enter Tryz.func141, Tryz.ntmps141
  go_wp2_with fail
  refine (classOf_any _ _ (hL.1.alloc _) hb).mono ?_
  rw [hc.out]
  rintro e w' ⟨rfl, rfl⟩
  go_wp2
  exact bodyPost_ret (v := (.tuple #[.agg #[.int .i64 0, .string ⟨#[]⟩, .int .i64 0, .int .i64 0], .int .i64 0, .int .i64 7])) (by simp [results, Tryz.results141, go_sem]; try omega) rfl ⟨rfl, ((Below.refl _ _).alloc (Nat.le_refl _) _)⟩
theorem read_name (s : ByteArray) (at0 c : Nat) (k : Int) (x : ByteArray) (m a : Int) (n1 n2 : Int) (w : World) (hL : LaidW w) (hlt0 : at0 < s.size) (hs : s.size ≤ 10000) (hc : Hid (cls (s[at0]'hlt0).toNat = c)) (h : c = 4)
  (hR : Hid (∀ w : World, LaidW w → Calls Tryz.prog 139 #[.string s, .int .i64 at0] w fun e w' => e = .returned (.tuple #[.agg #[.int .i64 k, .string x, .int .i64 m, .int .i64 a], .int .i64 n1, .int .i64 n2]) ∧ Below w.heap.size w w')) :
  Calls Tryz.prog 126 #[.string s, .int .i64 at0] w fun e w' => e = .returned (.tuple #[.agg #[.int .i64 k, .string x, .int .i64 m, .int .i64 a], .int .i64 n1, .int .i64 n2]) ∧ Below w.heap.size w w' := by
 have hb := byte_lt (s[at0]'hlt0)
 all_goals
  subst h
  go_enter Tryz.func126, Tryz.ntmps126
  go_wp2_with fail
  refine (classOf_any _ _ (hL.1.alloc _) hb).mono ?_
  rw [hc.out]
  rintro e w' ⟨rfl, rfl⟩
  go_wp2_with fail
  refine (hR.out _ (hL.alloc _)).mono ?_
  rintro e w' ⟨rfl, hb2⟩
  obtain ⟨hcc, hff⟩ := bcell hb2
  have hz : w.heap.size + 1 ≤ w'.heap.size := by have := hb2.size; simpa using this
  go_wp2
  exact bodyPost_ret (v := (.tuple #[.agg #[.int .i64 k, .string x, .int .i64 m, .int .i64 a], .int .i64 n1, .int .i64 n2])) (by simp [results, Tryz.results126, go_sem, hcc, hz]) rfl ⟨rfl, set4 (((Below.refl _ _).alloc (Nat.le_refl _) _).trans (hb2.mono (by simp))) (Nat.le_refl _)⟩
theorem read_number (s : ByteArray) (at0 c : Nat) (k : Int) (x : ByteArray) (m a : Int) (n1 n2 : Int) (w : World) (hL : LaidW w) (hlt0 : at0 < s.size) (hs : s.size ≤ 10000) (hc : Hid (cls (s[at0]'hlt0).toNat = c)) (h : c = 5)
  (hR : Hid (∀ w : World, LaidW w → Calls Tryz.prog 140 #[.string s, .int .i64 at0] w fun e w' => e = .returned (.tuple #[.agg #[.int .i64 k, .string x, .int .i64 m, .int .i64 a], .int .i64 n1, .int .i64 n2]) ∧ Below w.heap.size w w')) :
  Calls Tryz.prog 126 #[.string s, .int .i64 at0] w fun e w' => e = .returned (.tuple #[.agg #[.int .i64 k, .string x, .int .i64 m, .int .i64 a], .int .i64 n1, .int .i64 n2]) ∧ Below w.heap.size w w' := by
 have hb := byte_lt (s[at0]'hlt0)
 all_goals
  subst h
  go_enter Tryz.func126, Tryz.ntmps126
  go_wp2_with fail
  refine (classOf_any _ _ (hL.1.alloc _) hb).mono ?_
  rw [hc.out]
  rintro e w' ⟨rfl, rfl⟩
  go_wp2_with fail
  refine (hR.out _ (hL.alloc _)).mono ?_
  rintro e w' ⟨rfl, hb2⟩
  obtain ⟨hcc, hff⟩ := bcell hb2
  have hz : w.heap.size + 1 ≤ w'.heap.size := by have := hb2.size; simpa using this
  go_wp2
  exact bodyPost_ret (v := (.tuple #[.agg #[.int .i64 k, .string x, .int .i64 m, .int .i64 a], .int .i64 n1, .int .i64 n2])) (by simp [results, Tryz.results126, go_sem, hcc, hz]) rfl ⟨rfl, set4 (((Below.refl _ _).alloc (Nat.le_refl _) _).trans (hb2.mono (by simp))) (Nat.le_refl _)⟩
theorem read_punct (s : ByteArray) (at0 c : Nat) (k : Int) (x : ByteArray) (m a : Int) (n1 n2 : Int) (w : World) (hL : LaidW w) (hlt0 : at0 < s.size) (hs : s.size ≤ 10000) (hc : Hid (cls (s[at0]'hlt0).toNat = c)) (h : c = 7 ∨ c = 8 ∨ c = 9)
  (hR : Hid (∀ w : World, LaidW w → Calls Tryz.prog 141 #[.string s, .int .i64 at0] w fun e w' => e = .returned (.tuple #[.agg #[.int .i64 k, .string x, .int .i64 m, .int .i64 a], .int .i64 n1, .int .i64 n2]) ∧ Below w.heap.size w w')) :
  Calls Tryz.prog 126 #[.string s, .int .i64 at0] w fun e w' => e = .returned (.tuple #[.agg #[.int .i64 k, .string x, .int .i64 m, .int .i64 a], .int .i64 n1, .int .i64 n2]) ∧ Below w.heap.size w w' := by
 have hb := byte_lt (s[at0]'hlt0)
 rcases h with h | h | h
 all_goals
  subst h
  go_enter Tryz.func126, Tryz.ntmps126
  go_wp2_with fail
  refine (classOf_any _ _ (hL.1.alloc _) hb).mono ?_
  rw [hc.out]
  rintro e w' ⟨rfl, rfl⟩
  go_wp2_with fail
  refine (hR.out _ (hL.alloc _)).mono ?_
  rintro e w' ⟨rfl, hb2⟩
  obtain ⟨hcc, hff⟩ := bcell hb2
  have hz : w.heap.size + 1 ≤ w'.heap.size := by have := hb2.size; simpa using this
  go_wp2
  exact bodyPost_ret (v := (.tuple #[.agg #[.int .i64 k, .string x, .int .i64 m, .int .i64 a], .int .i64 n1, .int .i64 n2])) (by simp [results, Tryz.results126, go_sem, hcc, hz]) rfl ⟨rfl, set4 (((Below.refl _ _).alloc (Nat.le_refl _) _).trans (hb2.mono (by simp))) (Nat.le_refl _)⟩
theorem read_none (s : ByteArray) (at0 : Nat) (w : World) (hL : LaidW w) (hlt0 : at0 < s.size) (hs : s.size ≤ 10000)
  (h : (((cls (s[at0]'hlt0).toNat : Int) == 4) = false ∧ ((cls (s[at0]'hlt0).toNat : Int) == 5) = false) ∧ ((cls (s[at0]'hlt0).toNat : Int) == 7) = false ∧ ((cls (s[at0]'hlt0).toNat : Int) == 8) = false ∧ ((cls (s[at0]'hlt0).toNat : Int) == 9) = false) :
  Calls Tryz.prog 126 #[.string s, .int .i64 at0] w fun e w' => e = .returned (.tuple #[.agg #[.int .i64 0, .string ⟨#[]⟩, .int .i64 0, .int .i64 0], .int .i64 0, .int .i64 7]) ∧ Below w.heap.size w w' := by
 have hb := byte_lt (s[at0]'hlt0)
 obtain ⟨⟨h4, h5⟩, h7, h8, h9⟩ := h
 go_enter Tryz.func126, Tryz.ntmps126
 go_wp2_with fail
 refine (classOf_any _ _ (hL.1.alloc _) hb).mono ?_
 rintro e w' ⟨rfl, rfl⟩
 go_wp2
 exact bodyPost_ret (v := (.tuple #[.agg #[.int .i64 0, .string ⟨#[]⟩, .int .i64 0, .int .i64 0], .int .i64 0, .int .i64 7])) (by simp [results, Tryz.results126, go_sem]) rfl ⟨rfl, ((Below.refl _ _).alloc (Nat.le_refl _) _)⟩
end Go.Proofs.YtamfgjinfcknfaaGreatDoor
namespace Go.Proofs.YtamfgjinfcknfaaGreatDoor
open Go.RowKit
structure Tk where
 k : Int
 x : ByteArray
 m : Int
 a : Int
def Tk.cells (t : Tk) : List Value := [.int .i64 t.k, .string t.x, .int .i64 t.m, .int .i64 t.a]
def Tk.zero : Tk := ⟨0, ⟨#[]⟩, 0, 0⟩
def tokLen (l : List UInt8) : Nat :=
 match l with
 | [] => 0
 | b :: r =>
  if cls b.toNat = 4 then runLen nameB l
  else if cls b.toNat = 5 then runLen (fun n => (n : Int) == 5) l
  else if cls b.toNat = 7 then 1
  else if cls b.toNat = 8 then (if r.head? = some 61 then 2 else 1)
  else if cls b.toNat = 9 then (if r.head? = some 61 then 2 else 0)
  else 0
def tokErr (l : List UInt8) : Int :=
 match l with
 | [] => 0
 | b :: r =>
  if cls b.toNat = 4 then (if 12 < l.length then 3 else 0)
  else if cls b.toNat = 5 then (if 1 < l.length ∧ b.toNat = 48 then 7 else if 1000000000 < decVal 0 l then 3 else 0)
  else 0
def tokOf (x : ByteArray) (at0 : Nat) : Tk :=
 match x.data.toList with
 | [] => ⟨3, x, 0, at0⟩
 | b :: r =>
  if cls b.toNat = 4 then ⟨1, x, 0, at0⟩
  else if cls b.toNat = 5 then ⟨2, ⟨#[]⟩, decVal 0 (b :: r), at0⟩
  else ⟨3, x, 0, at0⟩
def rd (s : ByteArray) (at0 : Nat) : Tk × Nat × Int :=
 if tokLen (s.data.toList.drop at0) = 0 then (Tk.zero, 0, 7)
 else if tokErr ((s.data.toList.drop at0).take (tokLen (s.data.toList.drop at0))) ≠ 0 then (Tk.zero, 0, tokErr ((s.data.toList.drop at0).take (tokLen (s.data.toList.drop at0))))
 else (tokOf (s.extract at0 (at0 + tokLen (s.data.toList.drop at0))) at0, at0 + tokLen (s.data.toList.drop at0), 0)
theorem tokLen_le (l : List UInt8) : tokLen l ≤ l.length := by
 match l with
 | [] => exact Nat.le_refl _
 | b :: r =>
  have h1 := runLen_le nameB (b :: r)
  have h2 := runLen_le (fun n => (n : Int) == 5) (b :: r)
  simp only [tokLen]
  simp only [List.length_cons] at h1 h2 ⊢
  repeat' split
  all_goals first | omega | (rename_i hh; cases r <;> simp at hh ⊢)
def zeroV : Value := .agg #[.int .i64 0, .string ⟨#[]⟩, .int .i64 0, .int .i64 0]
theorem head_of (s : ByteArray) (at0 : Nat) (hlt : at0 < s.size) : s.data.toList.drop at0 = s[at0]'hlt :: s.data.toList.drop (at0 + 1) := by
 rw [List.drop_eq_getElem_cons (by simpa using hlt)]; rfl
theorem head2_of (s : ByteArray) (at0 : Nat) (hlt : at0 < s.size) : (s.data.toList.drop at0).head? = some (s[at0]'hlt) := by
 rw [head_of s at0 hlt]; rfl
def rdV (q : Tk × Nat × Int) : Value := .tuple #[.agg #[.int .i64 q.1.k, .string q.1.x, .int .i64 q.1.m, .int .i64 q.1.a], .int .i64 (q.2.1 : Int), .int .i64 q.2.2]
theorem readNumber_zero (s : ByteArray) (at0 n : Nat) (w : World) (hL : LaidW w) (hlt : at0 < s.size) (hat : at0 + n ≤ s.size) (hs : s.size ≤ 10000) (hn : Hid (runLen (fun n => (n : Int) == 5) (s.data.toList.drop at0) = n)) (h : 1 < n) (h48 : (((s[at0]'hlt).toNat : Int) == 48) = true) :
  Calls Tryz.prog 140 #[.string s, .int .i64 at0] w fun e w' => e = .returned (.tuple #[.agg #[.int .i64 0, .string ⟨#[]⟩, .int .i64 0, .int .i64 0], .int .i64 0, .int .i64 7]) ∧ Below w.heap.size w w' := by
 have hsl := Lib.hid (show s.size ≤ maxLen by unfold maxLen; omega)
 go_enter Tryz.func140, Tryz.ntmps140
 go_wp2_with fail
 refine (end_digit _ _ _ (hL.1.alloc _) (by omega) hsl.out).mono ?_
 rw [hn.out]
 rintro e w' ⟨rfl, rfl⟩
 go_wp2
 exact bodyPost_ret (v := .tuple #[.agg #[.int .i64 0, .string ⟨#[]⟩, .int .i64 0, .int .i64 0], .int .i64 0, .int .i64 7]) (by simp [results, Tryz.results140, go_sem]) rfl ⟨rfl, ((Below.refl _ _).alloc (Nat.le_refl _) _)⟩
theorem read_any (s : ByteArray) (at0 : Nat) (w : World) (hL : LaidW w) (hlt0 : at0 < s.size) (hs : s.size ≤ 10000) :
  Calls Tryz.prog 126 #[.string s, .int .i64 at0] w fun e w' => e = .returned (rdV (rd s at0)) ∧ Below w.heap.size w w' := by
 have hh := head_of s at0 hlt0
 have hmx : s.size ≤ maxLen := by unfold maxLen; omega
 have hle := tokLen_le (s.data.toList.drop at0)
 have hle2 : tokLen (s.data.toList.drop at0) ≤ s.size - at0 := by simpa using hle
 clear hle
 by_cases h4 : cls (s[at0]'hlt0).toNat = 4
 ·have hlen : tokLen (s.data.toList.drop at0) = runLen nameB (s.data.toList.drop at0) := by rw [hh]; simp only [tokLen]; rw [if_pos h4]
  have hpos : 0 < runLen nameB (s.data.toList.drop at0) := by rw [runLen_yes nameB s.data.toList at0 (by simpa using hlt0) (by show nameB (cls (s[at0]'hlt0).toNat) = true; rw [h4]; rfl)]; omega
  have htk : (s.data.toList.drop at0).take (runLen nameB (s.data.toList.drop at0)) = (s[at0]'hlt0) :: (s.data.toList.drop (at0 + 1)).take (runLen nameB (s.data.toList.drop at0) - 1) := by
   obtain ⟨m, hm⟩ : ∃ m, runLen nameB (s.data.toList.drop at0) = m + 1 := ⟨_, (Nat.succ_pred_eq_of_pos hpos).symm⟩
   rw [hm]
   conv => lhs; rw [hh]
   rw [List.take_succ_cons]; rfl
  rw [hlen] at hle2
  have hnl : ((s.data.toList.drop at0).take (runLen nameB (s.data.toList.drop at0))).length = runLen nameB (s.data.toList.drop at0) := by
   rw [List.length_take]; exact Nat.min_eq_left (runLen_le _ _)
  by_cases hn : 12 < runLen nameB (s.data.toList.drop at0)
  ·have hr : rd s at0 = (Tk.zero, 0, 3) := by
    have he : tokErr ((s.data.toList.drop at0).take (runLen nameB (s.data.toList.drop at0))) = 3 := by
     rw [← hnl] at hn
     rw [htk] at hn ⊢
     simp only [tokErr]
     rw [if_pos h4, if_pos hn]
    unfold rd
    rw [hlen, if_neg (by omega), if_pos (by rw [he]; decide), he]
   rw [hr]
   exact read_name s at0 _ 0 ⟨#[]⟩ 0 0 0 3 w hL hlt0 hs rfl h4 (fun w hL => readName_long s at0 _ w hL.1 (by omega) hmx rfl hn)
  ·have hr : rd s at0 = (⟨1, s.extract at0 (at0 + runLen nameB (s.data.toList.drop at0)), 0, at0⟩, at0 + runLen nameB (s.data.toList.drop at0), 0) := by
    have he : tokErr ((s.data.toList.drop at0).take (runLen nameB (s.data.toList.drop at0))) = 0 := by
     rw [← hnl] at hn
     rw [htk] at hn ⊢
     simp only [tokErr]
     rw [if_pos h4, if_neg hn]
    have ht : tokOf (s.extract at0 (at0 + runLen nameB (s.data.toList.drop at0))) at0 = ⟨1, s.extract at0 (at0 + runLen nameB (s.data.toList.drop at0)), 0, at0⟩ := by
     unfold tokOf
     rw [sub_bytes, htk]
     simp only
     rw [if_pos h4]
    unfold rd
    rw [hlen, if_neg (by omega), if_neg (by rw [he]; decide), ht]
   rw [hr]
   exact read_name s at0 _ 1 (s.extract at0 (at0 + runLen nameB (s.data.toList.drop at0))) 0 at0 _ 0 w hL hlt0 hs rfl h4 (fun w hL => readName_ok s at0 _ w hL.1 (by omega) hmx rfl (by omega))
 by_cases h5 : cls (s[at0]'hlt0).toNat = 5
 ·have hlen : tokLen (s.data.toList.drop at0) = runLen (fun n => (n : Int) == 5) (s.data.toList.drop at0) := by rw [hh]; simp only [tokLen]; rw [if_neg h4, if_pos h5]
  have hpos : 0 < runLen (fun n => (n : Int) == 5) (s.data.toList.drop at0) := by rw [runLen_yes (fun n => (n : Int) == 5) s.data.toList at0 (by simpa using hlt0) (by show ((cls (s[at0]'hlt0).toNat : Int) == 5) = true; rw [h5]; rfl)]; omega
  have htk : (s.data.toList.drop at0).take (runLen (fun n => (n : Int) == 5) (s.data.toList.drop at0)) = (s[at0]'hlt0) :: (s.data.toList.drop (at0 + 1)).take (runLen (fun n => (n : Int) == 5) (s.data.toList.drop at0) - 1) := by
   obtain ⟨m, hm⟩ : ∃ m, runLen (fun n => (n : Int) == 5) (s.data.toList.drop at0) = m + 1 := ⟨_, (Nat.succ_pred_eq_of_pos hpos).symm⟩
   rw [hm]
   conv => lhs; rw [hh]
   rw [List.take_succ_cons]; rfl
  rw [hlen] at hle2
  have hnl : ((s.data.toList.drop at0).take (runLen (fun n => (n : Int) == 5) (s.data.toList.drop at0))).length = runLen (fun n => (n : Int) == 5) (s.data.toList.drop at0) := by
   rw [List.length_take]; exact Nat.min_eq_left (runLen_le _ _)
  have hdig := digits_of s at0 _ rfl
  have hsb := sub_bytes s at0 (runLen (fun n => (n : Int) == 5) (s.data.toList.drop at0))
  have hne : (s.extract at0 (at0 + runLen (fun n => (n : Int) == 5) (s.data.toList.drop at0))).data.toList ≠ [] := by rw [hsb, htk]; simp
  generalize hn : runLen (fun n => (n : Int) == 5) (s.data.toList.drop at0) = n at *
  by_cases hz : 1 < n ∧ (s[at0]'hlt0).toNat = 48
  ·have hr : rd s at0 = (Tk.zero, 0, 7) := by
    have he : tokErr ((s.data.toList.drop at0).take n) = 7 := by
     obtain ⟨hz1, hz2⟩ := hz
     rw [← hnl] at hz1
     rw [htk] at hz1 ⊢
     simp only [tokErr]
     rw [if_neg h4, if_pos h5, if_pos ⟨hz1, hz2⟩]
    unfold rd
    rw [hlen, if_neg (by omega), if_pos (by rw [he]; decide), he]
   rw [hr]
   exact read_number s at0 _ 0 ⟨#[]⟩ 0 0 0 7 w hL hlt0 hs rfl h5 (fun w hL => readNumber_zero s at0 n w hL hlt0 (by omega) hs hn hz.1 (by rw [hz.2]; rfl))
  ·have hcase : n = 1 ∨ (1 < n ∧ (((s[at0]'hlt0).toNat : Int) == 48) = false) := by
    by_cases h1 : n = 1
    ·exact Or.inl h1
    ·exact Or.inr ⟨by omega, by simp; omega⟩
   have hz' : ¬ (1 < ((s.data.toList.drop at0).take n).length ∧ (s[at0]'hlt0).toNat = 48) := by rw [hnl]; exact hz
   by_cases hv : 1000000000 < decVal 0 ((s.data.toList.drop at0).take n)
   ·have hr : rd s at0 = (Tk.zero, 0, 3) := by
     have he : tokErr ((s.data.toList.drop at0).take n) = 3 := by
      rw [htk] at hv hz' ⊢
      simp only [tokErr]
      rw [if_neg h4, if_pos h5, if_neg hz', if_pos hv]
     unfold rd
     rw [hlen, if_neg (by omega), if_pos (by rw [he]; decide), he]
    rw [hr]
    refine read_number s at0 _ 0 ⟨#[]⟩ 0 0 0 3 w hL hlt0 hs rfl h5 (fun w hL => ?_)
    by_cases hb : decVal 0 ((s.data.toList.drop at0).take n) < M63
    ·exact readNumber_big s at0 n _ w hL hlt0 (by omega) hs hn hcase (by rw [← hsb] at hb ⊢; exact atoi_digits_ok _ hne hdig hb) hv
    ·exact readNumber_range s at0 n w hL hlt0 (by omega) hs hn hcase (by rw [← hsb] at hb; exact atoi_digits_range _ hne hdig hb)
   ·have hr : rd s at0 = (⟨2, ⟨#[]⟩, decVal 0 ((s.data.toList.drop at0).take n), at0⟩, at0 + n, 0) := by
     have he : tokErr ((s.data.toList.drop at0).take n) = 0 := by
      rw [htk] at hv hz' ⊢
      simp only [tokErr]
      rw [if_neg h4, if_pos h5, if_neg hz', if_neg hv]
     have ht : tokOf (s.extract at0 (at0 + n)) at0 = ⟨2, ⟨#[]⟩, decVal 0 ((s.data.toList.drop at0).take n), at0⟩ := by
      unfold tokOf
      rw [hsb, htk]
      simp only
      rw [if_neg h4, if_pos h5]
     unfold rd
     rw [hlen, if_neg (by omega), if_neg (by rw [he]; decide), ht]
    rw [hr]
    have hb : decVal 0 ((s.data.toList.drop at0).take n) < M63 := by rw [M63_eq]; omega
    exact read_number s at0 _ 2 ⟨#[]⟩ _ at0 _ 0 w hL hlt0 hs rfl h5 (fun w hL => readNumber_ok s at0 n _ w hL hlt0 (by omega) hs hn hcase (by rw [← hsb] at hb ⊢; exact atoi_digits_ok _ hne hdig hb) (by omega))
 have herr : ∀ m, tokErr ((s.data.toList.drop at0).take m) = 0 := by
  intro m
  cases m with
  | zero => rw [List.take_zero]; rfl
  | succ m => rw [hh, List.take_succ_cons]; simp only [tokErr]; rw [if_neg h4, if_neg h5]
 have htok : ∀ m, tokOf (s.extract at0 (at0 + m)) at0 = ⟨3, s.extract at0 (at0 + m), 0, at0⟩ := by
  intro m
  unfold tokOf
  rw [sub_bytes]
  cases m with
  | zero => rw [List.take_zero]
  | succ m => rw [hh, List.take_succ_cons]; simp only; rw [if_neg h4, if_neg h5]
 have hrd : ∀ m, tokLen (s.data.toList.drop at0) = m → rd s at0 = if m = 0 then (Tk.zero, 0, 7) else (⟨3, s.extract at0 (at0 + m), 0, at0⟩, at0 + m, 0) := by
  intro m hm
  unfold rd
  rw [hm]
  by_cases h0 : m = 0
  ·rw [if_pos h0, if_pos h0]
  ·rw [if_neg h0, if_neg h0, if_neg (by rw [herr]; decide), htok]
 have hnx : ∀ h : at0 + 1 < s.size, (s.data.toList.drop (at0 + 1)).head? = some (s[at0 + 1]'h) := fun h => head2_of s (at0 + 1) h
 have hnn : ¬ at0 + 1 < s.size → (s.data.toList.drop (at0 + 1)).head? = none := fun h => by rw [List.drop_eq_nil_of_le (by simp; omega)]; rfl
 have hb61 : ∀ b : UInt8, ((b.toNat : Int) == 61) = decide (some b = some (61 : UInt8)) := by
  intro b
  rw [Bool.eq_iff_iff]
  simp only [beq_iff_eq, Option.some.injEq, decide_eq_true_eq, ← UInt8.toNat_inj]
  show _ ↔ b.toNat = 61
  omega
 by_cases h7 : cls (s[at0]'hlt0).toNat = 7
 ·have hlen : tokLen (s.data.toList.drop at0) = 1 := by rw [hh]; simp only [tokLen]; rw [if_neg h4, if_neg h5, if_pos h7]
  rw [hrd _ hlen, if_neg (by decide)]
  exact read_punct s at0 _ 3 _ 0 at0 _ 0 w hL hlt0 hs rfl (Or.inl h7) (fun w hL => readPunct_single s at0 _ w hL hlt0 hs rfl h7)
 by_cases h8 : cls (s[at0]'hlt0).toNat = 8
 ·have hlen : tokLen (s.data.toList.drop at0) = if (s.data.toList.drop (at0 + 1)).head? = some 61 then 2 else 1 := by rw [hh]; simp only [tokLen]; rw [if_neg h4, if_neg h5, if_neg h7, if_pos h8]
  by_cases hlt : at0 + 1 < s.size
  ·rw [hnx hlt] at hlen
   by_cases he : some (s[at0 + 1]'hlt) = some (61 : UInt8)
   ·rw [if_pos he] at hlen
    rw [hrd _ hlen, if_neg (by decide)]
    exact read_punct s at0 _ 3 _ 0 at0 _ 0 w hL hlt0 hs rfl (Or.inr (Or.inl h8)) (fun w hL => readPunct_two s at0 _ w hL hlt0 hs rfl hlt (Or.inl h8) (by rw [hb61]; exact decide_eq_true he))
   ·rw [if_neg he] at hlen
    rw [hrd _ hlen, if_neg (by decide)]
    exact read_punct s at0 _ 3 _ 0 at0 _ 0 w hL hlt0 hs rfl (Or.inr (Or.inl h8)) (fun w hL => readPunct_rel_other s at0 _ w hL hlt0 hs rfl h8 hlt (by rw [hb61]; exact decide_eq_false he))
  ·rw [hnn hlt, if_neg (by simp)] at hlen
   rw [hrd _ hlen, if_neg (by decide)]
   exact read_punct s at0 _ 3 _ 0 at0 _ 0 w hL hlt0 hs rfl (Or.inr (Or.inl h8)) (fun w hL => readPunct_rel_end s at0 _ w hL hlt0 hs rfl h8 hlt)
 by_cases h9 : cls (s[at0]'hlt0).toNat = 9
 ·have hlen : tokLen (s.data.toList.drop at0) = if (s.data.toList.drop (at0 + 1)).head? = some 61 then 2 else 0 := by rw [hh]; simp only [tokLen]; rw [if_neg h4, if_neg h5, if_neg h7, if_neg h8, if_pos h9]
  by_cases hlt : at0 + 1 < s.size
  ·rw [hnx hlt] at hlen
   by_cases he : some (s[at0 + 1]'hlt) = some (61 : UInt8)
   ·rw [if_pos he] at hlen
    rw [hrd _ hlen, if_neg (by decide)]
    exact read_punct s at0 _ 3 _ 0 at0 _ 0 w hL hlt0 hs rfl (Or.inr (Or.inr h9)) (fun w hL => readPunct_two s at0 _ w hL hlt0 hs rfl hlt (Or.inr h9) (by rw [hb61]; exact decide_eq_true he))
   ·rw [if_neg he] at hlen
    rw [hrd _ hlen, if_pos rfl]
    exact read_punct s at0 _ 0 ⟨#[]⟩ 0 0 0 7 w hL hlt0 hs rfl (Or.inr (Or.inr h9)) (fun w hL => readPunct_bang_other s at0 _ w hL hlt0 hs rfl h9 hlt (by rw [hb61]; exact decide_eq_false he))
  ·rw [hnn hlt, if_neg (by simp)] at hlen
   rw [hrd _ hlen, if_pos rfl]
   exact read_punct s at0 _ 0 ⟨#[]⟩ 0 0 0 7 w hL hlt0 hs rfl (Or.inr (Or.inr h9)) (fun w hL => readPunct_bang_end s at0 _ w hL hlt0 hs rfl h9 hlt)
 ·have hlen : tokLen (s.data.toList.drop at0) = 0 := by rw [hh]; simp only [tokLen]; rw [if_neg h4, if_neg h5, if_neg h7, if_neg h8, if_neg h9]
  rw [hrd _ hlen, if_pos rfl]
  have hI : ∀ n : Nat, cls (s[at0]'hlt0).toNat ≠ n → ((cls (s[at0]'hlt0).toNat : Int) == (n : Int)) = false := fun n h => by simp; omega
  exact read_none s at0 w hL hlt0 hs ⟨⟨hI 4 h4, hI 5 h5⟩, hI 7 h7, hI 8 h8, hI 9 h9⟩
end Go.Proofs.YtamfgjinfcknfaaGreatDoor
namespace Go.Proofs.YtamfgjinfcknfaaGreatDoor
open Go.RowKit
def gapE (s : ByteArray) (p : Nat) : Nat := p + gapLen false (s.data.toList.drop p)
def lexF (s : ByteArray) : Nat → Nat → Nat → List Tk × Int × Nat
 | 0, _, _ => ([], 0, 0)
 | f + 1, p, c =>
  if s.size ≤ p then ([], 0, 0)
  else if c = 3000 then ([], 2, p)
  else if (rd s p).2.2 ≠ 0 then ([], (rd s p).2.2, p)
  else ((rd s p).1 :: (lexF s f (gapE s (rd s p).2.1) (c + 1)).1, (lexF s f (gapE s (rd s p).2.1) (c + 1)).2)
def lx (s : ByteArray) : List Tk × Int × Nat :=
 if 10000 < s.size then ([], 2, 0)
 else if (lexF s (s.size + 1) (gapE s 0) 0).2.1 ≠ 0 then ([], (lexF s (s.size + 1) (gapE s 0) 0).2)
 else ((lexF s (s.size + 1) (gapE s 0) 0).1, 0, 0)
def cellsOf (l : List Tk) : List Value := l.flatMap Tk.cells
theorem gapE_ge (s : ByteArray) (p : Nat) : p ≤ gapE s p := Nat.le_add_right _ _
theorem gapE_le (s : ByteArray) (p : Nat) (h : p ≤ s.size) : gapE s p ≤ s.size := by
 unfold gapE
 have h1 := gapLen_le (s.data.toList.drop p) false
 have h2 : (s.data.toList.drop p).length = s.size - p := by simp
 omega
def LexPost (s : ByteArray) (w : World) (e : Ending) (w' : World) : Prop :=
 ∃ v : Value, e = .returned (.tuple #[v, .int .i64 (lx s).2.1, .int .i64 ((lx s).2.2 : Nat)]) ∧ w'.ownsRow w.heap.size 161 4 v (lx s).1.length (cellsOf (lx s).1) ∧ Below w.heap.size w w'
theorem Lex_long (s : ByteArray) (w : World) (h : 10000 < s.size) (hm : s.size ≤ maxLen) : Calls Tryz.prog 115 #[.string s] w (LexPost s w) := by
 have hx : lx s = ([], 2, 0) := by unfold lx; rw [if_pos h]
 unfold maxLen at hm
 have H : Hid (LexPost s w (.returned (.tuple #[.slice none 0 0, .int .i64 2, .int .i64 0])) w) := by
  unfold LexPost
  rw [hx]
  exact ⟨_, rfl, World.ownsRow_nil _ _ _ _, Below.refl _ _⟩
 clear hx
 go_enter Tryz.func115, Tryz.ntmps115
 go_wp2
 go_step3
 go_wp2
 try rw [Exit.noGoto_ret]
 go_ret3
 exact H.out
theorem own_slice {w : World} {base e size n : Nat} {v : Value} {xs : List Value} (h : w.ownsRow base e size v n xs) : ∃ A c, v = .slice A n c := by
 rcases h.2 with ⟨rfl, rfl⟩ | ⟨g, cap, cur, rfl, _⟩
 ·exact ⟨none, 0, rfl⟩
 ·exact ⟨_, _, rfl⟩
theorem tokInfo : (Tryz.prog.info? 161).map (fun i => (i.zero, i.size, i.bytes)) = some (some zeroV, 4, 40) := by kernel_rfl
theorem cellsOf_snoc (ts : List Tk) (t : Tk) : cellsOf (ts ++ [t]) = cellsOf ts ++ t.cells := by simp [cellsOf]
def Inv (s : ByteArray) (g p : Nat) (ts : List Tk) : Prop :=
 lexF s (s.size + 1) (gapE s 0) 0 = (ts ++ (lexF s (g + 1) p ts.length).1, (lexF s (g + 1) p ts.length).2)
theorem ownsRow_below {wr w1 : World} {base e size n : Nat} {v : Value} {xs : List Value} (h : wr.ownsRow base e size v n xs) (hb : Below wr.heap.size wr w1) : w1.ownsRow base e size v n xs :=
 h.kept (row := none) ⟨hb.os, hb.tape, hb.output, hb.size, fun k hk _ => hb.block k hk⟩ (by cases hv : v.ownBlock <;> simp)
theorem read_eq (s : ByteArray) (at0 : Nat) (tk : Tk) (nx : Nat) (er : Int) (hq : Hid (rd s at0 = (tk, nx, er))) (w : World) (hL : LaidW w) (hlt0 : at0 < s.size) (hs : s.size ≤ 10000) :
  Calls Tryz.prog 126 #[.string s, .int .i64 at0] w fun e w' => e = .returned (.tuple #[.agg #[.int .i64 tk.k, .string tk.x, .int .i64 tk.m, .int .i64 tk.a], .int .i64 nx, .int .i64 er]) ∧ Below w.heap.size w w' := by
 have h := read_any s at0 w hL hlt0 hs
 rw [hq.out] at h
 exact h
theorem rd_ok (s : ByteArray) (p : Nat) (tk : Tk) (nx : Nat) (hp : p < s.size) (hq : rd s p = (tk, nx, 0)) : p < nx ∧ nx ≤ s.size := by
 have hle := tokLen_le (s.data.toList.drop p)
 have hle2 : tokLen (s.data.toList.drop p) ≤ s.size - p := by simpa using hle
 unfold rd at hq
 split at hq
 ·simp at hq
 ·split at hq
  ·simp only [Prod.mk.injEq] at hq
   rename_i h1 h2
   exact absurd hq.2.2 h2
  ·simp only [Prod.mk.injEq] at hq
   omega
theorem lexF_done (s : ByteArray) (f p c : Nat) (h : s.size ≤ p) : lexF s (f + 1) p c = ([], 0, 0) := by rw [lexF, if_pos h]
theorem lexF_many (s : ByteArray) (f p : Nat) (h : p < s.size) : lexF s (f + 1) p 3000 = ([], 2, p) := by rw [lexF, if_neg (by omega), if_pos rfl]
theorem lexF_bad (s : ByteArray) (f p c : Nat) (tk : Tk) (nx : Nat) (er : Int) (h : p < s.size) (hc : c ≠ 3000) (hq : rd s p = (tk, nx, er)) (he : er ≠ 0) : lexF s (f + 1) p c = ([], er, p) := by
 rw [lexF, if_neg (by omega), if_neg hc, hq, if_pos he]
theorem lexF_tok (s : ByteArray) (f p c : Nat) (tk : Tk) (nx : Nat) (h : p < s.size) (hc : c ≠ 3000) (hq : rd s p = (tk, nx, 0)) :
  lexF s (f + 1) p c = (tk :: (lexF s f (gapE s nx) (c + 1)).1, (lexF s f (gapE s nx) (c + 1)).2) := by
 rw [lexF, if_neg (by omega), if_neg hc, hq, if_neg (by show ¬ ((0 : Int) ≠ 0); decide)]
theorem Inv.ok {s : ByteArray} {g p : Nat} {ts : List Tk} (h : Inv s g p ts) (hs : s.size ≤ 10000) (hp : s.size ≤ p) : lx s = (ts, 0, 0) := by
 unfold Inv at h
 rw [lexF_done s g p _ hp] at h
 unfold lx
 rw [if_neg (by omega), h]
 simp
theorem Inv.err {s : ByteArray} {g p : Nat} {ts : List Tk} {er : Int} (h : Inv s g p ts) (hs : s.size ≤ 10000) (he : er ≠ 0) (hq : lexF s (g + 1) p ts.length = ([], er, p)) : lx s = ([], er, p) := by
 unfold Inv at h
 rw [hq] at h
 unfold lx
 rw [if_neg (by omega), h, if_pos he]
theorem Inv.next {s : ByteArray} {g p : Nat} {ts : List Tk} {tk : Tk} {nx : Nat} (h : Inv s (g + 1) p ts) (hp : p < s.size) (hc : ts.length ≠ 3000) (hq : rd s p = (tk, nx, 0)) : Inv s g (gapE s nx) (ts ++ [tk]) := by
 unfold Inv at h ⊢
 rw [lexF_tok s _ p _ tk nx hp hc hq] at h
 rw [h]
 simp
theorem LexPost.ok {s : ByteArray} {w w' : World} {v : Value} {ts : List Tk} (h : lx s = (ts, 0, 0)) (hown : w'.ownsRow w.heap.size 161 4 v ts.length (cellsOf ts)) (hb : Below w.heap.size w w') :
  LexPost s w (.returned (.tuple #[v, .int .i64 0, .int .i64 0])) w' := by
 unfold LexPost
 rw [h]
 exact ⟨v, rfl, hown, hb⟩
theorem LexPost.err {s : ByteArray} {w w' : World} {er : Int} {p : Nat} (h : lx s = ([], er, p)) (hb : Below w.heap.size w w') :
  LexPost s w (.returned (.tuple #[.slice none 0 0, .int .i64 er, .int .i64 (p : Nat)])) w' := by
 unfold LexPost
 rw [h]
 exact ⟨_, rfl, World.ownsRow_nil _ _ _ _, hb⟩
theorem new_cells (W : World) (arr : Array Value) (T : TypeId) (b : Nat) (hb : b = W.heap.size) : ∀ j u, arr.toList[j]? = some u → (W.alloc (.cells arr T)).cell? ((⟨b, 0, none⟩ : Addr).add j) = some u := by
 intro j u hu
 subst hb
 have hadd : (⟨W.heap.size, 0, none⟩ : Addr).add j = ⟨W.heap.size, j, none⟩ := by unfold Addr.add; split <;> simp_all
 rw [hadd, cell_of_row _ _ j arr T (0, 0) (heap_alloc_new W _)]
 simpa using hu
theorem tk_one (t : Tk) : ∀ u ∈ t.cells, u.oneCell' = true := by
 intro u hu
 simp only [Tk.cells, List.mem_cons, List.not_mem_nil, or_false] at hu
 rcases hu with rfl | rfl | rfl | rfl <;> rfl
theorem Lex_short (s : ByteArray) (w : World) (hL : LaidW w) (hw : 8 < w.heap.size) (h : s.size ≤ 10000) : Calls Tryz.prog 115 #[.string s] w (LexPost s w) := by
 have hsl := Lib.hid (show s.size ≤ maxLen by unfold maxLen; omega)
 obtain ⟨i0, hi, hz0, hz1, hz2⟩ := info_parts tokInfo
 go_enter Tryz.func115, Tryz.ntmps115
 go_wp2
 go_step3
 go_wp2_with fail
 refine (gapEnd_any s 0 _ hL.1 (Nat.zero_le _) hsl.out).mono ?_
 rintro e w' ⟨rfl, rfl⟩
 go_wp2
 go_step3
 go_wp2
 go_loopg [5, 6, 7] s.size (fun gk v f i wr => ∃ (p : Nat) (ts : List Tk), f = .int .i64 0 ∧ i = .int .i64 p ∧ p ≤ s.size ∧ s.size ≤ p + gk ∧ ts.length ≤ 3000 ∧ Hid (Inv s gk p ts) ∧ wr.ownsRow w.heap.size 161 4 v ts.length (cellsOf ts) ∧ Below w.heap.size w wr)
 case atStart =>
  refine ⟨gapE s 0, [], rfl, ?_, gapE_le s 0 (Nat.zero_le _), by omega, by simp, ?_, World.ownsRow_nil _ _ _ _, Below.refl _ _⟩
  ·simp [gapE]
  ·show lexF s (s.size + 1) (gapE s 0) 0 = _
   simp
 case round =>
  obtain ⟨p, ts, rfl, rfl, hp, hg, hlen, hI, hown, hb⟩ := hrel
  obtain ⟨A, c, rfl⟩ := own_slice hown
  by_cases hlt : p < s.size
  ·by_cases hmany : ts.length = 3000
   ·have H := Lib.hid (LexPost.err (w' := wr) (hI.out.err (er := 2) h (by decide) (by rw [hmany]; exact lexF_many s gk p hlt)) hb)
    have HM := Lib.hid hmany
    have hmb : ((ts.length : Int) == 3000) = true := by rw [hmany]; rfl
    clear hmany
    go_wp2
    rw [Exit.noGoto_ret]
    go_ret3
    exact H.out
   ·obtain ⟨tk, nx, er, hq⟩ : ∃ tk nx er, rd s p = (tk, nx, er) := ⟨_, _, _, rfl⟩
    have hmb : ((ts.length : Int) == 3000) = false := by simp; omega
    by_cases he : er = 0
    ·subst he
     have hQ := Lib.hid hq
     have HM := Lib.hid hmany
     have hnx := rd_ok s p tk nx hlt hq
     have hl2 : ts.length + 1 ≤ 3000 := by omega
     clear hq hmany
     go_wp2_with fail
     refine (read_eq s p tk nx 0 hQ _ (hL.below hb hw) hlt h).mono ?_
     rintro e w1 ⟨rfl, hb1⟩
     have hown1 := ownsRow_below hown hb1
     have hbase : w.heap.size ≤ w1.heap.size := Nat.le_trans hb.size hb1.size
     go_wp2_with (at_builtin; refine wpList_append_own _ rfl _ _ 157 rfl w.heap.size 161 i0 zeroV 4 40 Tryz.underlying157 hi hz0 hz1 hz2 rfl (by decide) _ _ _ rfl ((hown1.alloc _).alloc _) ⟨w1.heap.size + 1, 0, none⟩ 1 1 tk.cells rfl rfl ?c1 ?c2 ?c3 ?c4 ?c5 ?_)
     case c1 => exact new_cells _ #[.int .i64 tk.k, .string tk.x, .int .i64 tk.m, .int .i64 tk.a] _ _ (by simp)
     case c2 => exact tk_one tk
     case c3 => unfold maxLen; omega
     case c4 => omega
     case c5 => simp; omega
     intro v' w2 hown2 hgrow _
     have hb2 : Below w.heap.size w w2 := (((hb.trans (hb1.mono hb.size)).alloc hbase _).alloc (by simp; omega) _).grown hgrow (by simp; omega) (fun k hk => (hown.lt k hk).1)
     rw [← cellsOf_snoc] at hown2
     have hI2 : ∃ g, gk = g + 1 := ⟨gk - 1, by omega⟩
     obtain ⟨g, rfl⟩ := hI2
     have hI3 := Lib.hid (hI.out.next hlt HM.out hQ.out)
     have hgl := gapE_le s nx hnx.2
     have hgg := gapE_ge s nx
     clear hgrow hown1 hown hb1 hI
     go_wp2_with fail
     refine (gapEnd_any s nx _ (hL.below hb2 hw).1 hnx.2 hsl.out).mono ?_
     rintro e w3 ⟨rfl, rfl⟩
     go_wp2
     go_roundg g
     case measure => omega
     case rel => exact ⟨gapE s nx, ts ++ [tk], rfl, rfl, hgl, by omega, by simp; omega, hI3, by simpa using hown2, hb2⟩
    ·have hQ := Lib.hid hq
     have HLX := Lib.hid (hI.out.err (er := er) h he (lexF_bad s gk p ts.length tk nx er hlt hmany hq he))
     have hne : (er == 0) = false := by simp [he]
     have hne2 : (er != 0) = true := by simp [he]
     have HE := Lib.hid he
     clear hq hmany he
     go_wp2_with fail
     refine (read_eq s p tk nx er hQ _ (hL.below hb hw) hlt h).mono ?_
     rintro e w1 ⟨rfl, hb1⟩
     have hbase : w.heap.size ≤ w1.heap.size := Nat.le_trans hb.size hb1.size
     have hb2 : Below w.heap.size w w1 := hb.trans (hb1.mono hb.size)
     go_wp2
     rw [Exit.noGoto_ret]
     go_ret3
     exact LexPost.err HLX.out (hb2.alloc hbase _)
  ·have H := Lib.hid (LexPost.ok (hI.out.ok h (by omega)) hown hb)
   go_wp2
   rw [Exit.noGoto_ret]
   go_ret3
   exact H.out
theorem Lex_any (s : ByteArray) (w : World) (hL : LaidW w) (hw : 8 < w.heap.size) (hm : s.size ≤ maxLen) : Calls Tryz.prog 115 #[.string s] w (LexPost s w) := by
 by_cases h : s.size ≤ 10000
 ·exact Lex_short s w hL hw h
 ·exact Lex_long s w (by omega) hm
end Go.Proofs.YtamfgjinfcknfaaGreatDoor
namespace Go.Proofs.YtamfgjinfcknfaaGreatDoor
open Go.RowKit
def idxF (x : ByteArray) : List ByteArray → Nat → Int
 | [], _ => -1
 | y :: l, k => if x = y then k else idxF x l (k + 1)
def idx (ws : List ByteArray) (x : ByteArray) : Int := idxF x ws 0
def StrS (w : World) (g : Nat) (ws : List ByteArray) : Prop := ∀ (i : Nat) (x : ByteArray), ws[i]? = some x → w.cell? ⟨g, i, none⟩ = some (.string x)
theorem idxF_drop_hit (x : ByteArray) (ws : List ByteArray) (k j : Nat) (hk : k < ws.length) (h : x = ws[k]) : idxF x (ws.drop k) j = j := by
 rw [List.drop_eq_getElem_cons hk, idxF, if_pos h]
theorem idxF_drop_miss (x : ByteArray) (ws : List ByteArray) (k j : Nat) (hk : k < ws.length) (h : ¬ x = ws[k]) : idxF x (ws.drop k) j = idxF x (ws.drop (k + 1)) (j + 1) := by
 rw [List.drop_eq_getElem_cons hk, idxF, if_neg h]
theorem idxF_drop_end (x : ByteArray) (ws : List ByteArray) (k j : Nat) (hk : ws.length ≤ k) : idxF x (ws.drop k) j = -1 := by
 rw [List.drop_eq_nil_of_le hk, idxF]
theorem ret_i {k : IntKind} {a b : Int} (h : a = b) : Ending.returned (.int k a) = .returned (.int k b) := by rw [h]
theorem toList_inj {x y : ByteArray} (h : x.toList = y.toList) : x = y := by
 rw [ByteArray.toList_eq, ByteArray.toList_eq] at h
 cases x; cases y; simp at h; rw [h]
theorem bne_of (x y : ByteArray) (h : ¬ x = y) : (x.toList == y.toList) = false := by
 simp only [beq_eq_false_iff_ne]
 exact fun e => h (toList_inj e)
end Go.Proofs.YtamfgjinfcknfaaGreatDoor
namespace Go.Proofs.YtamfgjinfcknfaaGreatDoor
open Go.RowKit
def TkAt (w : World) (g i : Nat) (t : Tk) : Prop :=
 w.cell? ⟨g, i * 4, none⟩ = some (.int .i64 t.k) ∧ w.cell? ⟨g, i * 4 + 1, none⟩ = some (.string t.x) ∧ w.cell? ⟨g, i * 4 + 2, none⟩ = some (.int .i64 t.m) ∧ w.cell? ⟨g, i * 4 + 3, none⟩ = some (.int .i64 t.a)
def hd (l : List Tk) : Tk := l.headD ⟨0, ⟨#[]⟩, 0, 0⟩
end Go.Proofs.YtamfgjinfcknfaaGreatDoor
namespace Go.Proofs.YtamfgjinfcknfaaGreatDoor
open Go.RowKit
theorem new_strs (W : World) (arr : Array Value) (T : TypeId) (ws : List ByteArray) (h : arr = (ws.map Value.string).toArray) : StrS (W.alloc (.cells arr T)) W.heap.size ws := by
 intro i x hx
 rw [cell_of_row _ _ i _ T (0, 0) (heap_alloc_new W _)]
 subst h
 simpa using hx
end Go.Proofs.YtamfgjinfcknfaaGreatDoor
namespace Go.Proofs.YtamfgjinfcknfaaGreatDoor
open Go.RowKit
inductive Nd where
 | mk (kind : Int) (name : ByteArray) (n unit at0 : Int) (kids : List Nd)
def Nd.kind : Nd → Int | .mk k _ _ _ _ _ => k
def Nd.name : Nd → ByteArray | .mk _ x _ _ _ _ => x
def Nd.n : Nd → Int | .mk _ _ n _ _ _ => n
def Nd.unit : Nd → Int | .mk _ _ _ u _ _ => u
def Nd.at0 : Nd → Int | .mk _ _ _ _ a _ => a
def Nd.kids : Nd → List Nd | .mk _ _ _ _ _ l => l
def nCells (t : Nd) (A : Option Addr) (c : Nat) : List Value := [.int .i64 t.kind, .string t.name, .int .i64 t.n, .int .i64 t.unit, .int .i64 t.at0, .slice A t.kids.length (t.kids.length + c)]
mutual
def KidsR (w : World) (P : Nat → Prop) : List Nd → Option Addr → Prop
 | [], _ => True
 | t :: ts, A => ∃ g o, A = some ⟨g, o, none⟩ ∧ P g ∧ OneR w P t g o ∧ KidsR w P ts (some ⟨g, o + 6, none⟩)
def OneR (w : World) (P : Nat → Prop) : Nd → Nat → Nat → Prop
 | .mk k x n u a kids, g, o => ∃ A c, w.cell? ⟨g, o, none⟩ = some (.int .i64 k) ∧ w.cell? ⟨g, o + 1, none⟩ = some (.string x) ∧ w.cell? ⟨g, o + 2, none⟩ = some (.int .i64 n) ∧
  w.cell? ⟨g, o + 3, none⟩ = some (.int .i64 u) ∧ w.cell? ⟨g, o + 4, none⟩ = some (.int .i64 a) ∧ w.cell? ⟨g, o + 5, none⟩ = some (.slice A kids.length (kids.length + c)) ∧ KidsR w P kids A
end
mutual
theorem KidsR.keep {w w' : World} {P P' : Nat → Prop} (hb : ∀ k, P k → k < w.heap.size → w'.heap[k]? = w.heap[k]? ∧ P' k) : ∀ (ts : List Nd) (A : Option Addr), KidsR w P ts A → KidsR w' P' ts A
 | [], _, _ => trivial
 | t :: ts, A, h => by
  unfold KidsR at h ⊢
  obtain ⟨g, o, hA, hg, h1, h2⟩ := h
  obtain ⟨h3, h4⟩ := OneR.keep hb t g o hg h1
  exact ⟨g, o, hA, h4, h3, KidsR.keep hb ts _ h2⟩
theorem OneR.keep {w w' : World} {P P' : Nat → Prop} (hb : ∀ k, P k → k < w.heap.size → w'.heap[k]? = w.heap[k]? ∧ P' k) : ∀ (t : Nd) (g o : Nat), P g → OneR w P t g o → OneR w' P' t g o ∧ P' g
 | .mk k x n u a kids, g, o, hg, h => by
  unfold OneR at h ⊢
  obtain ⟨A, c, h0, h1, h2, h3, h4, h5, h6⟩ := h
  have hlt := World.block_lt_of_cell? w _ h0
  have e : ∀ i, w'.cell? ⟨g, i, none⟩ = w.cell? ⟨g, i, none⟩ := fun i => World.cell?_of_block (a := ⟨g, i, none⟩) (hb g hg hlt).1
  exact ⟨⟨A, c, by rw [e]; exact h0, by rw [e]; exact h1, by rw [e]; exact h2, by rw [e]; exact h3, by rw [e]; exact h4, by rw [e]; exact h5, KidsR.keep hb kids A h6⟩, (hb g hg hlt).2⟩
end
def RowsR (w : World) (P : Nat → Prop) : List Nd → List Value → Prop
 | [], vs => vs = []
 | t :: ts, vs => ∃ A c rest, vs = nCells t A c ++ rest ∧ KidsR w P t.kids A ∧ RowsR w P ts rest
theorem RowsR.keep {w w' : World} {P P' : Nat → Prop} (hb : ∀ k, P k → k < w.heap.size → w'.heap[k]? = w.heap[k]? ∧ P' k) : ∀ (ts : List Nd) (vs : List Value), RowsR w P ts vs → RowsR w' P' ts vs
 | [], _, h => h
 | t :: ts, vs, h => by
  obtain ⟨A, c, rest, h1, h2, h3⟩ := h
  exact ⟨A, c, rest, h1, KidsR.keep hb _ _ h2, RowsR.keep hb ts rest h3⟩
theorem RowsR.app {w : World} {P : Nat → Prop} {us : List Nd} {vs' : List Value} (h' : RowsR w P us vs') : ∀ (ts : List Nd) (vs : List Value), RowsR w P ts vs → RowsR w P (ts ++ us) (vs ++ vs')
 | [], vs, h => by unfold RowsR at h; subst h; exact h'
 | t :: ts, vs, h => by
  obtain ⟨A, c, rest, h1, h2, h3⟩ := h
  exact ⟨A, c, rest ++ vs', by rw [h1, List.append_assoc], h2, RowsR.app h' ts rest h3⟩
theorem RowsR.one {w : World} {P : Nat → Prop} (t : Nd) (A : Option Addr) (c : Nat) (h : KidsR w P t.kids A) : RowsR w P [t] (nCells t A c) :=
 ⟨A, c, [], by simp, h, rfl⟩
theorem RowsR.kids {w : World} {P : Nat → Prop} {g : Nat} (hg : P g) : ∀ (ts : List Nd) (vs : List Value) (o : Nat), RowsR w P ts vs → (∀ j u, vs[j]? = some u → w.cell? ⟨g, o + j, none⟩ = some u) → KidsR w P ts (some ⟨g, o, none⟩)
 | [], _, _, _, _ => trivial
 | t :: ts, vs, o, h, hc => by
  obtain ⟨A, c, rest, rfl, h2, h3⟩ := h
  unfold KidsR
  refine ⟨g, o, rfl, hg, ?_, RowsR.kids hg ts rest (o + 6) h3 (fun j u hu => ?_)⟩
  ·obtain ⟨k, x, n, u, a, kids⟩ := t
   unfold OneR
   exact ⟨A, c, hc 0 _ rfl, hc 1 _ rfl, hc 2 _ rfl, hc 3 _ rfl, hc 4 _ rfl, hc 5 _ rfl, h2⟩
  ·rw [show o + 6 + j = o + (6 + j) by omega]
   refine hc (6 + j) u ?_
   rw [List.getElem?_append_right (by simp [nCells])]
   simpa [nCells] using hu
abbrev nv (t : Nd) (A : Option Addr) (c : Nat) : Value := .agg #[.int .i64 t.kind, .string t.name, .int .i64 t.n, .int .i64 t.unit, .int .i64 t.at0, .slice A t.kids.length (t.kids.length + c)]
def From (B : Nat) (k : Nat) : Prop := B ≤ k
def Beside (B : Nat) (v : Value) (k : Nat) : Prop := B ≤ k ∧ v.ownBlock ≠ some k
def VNds (B : Nat) (w : World) (v : Value) (ts : List Nd) : Prop := ∃ vs, w.ownsRow B 77 6 v ts.length vs ∧ RowsR w (Beside B v) ts vs
theorem VNds.kids {B : Nat} {w : World} {v : Value} {ts : List Nd} (h : VNds B w v ts) : ∃ A c, v = .slice A ts.length (ts.length + c) ∧ KidsR w (From B) ts A := by
 obtain ⟨vs, h1, h2⟩ := h
 rcases h1.2 with ⟨rfl, h0⟩ | ⟨g, cap, cur, rfl, hb, hg, hn, hc, hs, ht⟩
 ·obtain rfl : ts = [] := List.eq_nil_of_length_eq_zero h0
  exact ⟨none, 0, rfl, trivial⟩
 ·have h2' : RowsR w (From B) ts vs := h2.keep (fun k hk _ => ⟨rfl, hk.1⟩)
  refine ⟨_, cap - ts.length, by rw [Nat.add_sub_cancel' hn], h2'.kids hb ts vs 0 (fun j u hu => ?_)⟩
  have := h1.cells (g := g) rfl j u hu
  have hadd : (⟨g, 0, none⟩ : Addr).add j = ⟨g, 0 + j, none⟩ := by unfold Addr.add; split <;> simp_all
  rw [hadd] at this
  exact this
theorem VNds.nil (B : Nat) (w : World) : VNds B w (.slice none 0 0) [] := ⟨[], World.ownsRow_nil _ _ _ _, rfl⟩
theorem VNds.keep {B : Nat} {w w' : World} {v : Value} {ts : List Nd} (hb : ∀ k, B ≤ k → k < w.heap.size → w'.heap[k]? = w.heap[k]?) (h : VNds B w v ts) : VNds B w' v ts := by
 obtain ⟨vs, h1, h2⟩ := h
 refine ⟨vs, ⟨h1.1, ?_⟩, h2.keep (fun k hk hl => ⟨hb k hk.1 hl, hk⟩)⟩
 rcases h1.2 with hn | ⟨g, cap, cur, hv, hg, hh, rest⟩
 ·exact .inl hn
 ·exact .inr ⟨g, cap, cur, hv, hg, by rw [hb g hg (Array.getElem?_eq_some_iff.1 hh).1]; exact hh, rest⟩
theorem cells6 {w : World} {b : Nat} {v0 v1 v2 v3 v4 v5 : Value} {T : TypeId} (h : w.heap[b]? = some (.cells #[v0, v1, v2, v3, v4, v5] T (0, 0))) :
  (w.cell? ⟨b, 0, none⟩ = some v0 ∧ w.cell? ⟨b, 1, none⟩ = some v1 ∧ w.cell? ⟨b, 2, none⟩ = some v2 ∧ w.cell? ⟨b, 3, none⟩ = some v3 ∧ w.cell? ⟨b, 4, none⟩ = some v4 ∧ w.cell? ⟨b, 5, none⟩ = some v5) ∧
  (w.frozen? ⟨b, 0, none⟩ = false ∧ w.frozen? ⟨b, 1, none⟩ = false ∧ w.frozen? ⟨b, 2, none⟩ = false ∧ w.frozen? ⟨b, 3, none⟩ = false ∧ w.frozen? ⟨b, 4, none⟩ = false ∧ w.frozen? ⟨b, 5, none⟩ = false) := by
 refine ⟨⟨?_, ?_, ?_, ?_, ?_, ?_⟩, ?_, ?_, ?_, ?_, ?_, ?_⟩
 ·rw [cell_of_row _ _ 0 _ _ (0, 0) h]; rfl
 ·rw [cell_of_row _ _ 1 _ _ (0, 0) h]; rfl
 ·rw [cell_of_row _ _ 2 _ _ (0, 0) h]; rfl
 ·rw [cell_of_row _ _ 3 _ _ (0, 0) h]; rfl
 ·rw [cell_of_row _ _ 4 _ _ (0, 0) h]; rfl
 ·rw [cell_of_row _ _ 5 _ _ (0, 0) h]; rfl
 all_goals simp [World.frozen?, h]
theorem gbRefl (w : World) (r : Option Nat) : w.grownBy w r := ⟨rfl, rfl, rfl, Nat.le_refl _, fun _ _ _ => rfl⟩
theorem gbSet {w w' : World} {b i : Nat} {v : Value} (h : w.grownBy w' (some b)) : w.grownBy (w'.setCell ⟨b, i, none⟩ v) (some b) :=
 ⟨h.os, h.tape, h.output, by simpa using h.size, fun k hk hn => (heap_setCell_other w' _ k v (fun e => hn (by rw [e]))).trans (h.block k hk hn)⟩
theorem gbAlloc {w w' : World} {r : Option Nat} {o : Obj} (h : w.grownBy w' r) : w.grownBy (w'.alloc o) r :=
 ⟨h.os, h.tape, h.output, by have := h.size; simp; omega, fun k hk hn => (Below.heap_alloc w' o k (Nat.lt_of_lt_of_le hk h.size)).trans (h.block k hk hn)⟩
theorem gbTrans {a b c : World} {r : Option Nat} (h : a.grownBy b r) (k : b.grownBy c r) : a.grownBy c r :=
 ⟨k.os.trans h.os, k.tape.trans h.tape, k.output.trans h.output, Nat.le_trans h.size k.size, fun i hi hn => (k.block i (Nat.lt_of_lt_of_le hi h.size) hn).trans (h.block i hi hn)⟩
abbrev zeroNd : Array Value := #[.int .i64 0, .string ⟨#[]⟩, .int .i64 0, .int .i64 0, .int .i64 0, .slice none 0 0]
end Go.Proofs.YtamfgjinfcknfaaGreatDoor
