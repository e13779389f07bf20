/- Texts of one proof: LxC, LxD, LxE. -/
import Derived.Test.YtljknappbnoikaaGreatDoorZk
import Derived.WalkSpells
import Derived.Lib.IndexBytes
import Derived.Test.YtljknappbnoikaaGreatDoorAtoi
set_option linter.unusedVariables false
set_option linter.unusedSimpArgs false
set_option maxRecDepth 100000
set_option maxHeartbeats 8000000
namespace Go.Proofs.YtljknappbnoikaaGreatDoor
open Go.RowKit
theorem Tab.alloc {w : World} (h : Tab w) (o : Obj) : Tab (w.alloc o) := fun i hi => by
 have hc := h i hi
 rw [World.cell?_alloc_lt w o _ (World.block_lt_of_cell? w _ hc)]
 exact hc
theorem Tab.below {B : Nat} {w w' : World} (h : Tab w) (hb : Below B w w') (hB : 4 < B) : Tab w' := fun i hi => by
 rw [hb.cell (p := ⟨4, i, none⟩) hB]
 exact h i hi
theorem slice_ok (s : ByteArray) (a n : Nat) (h : a + n ≤ s.size) (wx : World) :
  (Instr.slice 9 (.string s) (some (.int .i64 (a : Int))) (some (.int .i64 ((a : Int) + (n : Int)))) none).run Tryz.prog wx = .ok (.string (s.extract a (a + n))) wx := by
 have h2 := run_slice_string (P := Tryz.prog) wx 9 s .i64 .i64 (a : Int) ((a : Int) + (n : Int)) Tryz.underlying9 (by omega) (by omega) (by omega)
 rw [h2]
 rw [show ((a : Int)).toNat = a from by omega, show ((a : Int) + (n : Int)).toNat = a + n from by omega]
theorem readName_long (s : ByteArray) (at0 n : Nat) (w : World) (hT : Tab w) (hat : at0 + n ≤ s.size) (hs : s.size ≤ maxLen) (hn : Hid (runLen nameB (s.data.toList.drop at0) = n)) (h : 12 < n) :
  Calls Tryz.prog 146 #[.string s, .int .i64 at0] w fun e w' => e = .returned (.tuple #[.agg #[.int .i64 0, .string ⟨#[]⟩, .int .i64 0, .int .i64 0], .int .i64 0, .int .i64 3]) ∧ Below w.heap.size w w' := by
 have hsl := Lib.hid hs
 have hsn := slice_ok s at0 n hat
 unfold maxLen at hs
 go_enter Tryz.func146, Tryz.ntmps146
 go_wp2_with fail
 refine (end_name _ _ _ (hT.alloc _) (by omega) hsl.out).mono ?_
 rw [hn.out]
 rintro e w' ⟨rfl, rfl⟩
 go_wp2
 exact bodyPost_ret (v := .tuple #[.agg #[.int .i64 0, .string ⟨#[]⟩, .int .i64 0, .int .i64 0], .int .i64 0, .int .i64 3]) (by simp [results, Tryz.results146, go_sem]) rfl ⟨rfl, ((Below.refl _ _).alloc (Nat.le_refl _) _)⟩
theorem readName_ok (s : ByteArray) (at0 n : Nat) (w : World) (hT : Tab w) (hat : at0 + n ≤ s.size) (hs : s.size ≤ maxLen) (hn : Hid (runLen nameB (s.data.toList.drop at0) = n)) (h : n ≤ 12) :
  Calls Tryz.prog 146 #[.string s, .int .i64 at0] w fun e w' => e = .returned (.tuple #[.agg #[.int .i64 1, .string (s.extract at0 (at0 + n)), .int .i64 0, .int .i64 at0], .int .i64 ((at0 + n : Nat) : Int), .int .i64 0]) ∧ Below w.heap.size w w' := by
 have hsl := Lib.hid hs
 have hsn := slice_ok s at0 n hat
 unfold maxLen at hs
 go_enter Tryz.func146, Tryz.ntmps146
 go_wp2_with fail
 refine (end_name _ _ _ (hT.alloc _) (by omega) hsl.out).mono ?_
 rw [hn.out]
 rintro e w' ⟨rfl, rfl⟩
 go_wp2
 exact bodyPost_ret (v := .tuple #[.agg #[.int .i64 1, .string (s.extract at0 (at0 + n)), .int .i64 0, .int .i64 at0], .int .i64 ((at0 + n : Nat) : Int), .int .i64 0]) (by simp [results, Tryz.results146, go_sem]) rfl ⟨rfl, ((Below.refl _ _).alloc (Nat.le_refl _) _)⟩
theorem cls_5 (b : UInt8) : cls b.toNat = 5 ↔ 48 ≤ b.toNat ∧ b.toNat ≤ 57 := by
 have h : ∀ n, n < 256 → (cls n = 5 ↔ 48 ≤ n ∧ n ≤ 57) := by decide +kernel
 exact h _ b.toNat_lt
theorem runLen_mem (p : Nat → Bool) (l : List UInt8) : ∀ b ∈ l.take (runLen p l), p (cls b.toNat) = true := by
 induction l with
 | nil => intro b hb; simp at hb
 | cons c r ih =>
  intro b hb
  simp only [runLen] at hb
  split at hb
  ·rename_i hc
   rw [List.take_succ_cons, List.mem_cons] at hb
   rcases hb with rfl | hb
   ·exact hc
   ·exact ih b hb
  ·simp at hb
theorem dig_mem (l : List UInt8) : ∀ b ∈ l.take (runLen (fun n => (n : Int) == 5) l), 48 ≤ b.toNat ∧ b.toNat ≤ 57 := by
 intro b hb
 have h := runLen_mem (fun n => (n : Int) == 5) l b hb
 simp only [beq_iff_eq] at h
 exact (cls_5 b).1 (by omega)
theorem atoi_ok (s : ByteArray) (hmax : s.size ≤ 9223372036854775806) (v : Int) (h : Lib.atoiAll s.data.toList = .ok v) (w : World) :
  Calls Tryz.prog 157 #[.string s] w fun e w' => e = .returned (.tuple #[.int .i64 v, .nilIface]) ∧ Below w.heap.size w w' :=
 (Any.strconv_Atoi_ok Tryz.laysC172 s hmax v h w).mono fun e w' ⟨h1, h2⟩ => ⟨h1, by
  rcases h2 with rfl | ⟨t, rfl⟩
  ·exact Below.refl _ _
  ·exact Lib.bytesWorld_below _ _ _⟩
def RangeErr (s : ByteArray) (w : World) (e : Ending) (w' : World) : Prop := ∃ N, e = .returned (.tuple #[.int .i64 (Lib.atoiSat s.data.toList), .iface 198 (.pointer (some ⟨N, 0, none⟩))]) ∧ Below w.heap.size w w'
theorem atoi_range (s : ByteArray) (hlim : s.size ≤ 281474976710656) (h : Lib.atoiAll s.data.toList = .range) (ev : Value) (w : World) (hv : w.cell? ⟨8, 0, none⟩ = some ev) (hev : ev = .nilIface ∨ ∃ te pe, ev = .iface te pe) :
  Calls Tryz.prog 157 #[.string s] w (RangeErr s w) :=
 (Any.strconv_Atoi_range Tryz.laysC172 s hlim h ev w hv hev).mono fun e w' ⟨N, h1, _, _, h4⟩ => ⟨N, h1, h4⟩
def LaidW (w : World) : Prop := Tab w ∧ (∃ te pe, w.cell? ⟨7, 0, none⟩ = some (.iface te pe)) ∧ (∃ te pe, w.cell? ⟨8, 0, none⟩ = some (.iface te pe))
theorem cell_alloc {w : World} {a : Addr} {v : Value} (h : w.cell? a = some v) (o : Obj) : (w.alloc o).cell? a = some v := by
 rw [World.cell?_alloc_lt w o _ (World.block_lt_of_cell? w _ h)]; exact h
theorem LaidW.alloc {w : World} (h : LaidW w) (o : Obj) : LaidW (w.alloc o) := by
 obtain ⟨h1, ⟨t2, p2, h2⟩, ⟨t3, p3, h3⟩⟩ := h
 exact ⟨h1.alloc o, ⟨t2, p2, cell_alloc h2 o⟩, ⟨t3, p3, cell_alloc h3 o⟩⟩
theorem LaidW.below {B : Nat} {w w' : World} (h : LaidW w) (hb : Below B w w') (hB : 8 < B) : LaidW w' := by
 obtain ⟨h1, ⟨t2, p2, h2⟩, ⟨t3, p3, h3⟩⟩ := h
 exact ⟨h1.below hb (by omega), ⟨t2, p2, by rw [hb.cell (by show 7 < B; omega)]; exact h2⟩, ⟨t3, p3, by rw [hb.cell (by show 8 < B; omega)]; exact h3⟩⟩
theorem sub_bytes (s : ByteArray) (a n : Nat) : (s.extract a (a + n)).data.toList = (s.data.toList.drop a).take n := by
 rw [Lib.extract_data, Nat.add_sub_cancel_left]
theorem digits_of (s : ByteArray) (at0 n : Nat) (hn : runLen (fun n => (n : Int) == 5) (s.data.toList.drop at0) = n) : ∀ b ∈ (s.extract at0 (at0 + n)).data.toList, 48 ≤ b.toNat ∧ b.toNat ≤ 57 := by
 rw [sub_bytes, ← hn]
 exact dig_mem _
theorem set4 {B b : Nat} {a w : World} {v0 v1 v2 v3 : Value} (h : Below B a w) (hB : B ≤ b) : Below B a ((((w.setCell ⟨b, 0, none⟩ v0).setCell ⟨b, 1, none⟩ v1).setCell ⟨b, 2, none⟩ v2).setCell ⟨b, 3, none⟩ v3) :=
 (((h.setCell (p := ⟨b, 0, none⟩) hB _).setCell (p := ⟨b, 1, none⟩) hB _).setCell (p := ⟨b, 2, none⟩) hB _).setCell (p := ⟨b, 3, none⟩) hB _
theorem bcell {W w1 : World} (hb : Below W.heap.size W w1) : (∀ b o, b < W.heap.size → w1.cell? ⟨b, o, none⟩ = W.cell? ⟨b, o, none⟩) ∧ (∀ b o, b < W.heap.size → w1.frozen? ⟨b, o, none⟩ = W.frozen? ⟨b, o, none⟩) :=
 ⟨fun b o h => hb.cell (p := ⟨b, o, none⟩) h, fun b o h => hb.frozen (p := ⟨b, o, none⟩) h⟩
theorem readNumber_ok (s : ByteArray) (at0 n v : Nat) (w : World) (hL : LaidW w) (hlt : at0 < s.size) (hat : at0 + n ≤ s.size) (hs : s.size ≤ 10000) (hn : Hid (runLen (fun n => (n : Int) == 5) (s.data.toList.drop at0) = n)) (h : n = 1 ∨ (1 < n ∧ (((s[at0]'hlt).toNat : Int) == 48) = false))
  (hv : Hid (Lib.atoiAll (s.extract at0 (at0 + n)).data.toList = .ok (v : Int))) (hv2 : v ≤ 1000000000) :
  Calls Tryz.prog 147 #[.string s, .int .i64 at0] w fun e w' => e = .returned (.tuple #[.agg #[.int .i64 2, .string ⟨#[]⟩, .int .i64 v, .int .i64 at0], .int .i64 ((at0 + n : Nat) : Int), .int .i64 0]) ∧ Below w.heap.size w w' := by
 have hsl := Lib.hid (show s.size ≤ maxLen by unfold maxLen; omega)
 have hsn := slice_ok s at0 n hat
 have hz : (s.extract at0 (at0 + n)).size ≤ s.size := by rw [ByteArray.size_extract]; omega
 have HZ := Lib.hid hz
 clear hz
 rcases h with h | ⟨h, h48⟩
 all_goals try subst h
 all_goals
  go_enter Tryz.func147, Tryz.ntmps147
  go_wp2_with fail
  refine (end_digit _ _ _ (hL.1.alloc _) (by omega) hsl.out).mono ?_
  rw [hn.out]
  rintro e w' ⟨rfl, rfl⟩
  go_wp2_with fail
  refine (atoi_ok _ (by have := HZ.out; omega) _ hv.out _).mono ?_
  rintro e w' ⟨rfl, hb⟩
  obtain ⟨hc, hf⟩ := bcell hb
  have hz : w.heap.size + 1 ≤ w'.heap.size := by have := hb.size; simpa using this
  go_wp2
  exact bodyPost_ret (v := (.tuple #[.agg #[.int .i64 2, .string ⟨#[]⟩, .int .i64 v, .int .i64 at0], .int .i64 ((at0 + _ : Nat) : Int), .int .i64 0])) (by simp [results, Tryz.results147, go_sem, hc, hz]) rfl ⟨rfl, set4 (((Below.refl _ _).alloc (Nat.le_refl _) _).trans (hb.mono (by simp))) (Nat.le_refl _)⟩
theorem readNumber_big (s : ByteArray) (at0 n v : Nat) (w : World) (hL : LaidW w) (hlt : at0 < s.size) (hat : at0 + n ≤ s.size) (hs : s.size ≤ 10000) (hn : Hid (runLen (fun n => (n : Int) == 5) (s.data.toList.drop at0) = n)) (h : n = 1 ∨ (1 < n ∧ (((s[at0]'hlt).toNat : Int) == 48) = false))
  (hv : Hid (Lib.atoiAll (s.extract at0 (at0 + n)).data.toList = .ok (v : Int))) (hv2 : 1000000000 < v) :
  Calls Tryz.prog 147 #[.string s, .int .i64 at0] w fun e w' => e = .returned (.tuple #[.agg #[.int .i64 0, .string ⟨#[]⟩, .int .i64 0, .int .i64 0], .int .i64 0, .int .i64 3]) ∧ Below w.heap.size w w' := by
 have hsl := Lib.hid (show s.size ≤ maxLen by unfold maxLen; omega)
 have hsn := slice_ok s at0 n hat
 have hz : (s.extract at0 (at0 + n)).size ≤ s.size := by rw [ByteArray.size_extract]; omega
 have HZ := Lib.hid hz
 clear hz
 rcases h with h | ⟨h, h48⟩
 all_goals try subst h
 all_goals
  go_enter Tryz.func147, Tryz.ntmps147
  go_wp2_with fail
  refine (end_digit _ _ _ (hL.1.alloc _) (by omega) hsl.out).mono ?_
  rw [hn.out]
  rintro e w' ⟨rfl, rfl⟩
  go_wp2_with fail
  refine (atoi_ok _ (by have := HZ.out; omega) _ hv.out _).mono ?_
  rintro e w' ⟨rfl, hb⟩
  obtain ⟨hc, hf⟩ := bcell hb
  have hz : w.heap.size + 1 ≤ w'.heap.size := by have := hb.size; simpa using this
  go_wp2
  exact bodyPost_ret (v := (.tuple #[.agg #[.int .i64 0, .string ⟨#[]⟩, .int .i64 0, .int .i64 0], .int .i64 0, .int .i64 3])) (by simp [results, Tryz.results147, go_sem, hc, hz]) rfl ⟨rfl, set4 (((Below.refl _ _).alloc (Nat.le_refl _) _).trans (hb.mono (by simp))) (Nat.le_refl _)⟩
theorem readNumber_range (s : ByteArray) (at0 n : Nat) (w : World) (hL : LaidW w) (hlt : at0 < s.size) (hat : at0 + n ≤ s.size) (hs : s.size ≤ 10000) (hn : Hid (runLen (fun n => (n : Int) == 5) (s.data.toList.drop at0) = n)) (h : n = 1 ∨ (1 < n ∧ (((s[at0]'hlt).toNat : Int) == 48) = false))
  (hv : Hid (Lib.atoiAll (s.extract at0 (at0 + n)).data.toList = .range)) :
  Calls Tryz.prog 147 #[.string s, .int .i64 at0] w fun e w' => e = .returned (.tuple #[.agg #[.int .i64 0, .string ⟨#[]⟩, .int .i64 0, .int .i64 0], .int .i64 0, .int .i64 3]) ∧ Below w.heap.size w w' := by
 obtain ⟨te, pe, hev⟩ := hL.2.2
 have hsl := Lib.hid (show s.size ≤ maxLen by unfold maxLen; omega)
 have hsn := slice_ok s at0 n hat
 have hz : (s.extract at0 (at0 + n)).size ≤ s.size := by rw [ByteArray.size_extract]; omega
 have HZ := Lib.hid hz
 clear hz
 rcases h with h | ⟨h, h48⟩
 all_goals try subst h
 all_goals
  go_enter Tryz.func147, Tryz.ntmps147
  go_wp2_with fail
  refine (end_digit _ _ _ (hL.1.alloc _) (by omega) hsl.out).mono ?_
  rw [hn.out]
  rintro e w' ⟨rfl, rfl⟩
  go_wp2_with fail
  refine (atoi_range _ (by have := HZ.out; omega) hv.out _ _ (cell_alloc hev _) (Or.inr ⟨_, _, rfl⟩)).mono ?_
  rintro e w' ⟨N, rfl, hb⟩
  obtain ⟨hc, hf⟩ := bcell hb
  have hz : w.heap.size + 1 ≤ w'.heap.size := by have := hb.size; simpa using this
  go_wp2
  exact bodyPost_ret (v := (.tuple #[.agg #[.int .i64 0, .string ⟨#[]⟩, .int .i64 0, .int .i64 0], .int .i64 0, .int .i64 3])) (by simp [results, Tryz.results147, go_sem, hc, hz]) rfl ⟨rfl, set4 (((Below.refl _ _).alloc (Nat.le_refl _) _).trans (hb.mono (by simp))) (Nat.le_refl _)⟩
end Go.Proofs.YtljknappbnoikaaGreatDoor
namespace Go.Proofs.YtljknappbnoikaaGreatDoor
open Go.RowKit
theorem slice_ok1 (s : ByteArray) (a : Nat) (h : a + 1 ≤ s.size) (wx : World) :
  (Instr.slice 9 (.string s) (some (.int .i64 (a : Int))) (some (.int .i64 ((a : Int) + 1))) none).run Tryz.prog wx = .ok (.string (s.extract a (a + 1))) wx := by
 have h2 := run_slice_string (P := Tryz.prog) wx 9 s .i64 .i64 (a : Int) ((a : Int) + 1) Tryz.underlying9 (by omega) (by omega) (by omega)
 rw [h2, show ((a : Int)).toNat = a from by omega, show ((a : Int) + 1).toNat = a + 1 from by omega]
theorem slice_ok2 (s : ByteArray) (a : Nat) (h : a + 2 ≤ s.size) (wx : World) :
  (Instr.slice 9 (.string s) (some (.int .i64 (a : Int))) (some (.int .i64 ((a : Int) + 1 + 1))) none).run Tryz.prog wx = .ok (.string (s.extract a (a + 2))) wx := by
 have h2 := run_slice_string (P := Tryz.prog) wx 9 s .i64 .i64 (a : Int) ((a : Int) + 1 + 1) Tryz.underlying9 (by omega) (by omega) (by omega)
 rw [h2, show ((a : Int)).toNat = a from by omega, show ((a : Int) + 1 + 1).toNat = a + 2 from by omega]
theorem readPunct_two (s : ByteArray) (at0 c : Nat) (w : World) (hL : LaidW w) (hlt0 : at0 < s.size) (hs : s.size ≤ 10000) (hc : Hid (cls (s[at0]'hlt0).toNat = c)) (hlt : at0 + 1 < s.size) (h : c = 8 ∨ c = 9) (h61 : (((s[at0 + 1]'hlt).toNat : Int) == 61) = true) :
  Calls Tryz.prog 148 #[.string s, .int .i64 at0] w fun e w' => e = .returned (.tuple #[.agg #[.int .i64 3, .string (s.extract at0 (at0 + 2)), .int .i64 0, .int .i64 at0], .int .i64 ((at0 + 2 : Nat) : Int), .int .i64 0]) ∧ Below w.heap.size w w' := by
 have hsn := slice_ok2 s at0 (by omega)
 have hb := byte_lt (s[at0]'hlt0)
 rcases h with h | h
 all_goals
  subst h
  go_enter Tryz.func148, Tryz.ntmps148
  go_wp2_with fail
  refine (classOf_any _ _ (hL.1.alloc _) hb).mono ?_
  rw [hc.out]
  rintro e w' ⟨rfl, rfl⟩
  go_wp2
  exact bodyPost_ret (v := (.tuple #[.agg #[.int .i64 3, .string (s.extract at0 (at0 + 2)), .int .i64 0, .int .i64 at0], .int .i64 ((at0 + 2 : Nat) : Int), .int .i64 0])) (by simp [results, Tryz.results148, go_sem]; try omega) rfl ⟨rfl, ((Below.refl _ _).alloc (Nat.le_refl _) _)⟩
theorem readPunct_single (s : ByteArray) (at0 c : Nat) (w : World) (hL : LaidW w) (hlt0 : at0 < s.size) (hs : s.size ≤ 10000) (hc : Hid (cls (s[at0]'hlt0).toNat = c)) (h : c = 7) :
  Calls Tryz.prog 148 #[.string s, .int .i64 at0] w fun e w' => e = .returned (.tuple #[.agg #[.int .i64 3, .string (s.extract at0 (at0 + 1)), .int .i64 0, .int .i64 at0], .int .i64 ((at0 + 1 : Nat) : Int), .int .i64 0]) ∧ Below w.heap.size w w' := by
 have hsn := slice_ok1 s at0 (by omega)
 have hb := byte_lt (s[at0]'hlt0)
 all_goals
  subst h
  go_enter Tryz.func148, Tryz.ntmps148
  go_wp2_with fail
  refine (classOf_any _ _ (hL.1.alloc _) hb).mono ?_
  rw [hc.out]
  rintro e w' ⟨rfl, rfl⟩
  go_wp2
  exact bodyPost_ret (v := (.tuple #[.agg #[.int .i64 3, .string (s.extract at0 (at0 + 1)), .int .i64 0, .int .i64 at0], .int .i64 ((at0 + 1 : Nat) : Int), .int .i64 0])) (by simp [results, Tryz.results148, go_sem]; try omega) rfl ⟨rfl, ((Below.refl _ _).alloc (Nat.le_refl _) _)⟩
theorem readPunct_rel_end (s : ByteArray) (at0 c : Nat) (w : World) (hL : LaidW w) (hlt0 : at0 < s.size) (hs : s.size ≤ 10000) (hc : Hid (cls (s[at0]'hlt0).toNat = c)) (h : c = 8) (hlt : ¬ at0 + 1 < s.size) :
  Calls Tryz.prog 148 #[.string s, .int .i64 at0] w fun e w' => e = .returned (.tuple #[.agg #[.int .i64 3, .string (s.extract at0 (at0 + 1)), .int .i64 0, .int .i64 at0], .int .i64 ((at0 + 1 : Nat) : Int), .int .i64 0]) ∧ Below w.heap.size w w' := by
 have hsn := slice_ok1 s at0 (by omega)
 have hb := byte_lt (s[at0]'hlt0)
 have hlt2 : decide ((at0 : Int) + 1 < (s.size : Int)) = false := by simp; omega
 all_goals
  subst h
  go_enter Tryz.func148, Tryz.ntmps148
  go_wp2_with fail
  refine (classOf_any _ _ (hL.1.alloc _) hb).mono ?_
  rw [hc.out]
  rintro e w' ⟨rfl, rfl⟩
  go_wp2
  exact bodyPost_ret (v := (.tuple #[.agg #[.int .i64 3, .string (s.extract at0 (at0 + 1)), .int .i64 0, .int .i64 at0], .int .i64 ((at0 + 1 : Nat) : Int), .int .i64 0])) (by simp [results, Tryz.results148, go_sem]; try omega) rfl ⟨rfl, ((Below.refl _ _).alloc (Nat.le_refl _) _)⟩
theorem readPunct_rel_other (s : ByteArray) (at0 c : Nat) (w : World) (hL : LaidW w) (hlt0 : at0 < s.size) (hs : s.size ≤ 10000) (hc : Hid (cls (s[at0]'hlt0).toNat = c)) (h : c = 8) (hlt : at0 + 1 < s.size) (h61 : (((s[at0 + 1]'hlt).toNat : Int) == 61) = false) :
  Calls Tryz.prog 148 #[.string s, .int .i64 at0] w fun e w' => e = .returned (.tuple #[.agg #[.int .i64 3, .string (s.extract at0 (at0 + 1)), .int .i64 0, .int .i64 at0], .int .i64 ((at0 + 1 : Nat) : Int), .int .i64 0]) ∧ Below w.heap.size w w' := by
 have hsn := slice_ok1 s at0 (by omega)
 have hb := byte_lt (s[at0]'hlt0)
 all_goals
  subst h
  go_enter Tryz.func148, Tryz.ntmps148
  go_wp2_with fail
  refine (classOf_any _ _ (hL.1.alloc _) hb).mono ?_
  rw [hc.out]
  rintro e w' ⟨rfl, rfl⟩
  go_wp2
  exact bodyPost_ret (v := (.tuple #[.agg #[.int .i64 3, .string (s.extract at0 (at0 + 1)), .int .i64 0, .int .i64 at0], .int .i64 ((at0 + 1 : Nat) : Int), .int .i64 0])) (by simp [results, Tryz.results148, go_sem]; try omega) rfl ⟨rfl, ((Below.refl _ _).alloc (Nat.le_refl _) _)⟩
theorem readPunct_bang_end (s : ByteArray) (at0 c : Nat) (w : World) (hL : LaidW w) (hlt0 : at0 < s.size) (hs : s.size ≤ 10000) (hc : Hid (cls (s[at0]'hlt0).toNat = c)) (h : c = 9) (hlt : ¬ at0 + 1 < s.size) :
  Calls Tryz.prog 148 #[.string s, .int .i64 at0] w fun e w' => e = .returned (.tuple #[.agg #[.int .i64 0, .string ⟨#[]⟩, .int .i64 0, .int .i64 0], .int .i64 0, .int .i64 7]) ∧ Below w.heap.size w w' := by
 have hb := byte_lt (s[at0]'hlt0)
 have hlt2 : decide ((at0 : Int) + 1 < (s.size : Int)) = false := by simp; omega
 all_goals
  subst h
  go_enter Tryz.func148, Tryz.ntmps148
  go_wp2_with fail
  refine (classOf_any _ _ (hL.1.alloc _) hb).mono ?_
  rw [hc.out]
  rintro e w' ⟨rfl, rfl⟩
  go_wp2
  exact bodyPost_ret (v := (.tuple #[.agg #[.int .i64 0, .string ⟨#[]⟩, .int .i64 0, .int .i64 0], .int .i64 0, .int .i64 7])) (by simp [results, Tryz.results148, go_sem]; try omega) rfl ⟨rfl, ((Below.refl _ _).alloc (Nat.le_refl _) _)⟩
theorem readPunct_bang_other (s : ByteArray) (at0 c : Nat) (w : World) (hL : LaidW w) (hlt0 : at0 < s.size) (hs : s.size ≤ 10000) (hc : Hid (cls (s[at0]'hlt0).toNat = c)) (h : c = 9) (hlt : at0 + 1 < s.size) (h61 : (((s[at0 + 1]'hlt).toNat : Int) == 61) = false) :
  Calls Tryz.prog 148 #[.string s, .int .i64 at0] w fun e w' => e = .returned (.tuple #[.agg #[.int .i64 0, .string ⟨#[]⟩, .int .i64 0, .int .i64 0], .int .i64 0, .int .i64 7]) ∧ Below w.heap.size w w' := by
 have hb := byte_lt (s[at0]'hlt0)
 all_goals
  subst h
  go_enter Tryz.func148, Tryz.ntmps148
  go_wp2_with fail
  refine (classOf_any _ _ (hL.1.alloc _) hb).mono ?_
  rw [hc.out]
  rintro e w' ⟨rfl, rfl⟩
  go_wp2
  exact bodyPost_ret (v := (.tuple #[.agg #[.int .i64 0, .string ⟨#[]⟩, .int .i64 0, .int .i64 0], .int .i64 0, .int .i64 7])) (by simp [results, Tryz.results148, go_sem]; try omega) rfl ⟨rfl, ((Below.refl _ _).alloc (Nat.le_refl _) _)⟩
theorem read_name (s : ByteArray) (at0 c : Nat) (k : Int) (x : ByteArray) (m a : Int) (n1 n2 : Int) (w : World) (hL : LaidW w) (hlt0 : at0 < s.size) (hs : s.size ≤ 10000) (hc : Hid (cls (s[at0]'hlt0).toNat = c)) (h : c = 4)
  (hR : Hid (∀ w : World, LaidW w → Calls Tryz.prog 146 #[.string s, .int .i64 at0] w fun e w' => e = .returned (.tuple #[.agg #[.int .i64 k, .string x, .int .i64 m, .int .i64 a], .int .i64 n1, .int .i64 n2]) ∧ Below w.heap.size w w')) :
  Calls Tryz.prog 133 #[.string s, .int .i64 at0] w fun e w' => e = .returned (.tuple #[.agg #[.int .i64 k, .string x, .int .i64 m, .int .i64 a], .int .i64 n1, .int .i64 n2]) ∧ Below w.heap.size w w' := by
 have hb := byte_lt (s[at0]'hlt0)
 all_goals
  subst h
  go_enter Tryz.func133, Tryz.ntmps133
  go_wp2_with fail
  refine (classOf_any _ _ (hL.1.alloc _) hb).mono ?_
  rw [hc.out]
  rintro e w' ⟨rfl, rfl⟩
  go_wp2_with fail
  refine (hR.out _ (hL.alloc _)).mono ?_
  rintro e w' ⟨rfl, hb2⟩
  obtain ⟨hcc, hff⟩ := bcell hb2
  have hz : w.heap.size + 1 ≤ w'.heap.size := by have := hb2.size; simpa using this
  go_wp2
  exact bodyPost_ret (v := (.tuple #[.agg #[.int .i64 k, .string x, .int .i64 m, .int .i64 a], .int .i64 n1, .int .i64 n2])) (by simp [results, Tryz.results133, go_sem, hcc, hz]) rfl ⟨rfl, set4 (((Below.refl _ _).alloc (Nat.le_refl _) _).trans (hb2.mono (by simp))) (Nat.le_refl _)⟩
theorem read_number (s : ByteArray) (at0 c : Nat) (k : Int) (x : ByteArray) (m a : Int) (n1 n2 : Int) (w : World) (hL : LaidW w) (hlt0 : at0 < s.size) (hs : s.size ≤ 10000) (hc : Hid (cls (s[at0]'hlt0).toNat = c)) (h : c = 5)
  (hR : Hid (∀ w : World, LaidW w → Calls Tryz.prog 147 #[.string s, .int .i64 at0] w fun e w' => e = .returned (.tuple #[.agg #[.int .i64 k, .string x, .int .i64 m, .int .i64 a], .int .i64 n1, .int .i64 n2]) ∧ Below w.heap.size w w')) :
  Calls Tryz.prog 133 #[.string s, .int .i64 at0] w fun e w' => e = .returned (.tuple #[.agg #[.int .i64 k, .string x, .int .i64 m, .int .i64 a], .int .i64 n1, .int .i64 n2]) ∧ Below w.heap.size w w' := by
 have hb := byte_lt (s[at0]'hlt0)
 all_goals
  subst h
  go_enter Tryz.func133, Tryz.ntmps133
  go_wp2_with fail
  refine (classOf_any _ _ (hL.1.alloc _) hb).mono ?_
  rw [hc.out]
  rintro e w' ⟨rfl, rfl⟩
  go_wp2_with fail
  refine (hR.out _ (hL.alloc _)).mono ?_
  rintro e w' ⟨rfl, hb2⟩
  obtain ⟨hcc, hff⟩ := bcell hb2
  have hz : w.heap.size + 1 ≤ w'.heap.size := by have := hb2.size; simpa using this
  go_wp2
  exact bodyPost_ret (v := (.tuple #[.agg #[.int .i64 k, .string x, .int .i64 m, .int .i64 a], .int .i64 n1, .int .i64 n2])) (by simp [results, Tryz.results133, go_sem, hcc, hz]) rfl ⟨rfl, set4 (((Below.refl _ _).alloc (Nat.le_refl _) _).trans (hb2.mono (by simp))) (Nat.le_refl _)⟩
theorem read_punct (s : ByteArray) (at0 c : Nat) (k : Int) (x : ByteArray) (m a : Int) (n1 n2 : Int) (w : World) (hL : LaidW w) (hlt0 : at0 < s.size) (hs : s.size ≤ 10000) (hc : Hid (cls (s[at0]'hlt0).toNat = c)) (h : c = 7 ∨ c = 8 ∨ c = 9)
  (hR : Hid (∀ w : World, LaidW w → Calls Tryz.prog 148 #[.string s, .int .i64 at0] w fun e w' => e = .returned (.tuple #[.agg #[.int .i64 k, .string x, .int .i64 m, .int .i64 a], .int .i64 n1, .int .i64 n2]) ∧ Below w.heap.size w w')) :
  Calls Tryz.prog 133 #[.string s, .int .i64 at0] w fun e w' => e = .returned (.tuple #[.agg #[.int .i64 k, .string x, .int .i64 m, .int .i64 a], .int .i64 n1, .int .i64 n2]) ∧ Below w.heap.size w w' := by
 have hb := byte_lt (s[at0]'hlt0)
 rcases h with h | h | h
 all_goals
  subst h
  go_enter Tryz.func133, Tryz.ntmps133
  go_wp2_with fail
  refine (classOf_any _ _ (hL.1.alloc _) hb).mono ?_
  rw [hc.out]
  rintro e w' ⟨rfl, rfl⟩
  go_wp2_with fail
  refine (hR.out _ (hL.alloc _)).mono ?_
  rintro e w' ⟨rfl, hb2⟩
  obtain ⟨hcc, hff⟩ := bcell hb2
  have hz : w.heap.size + 1 ≤ w'.heap.size := by have := hb2.size; simpa using this
  go_wp2
  exact bodyPost_ret (v := (.tuple #[.agg #[.int .i64 k, .string x, .int .i64 m, .int .i64 a], .int .i64 n1, .int .i64 n2])) (by simp [results, Tryz.results133, go_sem, hcc, hz]) rfl ⟨rfl, set4 (((Below.refl _ _).alloc (Nat.le_refl _) _).trans (hb2.mono (by simp))) (Nat.le_refl _)⟩
theorem read_none (s : ByteArray) (at0 : Nat) (w : World) (hL : LaidW w) (hlt0 : at0 < s.size) (hs : s.size ≤ 10000)
  (h : (((cls (s[at0]'hlt0).toNat : Int) == 4) = false ∧ ((cls (s[at0]'hlt0).toNat : Int) == 5) = false) ∧ ((cls (s[at0]'hlt0).toNat : Int) == 7) = false ∧ ((cls (s[at0]'hlt0).toNat : Int) == 8) = false ∧ ((cls (s[at0]'hlt0).toNat : Int) == 9) = false) :
  Calls Tryz.prog 133 #[.string s, .int .i64 at0] w fun e w' => e = .returned (.tuple #[.agg #[.int .i64 0, .string ⟨#[]⟩, .int .i64 0, .int .i64 0], .int .i64 0, .int .i64 7]) ∧ Below w.heap.size w w' := by
 have hb := byte_lt (s[at0]'hlt0)
 obtain ⟨⟨h4, h5⟩, h7, h8, h9⟩ := h
 go_enter Tryz.func133, Tryz.ntmps133
 go_wp2_with fail
 refine (classOf_any _ _ (hL.1.alloc _) hb).mono ?_
 rintro e w' ⟨rfl, rfl⟩
 go_wp2
 exact bodyPost_ret (v := (.tuple #[.agg #[.int .i64 0, .string ⟨#[]⟩, .int .i64 0, .int .i64 0], .int .i64 0, .int .i64 7])) (by simp [results, Tryz.results133, go_sem]) rfl ⟨rfl, ((Below.refl _ _).alloc (Nat.le_refl _) _)⟩
end Go.Proofs.YtljknappbnoikaaGreatDoor
namespace Go.Proofs.YtljknappbnoikaaGreatDoor
open Go.RowKit
structure Tk where
 k : Int
 x : ByteArray
 m : Int
 a : Int
def Tk.cells (t : Tk) : List Value := [.int .i64 t.k, .string t.x, .int .i64 t.m, .int .i64 t.a]
def Tk.zero : Tk := ⟨0, ⟨#[]⟩, 0, 0⟩
def tokLen (l : List UInt8) : Nat :=
 match l with
 | [] => 0
 | b :: r =>
  if cls b.toNat = 4 then runLen nameB l
  else if cls b.toNat = 5 then runLen (fun n => (n : Int) == 5) l
  else if cls b.toNat = 7 then 1
  else if cls b.toNat = 8 then (if r.head? = some 61 then 2 else 1)
  else if cls b.toNat = 9 then (if r.head? = some 61 then 2 else 0)
  else 0
def tokErr (l : List UInt8) : Int :=
 match l with
 | [] => 0
 | b :: r =>
  if cls b.toNat = 4 then (if 12 < l.length then 3 else 0)
  else if cls b.toNat = 5 then (if 1 < l.length ∧ b.toNat = 48 then 7 else if 1000000000 < decVal 0 l then 3 else 0)
  else 0
def tokOf (x : ByteArray) (at0 : Nat) : Tk :=
 match x.data.toList with
 | [] => ⟨3, x, 0, at0⟩
 | b :: r =>
  if cls b.toNat = 4 then ⟨1, x, 0, at0⟩
  else if cls b.toNat = 5 then ⟨2, ⟨#[]⟩, decVal 0 (b :: r), at0⟩
  else ⟨3, x, 0, at0⟩
def rd (s : ByteArray) (at0 : Nat) : Tk × Nat × Int :=
 if tokLen (s.data.toList.drop at0) = 0 then (Tk.zero, 0, 7)
 else if tokErr ((s.data.toList.drop at0).take (tokLen (s.data.toList.drop at0))) ≠ 0 then (Tk.zero, 0, tokErr ((s.data.toList.drop at0).take (tokLen (s.data.toList.drop at0))))
 else (tokOf (s.extract at0 (at0 + tokLen (s.data.toList.drop at0))) at0, at0 + tokLen (s.data.toList.drop at0), 0)
theorem tokLen_le (l : List UInt8) : tokLen l ≤ l.length := by
 match l with
 | [] => exact Nat.le_refl _
 | b :: r =>
  have h1 := runLen_le nameB (b :: r)
  have h2 := runLen_le (fun n => (n : Int) == 5) (b :: r)
  simp only [tokLen]
  simp only [List.length_cons] at h1 h2 ⊢
  repeat' split
  all_goals first | omega | (rename_i hh; cases r <;> simp at hh ⊢)
def zeroV : Value := .agg #[.int .i64 0, .string ⟨#[]⟩, .int .i64 0, .int .i64 0]
theorem head_of (s : ByteArray) (at0 : Nat) (hlt : at0 < s.size) : s.data.toList.drop at0 = s[at0]'hlt :: s.data.toList.drop (at0 + 1) := by
 rw [List.drop_eq_getElem_cons (by simpa using hlt)]; rfl
theorem head2_of (s : ByteArray) (at0 : Nat) (hlt : at0 < s.size) : (s.data.toList.drop at0).head? = some (s[at0]'hlt) := by
 rw [head_of s at0 hlt]; rfl
def rdV (q : Tk × Nat × Int) : Value := .tuple #[.agg #[.int .i64 q.1.k, .string q.1.x, .int .i64 q.1.m, .int .i64 q.1.a], .int .i64 (q.2.1 : Int), .int .i64 q.2.2]
theorem readNumber_zero (s : ByteArray) (at0 n : Nat) (w : World) (hL : LaidW w) (hlt : at0 < s.size) (hat : at0 + n ≤ s.size) (hs : s.size ≤ 10000) (hn : Hid (runLen (fun n => (n : Int) == 5) (s.data.toList.drop at0) = n)) (h : 1 < n) (h48 : (((s[at0]'hlt).toNat : Int) == 48) = true) :
  Calls Tryz.prog 147 #[.string s, .int .i64 at0] w fun e w' => e = .returned (.tuple #[.agg #[.int .i64 0, .string ⟨#[]⟩, .int .i64 0, .int .i64 0], .int .i64 0, .int .i64 7]) ∧ Below w.heap.size w w' := by
 have hsl := Lib.hid (show s.size ≤ maxLen by unfold maxLen; omega)
 go_enter Tryz.func147, Tryz.ntmps147
 go_wp2_with fail
 refine (end_digit _ _ _ (hL.1.alloc _) (by omega) hsl.out).mono ?_
 rw [hn.out]
 rintro e w' ⟨rfl, rfl⟩
 go_wp2
 exact bodyPost_ret (v := .tuple #[.agg #[.int .i64 0, .string ⟨#[]⟩, .int .i64 0, .int .i64 0], .int .i64 0, .int .i64 7]) (by simp [results, Tryz.results147, go_sem]) rfl ⟨rfl, ((Below.refl _ _).alloc (Nat.le_refl _) _)⟩
theorem read_any (s : ByteArray) (at0 : Nat) (w : World) (hL : LaidW w) (hlt0 : at0 < s.size) (hs : s.size ≤ 10000) :
  Calls Tryz.prog 133 #[.string s, .int .i64 at0] w fun e w' => e = .returned (rdV (rd s at0)) ∧ Below w.heap.size w w' := by
 have hh := head_of s at0 hlt0
 have hmx : s.size ≤ maxLen := by unfold maxLen; omega
 have hle := tokLen_le (s.data.toList.drop at0)
 have hle2 : tokLen (s.data.toList.drop at0) ≤ s.size - at0 := by simpa using hle
 clear hle
 by_cases h4 : cls (s[at0]'hlt0).toNat = 4
 ·have hlen : tokLen (s.data.toList.drop at0) = runLen nameB (s.data.toList.drop at0) := by rw [hh]; simp only [tokLen]; rw [if_pos h4]
  have hpos : 0 < runLen nameB (s.data.toList.drop at0) := by rw [runLen_yes nameB s.data.toList at0 (by simpa using hlt0) (by show nameB (cls (s[at0]'hlt0).toNat) = true; rw [h4]; rfl)]; omega
  have htk : (s.data.toList.drop at0).take (runLen nameB (s.data.toList.drop at0)) = (s[at0]'hlt0) :: (s.data.toList.drop (at0 + 1)).take (runLen nameB (s.data.toList.drop at0) - 1) := by
   obtain ⟨m, hm⟩ : ∃ m, runLen nameB (s.data.toList.drop at0) = m + 1 := ⟨_, (Nat.succ_pred_eq_of_pos hpos).symm⟩
   rw [hm]
   conv => lhs; rw [hh]
   rw [List.take_succ_cons]; rfl
  rw [hlen] at hle2
  have hnl : ((s.data.toList.drop at0).take (runLen nameB (s.data.toList.drop at0))).length = runLen nameB (s.data.toList.drop at0) := by
   rw [List.length_take]; exact Nat.min_eq_left (runLen_le _ _)
  by_cases hn : 12 < runLen nameB (s.data.toList.drop at0)
  ·have hr : rd s at0 = (Tk.zero, 0, 3) := by
    have he : tokErr ((s.data.toList.drop at0).take (runLen nameB (s.data.toList.drop at0))) = 3 := by
     rw [← hnl] at hn
     rw [htk] at hn ⊢
     simp only [tokErr]
     rw [if_pos h4, if_pos hn]
    unfold rd
    rw [hlen, if_neg (by omega), if_pos (by rw [he]; decide), he]
   rw [hr]
   exact read_name s at0 _ 0 ⟨#[]⟩ 0 0 0 3 w hL hlt0 hs rfl h4 (fun w hL => readName_long s at0 _ w hL.1 (by omega) hmx rfl hn)
  ·have hr : rd s at0 = (⟨1, s.extract at0 (at0 + runLen nameB (s.data.toList.drop at0)), 0, at0⟩, at0 + runLen nameB (s.data.toList.drop at0), 0) := by
    have he : tokErr ((s.data.toList.drop at0).take (runLen nameB (s.data.toList.drop at0))) = 0 := by
     rw [← hnl] at hn
     rw [htk] at hn ⊢
     simp only [tokErr]
     rw [if_pos h4, if_neg hn]
    have ht : tokOf (s.extract at0 (at0 + runLen nameB (s.data.toList.drop at0))) at0 = ⟨1, s.extract at0 (at0 + runLen nameB (s.data.toList.drop at0)), 0, at0⟩ := by
     unfold tokOf
     rw [sub_bytes, htk]
     simp only
     rw [if_pos h4]
    unfold rd
    rw [hlen, if_neg (by omega), if_neg (by rw [he]; decide), ht]
   rw [hr]
   exact read_name s at0 _ 1 (s.extract at0 (at0 + runLen nameB (s.data.toList.drop at0))) 0 at0 _ 0 w hL hlt0 hs rfl h4 (fun w hL => readName_ok s at0 _ w hL.1 (by omega) hmx rfl (by omega))
 by_cases h5 : cls (s[at0]'hlt0).toNat = 5
 ·have hlen : tokLen (s.data.toList.drop at0) = runLen (fun n => (n : Int) == 5) (s.data.toList.drop at0) := by rw [hh]; simp only [tokLen]; rw [if_neg h4, if_pos h5]
  have hpos : 0 < runLen (fun n => (n : Int) == 5) (s.data.toList.drop at0) := by rw [runLen_yes (fun n => (n : Int) == 5) s.data.toList at0 (by simpa using hlt0) (by show ((cls (s[at0]'hlt0).toNat : Int) == 5) = true; rw [h5]; rfl)]; omega
  have htk : (s.data.toList.drop at0).take (runLen (fun n => (n : Int) == 5) (s.data.toList.drop at0)) = (s[at0]'hlt0) :: (s.data.toList.drop (at0 + 1)).take (runLen (fun n => (n : Int) == 5) (s.data.toList.drop at0) - 1) := by
   obtain ⟨m, hm⟩ : ∃ m, runLen (fun n => (n : Int) == 5) (s.data.toList.drop at0) = m + 1 := ⟨_, (Nat.succ_pred_eq_of_pos hpos).symm⟩
   rw [hm]
   conv => lhs; rw [hh]
   rw [List.take_succ_cons]; rfl
  rw [hlen] at hle2
  have hnl : ((s.data.toList.drop at0).take (runLen (fun n => (n : Int) == 5) (s.data.toList.drop at0))).length = runLen (fun n => (n : Int) == 5) (s.data.toList.drop at0) := by
   rw [List.length_take]; exact Nat.min_eq_left (runLen_le _ _)
  have hdig := digits_of s at0 _ rfl
  have hsb := sub_bytes s at0 (runLen (fun n => (n : Int) == 5) (s.data.toList.drop at0))
  have hne : (s.extract at0 (at0 + runLen (fun n => (n : Int) == 5) (s.data.toList.drop at0))).data.toList ≠ [] := by rw [hsb, htk]; simp
  generalize hn : runLen (fun n => (n : Int) == 5) (s.data.toList.drop at0) = n at *
  by_cases hz : 1 < n ∧ (s[at0]'hlt0).toNat = 48
  ·have hr : rd s at0 = (Tk.zero, 0, 7) := by
    have he : tokErr ((s.data.toList.drop at0).take n) = 7 := by
     obtain ⟨hz1, hz2⟩ := hz
     rw [← hnl] at hz1
     rw [htk] at hz1 ⊢
     simp only [tokErr]
     rw [if_neg h4, if_pos h5, if_pos ⟨hz1, hz2⟩]
    unfold rd
    rw [hlen, if_neg (by omega), if_pos (by rw [he]; decide), he]
   rw [hr]
   exact read_number s at0 _ 0 ⟨#[]⟩ 0 0 0 7 w hL hlt0 hs rfl h5 (fun w hL => readNumber_zero s at0 n w hL hlt0 (by omega) hs hn hz.1 (by rw [hz.2]; rfl))
  ·have hcase : n = 1 ∨ (1 < n ∧ (((s[at0]'hlt0).toNat : Int) == 48) = false) := by
    by_cases h1 : n = 1
    ·exact Or.inl h1
    ·exact Or.inr ⟨by omega, by simp; omega⟩
   have hz' : ¬ (1 < ((s.data.toList.drop at0).take n).length ∧ (s[at0]'hlt0).toNat = 48) := by rw [hnl]; exact hz
   by_cases hv : 1000000000 < decVal 0 ((s.data.toList.drop at0).take n)
   ·have hr : rd s at0 = (Tk.zero, 0, 3) := by
     have he : tokErr ((s.data.toList.drop at0).take n) = 3 := by
      rw [htk] at hv hz' ⊢
      simp only [tokErr]
      rw [if_neg h4, if_pos h5, if_neg hz', if_pos hv]
     unfold rd
     rw [hlen, if_neg (by omega), if_pos (by rw [he]; decide), he]
    rw [hr]
    refine read_number s at0 _ 0 ⟨#[]⟩ 0 0 0 3 w hL hlt0 hs rfl h5 (fun w hL => ?_)
    by_cases hb : decVal 0 ((s.data.toList.drop at0).take n) < M63
    ·exact readNumber_big s at0 n _ w hL hlt0 (by omega) hs hn hcase (by rw [← hsb] at hb ⊢; exact atoi_digits_ok _ hne hdig hb) hv
    ·exact readNumber_range s at0 n w hL hlt0 (by omega) hs hn hcase (by rw [← hsb] at hb; exact atoi_digits_range _ hne hdig hb)
   ·have hr : rd s at0 = (⟨2, ⟨#[]⟩, decVal 0 ((s.data.toList.drop at0).take n), at0⟩, at0 + n, 0) := by
     have he : tokErr ((s.data.toList.drop at0).take n) = 0 := by
      rw [htk] at hv hz' ⊢
      simp only [tokErr]
      rw [if_neg h4, if_pos h5, if_neg hz', if_neg hv]
     have ht : tokOf (s.extract at0 (at0 + n)) at0 = ⟨2, ⟨#[]⟩, decVal 0 ((s.data.toList.drop at0).take n), at0⟩ := by
      unfold tokOf
      rw [hsb, htk]
      simp only
      rw [if_neg h4, if_pos h5]
     unfold rd
     rw [hlen, if_neg (by omega), if_neg (by rw [he]; decide), ht]
    rw [hr]
    have hb : decVal 0 ((s.data.toList.drop at0).take n) < M63 := by rw [M63_eq]; omega
    exact read_number s at0 _ 2 ⟨#[]⟩ _ at0 _ 0 w hL hlt0 hs rfl h5 (fun w hL => readNumber_ok s at0 n _ w hL hlt0 (by omega) hs hn hcase (by rw [← hsb] at hb ⊢; exact atoi_digits_ok _ hne hdig hb) (by omega))
 have herr : ∀ m, tokErr ((s.data.toList.drop at0).take m) = 0 := by
  intro m
  cases m with
  | zero => rw [List.take_zero]; rfl
  | succ m => rw [hh, List.take_succ_cons]; simp only [tokErr]; rw [if_neg h4, if_neg h5]
 have htok : ∀ m, tokOf (s.extract at0 (at0 + m)) at0 = ⟨3, s.extract at0 (at0 + m), 0, at0⟩ := by
  intro m
  unfold tokOf
  rw [sub_bytes]
  cases m with
  | zero => rw [List.take_zero]
  | succ m => rw [hh, List.take_succ_cons]; simp only; rw [if_neg h4, if_neg h5]
 have hrd : ∀ m, tokLen (s.data.toList.drop at0) = m → rd s at0 = if m = 0 then (Tk.zero, 0, 7) else (⟨3, s.extract at0 (at0 + m), 0, at0⟩, at0 + m, 0) := by
  intro m hm
  unfold rd
  rw [hm]
  by_cases h0 : m = 0
  ·rw [if_pos h0, if_pos h0]
  ·rw [if_neg h0, if_neg h0, if_neg (by rw [herr]; decide), htok]
 have hnx : ∀ h : at0 + 1 < s.size, (s.data.toList.drop (at0 + 1)).head? = some (s[at0 + 1]'h) := fun h => head2_of s (at0 + 1) h
 have hnn : ¬ at0 + 1 < s.size → (s.data.toList.drop (at0 + 1)).head? = none := fun h => by rw [List.drop_eq_nil_of_le (by simp; omega)]; rfl
 have hb61 : ∀ b : UInt8, ((b.toNat : Int) == 61) = decide (some b = some (61 : UInt8)) := by
  intro b
  rw [Bool.eq_iff_iff]
  simp only [beq_iff_eq, Option.some.injEq, decide_eq_true_eq, ← UInt8.toNat_inj]
  show _ ↔ b.toNat = 61
  omega
 by_cases h7 : cls (s[at0]'hlt0).toNat = 7
 ·have hlen : tokLen (s.data.toList.drop at0) = 1 := by rw [hh]; simp only [tokLen]; rw [if_neg h4, if_neg h5, if_pos h7]
  rw [hrd _ hlen, if_neg (by decide)]
  exact read_punct s at0 _ 3 _ 0 at0 _ 0 w hL hlt0 hs rfl (Or.inl h7) (fun w hL => readPunct_single s at0 _ w hL hlt0 hs rfl h7)
 by_cases h8 : cls (s[at0]'hlt0).toNat = 8
 ·have hlen : tokLen (s.data.toList.drop at0) = if (s.data.toList.drop (at0 + 1)).head? = some 61 then 2 else 1 := by rw [hh]; simp only [tokLen]; rw [if_neg h4, if_neg h5, if_neg h7, if_pos h8]
  by_cases hlt : at0 + 1 < s.size
  ·rw [hnx hlt] at hlen
   by_cases he : some (s[at0 + 1]'hlt) = some (61 : UInt8)
   ·rw [if_pos he] at hlen
    rw [hrd _ hlen, if_neg (by decide)]
    exact read_punct s at0 _ 3 _ 0 at0 _ 0 w hL hlt0 hs rfl (Or.inr (Or.inl h8)) (fun w hL => readPunct_two s at0 _ w hL hlt0 hs rfl hlt (Or.inl h8) (by rw [hb61]; exact decide_eq_true he))
   ·rw [if_neg he] at hlen
    rw [hrd _ hlen, if_neg (by decide)]
    exact read_punct s at0 _ 3 _ 0 at0 _ 0 w hL hlt0 hs rfl (Or.inr (Or.inl h8)) (fun w hL => readPunct_rel_other s at0 _ w hL hlt0 hs rfl h8 hlt (by rw [hb61]; exact decide_eq_false he))
  ·rw [hnn hlt, if_neg (by simp)] at hlen
   rw [hrd _ hlen, if_neg (by decide)]
   exact read_punct s at0 _ 3 _ 0 at0 _ 0 w hL hlt0 hs rfl (Or.inr (Or.inl h8)) (fun w hL => readPunct_rel_end s at0 _ w hL hlt0 hs rfl h8 hlt)
 by_cases h9 : cls (s[at0]'hlt0).toNat = 9
 ·have hlen : tokLen (s.data.toList.drop at0) = if (s.data.toList.drop (at0 + 1)).head? = some 61 then 2 else 0 := by rw [hh]; simp only [tokLen]; rw [if_neg h4, if_neg h5, if_neg h7, if_neg h8, if_pos h9]
  by_cases hlt : at0 + 1 < s.size
  ·rw [hnx hlt] at hlen
   by_cases he : some (s[at0 + 1]'hlt) = some (61 : UInt8)
   ·rw [if_pos he] at hlen
    rw [hrd _ hlen, if_neg (by decide)]
    exact read_punct s at0 _ 3 _ 0 at0 _ 0 w hL hlt0 hs rfl (Or.inr (Or.inr h9)) (fun w hL => readPunct_two s at0 _ w hL hlt0 hs rfl hlt (Or.inr h9) (by rw [hb61]; exact decide_eq_true he))
   ·rw [if_neg he] at hlen
    rw [hrd _ hlen, if_pos rfl]
    exact read_punct s at0 _ 0 ⟨#[]⟩ 0 0 0 7 w hL hlt0 hs rfl (Or.inr (Or.inr h9)) (fun w hL => readPunct_bang_other s at0 _ w hL hlt0 hs rfl h9 hlt (by rw [hb61]; exact decide_eq_false he))
  ·rw [hnn hlt, if_neg (by simp)] at hlen
   rw [hrd _ hlen, if_pos rfl]
   exact read_punct s at0 _ 0 ⟨#[]⟩ 0 0 0 7 w hL hlt0 hs rfl (Or.inr (Or.inr h9)) (fun w hL => readPunct_bang_end s at0 _ w hL hlt0 hs rfl h9 hlt)
 ·have hlen : tokLen (s.data.toList.drop at0) = 0 := by rw [hh]; simp only [tokLen]; rw [if_neg h4, if_neg h5, if_neg h7, if_neg h8, if_neg h9]
  rw [hrd _ hlen, if_pos rfl]
  have hI : ∀ n : Nat, cls (s[at0]'hlt0).toNat ≠ n → ((cls (s[at0]'hlt0).toNat : Int) == (n : Int)) = false := fun n h => by simp; omega
  exact read_none s at0 w hL hlt0 hs ⟨⟨hI 4 h4, hI 5 h5⟩, hI 7 h7, hI 8 h8, hI 9 h9⟩
end Go.Proofs.YtljknappbnoikaaGreatDoor
