/- Texts of one proof: LxC. -/
import Derived.Test.YtamfgjinfcknfaaGreatDoorZc
import Derived.WalkSpells
import Derived.Lib.IndexBytes
import Derived.Test.YtamfgjinfcknfaaGreatDoorAtoi
set_option linter.unusedVariables false
set_option linter.unusedSimpArgs false
set_option maxRecDepth 100000
set_option maxHeartbeats 8000000
namespace Go.Proofs.YtamfgjinfcknfaaGreatDoor
open Go.RowKit
theorem Tab.alloc {w : World} (h : Tab w) (o : Obj) : Tab (w.alloc o) := fun i hi => by
 have hc := h i hi
 rw [World.cell?_alloc_lt w o _ (World.block_lt_of_cell? w _ hc)]
 exact hc
theorem Tab.below {B : Nat} {w w' : World} (h : Tab w) (hb : Below B w w') (hB : 4 < B) : Tab w' := fun i hi => by
 rw [hb.cell (p := ⟨4, i, none⟩) hB]
 exact h i hi
theorem slice_ok (s : ByteArray) (a n : Nat) (h : a + n ≤ s.size) (wx : World) :
  (Instr.slice 9 (.string s) (some (.int .i64 (a : Int))) (some (.int .i64 ((a : Int) + (n : Int)))) none).run Tryz.prog wx = .ok (.string (s.extract a (a + n))) wx := by
 have h2 := run_slice_string (P := Tryz.prog) wx 9 s .i64 .i64 (a : Int) ((a : Int) + (n : Int)) Tryz.underlying9 (by omega) (by omega) (by omega)
 rw [h2]
 rw [show ((a : Int)).toNat = a from by omega, show ((a : Int) + (n : Int)).toNat = a + n from by omega]
theorem readName_long (s : ByteArray) (at0 n : Nat) (w : World) (hT : Tab w) (hat : at0 + n ≤ s.size) (hs : s.size ≤ maxLen) (hn : Hid (runLen nameB (s.data.toList.drop at0) = n)) (h : 12 < n) :
  Calls Tryz.prog 139 #[.string s, .int .i64 at0] w fun e w' => e = .returned (.tuple #[.agg #[.int .i64 0, .string ⟨#[]⟩, .int .i64 0, .int .i64 0], .int .i64 0, .int .i64 3]) ∧ Below w.heap.size w w' := by
 have hsl := Lib.hid hs
 have hsn := slice_ok s at0 n hat
 unfold maxLen at hs
 go_enter Tryz.func139, Tryz.ntmps139
 go_wp2_with fail
 refine (end_name _ _ _ (hT.alloc _) (by omega) hsl.out).mono ?_
 rw [hn.out]
 rintro e w' ⟨rfl, rfl⟩
 go_wp2
 exact bodyPost_ret (v := .tuple #[.agg #[.int .i64 0, .string ⟨#[]⟩, .int .i64 0, .int .i64 0], .int .i64 0, .int .i64 3]) (by simp [results, Tryz.results139, go_sem]) rfl ⟨rfl, ((Below.refl _ _).alloc (Nat.le_refl _) _)⟩
theorem readName_ok (s : ByteArray) (at0 n : Nat) (w : World) (hT : Tab w) (hat : at0 + n ≤ s.size) (hs : s.size ≤ maxLen) (hn : Hid (runLen nameB (s.data.toList.drop at0) = n)) (h : n ≤ 12) :
  Calls Tryz.prog 139 #[.string s, .int .i64 at0] w fun e w' => e = .returned (.tuple #[.agg #[.int .i64 1, .string (s.extract at0 (at0 + n)), .int .i64 0, .int .i64 at0], .int .i64 ((at0 + n : Nat) : Int), .int .i64 0]) ∧ Below w.heap.size w w' := by
 have hsl := Lib.hid hs
 have hsn := slice_ok s at0 n hat
 unfold maxLen at hs
 go_enter Tryz.func139, Tryz.ntmps139
 go_wp2_with fail
 refine (end_name _ _ _ (hT.alloc _) (by omega) hsl.out).mono ?_
 rw [hn.out]
 rintro e w' ⟨rfl, rfl⟩
 go_wp2
 exact bodyPost_ret (v := .tuple #[.agg #[.int .i64 1, .string (s.extract at0 (at0 + n)), .int .i64 0, .int .i64 at0], .int .i64 ((at0 + n : Nat) : Int), .int .i64 0]) (by simp [results, Tryz.results139, go_sem]) rfl ⟨rfl, ((Below.refl _ _).alloc (Nat.le_refl _) _)⟩
theorem cls_5 (b : UInt8) : cls b.toNat = 5 ↔ 48 ≤ b.toNat ∧ b.toNat ≤ 57 := by
 have h : ∀ n, n < 256 → (cls n = 5 ↔ 48 ≤ n ∧ n ≤ 57) := by decide +kernel
 exact h _ b.toNat_lt
theorem runLen_mem (p : Nat → Bool) (l : List UInt8) : ∀ b ∈ l.take (runLen p l), p (cls b.toNat) = true := by
 induction l with
 | nil => intro b hb; simp at hb
 | cons c r ih =>
  intro b hb
  simp only [runLen] at hb
  split at hb
  ·rename_i hc
   rw [List.take_succ_cons, List.mem_cons] at hb
   rcases hb with rfl | hb
   ·exact hc
   ·exact ih b hb
  ·simp at hb
theorem dig_mem (l : List UInt8) : ∀ b ∈ l.take (runLen (fun n => (n : Int) == 5) l), 48 ≤ b.toNat ∧ b.toNat ≤ 57 := by
 intro b hb
 have h := runLen_mem (fun n => (n : Int) == 5) l b hb
 simp only [beq_iff_eq] at h
 exact (cls_5 b).1 (by omega)
theorem atoi_ok (s : ByteArray) (hmax : s.size ≤ 9223372036854775806) (v : Int) (h : Lib.atoiAll s.data.toList = .ok v) (w : World) :
  Calls Tryz.prog 150 #[.string s] w fun e w' => e = .returned (.tuple #[.int .i64 v, .nilIface]) ∧ Below w.heap.size w w' :=
 (Any.strconv_Atoi_ok Tryz.laysC172 s hmax v h w).mono fun e w' ⟨h1, h2⟩ => ⟨h1, by
  rcases h2 with rfl | ⟨t, rfl⟩
  ·exact Below.refl _ _
  ·exact Lib.bytesWorld_below _ _ _⟩
def RangeErr (s : ByteArray) (w : World) (e : Ending) (w' : World) : Prop := ∃ N, e = .returned (.tuple #[.int .i64 (Lib.atoiSat s.data.toList), .iface 194 (.pointer (some ⟨N, 0, none⟩))]) ∧ Below w.heap.size w w'
theorem atoi_range (s : ByteArray) (hlim : s.size ≤ 281474976710656) (h : Lib.atoiAll s.data.toList = .range) (ev : Value) (w : World) (hv : w.cell? ⟨8, 0, none⟩ = some ev) (hev : ev = .nilIface ∨ ∃ te pe, ev = .iface te pe) :
  Calls Tryz.prog 150 #[.string s] w (RangeErr s w) :=
 (Any.strconv_Atoi_range Tryz.laysC172 s hlim h ev w hv hev).mono fun e w' ⟨N, h1, _, _, h4⟩ => ⟨N, h1, h4⟩
def LaidW (w : World) : Prop := Tab w ∧ (∃ te pe, w.cell? ⟨7, 0, none⟩ = some (.iface te pe)) ∧ (∃ te pe, w.cell? ⟨8, 0, none⟩ = some (.iface te pe))
theorem cell_alloc {w : World} {a : Addr} {v : Value} (h : w.cell? a = some v) (o : Obj) : (w.alloc o).cell? a = some v := by
 rw [World.cell?_alloc_lt w o _ (World.block_lt_of_cell? w _ h)]; exact h
theorem LaidW.alloc {w : World} (h : LaidW w) (o : Obj) : LaidW (w.alloc o) := by
 obtain ⟨h1, ⟨t2, p2, h2⟩, ⟨t3, p3, h3⟩⟩ := h
 exact ⟨h1.alloc o, ⟨t2, p2, cell_alloc h2 o⟩, ⟨t3, p3, cell_alloc h3 o⟩⟩
theorem LaidW.below {B : Nat} {w w' : World} (h : LaidW w) (hb : Below B w w') (hB : 8 < B) : LaidW w' := by
 obtain ⟨h1, ⟨t2, p2, h2⟩, ⟨t3, p3, h3⟩⟩ := h
 exact ⟨h1.below hb (by omega), ⟨t2, p2, by rw [hb.cell (by show 7 < B; omega)]; exact h2⟩, ⟨t3, p3, by rw [hb.cell (by show 8 < B; omega)]; exact h3⟩⟩
theorem sub_bytes (s : ByteArray) (a n : Nat) : (s.extract a (a + n)).data.toList = (s.data.toList.drop a).take n := by
 rw [Lib.extract_data, Nat.add_sub_cancel_left]
theorem digits_of (s : ByteArray) (at0 n : Nat) (hn : runLen (fun n => (n : Int) == 5) (s.data.toList.drop at0) = n) : ∀ b ∈ (s.extract at0 (at0 + n)).data.toList, 48 ≤ b.toNat ∧ b.toNat ≤ 57 := by
 rw [sub_bytes, ← hn]
 exact dig_mem _
theorem set4 {B b : Nat} {a w : World} {v0 v1 v2 v3 : Value} (h : Below B a w) (hB : B ≤ b) : Below B a ((((w.setCell ⟨b, 0, none⟩ v0).setCell ⟨b, 1, none⟩ v1).setCell ⟨b, 2, none⟩ v2).setCell ⟨b, 3, none⟩ v3) :=
 (((h.setCell (p := ⟨b, 0, none⟩) hB _).setCell (p := ⟨b, 1, none⟩) hB _).setCell (p := ⟨b, 2, none⟩) hB _).setCell (p := ⟨b, 3, none⟩) hB _
theorem bcell {W w1 : World} (hb : Below W.heap.size W w1) : (∀ b o, b < W.heap.size → w1.cell? ⟨b, o, none⟩ = W.cell? ⟨b, o, none⟩) ∧ (∀ b o, b < W.heap.size → w1.frozen? ⟨b, o, none⟩ = W.frozen? ⟨b, o, none⟩) :=
 ⟨fun b o h => hb.cell (p := ⟨b, o, none⟩) h, fun b o h => hb.frozen (p := ⟨b, o, none⟩) h⟩
theorem readNumber_ok (s : ByteArray) (at0 n v : Nat) (w : World) (hL : LaidW w) (hlt : at0 < s.size) (hat : at0 + n ≤ s.size) (hs : s.size ≤ 10000) (hn : Hid (runLen (fun n => (n : Int) == 5) (s.data.toList.drop at0) = n)) (h : n = 1 ∨ (1 < n ∧ (((s[at0]'hlt).toNat : Int) == 48) = false))
  (hv : Hid (Lib.atoiAll (s.extract at0 (at0 + n)).data.toList = .ok (v : Int))) (hv2 : v ≤ 1000000000) :
  Calls Tryz.prog 140 #[.string s, .int .i64 at0] w fun e w' => e = .returned (.tuple #[.agg #[.int .i64 2, .string ⟨#[]⟩, .int .i64 v, .int .i64 at0], .int .i64 ((at0 + n : Nat) : Int), .int .i64 0]) ∧ Below w.heap.size w w' := by
 have hsl := Lib.hid (show s.size ≤ maxLen by unfold maxLen; omega)
 have hsn := slice_ok s at0 n hat
 have hz : (s.extract at0 (at0 + n)).size ≤ s.size := by rw [ByteArray.size_extract]; omega
 have HZ := Lib.hid hz
 clear hz
 rcases h with h | ⟨h, h48⟩
 all_goals try subst h
 all_goals
  go_enter Tryz.func140, Tryz.ntmps140
  go_wp2_with fail
  refine (end_digit _ _ _ (hL.1.alloc _) (by omega) hsl.out).mono ?_
  rw [hn.out]
  rintro e w' ⟨rfl, rfl⟩
  go_wp2_with fail
  refine (atoi_ok _ (by have := HZ.out; omega) _ hv.out _).mono ?_
  rintro e w' ⟨rfl, hb⟩
  obtain ⟨hc, hf⟩ := bcell hb
  have hz : w.heap.size + 1 ≤ w'.heap.size := by have := hb.size; simpa using this
  go_wp2
  exact bodyPost_ret (v := (.tuple #[.agg #[.int .i64 2, .string ⟨#[]⟩, .int .i64 v, .int .i64 at0], .int .i64 ((at0 + _ : Nat) : Int), .int .i64 0])) (by simp [results, Tryz.results140, go_sem, hc, hz]) rfl ⟨rfl, set4 (((Below.refl _ _).alloc (Nat.le_refl _) _).trans (hb.mono (by simp))) (Nat.le_refl _)⟩
theorem readNumber_big (s : ByteArray) (at0 n v : Nat) (w : World) (hL : LaidW w) (hlt : at0 < s.size) (hat : at0 + n ≤ s.size) (hs : s.size ≤ 10000) (hn : Hid (runLen (fun n => (n : Int) == 5) (s.data.toList.drop at0) = n)) (h : n = 1 ∨ (1 < n ∧ (((s[at0]'hlt).toNat : Int) == 48) = false))
  (hv : Hid (Lib.atoiAll (s.extract at0 (at0 + n)).data.toList = .ok (v : Int))) (hv2 : 1000000000 < v) :
  Calls Tryz.prog 140 #[.string s, .int .i64 at0] w fun e w' => e = .returned (.tuple #[.agg #[.int .i64 0, .string ⟨#[]⟩, .int .i64 0, .int .i64 0], .int .i64 0, .int .i64 3]) ∧ Below w.heap.size w w' := by
 have hsl := Lib.hid (show s.size ≤ maxLen by unfold maxLen; omega)
 have hsn := slice_ok s at0 n hat
 have hz : (s.extract at0 (at0 + n)).size ≤ s.size := by rw [ByteArray.size_extract]; omega
 have HZ := Lib.hid hz
 clear hz
 rcases h with h | ⟨h, h48⟩
 all_goals try subst h
 all_goals
  go_enter Tryz.func140, Tryz.ntmps140
  go_wp2_with fail
  refine (end_digit _ _ _ (hL.1.alloc _) (by omega) hsl.out).mono ?_
  rw [hn.out]
  rintro e w' ⟨rfl, rfl⟩
  go_wp2_with fail
  refine (atoi_ok _ (by have := HZ.out; omega) _ hv.out _).mono ?_
  rintro e w' ⟨rfl, hb⟩
  obtain ⟨hc, hf⟩ := bcell hb
  have hz : w.heap.size + 1 ≤ w'.heap.size := by have := hb.size; simpa using this
  go_wp2
  exact bodyPost_ret (v := (.tuple #[.agg #[.int .i64 0, .string ⟨#[]⟩, .int .i64 0, .int .i64 0], .int .i64 0, .int .i64 3])) (by simp [results, Tryz.results140, go_sem, hc, hz]) rfl ⟨rfl, set4 (((Below.refl _ _).alloc (Nat.le_refl _) _).trans (hb.mono (by simp))) (Nat.le_refl _)⟩
theorem readNumber_range (s : ByteArray) (at0 n : Nat) (w : World) (hL : LaidW w) (hlt : at0 < s.size) (hat : at0 + n ≤ s.size) (hs : s.size ≤ 10000) (hn : Hid (runLen (fun n => (n : Int) == 5) (s.data.toList.drop at0) = n)) (h : n = 1 ∨ (1 < n ∧ (((s[at0]'hlt).toNat : Int) == 48) = false))
  (hv : Hid (Lib.atoiAll (s.extract at0 (at0 + n)).data.toList = .range)) :
  Calls Tryz.prog 140 #[.string s, .int .i64 at0] w fun e w' => e = .returned (.tuple #[.agg #[.int .i64 0, .string ⟨#[]⟩, .int .i64 0, .int .i64 0], .int .i64 0, .int .i64 3]) ∧ Below w.heap.size w w' := by
 obtain ⟨te, pe, hev⟩ := hL.2.2
 have hsl := Lib.hid (show s.size ≤ maxLen by unfold maxLen; omega)
 have hsn := slice_ok s at0 n hat
 have hz : (s.extract at0 (at0 + n)).size ≤ s.size := by rw [ByteArray.size_extract]; omega
 have HZ := Lib.hid hz
 clear hz
 rcases h with h | ⟨h, h48⟩
 all_goals try subst h
 all_goals
  go_enter Tryz.func140, Tryz.ntmps140
  go_wp2_with fail
  refine (end_digit _ _ _ (hL.1.alloc _) (by omega) hsl.out).mono ?_
  rw [hn.out]
  rintro e w' ⟨rfl, rfl⟩
  go_wp2_with fail
  refine (atoi_range _ (by have := HZ.out; omega) hv.out _ _ (cell_alloc hev _) (Or.inr ⟨_, _, rfl⟩)).mono ?_
  rintro e w' ⟨N, rfl, hb⟩
  obtain ⟨hc, hf⟩ := bcell hb
  have hz : w.heap.size + 1 ≤ w'.heap.size := by have := hb.size; simpa using this
  go_wp2
  exact bodyPost_ret (v := (.tuple #[.agg #[.int .i64 0, .string ⟨#[]⟩, .int .i64 0, .int .i64 0], .int .i64 0, .int .i64 3])) (by simp [results, Tryz.results140, go_sem, hc, hz]) rfl ⟨rfl, set4 (((Below.refl _ _).alloc (Nat.le_refl _) _).trans (hb.mono (by simp))) (Nat.le_refl _)⟩
end Go.Proofs.YtamfgjinfcknfaaGreatDoor
