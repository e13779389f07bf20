/- Texts of one proof: LxN, LxC, LxD. -/
import Derived.Lib.AtoiAll
import Derived.Test.YtfmjbfpjkilpcaaGreatDoorRows
import Derived.Test.YtfmjbfpjkilpcaaGreatDoorZj
import Derived.WalkSpells
import Derived.Lib.IndexBytes
import Derived.Test.YtfmjbfpjkilpcaaGreatDoorAtoi
set_option linter.unusedVariables false
set_option linter.unusedSimpArgs false
set_option maxRecDepth 100000
set_option maxHeartbeats 8000000
namespace Go.Proofs.YtfmjbfpjkilpcaaGreatDoor
def decStep (acc : Nat) (b : UInt8) : Nat := acc * 10 + (b.toNat - 48)
theorem decStep_eq (acc : Nat) (b : UInt8) : decStep acc b = acc * 10 + (b.toNat - 48) := by rw [decStep]
attribute [irreducible] decStep
def decVal (acc : Nat) : List UInt8 → Nat
 | [] => acc
 | b :: r => decVal (decStep acc b) r
theorem decVal_cons (acc : Nat) (b : UInt8) (r : List UInt8) : decVal acc (b :: r) = decVal (decStep acc b) r := rfl
theorem le_step (acc d z : Nat) (h : acc * 10 + d ≤ z) : acc ≤ z := by omega
theorem decVal_ge (l : List UInt8) : ∀ acc : Nat, acc ≤ decVal acc l := by
 induction l with
 | nil => intro acc; exact Nat.le_refl _
 | cons b r ih => intro acc; rw [decVal_cons]; exact le_step acc (b.toNat - 48) _ (by rw [← decStep_eq]; exact ih _)
def M64 : Nat := 18446744073709551616
theorem M64_eq : M64 = 18446744073709551616 := by unfold M64; rfl
theorem no_over (acc d : Nat) (h : acc * 10 + d < M64) : ¬ 1844674407370955162 ≤ acc := by rw [M64_eq] at h; omega
theorem parse_nil (acc : Nat) : Lib.parseUint10 acc [] = .ok acc := by rw [Lib.parseUint10]
theorem parse_cons (acc : Nat) (c : UInt8) (r : List UInt8) (h : 48 ≤ c.toNat ∧ c.toNat ≤ 57) : Lib.parseUint10 acc (c :: r) =
  if 1844674407370955162 ≤ acc then .range else if M64 ≤ decStep acc c then .range else Lib.parseUint10 (decStep acc c) r := by
 rw [Lib.parseUint10, if_pos h, M64_eq, decStep_eq]
theorem parse_digits_ok (l : List UInt8) : (∀ b ∈ l, 48 ≤ b.toNat ∧ b.toNat ≤ 57) → ∀ acc : Nat, decVal acc l < M64 → Lib.parseUint10 acc l = .ok (decVal acc l) := by
 induction l with
 | nil => intro _ acc _; rw [parse_nil, decVal]
 | cons b r ih =>
  intro hd acc h
  have hge := decVal_ge r (decStep acc b)
  rw [decVal_cons] at h ⊢
  have h2 : decStep acc b < M64 := Nat.lt_of_le_of_lt hge h
  have h1 : ¬ 1844674407370955162 ≤ acc := no_over acc (b.toNat - 48) (by rw [← decStep_eq]; exact h2)
  rw [parse_cons _ _ _ (hd b (by simp)), if_neg h1, if_neg (Nat.not_le.2 h2)]
  exact ih (fun x hx => hd x (by simp [hx])) _ h
theorem parse_digits_range (l : List UInt8) : (∀ b ∈ l, 48 ≤ b.toNat ∧ b.toNat ≤ 57) → ∀ acc : Nat, acc < M64 → ¬ decVal acc l < M64 → Lib.parseUint10 acc l = .range := by
 induction l with
 | nil => intro _ acc h0 h; rw [decVal] at h; exact absurd h0 h
 | cons b r ih =>
  intro hd acc h0 h
  rw [decVal_cons] at h
  rw [parse_cons _ _ _ (hd b (by simp))]
  by_cases h1 : 1844674407370955162 ≤ acc
  ·rw [if_pos h1]
  ·rw [if_neg h1]
   by_cases h2 : M64 ≤ decStep acc b
   ·rw [if_pos h2]
   ·rw [if_neg h2]
    exact ih (fun x hx => hd x (by simp [hx])) _ (Nat.not_le.1 h2) h
def M63 : Nat := 9223372036854775808
theorem M63_eq : M63 = 9223372036854775808 := by unfold M63; rfl
theorem atoi_head (c : UInt8) (r : List UInt8) (hc : 48 ≤ c.toNat ∧ c.toNat ≤ 57) : Lib.atoiAll (c :: r) = match Lib.parseMag (c :: r) with
  | .syntax => .syntax
  | .range => .range
  | .ok u => if M63 ≤ u then .range else .ok (u : Int) := by
 have h45 : ¬ c.toNat = 45 := by omega
 simp only [Lib.atoiAll]
 rw [if_neg (show ¬ (c.toNat = 43 ∨ c.toNat = 45) by omega)]
 cases Lib.parseMag (c :: r) <;> simp [h45, M63_eq]
theorem mag_eq (c : UInt8) (r : List UInt8) : Lib.parseMag (c :: r) = Lib.parseUint10 0 (c :: r) := by
 unfold Lib.parseMag
 rw [if_neg (by simp)]
theorem atoi_digits_ok (l : List UInt8) (hl : l ≠ []) (hd : ∀ b ∈ l, 48 ≤ b.toNat ∧ b.toNat ≤ 57) (h : decVal 0 l < M63) : Lib.atoiAll l = .ok (decVal 0 l : Int) := by
 match l, hl with
 | c :: r, _ =>
  rw [atoi_head c r (hd c (by simp)), mag_eq, parse_digits_ok (c :: r) hd 0 (by have := M63_eq; have := M64_eq; omega)]
  show (if M63 ≤ decVal 0 (c :: r) then _ else _) = _
  rw [if_neg (by omega)]
theorem atoi_digits_range (l : List UInt8) (hl : l ≠ []) (hd : ∀ b ∈ l, 48 ≤ b.toNat ∧ b.toNat ≤ 57) (h : ¬ decVal 0 l < M63) : Lib.atoiAll l = .range := by
 match l, hl with
 | c :: r, _ =>
  rw [atoi_head c r (hd c (by simp)), mag_eq]
  by_cases h2 : decVal 0 (c :: r) < M64
  ·rw [parse_digits_ok (c :: r) hd 0 h2]
   show (if M63 ≤ decVal 0 (c :: r) then _ else _) = _
   rw [if_pos (by omega)]
  ·rw [parse_digits_range (c :: r) hd 0 (by rw [M64_eq]; omega) h2]
end Go.Proofs.YtfmjbfpjkilpcaaGreatDoor
namespace Go.Proofs.YtfmjbfpjkilpcaaGreatDoor
open Go.RowKit
theorem Tab.alloc {w : World} (h : Tab w) (o : Obj) : Tab (w.alloc o) := fun i hi => by
 have hc := h i hi
 rw [World.cell?_alloc_lt w o _ (World.block_lt_of_cell? w _ hc)]
 exact hc
theorem Tab.below {B : Nat} {w w' : World} (h : Tab w) (hb : Below B w w') (hB : 4 < B) : Tab w' := fun i hi => by
 rw [hb.cell (p := ⟨4, i, none⟩) hB]
 exact h i hi
theorem slice_ok (s : ByteArray) (a n : Nat) (h : a + n ≤ s.size) (wx : World) :
  (Instr.slice 9 (.string s) (some (.int .i64 (a : Int))) (some (.int .i64 ((a : Int) + (n : Int)))) none).run Tryz.prog wx = .ok (.string (s.extract a (a + n))) wx := by
 have h2 := run_slice_string (P := Tryz.prog) wx 9 s .i64 .i64 (a : Int) ((a : Int) + (n : Int)) Tryz.underlying9 (by omega) (by omega) (by omega)
 rw [h2]
 rw [show ((a : Int)).toNat = a from by omega, show ((a : Int) + (n : Int)).toNat = a + n from by omega]
theorem readName_long (s : ByteArray) (at0 n : Nat) (w : World) (hT : Tab w) (hat : at0 + n ≤ s.size) (hs : s.size ≤ maxLen) (hn : Hid (runLen nameB (s.data.toList.drop at0) = n)) (h : 12 < n) :
  Calls Tryz.prog 111 #[.string s, .int .i64 at0] w fun e w' => e = .returned (.tuple #[.agg #[.int .i64 0, .string ⟨#[]⟩, .int .i64 0, .int .i64 0], .int .i64 0, .int .i64 3]) ∧ Below w.heap.size w w' := by
 have hsl := Lib.hid hs
 have hsn := slice_ok s at0 n hat
 unfold maxLen at hs
 go_enter Tryz.func111, Tryz.ntmps111
 go_wp2_with fail
 refine (end_name _ _ _ (hT.alloc _) (by omega) hsl.out).mono ?_
 rw [hn.out]
 rintro e w' ⟨rfl, rfl⟩
 go_wp2
 exact bodyPost_ret (v := .tuple #[.agg #[.int .i64 0, .string ⟨#[]⟩, .int .i64 0, .int .i64 0], .int .i64 0, .int .i64 3]) (by simp [results, Tryz.results111, go_sem]) rfl ⟨rfl, ((Below.refl _ _).alloc (Nat.le_refl _) _)⟩
theorem readName_ok (s : ByteArray) (at0 n : Nat) (w : World) (hT : Tab w) (hat : at0 + n ≤ s.size) (hs : s.size ≤ maxLen) (hn : Hid (runLen nameB (s.data.toList.drop at0) = n)) (h : n ≤ 12) :
  Calls Tryz.prog 111 #[.string s, .int .i64 at0] w fun e w' => e = .returned (.tuple #[.agg #[.int .i64 1, .string (s.extract at0 (at0 + n)), .int .i64 0, .int .i64 at0], .int .i64 ((at0 + n : Nat) : Int), .int .i64 0]) ∧ Below w.heap.size w w' := by
 have hsl := Lib.hid hs
 have hsn := slice_ok s at0 n hat
 unfold maxLen at hs
 go_enter Tryz.func111, Tryz.ntmps111
 go_wp2_with fail
 refine (end_name _ _ _ (hT.alloc _) (by omega) hsl.out).mono ?_
 rw [hn.out]
 rintro e w' ⟨rfl, rfl⟩
 go_wp2
 exact bodyPost_ret (v := .tuple #[.agg #[.int .i64 1, .string (s.extract at0 (at0 + n)), .int .i64 0, .int .i64 at0], .int .i64 ((at0 + n : Nat) : Int), .int .i64 0]) (by simp [results, Tryz.results111, go_sem]) rfl ⟨rfl, ((Below.refl _ _).alloc (Nat.le_refl _) _)⟩
theorem cls_5 (b : UInt8) : cls b.toNat = 5 ↔ 48 ≤ b.toNat ∧ b.toNat ≤ 57 := by
 have h : ∀ n, n < 256 → (cls n = 5 ↔ 48 ≤ n ∧ n ≤ 57) := by decide +kernel
 exact h _ b.toNat_lt
theorem runLen_mem (p : Nat → Bool) (l : List UInt8) : ∀ b ∈ l.take (runLen p l), p (cls b.toNat) = true := by
 induction l with
 | nil => intro b hb; simp at hb
 | cons c r ih =>
  intro b hb
  simp only [runLen] at hb
  split at hb
  ·rename_i hc
   rw [List.take_succ_cons, List.mem_cons] at hb
   rcases hb with rfl | hb
   ·exact hc
   ·exact ih b hb
  ·simp at hb
theorem dig_mem (l : List UInt8) : ∀ b ∈ l.take (runLen (fun n => (n : Int) == 5) l), 48 ≤ b.toNat ∧ b.toNat ≤ 57 := by
 intro b hb
 have h := runLen_mem (fun n => (n : Int) == 5) l b hb
 simp only [beq_iff_eq] at h
 exact (cls_5 b).1 (by omega)
theorem atoi_ok (s : ByteArray) (hmax : s.size ≤ 9223372036854775806) (v : Int) (h : Lib.atoiAll s.data.toList = .ok v) (w : World) :
  Calls Tryz.prog 122 #[.string s] w fun e w' => e = .returned (.tuple #[.int .i64 v, .nilIface]) ∧ Below w.heap.size w w' :=
 (Any.strconv_Atoi_ok Tryz.laysC172 s hmax v h w).mono fun e w' ⟨h1, h2⟩ => ⟨h1, by
  rcases h2 with rfl | ⟨t, rfl⟩
  ·exact Below.refl _ _
  ·exact Lib.bytesWorld_below _ _ _⟩
def RangeErr (s : ByteArray) (w : World) (e : Ending) (w' : World) : Prop := ∃ N, e = .returned (.tuple #[.int .i64 (Lib.atoiSat s.data.toList), .iface 178 (.pointer (some ⟨N, 0, none⟩))]) ∧ Below w.heap.size w w'
theorem atoi_range (s : ByteArray) (hlim : s.size ≤ 281474976710656) (h : Lib.atoiAll s.data.toList = .range) (ev : Value) (w : World) (hv : w.cell? ⟨8, 0, none⟩ = some ev) (hev : ev = .nilIface ∨ ∃ te pe, ev = .iface te pe) :
  Calls Tryz.prog 122 #[.string s] w (RangeErr s w) :=
 (Any.strconv_Atoi_range Tryz.laysC172 s hlim h ev w hv hev).mono fun e w' ⟨N, h1, _, _, h4⟩ => ⟨N, h1, h4⟩
def LaidW (w : World) : Prop := Tab w ∧ (∃ te pe, w.cell? ⟨7, 0, none⟩ = some (.iface te pe)) ∧ (∃ te pe, w.cell? ⟨8, 0, none⟩ = some (.iface te pe))
theorem cell_alloc {w : World} {a : Addr} {v : Value} (h : w.cell? a = some v) (o : Obj) : (w.alloc o).cell? a = some v := by
 rw [World.cell?_alloc_lt w o _ (World.block_lt_of_cell? w _ h)]; exact h
theorem LaidW.alloc {w : World} (h : LaidW w) (o : Obj) : LaidW (w.alloc o) := by
 obtain ⟨h1, ⟨t2, p2, h2⟩, ⟨t3, p3, h3⟩⟩ := h
 exact ⟨h1.alloc o, ⟨t2, p2, cell_alloc h2 o⟩, ⟨t3, p3, cell_alloc h3 o⟩⟩
theorem LaidW.below {B : Nat} {w w' : World} (h : LaidW w) (hb : Below B w w') (hB : 8 < B) : LaidW w' := by
 obtain ⟨h1, ⟨t2, p2, h2⟩, ⟨t3, p3, h3⟩⟩ := h
 exact ⟨h1.below hb (by omega), ⟨t2, p2, by rw [hb.cell (by show 7 < B; omega)]; exact h2⟩, ⟨t3, p3, by rw [hb.cell (by show 8 < B; omega)]; exact h3⟩⟩
theorem sub_bytes (s : ByteArray) (a n : Nat) : (s.extract a (a + n)).data.toList = (s.data.toList.drop a).take n := by
 rw [Lib.extract_data, Nat.add_sub_cancel_left]
theorem digits_of (s : ByteArray) (at0 n : Nat) (hn : runLen (fun n => (n : Int) == 5) (s.data.toList.drop at0) = n) : ∀ b ∈ (s.extract at0 (at0 + n)).data.toList, 48 ≤ b.toNat ∧ b.toNat ≤ 57 := by
 rw [sub_bytes, ← hn]
 exact dig_mem _
theorem set4 {B b : Nat} {a w : World} {v0 v1 v2 v3 : Value} (h : Below B a w) (hB : B ≤ b) : Below B a ((((w.setCell ⟨b, 0, none⟩ v0).setCell ⟨b, 1, none⟩ v1).setCell ⟨b, 2, none⟩ v2).setCell ⟨b, 3, none⟩ v3) :=
 (((h.setCell (p := ⟨b, 0, none⟩) hB _).setCell (p := ⟨b, 1, none⟩) hB _).setCell (p := ⟨b, 2, none⟩) hB _).setCell (p := ⟨b, 3, none⟩) hB _
theorem bcell {W w1 : World} (hb : Below W.heap.size W w1) : (∀ b o, b < W.heap.size → w1.cell? ⟨b, o, none⟩ = W.cell? ⟨b, o, none⟩) ∧ (∀ b o, b < W.heap.size → w1.frozen? ⟨b, o, none⟩ = W.frozen? ⟨b, o, none⟩) :=
 ⟨fun b o h => hb.cell (p := ⟨b, o, none⟩) h, fun b o h => hb.frozen (p := ⟨b, o, none⟩) h⟩
theorem readNumber_ok (s : ByteArray) (at0 n v : Nat) (w : World) (hL : LaidW w) (hlt : at0 < s.size) (hat : at0 + n ≤ s.size) (hs : s.size ≤ 10000) (hn : Hid (runLen (fun n => (n : Int) == 5) (s.data.toList.drop at0) = n)) (h : n = 1 ∨ (1 < n ∧ (((s[at0]'hlt).toNat : Int) == 48) = false))
  (hv : Hid (Lib.atoiAll (s.extract at0 (at0 + n)).data.toList = .ok (v : Int))) (hv2 : v ≤ 1000000000) :
  Calls Tryz.prog 112 #[.string s, .int .i64 at0] w fun e w' => e = .returned (.tuple #[.agg #[.int .i64 2, .string ⟨#[]⟩, .int .i64 v, .int .i64 at0], .int .i64 ((at0 + n : Nat) : Int), .int .i64 0]) ∧ Below w.heap.size w w' := by
 have hsl := Lib.hid (show s.size ≤ maxLen by unfold maxLen; omega)
 have hsn := slice_ok s at0 n hat
 have hz : (s.extract at0 (at0 + n)).size ≤ s.size := by rw [ByteArray.size_extract]; omega
 have HZ := Lib.hid hz
 clear hz
 rcases h with h | ⟨h, h48⟩
 all_goals try subst h
 all_goals
  go_enter Tryz.func112, Tryz.ntmps112
  go_wp2_with fail
  refine (end_digit _ _ _ (hL.1.alloc _) (by omega) hsl.out).mono ?_
  rw [hn.out]
  rintro e w' ⟨rfl, rfl⟩
  go_wp2_with fail
  refine (atoi_ok _ (by have := HZ.out; omega) _ hv.out _).mono ?_
  rintro e w' ⟨rfl, hb⟩
  obtain ⟨hc, hf⟩ := bcell hb
  have hz : w.heap.size + 1 ≤ w'.heap.size := by have := hb.size; simpa using this
  go_wp2
  exact bodyPost_ret (v := (.tuple #[.agg #[.int .i64 2, .string ⟨#[]⟩, .int .i64 v, .int .i64 at0], .int .i64 ((at0 + _ : Nat) : Int), .int .i64 0])) (by simp [results, Tryz.results112, go_sem, hc, hz]) rfl ⟨rfl, set4 (((Below.refl _ _).alloc (Nat.le_refl _) _).trans (hb.mono (by simp))) (Nat.le_refl _)⟩
theorem readNumber_big (s : ByteArray) (at0 n v : Nat) (w : World) (hL : LaidW w) (hlt : at0 < s.size) (hat : at0 + n ≤ s.size) (hs : s.size ≤ 10000) (hn : Hid (runLen (fun n => (n : Int) == 5) (s.data.toList.drop at0) = n)) (h : n = 1 ∨ (1 < n ∧ (((s[at0]'hlt).toNat : Int) == 48) = false))
  (hv : Hid (Lib.atoiAll (s.extract at0 (at0 + n)).data.toList = .ok (v : Int))) (hv2 : 1000000000 < v) :
  Calls Tryz.prog 112 #[.string s, .int .i64 at0] w fun e w' => e = .returned (.tuple #[.agg #[.int .i64 0, .string ⟨#[]⟩, .int .i64 0, .int .i64 0], .int .i64 0, .int .i64 3]) ∧ Below w.heap.size w w' := by
 have hsl := Lib.hid (show s.size ≤ maxLen by unfold maxLen; omega)
 have hsn := slice_ok s at0 n hat
 have hz : (s.extract at0 (at0 + n)).size ≤ s.size := by rw [ByteArray.size_extract]; omega
 have HZ := Lib.hid hz
 clear hz
 rcases h with h | ⟨h, h48⟩
 all_goals try subst h
 all_goals
  go_enter Tryz.func112, Tryz.ntmps112
  go_wp2_with fail
  refine (end_digit _ _ _ (hL.1.alloc _) (by omega) hsl.out).mono ?_
  rw [hn.out]
  rintro e w' ⟨rfl, rfl⟩
  go_wp2_with fail
  refine (atoi_ok _ (by have := HZ.out; omega) _ hv.out _).mono ?_
  rintro e w' ⟨rfl, hb⟩
  obtain ⟨hc, hf⟩ := bcell hb
  have hz : w.heap.size + 1 ≤ w'.heap.size := by have := hb.size; simpa using this
  go_wp2
  exact bodyPost_ret (v := (.tuple #[.agg #[.int .i64 0, .string ⟨#[]⟩, .int .i64 0, .int .i64 0], .int .i64 0, .int .i64 3])) (by simp [results, Tryz.results112, go_sem, hc, hz]) rfl ⟨rfl, set4 (((Below.refl _ _).alloc (Nat.le_refl _) _).trans (hb.mono (by simp))) (Nat.le_refl _)⟩
theorem readNumber_range (s : ByteArray) (at0 n : Nat) (w : World) (hL : LaidW w) (hlt : at0 < s.size) (hat : at0 + n ≤ s.size) (hs : s.size ≤ 10000) (hn : Hid (runLen (fun n => (n : Int) == 5) (s.data.toList.drop at0) = n)) (h : n = 1 ∨ (1 < n ∧ (((s[at0]'hlt).toNat : Int) == 48) = false))
  (hv : Hid (Lib.atoiAll (s.extract at0 (at0 + n)).data.toList = .range)) :
  Calls Tryz.prog 112 #[.string s, .int .i64 at0] w fun e w' => e = .returned (.tuple #[.agg #[.int .i64 0, .string ⟨#[]⟩, .int .i64 0, .int .i64 0], .int .i64 0, .int .i64 3]) ∧ Below w.heap.size w w' := by
 obtain ⟨te, pe, hev⟩ := hL.2.2
 have hsl := Lib.hid (show s.size ≤ maxLen by unfold maxLen; omega)
 have hsn := slice_ok s at0 n hat
 have hz : (s.extract at0 (at0 + n)).size ≤ s.size := by rw [ByteArray.size_extract]; omega
 have HZ := Lib.hid hz
 clear hz
 rcases h with h | ⟨h, h48⟩
 all_goals try subst h
 all_goals
  go_enter Tryz.func112, Tryz.ntmps112
  go_wp2_with fail
  refine (end_digit _ _ _ (hL.1.alloc _) (by omega) hsl.out).mono ?_
  rw [hn.out]
  rintro e w' ⟨rfl, rfl⟩
  go_wp2_with fail
  refine (atoi_range _ (by have := HZ.out; omega) hv.out _ _ (cell_alloc hev _) (Or.inr ⟨_, _, rfl⟩)).mono ?_
  rintro e w' ⟨N, rfl, hb⟩
  obtain ⟨hc, hf⟩ := bcell hb
  have hz : w.heap.size + 1 ≤ w'.heap.size := by have := hb.size; simpa using this
  go_wp2
  exact bodyPost_ret (v := (.tuple #[.agg #[.int .i64 0, .string ⟨#[]⟩, .int .i64 0, .int .i64 0], .int .i64 0, .int .i64 3])) (by simp [results, Tryz.results112, go_sem, hc, hz]) rfl ⟨rfl, set4 (((Below.refl _ _).alloc (Nat.le_refl _) _).trans (hb.mono (by simp))) (Nat.le_refl _)⟩
end Go.Proofs.YtfmjbfpjkilpcaaGreatDoor
namespace Go.Proofs.YtfmjbfpjkilpcaaGreatDoor
open Go.RowKit
theorem slice_ok1 (s : ByteArray) (a : Nat) (h : a + 1 ≤ s.size) (wx : World) :
  (Instr.slice 9 (.string s) (some (.int .i64 (a : Int))) (some (.int .i64 ((a : Int) + 1))) none).run Tryz.prog wx = .ok (.string (s.extract a (a + 1))) wx := by
 have h2 := run_slice_string (P := Tryz.prog) wx 9 s .i64 .i64 (a : Int) ((a : Int) + 1) Tryz.underlying9 (by omega) (by omega) (by omega)
 rw [h2, show ((a : Int)).toNat = a from by omega, show ((a : Int) + 1).toNat = a + 1 from by omega]
theorem slice_ok2 (s : ByteArray) (a : Nat) (h : a + 2 ≤ s.size) (wx : World) :
  (Instr.slice 9 (.string s) (some (.int .i64 (a : Int))) (some (.int .i64 ((a : Int) + 1 + 1))) none).run Tryz.prog wx = .ok (.string (s.extract a (a + 2))) wx := by
 have h2 := run_slice_string (P := Tryz.prog) wx 9 s .i64 .i64 (a : Int) ((a : Int) + 1 + 1) Tryz.underlying9 (by omega) (by omega) (by omega)
 rw [h2, show ((a : Int)).toNat = a from by omega, show ((a : Int) + 1 + 1).toNat = a + 2 from by omega]
theorem readPunct_two (s : ByteArray) (at0 c : Nat) (w : World) (hL : LaidW w) (hlt0 : at0 < s.size) (hs : s.size ≤ 10000) (hc : Hid (cls (s[at0]'hlt0).toNat = c)) (hlt : at0 + 1 < s.size) (h : c = 8 ∨ c = 9) (h61 : (((s[at0 + 1]'hlt).toNat : Int) == 61) = true) :
  Calls Tryz.prog 113 #[.string s, .int .i64 at0] w fun e w' => e = .returned (.tuple #[.agg #[.int .i64 3, .string (s.extract at0 (at0 + 2)), .int .i64 0, .int .i64 at0], .int .i64 ((at0 + 2 : Nat) : Int), .int .i64 0]) ∧ Below w.heap.size w w' := by
 have hsn := slice_ok2 s at0 (by omega)
 have hb := byte_lt (s[at0]'hlt0)
 rcases h with h | h
 all_goals
  subst h
  go_enter Tryz.func113, Tryz.ntmps113
  go_wp2_with fail
  refine (classOf_any _ _ (hL.1.alloc _) hb).mono ?_
  rw [hc.out]
  rintro e w' ⟨rfl, rfl⟩
  go_wp2
  exact bodyPost_ret (v := (.tuple #[.agg #[.int .i64 3, .string (s.extract at0 (at0 + 2)), .int .i64 0, .int .i64 at0], .int .i64 ((at0 + 2 : Nat) : Int), .int .i64 0])) (by simp [results, Tryz.results113, go_sem]; try omega) rfl ⟨rfl, ((Below.refl _ _).alloc (Nat.le_refl _) _)⟩
theorem readPunct_single (s : ByteArray) (at0 c : Nat) (w : World) (hL : LaidW w) (hlt0 : at0 < s.size) (hs : s.size ≤ 10000) (hc : Hid (cls (s[at0]'hlt0).toNat = c)) (h : c = 7) :
  Calls Tryz.prog 113 #[.string s, .int .i64 at0] w fun e w' => e = .returned (.tuple #[.agg #[.int .i64 3, .string (s.extract at0 (at0 + 1)), .int .i64 0, .int .i64 at0], .int .i64 ((at0 + 1 : Nat) : Int), .int .i64 0]) ∧ Below w.heap.size w w' := by
 have hsn := slice_ok1 s at0 (by omega)
 have hb := byte_lt (s[at0]'hlt0)
 all_goals
  subst h
  go_enter Tryz.func113, Tryz.ntmps113
  go_wp2_with fail
  refine (classOf_any _ _ (hL.1.alloc _) hb).mono ?_
  rw [hc.out]
  rintro e w' ⟨rfl, rfl⟩
  go_wp2
  exact bodyPost_ret (v := (.tuple #[.agg #[.int .i64 3, .string (s.extract at0 (at0 + 1)), .int .i64 0, .int .i64 at0], .int .i64 ((at0 + 1 : Nat) : Int), .int .i64 0])) (by simp [results, Tryz.results113, go_sem]; try omega) rfl ⟨rfl, ((Below.refl _ _).alloc (Nat.le_refl _) _)⟩
theorem readPunct_rel_end (s : ByteArray) (at0 c : Nat) (w : World) (hL : LaidW w) (hlt0 : at0 < s.size) (hs : s.size ≤ 10000) (hc : Hid (cls (s[at0]'hlt0).toNat = c)) (h : c = 8) (hlt : ¬ at0 + 1 < s.size) :
  Calls Tryz.prog 113 #[.string s, .int .i64 at0] w fun e w' => e = .returned (.tuple #[.agg #[.int .i64 3, .string (s.extract at0 (at0 + 1)), .int .i64 0, .int .i64 at0], .int .i64 ((at0 + 1 : Nat) : Int), .int .i64 0]) ∧ Below w.heap.size w w' := by
 have hsn := slice_ok1 s at0 (by omega)
 have hb := byte_lt (s[at0]'hlt0)
 have hlt2 : decide ((at0 : Int) + 1 < (s.size : Int)) = false := by simp; omega
 all_goals
  subst h
  go_enter Tryz.func113, Tryz.ntmps113
  go_wp2_with fail
  refine (classOf_any _ _ (hL.1.alloc _) hb).mono ?_
  rw [hc.out]
  rintro e w' ⟨rfl, rfl⟩
  go_wp2
  exact bodyPost_ret (v := (.tuple #[.agg #[.int .i64 3, .string (s.extract at0 (at0 + 1)), .int .i64 0, .int .i64 at0], .int .i64 ((at0 + 1 : Nat) : Int), .int .i64 0])) (by simp [results, Tryz.results113, go_sem]; try omega) rfl ⟨rfl, ((Below.refl _ _).alloc (Nat.le_refl _) _)⟩
theorem readPunct_rel_other (s : ByteArray) (at0 c : Nat) (w : World) (hL : LaidW w) (hlt0 : at0 < s.size) (hs : s.size ≤ 10000) (hc : Hid (cls (s[at0]'hlt0).toNat = c)) (h : c = 8) (hlt : at0 + 1 < s.size) (h61 : (((s[at0 + 1]'hlt).toNat : Int) == 61) = false) :
  Calls Tryz.prog 113 #[.string s, .int .i64 at0] w fun e w' => e = .returned (.tuple #[.agg #[.int .i64 3, .string (s.extract at0 (at0 + 1)), .int .i64 0, .int .i64 at0], .int .i64 ((at0 + 1 : Nat) : Int), .int .i64 0]) ∧ Below w.heap.size w w' := by
 have hsn := slice_ok1 s at0 (by omega)
 have hb := byte_lt (s[at0]'hlt0)
 all_goals
  subst h
  go_enter Tryz.func113, Tryz.ntmps113
  go_wp2_with fail
  refine (classOf_any _ _ (hL.1.alloc _) hb).mono ?_
  rw [hc.out]
  rintro e w' ⟨rfl, rfl⟩
  go_wp2
  exact bodyPost_ret (v := (.tuple #[.agg #[.int .i64 3, .string (s.extract at0 (at0 + 1)), .int .i64 0, .int .i64 at0], .int .i64 ((at0 + 1 : Nat) : Int), .int .i64 0])) (by simp [results, Tryz.results113, go_sem]; try omega) rfl ⟨rfl, ((Below.refl _ _).alloc (Nat.le_refl _) _)⟩
theorem readPunct_bang_end (s : ByteArray) (at0 c : Nat) (w : World) (hL : LaidW w) (hlt0 : at0 < s.size) (hs : s.size ≤ 10000) (hc : Hid (cls (s[at0]'hlt0).toNat = c)) (h : c = 9) (hlt : ¬ at0 + 1 < s.size) :
  Calls Tryz.prog 113 #[.string s, .int .i64 at0] w fun e w' => e = .returned (.tuple #[.agg #[.int .i64 0, .string ⟨#[]⟩, .int .i64 0, .int .i64 0], .int .i64 0, .int .i64 7]) ∧ Below w.heap.size w w' := by
 have hb := byte_lt (s[at0]'hlt0)
 have hlt2 : decide ((at0 : Int) + 1 < (s.size : Int)) = false := by simp; omega
 all_goals
  subst h
  go_enter Tryz.func113, Tryz.ntmps113
  go_wp2_with fail
  refine (classOf_any _ _ (hL.1.alloc _) hb).mono ?_
  rw [hc.out]
  rintro e w' ⟨rfl, rfl⟩
  go_wp2
  exact bodyPost_ret (v := (.tuple #[.agg #[.int .i64 0, .string ⟨#[]⟩, .int .i64 0, .int .i64 0], .int .i64 0, .int .i64 7])) (by simp [results, Tryz.results113, go_sem]; try omega) rfl ⟨rfl, ((Below.refl _ _).alloc (Nat.le_refl _) _)⟩
theorem readPunct_bang_other (s : ByteArray) (at0 c : Nat) (w : World) (hL : LaidW w) (hlt0 : at0 < s.size) (hs : s.size ≤ 10000) (hc : Hid (cls (s[at0]'hlt0).toNat = c)) (h : c = 9) (hlt : at0 + 1 < s.size) (h61 : (((s[at0 + 1]'hlt).toNat : Int) == 61) = false) :
  Calls Tryz.prog 113 #[.string s, .int .i64 at0] w fun e w' => e = .returned (.tuple #[.agg #[.int .i64 0, .string ⟨#[]⟩, .int .i64 0, .int .i64 0], .int .i64 0, .int .i64 7]) ∧ Below w.heap.size w w' := by
 have hb := byte_lt (s[at0]'hlt0)
 all_goals
  subst h
  go_enter Tryz.func113, Tryz.ntmps113
  go_wp2_with fail
  refine (classOf_any _ _ (hL.1.alloc _) hb).mono ?_
  rw [hc.out]
  rintro e w' ⟨rfl, rfl⟩
  go_wp2
  exact bodyPost_ret (v := (.tuple #[.agg #[.int .i64 0, .string ⟨#[]⟩, .int .i64 0, .int .i64 0], .int .i64 0, .int .i64 7])) (by simp [results, Tryz.results113, go_sem]; try omega) rfl ⟨rfl, ((Below.refl _ _).alloc (Nat.le_refl _) _)⟩
theorem read_name (s : ByteArray) (at0 c : Nat) (k : Int) (x : ByteArray) (m a : Int) (n1 n2 : Int) (w : World) (hL : LaidW w) (hlt0 : at0 < s.size) (hs : s.size ≤ 10000) (hc : Hid (cls (s[at0]'hlt0).toNat = c)) (h : c = 4)
  (hR : Hid (∀ w : World, LaidW w → Calls Tryz.prog 111 #[.string s, .int .i64 at0] w fun e w' => e = .returned (.tuple #[.agg #[.int .i64 k, .string x, .int .i64 m, .int .i64 a], .int .i64 n1, .int .i64 n2]) ∧ Below w.heap.size w w')) :
  Calls Tryz.prog 98 #[.string s, .int .i64 at0] w fun e w' => e = .returned (.tuple #[.agg #[.int .i64 k, .string x, .int .i64 m, .int .i64 a], .int .i64 n1, .int .i64 n2]) ∧ Below w.heap.size w w' := by
 have hb := byte_lt (s[at0]'hlt0)
 all_goals
  subst h
  go_enter Tryz.func98, Tryz.ntmps98
  go_wp2_with fail
  refine (classOf_any _ _ (hL.1.alloc _) hb).mono ?_
  rw [hc.out]
  rintro e w' ⟨rfl, rfl⟩
  go_wp2_with fail
  refine (hR.out _ (hL.alloc _)).mono ?_
  rintro e w' ⟨rfl, hb2⟩
  obtain ⟨hcc, hff⟩ := bcell hb2
  have hz : w.heap.size + 1 ≤ w'.heap.size := by have := hb2.size; simpa using this
  go_wp2
  exact bodyPost_ret (v := (.tuple #[.agg #[.int .i64 k, .string x, .int .i64 m, .int .i64 a], .int .i64 n1, .int .i64 n2])) (by simp [results, Tryz.results98, go_sem, hcc, hz]) rfl ⟨rfl, set4 (((Below.refl _ _).alloc (Nat.le_refl _) _).trans (hb2.mono (by simp))) (Nat.le_refl _)⟩
theorem read_number (s : ByteArray) (at0 c : Nat) (k : Int) (x : ByteArray) (m a : Int) (n1 n2 : Int) (w : World) (hL : LaidW w) (hlt0 : at0 < s.size) (hs : s.size ≤ 10000) (hc : Hid (cls (s[at0]'hlt0).toNat = c)) (h : c = 5)
  (hR : Hid (∀ w : World, LaidW w → Calls Tryz.prog 112 #[.string s, .int .i64 at0] w fun e w' => e = .returned (.tuple #[.agg #[.int .i64 k, .string x, .int .i64 m, .int .i64 a], .int .i64 n1, .int .i64 n2]) ∧ Below w.heap.size w w')) :
  Calls Tryz.prog 98 #[.string s, .int .i64 at0] w fun e w' => e = .returned (.tuple #[.agg #[.int .i64 k, .string x, .int .i64 m, .int .i64 a], .int .i64 n1, .int .i64 n2]) ∧ Below w.heap.size w w' := by
 have hb := byte_lt (s[at0]'hlt0)
 all_goals
  subst h
  go_enter Tryz.func98, Tryz.ntmps98
  go_wp2_with fail
  refine (classOf_any _ _ (hL.1.alloc _) hb).mono ?_
  rw [hc.out]
  rintro e w' ⟨rfl, rfl⟩
  go_wp2_with fail
  refine (hR.out _ (hL.alloc _)).mono ?_
  rintro e w' ⟨rfl, hb2⟩
  obtain ⟨hcc, hff⟩ := bcell hb2
  have hz : w.heap.size + 1 ≤ w'.heap.size := by have := hb2.size; simpa using this
  go_wp2
  exact bodyPost_ret (v := (.tuple #[.agg #[.int .i64 k, .string x, .int .i64 m, .int .i64 a], .int .i64 n1, .int .i64 n2])) (by simp [results, Tryz.results98, go_sem, hcc, hz]) rfl ⟨rfl, set4 (((Below.refl _ _).alloc (Nat.le_refl _) _).trans (hb2.mono (by simp))) (Nat.le_refl _)⟩
theorem read_punct (s : ByteArray) (at0 c : Nat) (k : Int) (x : ByteArray) (m a : Int) (n1 n2 : Int) (w : World) (hL : LaidW w) (hlt0 : at0 < s.size) (hs : s.size ≤ 10000) (hc : Hid (cls (s[at0]'hlt0).toNat = c)) (h : c = 7 ∨ c = 8 ∨ c = 9)
  (hR : Hid (∀ w : World, LaidW w → Calls Tryz.prog 113 #[.string s, .int .i64 at0] w fun e w' => e = .returned (.tuple #[.agg #[.int .i64 k, .string x, .int .i64 m, .int .i64 a], .int .i64 n1, .int .i64 n2]) ∧ Below w.heap.size w w')) :
  Calls Tryz.prog 98 #[.string s, .int .i64 at0] w fun e w' => e = .returned (.tuple #[.agg #[.int .i64 k, .string x, .int .i64 m, .int .i64 a], .int .i64 n1, .int .i64 n2]) ∧ Below w.heap.size w w' := by
 have hb := byte_lt (s[at0]'hlt0)
 rcases h with h | h | h
 all_goals
  subst h
  go_enter Tryz.func98, Tryz.ntmps98
  go_wp2_with fail
  refine (classOf_any _ _ (hL.1.alloc _) hb).mono ?_
  rw [hc.out]
  rintro e w' ⟨rfl, rfl⟩
  go_wp2_with fail
  refine (hR.out _ (hL.alloc _)).mono ?_
  rintro e w' ⟨rfl, hb2⟩
  obtain ⟨hcc, hff⟩ := bcell hb2
  have hz : w.heap.size + 1 ≤ w'.heap.size := by have := hb2.size; simpa using this
  go_wp2
  exact bodyPost_ret (v := (.tuple #[.agg #[.int .i64 k, .string x, .int .i64 m, .int .i64 a], .int .i64 n1, .int .i64 n2])) (by simp [results, Tryz.results98, go_sem, hcc, hz]) rfl ⟨rfl, set4 (((Below.refl _ _).alloc (Nat.le_refl _) _).trans (hb2.mono (by simp))) (Nat.le_refl _)⟩
theorem read_none (s : ByteArray) (at0 : Nat) (w : World) (hL : LaidW w) (hlt0 : at0 < s.size) (hs : s.size ≤ 10000)
  (h : (((cls (s[at0]'hlt0).toNat : Int) == 4) = false ∧ ((cls (s[at0]'hlt0).toNat : Int) == 5) = false) ∧ ((cls (s[at0]'hlt0).toNat : Int) == 7) = false ∧ ((cls (s[at0]'hlt0).toNat : Int) == 8) = false ∧ ((cls (s[at0]'hlt0).toNat : Int) == 9) = false) :
  Calls Tryz.prog 98 #[.string s, .int .i64 at0] w fun e w' => e = .returned (.tuple #[.agg #[.int .i64 0, .string ⟨#[]⟩, .int .i64 0, .int .i64 0], .int .i64 0, .int .i64 7]) ∧ Below w.heap.size w w' := by
 have hb := byte_lt (s[at0]'hlt0)
 obtain ⟨⟨h4, h5⟩, h7, h8, h9⟩ := h
 go_enter Tryz.func98, Tryz.ntmps98
 go_wp2_with fail
 refine (classOf_any _ _ (hL.1.alloc _) hb).mono ?_
 rintro e w' ⟨rfl, rfl⟩
 go_wp2
 exact bodyPost_ret (v := (.tuple #[.agg #[.int .i64 0, .string ⟨#[]⟩, .int .i64 0, .int .i64 0], .int .i64 0, .int .i64 7])) (by simp [results, Tryz.results98, go_sem]) rfl ⟨rfl, ((Below.refl _ _).alloc (Nat.le_refl _) _)⟩
end Go.Proofs.YtfmjbfpjkilpcaaGreatDoor
