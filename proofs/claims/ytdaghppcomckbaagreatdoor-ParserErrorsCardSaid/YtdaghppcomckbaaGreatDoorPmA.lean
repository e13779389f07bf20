/- Texts of one proof: PxA, PxB, PxC. -/
import Derived.Test.YtdaghppcomckbaaGreatDoorLxF
import Derived.Lib.Hide
import Derived.WalkSpells
import Derived.BigQuiet
import Derived.Deep.QuietTactic
import Derived.Outline
import Derived.Laws.AppendOwn
import Derived.Laws.Rows
import Derived.Laws.NewBlocks
import Derived.Below
import Derived.Deep.AppendLies
import Derived.Deep.RegionLaw
import Derived.WalkLawsBesides
/- The parser: slices.Index on strings. -/
namespace Go.Proofs.YtdaghppcomckbaaGreatDoor
open Go.RowKit
set_option linter.unusedVariables false
set_option linter.unusedSimpArgs false

/-- the place of a text in a list, from a number on; -1: it isn't there -/
def idxF (x : ByteArray) : List ByteArray → Nat → Int
  | [], _ => -1
  | y :: l, k => if x = y then k else idxF x l (k + 1)
def idx (ws : List ByteArray) (x : ByteArray) : Int := idxF x ws 0
/-- a block of strings -/
def StrS (w : World) (g : Nat) (ws : List ByteArray) : Prop := ∀ (i : Nat) (x : ByteArray), ws[i]? = some x → w.cell? ⟨g, i, none⟩ = some (.string x)

theorem idxF_drop_hit (x : ByteArray) (ws : List ByteArray) (k j : Nat) (hk : k < ws.length) (h : x = ws[k]) : idxF x (ws.drop k) j = j := by
  rw [List.drop_eq_getElem_cons hk, idxF, if_pos h]
theorem idxF_drop_miss (x : ByteArray) (ws : List ByteArray) (k j : Nat) (hk : k < ws.length) (h : ¬ x = ws[k]) : idxF x (ws.drop k) j = idxF x (ws.drop (k + 1)) (j + 1) := by
  rw [List.drop_eq_getElem_cons hk, idxF, if_neg h]
theorem idxF_drop_end (x : ByteArray) (ws : List ByteArray) (k j : Nat) (hk : ws.length ≤ k) : idxF x (ws.drop k) j = -1 := by
  rw [List.drop_eq_nil_of_le hk, idxF]
theorem ret_i {k : IntKind} {a b : Int} (h : a = b) : Ending.returned (.int k a) = .returned (.int k b) := by rw [h]

theorem toList_inj {x y : ByteArray} (h : x.toList = y.toList) : x = y := by
  rw [ByteArray.toList_eq, ByteArray.toList_eq] at h
  cases x; cases y; simp at h; rw [h]
theorem bne_of (x y : ByteArray) (h : ¬ x = y) : (x.toList == y.toList) = false := by
  simp only [beq_eq_false_iff_ne]
  exact fun e => h (toList_inj e)
set_option maxHeartbeats 400000 in
set_option maxRecDepth 100000 in
theorem Index_any (w : World) (g c : Nat) (ws : List ByteArray) (x : ByteArray) (h : StrS w g ws) (hn : ws.length ≤ 1000) :
    Calls Tryz.prog 77 #[.slice (some ⟨g, 0, none⟩) ws.length c, .string x] w fun e w' => e = .returned (.int .i64 (idx ws x)) ∧ w = w' := by
  have H := Lib.hid h
  clear h
  go_enter Tryz.func77, Tryz.ntmps77
  go_wp2
  go_loop [8] (fun i => ∃ k : Nat, k ≤ ws.length ∧ i = .int .i64 k ∧ Hid (idxF x (ws.drop k) k = idx ws x)) (fun i => ws.length - (intOf i).toNat)
  case atStart => exact ⟨0, Nat.zero_le _, rfl, rfl⟩
  case round =>
    obtain ⟨k, hk, rfl, hI⟩ := hrel
    by_cases hlt : k < ws.length
    · have hc := H.out k _ (List.getElem?_eq_getElem hlt)
      have h1 := Lib.hid (idxF_drop_hit x ws k k hlt)
      have h2 := Lib.hid (idxF_drop_miss x ws k k hlt)
      generalize ws[k] = y at *
      by_cases hxy : x = y
      · subst hxy
        have h3 := Lib.hid ((h1.out rfl).symm.trans hI.out)
        clear h1 h2
        go_wp2
        go_ret
        exact ⟨ret_i h3.out, rfl⟩
      · have h3 := Lib.hid ((h2.out hxy).symm.trans hI.out)
        have hne := bne_of x y hxy
        clear hxy h1 h2
        go_wp2
        go_round
        case rel => exact ⟨k + 1, by omega, by go_num, h3⟩
        case measure => simp [intOf]; omega
    · have h3 := Lib.hid ((idxF_drop_end x ws k k (by omega)).symm.trans hI.out)
      go_wp2
      go_ret
      exact ⟨ret_i h3.out, rfl⟩
end Go.Proofs.YtdaghppcomckbaaGreatDoor

/- The parser's reader in memory: what it holds, and how the memory grows. -/
namespace Go.Proofs.YtdaghppcomckbaaGreatDoor
open Go.RowKit
set_option linter.unusedVariables false
set_option linter.unusedSimpArgs false

/-- where the reader lies, and its tokens -/
structure Cx where
  R : Nat
  tg : Nat
  tc : Nat
  ts : List Tk
def Cx.p (C : Cx) : Value := .pointer (some ⟨C.R, 0, none⟩)
def dCells (ds : List (Int × Int)) : List Value := ds.flatMap fun d => [.int .i64 d.1, .int .i64 d.2]
def TkAt (w : World) (g i : Nat) (t : Tk) : Prop :=
  w.cell? ⟨g, i * 4, none⟩ = some (.int .i64 t.k) ∧ w.cell? ⟨g, i * 4 + 1, none⟩ = some (.string t.x) ∧ w.cell? ⟨g, i * 4 + 2, none⟩ = some (.int .i64 t.m) ∧ w.cell? ⟨g, i * 4 + 3, none⟩ = some (.int .i64 t.a)
def rCells (C : Cx) (nx : Nat) (dv : Value) : Array Value := #[.slice (some ⟨C.tg, 0, none⟩) C.ts.length C.tc, .int .i64 (nx : Nat), dv]
/-- the reader stands at a token, with diagnostics -/
structure PS (C : Cx) (w : World) (nx : Nat) (dv : Value) (ds : List (Int × Int)) : Prop where
  blk : w.heap[C.R]? = some (.cells (rCells C nx dv) 46 (0, 0))
  tok : ∀ (i : Nat) (t : Tk), C.ts[i]? = some t → TkAt w C.tg i t
  own : w.ownsRow C.R 31 2 dv ds.length (dCells ds)
  nR : C.tg ≠ C.R
  dR : dv.ownBlock ≠ some C.R
  dT : dv.ownBlock ≠ some C.tg
  lt : nx < C.ts.length
  le : C.ts.length ≤ 3001
  sen : ∃ t0 n, C.ts = t0 ++ [⟨0, ⟨#[]⟩, 0, n⟩]

/-- new blocks, and writes to the reader's block and to one more -/
structure Kp (R : Nat) (o : Option Nat) (w w' : World) : Prop where
  os : w'.os = w.os
  tape : w'.tape = w.tape
  output : w'.output = w.output
  size : w.heap.size ≤ w'.heap.size
  block : ∀ k, k < w.heap.size → k ≠ R → some k ≠ o → w'.heap[k]? = w.heap[k]?

theorem Kp.refl (R : Nat) (o : Option Nat) (w : World) : Kp R o w w := ⟨rfl, rfl, rfl, Nat.le_refl _, fun _ _ _ _ => rfl⟩
theorem Kp.trans {R : Nat} {o : Option Nat} {a b c : World} (h : Kp R o a b) (k : Kp R o b c) : Kp R o a c :=
  ⟨k.os.trans h.os, k.tape.trans h.tape, k.output.trans h.output, Nat.le_trans h.size k.size, fun i hi h1 h2 => (k.block i (Nat.lt_of_lt_of_le hi h.size) h1 h2).trans (h.block i hi h1 h2)⟩
theorem Kp.up {R : Nat} {o : Option Nat} {a b : World} (h : Kp R none a b) : Kp R o a b := ⟨h.os, h.tape, h.output, h.size, fun i hi h1 _ => h.block i hi h1 (by simp)⟩
theorem Below.kp {R : Nat} {o : Option Nat} {a b : World} (h : Below a.heap.size a b) : Kp R o a b := ⟨h.os, h.tape, h.output, h.size, fun i hi _ _ => h.block i hi⟩
theorem Kp.below {R : Nat} {o : Option Nat} {a b : World} {B : Nat} (h : Kp R o a b) (hB : B ≤ a.heap.size) (hR : B ≤ R) (ho : ∀ k, o = some k → B ≤ k) : Below B a b :=
  ⟨h.os, h.tape, h.output, h.size, fun i hi => h.block i (by omega) (by omega) (fun e => by have := ho i e.symm; omega)⟩

theorem TkAt.keep {w w' : World} {g i : Nat} {t : Tk} (h : TkAt w g i t) (hb : w'.heap[g]? = w.heap[g]?) : TkAt w' g i t := by
  have e : ∀ o, w'.cell? ⟨g, o, none⟩ = w.cell? ⟨g, o, none⟩ := fun o => World.cell?_of_block (a := ⟨g, o, none⟩) hb
  unfold TkAt
  rw [e, e, e, e]
  exact h

section
variable {C : Cx} {w w' : World} {nx : Nat} {dv : Value} {ds : List (Int × Int)}
theorem PS.tgLt (h : PS C w nx dv ds) : C.tg < w.heap.size := by
  have h1 := (h.tok nx _ (List.getElem?_eq_getElem h.lt)).1
  exact World.block_lt_of_cell? w _ h1
theorem PS.RLt (h : PS C w nx dv ds) : C.R < w.heap.size := (Array.getElem?_eq_some_iff.1 h.blk).1
theorem PS.move (h : PS C w nx dv ds) {nx' : Nat} (hblk : w'.heap[C.R]? = some (.cells (rCells C nx' dv) 46 (0, 0))) (hlt : nx' < C.ts.length)
    (hb : ∀ k, k < w.heap.size → k ≠ C.R → w'.heap[k]? = w.heap[k]?) : PS C w' nx' dv ds := by
  refine ⟨hblk, fun i t ht => (h.tok i t ht).keep (hb _ h.tgLt h.nR), ?_, h.nR, h.dR, h.dT, hlt, h.le, h.sen⟩
  refine ⟨h.own.1, ?_⟩
  rcases h.own.2 with hn | ⟨g, cap, cur, rfl, h1, h2, rest⟩
  · exact .inl hn
  · refine .inr ⟨g, cap, cur, rfl, h1, ?_, rest⟩
    have hg : g ≠ C.R := fun e => h.dR (by simp [Value.ownBlock, e])
    rw [hb g (Array.getElem?_eq_some_iff.1 h2).1 hg]
    exact h2
theorem PS.below (h : PS C w nx dv ds) (hb : Below w.heap.size w w') : PS C w' nx dv ds :=
  h.move ((hb.block _ h.RLt).trans h.blk) h.lt (fun k hk _ => hb.block k hk)
theorem PS.c0 (h : PS C w nx dv ds) : w.cell? ⟨C.R, 0, none⟩ = some (.slice (some ⟨C.tg, 0, none⟩) C.ts.length C.tc) := by
  rw [cell_of_row _ _ 0 _ _ (0, 0) h.blk]; rfl
theorem PS.c1 (h : PS C w nx dv ds) : w.cell? ⟨C.R, 1, none⟩ = some (.int .i64 (nx : Nat)) := by
  rw [cell_of_row _ _ 1 _ _ (0, 0) h.blk]; rfl
theorem PS.c2 (h : PS C w nx dv ds) : w.cell? ⟨C.R, 2, none⟩ = some dv := by
  rw [cell_of_row _ _ 2 _ _ (0, 0) h.blk]; rfl
theorem PS.fz (h : PS C w nx dv ds) (i : Nat) : w.frozen? ⟨C.R, i, none⟩ = false := by
  simp [World.frozen?, h.blk]
theorem PS.bump (h : PS C w nx dv ds) (hl : nx + 1 < C.ts.length) : PS C (w.setCell ⟨C.R, 1, none⟩ (.int .i64 ((nx : Nat) + 1))) (nx + 1) dv ds := by
  refine h.move ?_ hl (fun k _ hk => heap_setCell_other w _ k _ hk)
  rw [heap_setCell_same w C.R 1 _ _ _ h.blk]
  simp [rCells]
end

/-- the token at the head of a list -/
def hd (l : List Tk) : Tk := l.headD ⟨0, ⟨#[]⟩, 0, 0⟩
def Cx.l (C : Cx) (nx : Nat) : List Tk := C.ts.drop nx
def Tk.v (t : Tk) : Value := .agg #[.int .i64 t.k, .string t.x, .int .i64 t.m, .int .i64 t.a]
theorem PS.hdAt {C : Cx} {w : World} {nx : Nat} {dv : Value} {ds : List (Int × Int)} (h : PS C w nx dv ds) : TkAt w C.tg nx (hd (C.l nx)) := by
  have hl := h.lt
  have e : hd (C.l nx) = C.ts[nx] := by unfold hd Cx.l; rw [List.drop_eq_getElem_cons hl]; rfl
  rw [e]
  exact h.tok nx _ (List.getElem?_eq_getElem hl)

set_option maxHeartbeats 400000 in
set_option maxRecDepth 100000 in
theorem token_any (C : Cx) (w : World) (nx : Nat) (dv : Value) (ds : List (Int × Int)) (h : PS C w nx dv ds) :
    Calls Tryz.prog 38 #[.pointer (some ⟨C.R, 0, none⟩)] w fun e w' => e = .returned (.agg #[.int .i64 (hd (C.l nx)).k, .string (hd (C.l nx)).x, .int .i64 (hd (C.l nx)).m, .int .i64 (hd (C.l nx)).a]) ∧ Below w.heap.size w w' := by
  obtain ⟨t0, t1, t2, t3⟩ := h.hdAt
  have c0 := h.c0
  have c1 := h.c1
  have hlt := h.lt
  have hle := h.le
  have hR := h.RLt
  have hT := h.tgLt
  clear h
  generalize hd (C.l nx) = t at *
  generalize C.R = R at *
  generalize C.tg = tg at *
  generalize C.tc = tc at *
  generalize C.ts.length = n at *
  go_enter Tryz.func38, Tryz.ntmps38
  go_wp2
  go_region
  all_goals go_wp2
  all_goals exact bodyPost_ret (v := .agg #[.int .i64 t.k, .string t.x, .int .i64 t.m, .int .i64 t.a]) (by simp [results, Tryz.results38, go_sem]) rfl ⟨rfl, ((Below.refl _ _).alloc (Nat.le_refl _) _).drew⟩
theorem tfield0 (a b c d : Value) (w : World) : (Instr.field 44 (.agg #[a, b, c, d]) 0).run Tryz.prog w = .ok a w := by kernel_rfl
theorem tfield1 (a b c d : Value) (w : World) : (Instr.field 44 (.agg #[a, b, c, d]) 1).run Tryz.prog w = .ok b w := by kernel_rfl
theorem tfield3 (a b c d : Value) (w : World) : (Instr.field 44 (.agg #[a, b, c, d]) 3).run Tryz.prog w = .ok d w := by kernel_rfl
end Go.Proofs.YtdaghppcomckbaaGreatDoor

/- The parser's reader: a failure is noted and leaves by a panic. -/
namespace Go.Proofs.YtdaghppcomckbaaGreatDoor
open Go.RowKit
set_option linter.unusedVariables false
set_option linter.unusedSimpArgs false

theorem diagInfo : (Tryz.prog.info? 31).map (fun i => (i.zero, i.size, i.bytes)) = some (some (.agg #[.int .i64 0, .int .i64 0]), 2, 16) := by kernel_rfl
def Pan (e : Ending) : Prop := ∃ T v, e = .panicked [{ v := .iface T v, recovered := false }]
/-- the reader has noted an error at a token, and a panic goes on -/
def FailPost (C : Cx) (nx : Nat) (dv : Value) (ds : List (Int × Int)) (er : Int) (w : World) (e : Ending) (w' : World) : Prop :=
  Pan e ∧ (∃ dv', PS C w' nx dv' (ds ++ [(er, (hd (C.l nx)).a)])) ∧ Kp C.R dv.ownBlock w w'

theorem PS.grown {C : Cx} {w w' : World} {nx : Nat} {dv : Value} {ds : List (Int × Int)} {o : Obj} (h : PS C w nx dv ds) (hg : (w.alloc o).grownBy w' dv.ownBlock) :
    w'.cell? ⟨C.R, 2, none⟩ = some dv ∧ w'.frozen? ⟨C.R, 2, none⟩ = false ∧ C.R < w'.heap.size ∧ w'.heap[C.R]? = some (.cells (rCells C nx dv) 46 (0, 0)) ∧ w'.heap[C.tg]? = w.heap[C.tg]? := by
  have h1 : ∀ k, k < w.heap.size → some k ≠ dv.ownBlock → w'.heap[k]? = w.heap[k]? := fun k hk hn =>
    (hg.block k (by simp; omega) hn).trans (Below.heap_alloc w o k hk)
  have h2 := (h1 C.R h.RLt (fun e => h.dR e.symm)).trans h.blk
  have h3 := h1 C.tg h.tgLt (fun e => h.dT e.symm)
  refine ⟨?_, ?_, (Array.getElem?_eq_some_iff.1 h2).1, h2, h3⟩
  · rw [cell_of_row _ _ 2 _ _ (0, 0) h2]; rfl
  · simp [World.frozen?, h2]
theorem grownBy_setCell (w : World) (a : Addr) (v : Value) : w.grownBy (w.setCell a v) (some a.block) :=
  ⟨rfl, rfl, rfl, by simp, fun k _ hk => heap_setCell_other w a k v (fun e => hk (by rw [e]))⟩
theorem Kp.setCell {R : Nat} {o : Option Nat} {w w' : World} (h : Kp R o w w') {b i : Nat} (hb : b = R ∨ w.heap.size ≤ b) (v : Value) : Kp R o w (w'.setCell ⟨b, i, none⟩ v) :=
  ⟨h.os, h.tape, h.output, by simpa using h.size, fun k hk h1 h2 => (heap_setCell_other w' _ k v (by rcases hb with rfl | hb <;> first | exact h1 | (show k ≠ b; omega))).trans (h.block k hk h1 h2)⟩
theorem Kp.alloc {R : Nat} {o : Option Nat} {w w' : World} (h : Kp R o w w') (ob : Obj) : Kp R o w (w'.alloc ob) :=
  h.trans (Below.kp ((Below.refl _ _).alloc (Nat.le_refl _) _))
theorem Kp.drew {R : Nat} {o : Option Nat} {w w' : World} (h : Kp R o w w') : Kp R o w w'.drew :=
  h.trans (Below.kp ((Below.refl _ _).drew))
theorem Kp.grown {R : Nat} {o : Option Nat} {w w' w2 : World} (h : Kp R o w w') {row : Option Nat} (hg : w'.grownBy w2 row) (hr : row = o ∨ ∀ k, row = some k → w.heap.size ≤ k) : Kp R o w w2 :=
  ⟨hg.os.trans h.os, hg.tape.trans h.tape, hg.output.trans h.output, Nat.le_trans h.size hg.size, fun k hk h1 h2 => (hg.block k (Nat.lt_of_lt_of_le hk h.size) (fun e => by
    rcases hr with rfl | hr
    · exact h2 e
    · have := hr k e.symm; omega)).trans (h.block k hk h1 h2)⟩
theorem FailPost.mk {C : Cx} {w w1 w2 : World} {nx : Nat} {dv : Value} {ds : List (Int × Int)} {er : Int} {T : TypeId} {pv : Value} {o : Obj} {g cap : Nat} (hb : Below w.heap.size w w1) (h : PS C w1 nx dv ds) (hg : (w1.alloc o).grownBy w2 dv.ownBlock)
    (hown : w2.ownsRow C.R 31 2 (.slice (some ⟨g, 0, none⟩) (ds.length + 1) cap) (ds.length + 1) (dCells ds ++ [.int .i64 er, .int .i64 (hd (C.l nx)).a])) (hat : dv.ownBlock = some g ∨ g = w1.heap.size + 1) :
    FailPost C nx dv ds er w (.panicked [{ v := .iface T pv, recovered := false }]) (w2.setCell ⟨C.R, 2, none⟩ (.slice (some ⟨g, 0, none⟩) (ds.length + 1) cap)) := by
  obtain ⟨-, -, hR2, hblk, htg⟩ := h.grown hg
  have hgR : g ≠ C.R := by
    rcases hat with e | e
    · exact fun e2 => h.dR (by rw [e, e2])
    · have := h.RLt; omega
  have hgT : g ≠ C.tg := by
    rcases hat with e | e
    · exact fun e2 => h.dT (by rw [e, e2])
    · have := h.tgLt; omega
  refine ⟨⟨T, pv, rfl⟩, ⟨.slice (some ⟨g, 0, none⟩) (ds.length + 1) cap, ⟨?_, fun i t ht => ?_, ?_, h.nR, ?_, ?_, h.lt, h.le, h.sen⟩⟩, ?_⟩
  · rw [heap_setCell_same w2 C.R 2 _ _ _ hblk]; simp [rCells]
  · exact (h.tok i t ht).keep ((heap_setCell_other w2 _ C.tg _ h.nR).trans htg)
  · have e1 : (ds ++ [(er, (hd (C.l nx)).a)]).length = ds.length + 1 := by simp
    have e2 : dCells (ds ++ [(er, (hd (C.l nx)).a)]) = dCells ds ++ [.int .i64 er, .int .i64 (hd (C.l nx)).a] := by simp [dCells]
    rw [e1, e2]
    exact hown.kept (grownBy_setCell w2 ⟨C.R, 2, none⟩ _) (.inr (by simp [Value.ownBlock]; exact hgR))
  · simp [Value.ownBlock]; exact hgR
  · simp [Value.ownBlock]; exact hgT
  · exact (((Below.kp hb).alloc o).grown hg (.inl rfl)).setCell (.inl rfl) _
theorem dg_one (a b : Int) : ∀ u ∈ [Value.int .i64 a, .int .i64 b], u.oneCell' = true := by
  intro u hu
  simp only [List.mem_cons, List.not_mem_nil, or_false] at hu
  rcases hu with rfl | rfl <;> rfl
set_option maxHeartbeats 1000000 in
set_option maxRecDepth 100000 in
theorem fail_any (C : Cx) (w : World) (nx : Nat) (dv : Value) (ds : List (Int × Int)) (er : Int) (h : PS C w nx dv ds) (hds : ds.length ≤ 100) :
    Calls Tryz.prog 67 #[.pointer (some ⟨C.R, 0, none⟩), .int .i64 er] w (FailPost C nx dv ds er w) := by
  have hP := Lib.hid (h.below ((Below.refl w.heap.size w).drew))
  have hT := Lib.hid (token_any C w.drew nx dv ds hP.out)
  have c2 := h.c2
  have z2 := h.fz 2
  have hR := h.RLt
  obtain ⟨i0, hi, hz0, hz1, hz2⟩ := info_parts diagInfo
  have HH := Lib.hid h
  have hdl := Lib.hid hds
  have hdB := Lib.hid h.dR
  clear h hds
  have f3 := tfield3
  go_enter Tryz.func67, Tryz.ntmps67
  go_wp2
  go_region_law (first
    | (refine step_append_lies _ (by rfl) _ _ _ (by rfl) C.R 31 i0 _ 2 16 Tryz.underlying26 hi hz0 hz1 hz2 rfl (by decide) dv ds.length (dCells ds) (by rfl) ((hP1.out.own).alloc _) _ 1 1 [.int .i64 er, .int .i64 (hd (C.l nx)).a] (by rfl) (by rfl) (new_cells w1 #[.int .i64 er, .int .i64 (hd (C.l nx)).a] _ _ rfl) (dg_one er _) (by decide) (by have := hdl.out; unfold maxLen; omega) (by have := hdl.out; omega) (by simp; omega) _ rfl ?_; intro g cap w2 hown2 hgrow hat hlt2; have hB2 := Lib.hid (hP1.out.grown hgrow); have c22 := hB2.out.1; have z22 := hB2.out.2.1; have hR2 := hB2.out.2.2.1)
    | (go_simp; go_at_call 38; refine (hT.out).mono ?_; rintro e w1 ⟨rfl, hb1⟩; have hP1 := Lib.hid (hP.out.below hb1); have c21 := hP1.out.c2; have z21 := hP1.out.fz 2; have hR1 := hP1.out.RLt))
  all_goals
    go_wp2
  all_goals exact ⟨rfl, FailPost.mk (((Below.refl _ w).drew).trans hb1) hP1.out hgrow hown2 (by simpa using hat)⟩
end Go.Proofs.YtdaghppcomckbaaGreatDoor
