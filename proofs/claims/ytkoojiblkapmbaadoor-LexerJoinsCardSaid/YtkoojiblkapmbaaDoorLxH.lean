/- The contract of the laws' fixed examples (head): it returns true; condition: the listed package-level variables hold what the text lays. -/
import Derived.Test.YtkoojiblkapmbaaDoorLxG
namespace Go.Proofs.YtkoojiblkapmbaaDoor
open Go.RowKit
set_option linter.unusedVariables false
set_option linter.unusedSimpArgs false

set_option maxRecDepth 100000 in
theorem ex1 : lx ⟨#[119, 60, 61, 51, 59, 35, 32, 120]⟩ = ([⟨1, ⟨#[119]⟩, 0, 0⟩, ⟨3, ⟨#[60, 61]⟩, 0, 1⟩, ⟨2, ⟨#[]⟩, 3, 3⟩, ⟨3, ⟨#[59]⟩, 0, 4⟩], 0, 0) := by kernel_rfl
set_option maxRecDepth 100000 in
theorem ex2 : lx ⟨#[97, 61, 61, 33, 61, 98]⟩ = ([⟨1, ⟨#[97]⟩, 0, 0⟩, ⟨3, ⟨#[61, 61]⟩, 0, 1⟩, ⟨3, ⟨#[33, 61]⟩, 0, 3⟩, ⟨1, ⟨#[98]⟩, 0, 5⟩], 0, 0) := by kernel_rfl
theorem ex3 : lx ⟨#[97, 32, 33, 32, 98]⟩ = ([], 7, 2) := by kernel_rfl
theorem ex4 : lx ⟨#[120, 32, 48, 48, 55]⟩ = ([], 7, 2) := by kernel_rfl
theorem ex5 : lx ⟨#[120, 32, 49, 48, 48, 48, 48, 48, 48, 48, 48, 49]⟩ = ([], 3, 2) := by kernel_rfl
theorem ex6 : lx ⟨#[97, 98, 99, 100, 101, 102, 103, 104, 105, 106, 107, 108, 109]⟩ = ([], 3, 0) := by kernel_rfl

def TrueB (w : World) (e : Ending) (w' : World) : Prop := e = .returned (.bool true) ∧ Below w.heap.size w w'
theorem LexPost.elim {s : ByteArray} {w w' : World} {e : Ending} {ts : List Tk} {er : Int} {p : Nat} (h : LexPost s w e w') (hx : lx s = (ts, er, p)) :
    ∃ A c, e = .returned (.tuple #[.slice A ts.length c, .int .i64 er, .int .i64 (p : Nat)]) ∧ w'.ownsRow w.heap.size 31 4 (.slice A ts.length c) ts.length (cellsOf ts) ∧ Below w.heap.size w w' := by
  unfold LexPost at h
  rw [hx] at h
  obtain ⟨v, h1, h2, h3⟩ := h
  obtain ⟨A, c, rfl⟩ := own_slice h2
  exact ⟨A, c, h1, h2, h3⟩
set_option maxHeartbeats 400000 in
set_option maxRecDepth 100000 in
theorem fails_true (s : ByteArray) (er pi : Int) (p : Nat) (hpi : pi = (p : Int)) (w : World) (hL : LaidW w) (hw : 5 < w.heap.size) (hm : s.size ≤ maxLen) (hx : Hid (lx s = ([], er, p))) :
    Calls Tryd.prog 18 #[.string s, .int .i64 er, .int .i64 pi] w (TrueB w) := by
  subst hpi
  go_enter Tryd.func18, Tryd.ntmps18
  go_wp2_with fail
  refine (Lex_any s w hL hw hm).mono ?_
  intro e w1 hp
  obtain ⟨A, c, rfl, -, hb⟩ := hp.elim hx.out
  go_wp2
  go_ret
  exact ⟨rfl, hb⟩

theorem cellsOf_at (ts : List Tk) : ∀ (i : Nat) (t : Tk), ts[i]? = some t → (cellsOf ts)[i * 4]? = some (.int .i64 t.k) ∧ (cellsOf ts)[i * 4 + 1]? = some (.string t.x) ∧ (cellsOf ts)[i * 4 + 2]? = some (.int .i64 t.m) ∧ (cellsOf ts)[i * 4 + 3]? = some (.int .i64 t.a) := by
  induction ts with
  | nil => intro i t h; simp at h
  | cons b r ih =>
    intro i t h
    have hc : cellsOf (b :: r) = b.cells ++ cellsOf r := by simp [cellsOf]
    rw [hc]
    cases i with
    | zero => simp at h; subst h; simp [Tk.cells]
    | succ j =>
      have h2 := ih j t (by simpa using h)
      have e : ∀ k, (b.cells ++ cellsOf r)[(j + 1) * 4 + k]? = (cellsOf r)[j * 4 + k]? := by
        intro k
        rw [List.getElem?_append_right (by simp [Tk.cells]; omega)]
        congr 1
        simp [Tk.cells]; omega
      have e0 := e 0
      simp only [Nat.add_zero] at e0
      rw [e0, e 1, e 2, e 3]
      exact h2
theorem cellsOf_len (ts : List Tk) : (cellsOf ts).length = ts.length * 4 := by
  induction ts with
  | nil => rfl
  | cons b r ih =>
    have hc : cellsOf (b :: r) = b.cells ++ cellsOf r := by simp [cellsOf]
    rw [hc, List.length_append, ih]; simp [Tk.cells]; omega
theorem TokS_own {w : World} {base c : Nat} {A : Option Addr} {ts : List Tk} (h : w.ownsRow base 31 4 (.slice A ts.length c) ts.length (cellsOf ts)) : TokS w w.heap.size A ts := by
  intro hpos
  rcases h.2 with ⟨_, h0⟩ | ⟨g, cap, cur, hv, hb, hg, _⟩
  · omega
  · injection hv with hA _ _
    subst hA
    refine ⟨g, 0, rfl, (Array.getElem?_eq_some_iff.1 hg).1, fun i t ht => ?_⟩
    obtain ⟨h0, h1, h2, h3⟩ := cellsOf_at ts i t ht
    have hadd : ∀ j, (⟨g, 0, none⟩ : Addr).add j = ⟨g, j, none⟩ := fun j => by unfold Addr.add; split <;> simp_all
    have hc := h.cells (g := g) rfl
    have k0 := hc _ _ h0
    have k1 := hc _ _ h1
    have k2 := hc _ _ h2
    have k3 := hc _ _ h3
    rw [hadd] at k0 k1 k2 k3
    refine ⟨?_, ?_, ?_, ?_⟩
    · rw [Nat.zero_add]; exact k0
    · rw [Nat.zero_add]; exact k1
    · rw [Nat.zero_add]; exact k2
    · rw [Nat.zero_add]; exact k3
theorem TokS_new (W : World) (arr : Array Value) (ts : List Tk) (h : arr.toList = cellsOf ts) : TokS (W.alloc (.cells arr 31)) (W.heap.size + 1) (some ⟨W.heap.size, 0, none⟩) ts := by
  intro hpos
  refine ⟨W.heap.size, 0, rfl, Nat.lt_succ_self _, fun i t ht => ?_⟩
  obtain ⟨h0, h1, h2, h3⟩ := cellsOf_at ts i t ht
  have hc : ∀ j u, (cellsOf ts)[j]? = some u → (W.alloc (.cells arr 31)).cell? ⟨W.heap.size, 0 + j, none⟩ = some u := fun j u hu => by
    rw [Nat.zero_add, cell_of_row _ _ j arr 31 (0, 0) (heap_alloc_new W _), ← Array.getElem?_toList, h]; exact hu
  exact ⟨hc _ _ h0, hc _ _ h1, hc _ _ h2, hc _ _ h3⟩
theorem TokS.keep {w w' : World} {B B' : Nat} {A : Option Addr} {ts : List Tk} (h : TokS w B A ts) (hb : Below B w w') (hB : B ≤ B') : TokS w' B' A ts := by
  intro hpos
  obtain ⟨g, o, hA, hg, hc⟩ := h hpos
  refine ⟨g, o, hA, by omega, fun i t ht => ?_⟩
  obtain ⟨h0, h1, h2, h3⟩ := hc i t ht
  exact ⟨by rw [hb.cell (p := ⟨g, _, none⟩) hg]; exact h0, by rw [hb.cell (p := ⟨g, _, none⟩) hg]; exact h1, by rw [hb.cell (p := ⟨g, _, none⟩) hg]; exact h2, by rw [hb.cell (p := ⟨g, _, none⟩) hg]; exact h3⟩

theorem Same_eq (w : World) (A B : Option Addr) (ts us : List Tk) (n m c d : Nat) (by_ : Int) (hn : n = ts.length) (hm : m = ts.length) (hu : us = ts.map (shiftT by_)) (hA : TokS w w.heap.size A ts) (hB : TokS w w.heap.size B us)
    (hl : ts.length ≤ 3000) (hby : 0 ≤ by_ ∧ by_ ≤ 100000) (ha : ∀ t ∈ ts, 0 ≤ t.a ∧ t.a ≤ 100000) :
    Calls Tryd.prog 13 #[.slice A n c, .slice B m d, .int .i64 by_] w (Drew w true) := by
  subst hn hm hu
  exact Same_true w A B ts c d by_ hA hB hl hby ha
theorem TokS.alloc {w : World} {A : Option Addr} {ts : List Tk} (h : TokS w w.heap.size A ts) (o : Obj) : TokS (w.alloc o) (w.alloc o).heap.size A ts :=
  h.keep ((Below.refl _ _).alloc (Nat.le_refl _) _) (by simp)
theorem TokS.drewN {w : World} {A : Option Addr} {ts : List Tk} (h : TokS w w.heap.size A ts) (n : Nat) : TokS (w.drewN n) (w.drewN n).heap.size A ts := h
theorem TokS_new' (W : World) (arr : Array Value) (ts : List Tk) (h : arr.toList = cellsOf ts) : TokS (W.alloc (.cells arr 31)) (W.alloc (.cells arr 31)).heap.size (some ⟨W.heap.size, 0, none⟩) ts := by
  have := TokS_new W arr ts h
  rw [World.size_alloc]
  exact this
theorem TokS_newAt (W : World) (arr : Array Value) (ts : List Tk) (b : Nat) (h : arr.toList = cellsOf ts) (hb : b = W.heap.size) : TokS (W.alloc (.cells arr 31)) (W.alloc (.cells arr 31)).heap.size (some ⟨b, 0, none⟩) ts := by
  subst hb
  exact TokS_new' W arr ts h
theorem below_drewN {B : Nat} {a w : World} (h : Below B a w) (n : Nat) : Below B a (w.drewN n) := ⟨h.os, h.tape, h.output, h.size, h.block⟩
def exA : List Tk := [⟨1, ⟨#[119]⟩, 0, 0⟩, ⟨3, ⟨#[60, 61]⟩, 0, 1⟩, ⟨2, ⟨#[]⟩, 3, 3⟩, ⟨3, ⟨#[59]⟩, 0, 4⟩]
def exB : List Tk := [⟨1, ⟨#[97]⟩, 0, 0⟩, ⟨3, ⟨#[61, 61]⟩, 0, 1⟩, ⟨3, ⟨#[33, 61]⟩, 0, 3⟩, ⟨1, ⟨#[98]⟩, 0, 5⟩]
theorem exA_len : exA.length = 4 := rfl
theorem exB_len : exB.length = 4 := rfl
set_option maxHeartbeats 800000 in
set_option maxRecDepth 100000 in
theorem head_any (w : World) (hL : LaidW w) (hw : 5 < w.heap.size) : Calls Tryd.prog 10 #[] w (TrueB w) := by
  go_enter Tryd.func10, Tryd.ntmps10
  go_wp2_with fail
  refine (Lex_any _ w hL hw (by decide)).mono ?_
  intro e w1 hp
  obtain ⟨A1, c1, rfl, ho1, hb1⟩ := hp.elim (ts := exA) ex1
  clear hp
  have L1 := hL.below hb1 hw
  have W1 : 5 < w1.heap.size := Nat.lt_of_lt_of_le hw hb1.size
  have T1 := Lib.hid (TokS_own ho1)
  clear ho1
  go_wp2_with fail
  refine (Lex_any _ w1 L1 W1 (by decide)).mono ?_
  intro e w2 hp
  obtain ⟨A2, c2, rfl, ho2, hb2⟩ := hp.elim (ts := exB) ex2
  clear hp
  have L2 := L1.below hb2 W1
  have W2 : 5 < w2.heap.size := Nat.lt_of_lt_of_le W1 hb2.size
  have T2 := Lib.hid (TokS_own ho2)
  clear ho2
  go_wp2_with fail
  refine (fails_true _ 7 2 2 rfl _ L2 W2 (by decide) ex3).mono ?_
  rintro e w3 ⟨rfl, hb3⟩
  have L3 := L2.below hb3 W2
  have W3 : 5 < w3.heap.size := Nat.lt_of_lt_of_le W2 hb3.size
  go_wp2_with fail
  refine (fails_true _ 7 2 2 rfl _ L3 W3 (by decide) ex4).mono ?_
  rintro e w4 ⟨rfl, hb4⟩
  have L4 := L3.below hb4 W3
  have W4 : 5 < w4.heap.size := Nat.lt_of_lt_of_le W3 hb4.size
  go_wp2_with fail
  refine (fails_true _ 3 2 2 rfl _ L4 W4 (by decide) ex5).mono ?_
  rintro e w5 ⟨rfl, hb5⟩
  have L5 := L4.below hb5 W4
  have W5 : 5 < w5.heap.size := Nat.lt_of_lt_of_le W4 hb5.size
  go_wp2_with fail
  refine (fails_true _ 3 0 0 rfl _ L5 W5 (by decide) ex6).mono ?_
  rintro e w6 ⟨rfl, hb6⟩
  have W6 : 5 < w6.heap.size := Nat.lt_of_lt_of_le W5 hb6.size
  have hb26 : Below w2.heap.size w2 w6 := ((hb3.trans (hb4.mono hb3.size)).trans (hb5.mono (Nat.le_trans hb3.size hb4.size))).trans (hb6.mono (Nat.le_trans hb3.size (Nat.le_trans hb4.size hb5.size)))
  have hb16 : Below w1.heap.size w1 w6 := hb2.trans (hb26.mono hb2.size)
  have hb06 : Below w.heap.size w w6 := hb1.trans (hb16.mono hb1.size)
  clear hL L1 L2 L3 L4 L5 hb3 hb4 hb5 hb6
  go_wp2_with fail
  refine (Same_eq _ A1 _ exA exA _ 4 _ _ 0 rfl rfl rfl ?hA1 ?hB1 (by decide) (by decide) (by decide)).mono ?_
  case hA1 => exact (T1.out.keep hb16 hb16.size).alloc _
  case hB1 => exact TokS_new' w6 _ exA rfl
  rintro e w7 ⟨rfl, n7, rfl⟩
  go_wp2_with fail
  refine (Same_eq _ A2 _ exB exB _ 4 _ _ 0 rfl rfl rfl ?hA ?hB (by decide) (by decide) (by decide)).mono ?_
  case hA => exact (((T2.out.keep hb26 hb26.size).alloc _).alloc _)
  case hB => exact TokS_newAt (w6.alloc _) _ exB _ rfl (World.size_alloc _ _).symm
  rintro e w8 ⟨rfl, n8, rfl⟩
  go_wp2
  go_ret
  refine ⟨rfl, hb06.trans ?_⟩
  have hs := hb06.size
  repeat' first
    | exact Below.refl _ _
    | refine below_drewN ?_ _
    | refine Below.alloc ?_ (by first | omega | (simp; omega) | (show _ ≤ (World.alloc _ _).heap.size; simp; omega)) _
end Go.Proofs.YtkoojiblkapmbaaDoor
