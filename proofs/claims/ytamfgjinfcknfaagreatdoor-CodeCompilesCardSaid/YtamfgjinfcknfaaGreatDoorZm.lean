/- Texts of one proof: PxF, PxH, PxK, PxL, PxM, PxN, PyB. -/
import Derived.Test.YtamfgjinfcknfaaGreatDoorZk
import Derived.Deep.LoopGhost
import Derived.OwnWalk
import Derived.WalkMore
import Derived.BigCall
import Derived.Deep.RegionWith
import Derived.IntWalk
set_option linter.unusedVariables false
set_option linter.unusedSimpArgs false
set_option maxRecDepth 100000
set_option maxHeartbeats 8000000
namespace Go.Proofs.YtamfgjinfcknfaaGreatDoor
open Go.RowKit
def inpL : List (List UInt8) := [[97, 99, 107, 101, 100], [114, 116, 116], [115, 105, 122, 101], [116, 111, 116, 97, 108]]
def inpB (x : ByteArray) : Bool := inpL.any fun y => x.toList == y
def keyL : List (List UInt8) := [[108, 105, 110, 107], [114, 97, 116, 101], [100, 101, 108, 97, 121], [114, 111, 111, 109], [112, 97, 116, 104], [98, 97, 99, 107], [102, 108, 111, 119],
 [112, 114, 111, 103, 114, 97, 109], [112, 97, 116, 104, 115], [115, 105, 122, 101], [119, 105, 110, 100, 111, 119], [115, 116, 97, 114, 116], [112, 97, 99, 101],
 [116, 97, 105, 108], [101, 97, 114, 108, 121], [115, 111, 106, 111, 117, 114, 110], [105, 110, 116, 101, 103, 114, 97, 108], [100, 101, 102, 105, 99, 105, 116], [100, 117, 97, 108],
 [118, 97, 114], [110, 111, 110, 101], [112, 97, 99, 107, 101, 116, 115], [98, 121, 116, 101, 115], [116, 105, 109, 101],
 [111, 110], [97, 99, 107], [108, 111, 115, 115], [109, 97, 114, 107], [116, 105, 109, 101, 111, 117, 116],
 [105, 102], [101, 108, 115, 101], [109, 105, 110], [109, 97, 120], [117, 112]]
def keyB (x : ByteArray) : Bool := (keyL.any fun y => x.toList == y) || inpB x
theorem isInput_any (x : ByteArray) (w : World) : Calls Tryz.prog 127 #[.string x] w fun e w' => e = .returned (.bool (inpB x)) ∧ w = w' := by
 go_enter Tryz.func127, Tryz.ntmps127
 go_wp2
 all_goals
  go_ret
  refine ⟨?_, rfl⟩
  first | (exfalso; simp_all; done) | (simp [inpB, inpL, *]; done)
def KeyPost (x : ByteArray) (w : World) (e : Ending) (w' : World) : Prop := e = .returned (.bool (keyB x)) ∧ w = w'
theorem isKey_any (x : ByteArray) (w : World) : Calls Tryz.prog 116 #[.string x] w (KeyPost x w) := by
 have hI := Lib.hid (isInput_any x w)
 go_enter Tryz.func116, Tryz.ntmps116
 go_wp2_with (refine hI.out.mono ?_; rintro e w' ⟨rfl, rfl⟩)
 all_goals
  go_ret
  refine ⟨?_, rfl⟩
  first | (exfalso; simp_all; done) | (simp [keyB, keyL, *]; done)
def numNd (m u a : Int) : Nd := .mk 13 ⟨#[]⟩ m u a []
end Go.Proofs.YtamfgjinfcknfaaGreatDoor
namespace Go.Proofs.YtamfgjinfcknfaaGreatDoor
open Go.RowKit
theorem nd_one (t : Nd) (A : Option Addr) (c : Nat) : ∀ u ∈ nCells t A c, u.oneCell' = true := by
 intro u hu
 simp only [nCells, List.mem_cons, List.not_mem_nil, or_false] at hu
 rcases hu with rfl | rfl | rfl | rfl | rfl | rfl <;> rfl
abbrev ndArr (t : Nd) (A : Option Addr) (c : Nat) : Array Value := #[.int .i64 t.kind, .string t.name, .int .i64 t.n, .int .i64 t.unit, .int .i64 t.at0, .slice A t.kids.length (t.kids.length + c)]
theorem VNds.snoc {B B' : Nat} {w w2 : World} {v : Value} {ts : List Nd} {t : Nd} {A : Option Addr} {c g cap H : Nat} {vs : List Value} {o : Obj} (hown : w.ownsRow B 77 6 v ts.length vs) (hr : RowsR w (Beside B v) ts vs) (hk : KidsR w (From B') t.kids A)
  (hv : ∀ k, v.ownBlock = some k → k < B') (hB : B ≤ B') (hg : (w.alloc o).grownBy w2 v.ownBlock)
  (hown2 : w2.ownsRow B 77 6 (.slice (some ⟨g, 0, none⟩) (ts.length + 1) cap) (ts.length + 1) (vs ++ nCells t A c)) (hat : v.ownBlock = some g ∨ g = H) (hH : w.heap.size < H) :
  VNds B w2 (.slice (some ⟨g, 0, none⟩) (ts.length + 1) cap) (ts ++ [t]) := by
 have hkeep : ∀ k, Beside B v k → k < w.heap.size → w2.heap[k]? = w.heap[k]? ∧ Beside B (.slice (some ⟨g, 0, none⟩) (ts.length + 1) cap) k := by
  intro k hk1 hk2
  refine ⟨(hg.block k (by simp; omega) (fun e => hk1.2 e.symm)).trans (Below.heap_alloc w o k hk2), hk1.1, ?_⟩
  simp only [Value.ownBlock]
  intro e
  rcases hat with h1 | h1
  ·exact hk1.2 (h1.trans e)
  ·cases e; omega
 have hk' : KidsR w2 (Beside B (.slice (some ⟨g, 0, none⟩) (ts.length + 1) cap)) t.kids A :=
  hk.keep (fun k hk1 hk2 => hkeep k ⟨Nat.le_trans hB hk1, fun e => by have := hv k e; exact absurd this (Nat.not_lt.2 hk1)⟩ hk2)
 exact ⟨vs ++ nCells t A c, by simpa using hown2, RowsR.app (RowsR.one t A c hk') ts vs (hr.keep hkeep)⟩
end Go.Proofs.YtamfgjinfcknfaaGreatDoor
namespace Go.Proofs.YtamfgjinfcknfaaGreatDoor
open Go.RowKit
theorem blkLt {w : World} {b : Nat} {o : Obj} (h : w.heap[b]? = some o) : b < w.heap.size := (Array.getElem?_eq_some_iff.1 h).1
end Go.Proofs.YtamfgjinfcknfaaGreatDoor
namespace Go.Proofs.YtamfgjinfcknfaaGreatDoor
open Go.RowKit
section
variable {w : World} {b : Nat} {a0 a1 a2 a3 a4 a5 v : Value} {T : TypeId}
theorem set6_0 (h : w.heap[b]? = some (.cells #[a0, a1, a2, a3, a4, a5] T (0, 0))) : (w.setCell ⟨b, 0, none⟩ v).heap[b]? = some (.cells #[v, a1, a2, a3, a4, a5] T (0, 0)) := heap_setCell_same w b 0 _ T v h
theorem set6_1 (h : w.heap[b]? = some (.cells #[a0, a1, a2, a3, a4, a5] T (0, 0))) : (w.setCell ⟨b, 1, none⟩ v).heap[b]? = some (.cells #[a0, v, a2, a3, a4, a5] T (0, 0)) := heap_setCell_same w b 1 _ T v h
theorem set6_2 (h : w.heap[b]? = some (.cells #[a0, a1, a2, a3, a4, a5] T (0, 0))) : (w.setCell ⟨b, 2, none⟩ v).heap[b]? = some (.cells #[a0, a1, v, a3, a4, a5] T (0, 0)) := heap_setCell_same w b 2 _ T v h
theorem set6_3 (h : w.heap[b]? = some (.cells #[a0, a1, a2, a3, a4, a5] T (0, 0))) : (w.setCell ⟨b, 3, none⟩ v).heap[b]? = some (.cells #[a0, a1, a2, v, a4, a5] T (0, 0)) := heap_setCell_same w b 3 _ T v h
theorem set6_4 (h : w.heap[b]? = some (.cells #[a0, a1, a2, a3, a4, a5] T (0, 0))) : (w.setCell ⟨b, 4, none⟩ v).heap[b]? = some (.cells #[a0, a1, a2, a3, v, a5] T (0, 0)) := heap_setCell_same w b 4 _ T v h
theorem set6_5 (h : w.heap[b]? = some (.cells #[a0, a1, a2, a3, a4, a5] T (0, 0))) : (w.setCell ⟨b, 5, none⟩ v).heap[b]? = some (.cells #[a0, a1, a2, a3, a4, v] T (0, 0)) := heap_setCell_same w b 5 _ T v h
end
end Go.Proofs.YtamfgjinfcknfaaGreatDoor
namespace Go.Proofs.YtamfgjinfcknfaaGreatDoor
open Go.RowKit
def psz : Nat → Nat
 | 2 => 3 | 3 => 2 | 4 => 3 | 5 => 1 | 6 => 2 | _ => 0
theorem policySize_any (n : Nat) (w : World) (h : n ≤ 6) : Calls Tryz.prog 101 #[.int .i64 n] w fun e w' => e = .returned (.int .i64 (psz n : Nat)) ∧ Below w.heap.size w w' := by
 have hn : n = 0 ∨ n = 1 ∨ n = 2 ∨ n = 3 ∨ n = 4 ∨ n = 5 ∨ n = 6 := by omega
 rcases hn with rfl | rfl | rfl | rfl | rfl | rfl | rfl
 all_goals
  go_enter Tryz.func101, Tryz.ntmps101
  go_wp2
  go_ret
  exact ⟨rfl, (Below.refl _ _).alloc (Nat.le_refl _) _⟩
end Go.Proofs.YtamfgjinfcknfaaGreatDoor
namespace Go.Proofs.YtamfgjinfcknfaaGreatDoor
open Go.RowKit
theorem newBlk (w : World) (o : Obj) (b : Nat) (h : b = w.heap.size) : (w.alloc o).heap[b]? = some o := by subst h; exact heap_alloc_new w o
end Go.Proofs.YtamfgjinfcknfaaGreatDoor
namespace Go.Proofs.YtamfgjinfcknfaaGreatDoor
open Go.RowKit
mutual
def spareN : Nd → Int → Int
 | .mk _ _ _ _ _ kids, n => spareL kids (n - 1)
def spareL : List Nd → Int → Int
 | [], n => n
 | t :: ts, n => if 0 ≤ n then spareL ts (spareN t n) else n
end
mutual
theorem spareN_le : ∀ (t : Nd) (n : Int), 0 ≤ n → spareN t n ≤ n - 1 ∧ -1 ≤ spareN t n
 | .mk _ _ _ _ _ kids, n, h => by
  unfold spareN
  have := spareL_le kids (n - 1) (by omega)
  omega
theorem spareL_le : ∀ (ts : List Nd) (n : Int), -1 ≤ n → spareL ts n ≤ n ∧ -1 ≤ spareL ts n
 | [], n, h => by unfold spareL; omega
 | t :: ts, n, h => by
  unfold spareL
  split
  ·rename_i h0
   have h1 := spareN_le t n h0
   have h2 := spareL_le ts (spareN t n) (by omega)
   omega
  ·omega
end
theorem KidsR.get {w : World} {P : Nat → Prop} : ∀ (ts : List Nd) (g o : Nat), KidsR w P ts (some ⟨g, o, none⟩) → ∀ (i : Nat) (t : Nd), ts[i]? = some t → OneR w P t g (o + i * 6)
 | [], g, o, h, i, t, ht => by simp at ht
 | u :: us, g, o, h, i, t, ht => by
  unfold KidsR at h
  obtain ⟨g', o', hA, -, h1, h2⟩ := h
  cases hA
  cases i with
  | zero => simp at ht; subst ht; simpa using h1
  | succ i =>
   have := KidsR.get us g (o + 6) h2 i t (by simpa using ht)
   rw [show o + (i + 1) * 6 = o + 6 + i * 6 by omega]
   exact this
theorem KidsR.addr {w : World} {P : Nat → Prop} {ts : List Nd} {A : Option Addr} (h : KidsR w P ts A) (hn : 0 < ts.length) : ∃ g o, A = some ⟨g, o, none⟩ := by
 cases ts with
 | nil => simp at hn
 | cons t ts => unfold KidsR at h; obtain ⟨g, o, hA, _⟩ := h; exact ⟨g, o, hA⟩
theorem OneR.cells {w : World} {P : Nat → Prop} {t : Nd} {g o : Nat} (h : OneR w P t g o) : ∃ A c, (w.cell? ⟨g, o, none⟩ = some (.int .i64 t.kind) ∧ w.cell? ⟨g, o + 1, none⟩ = some (.string t.name) ∧ w.cell? ⟨g, o + 2, none⟩ = some (.int .i64 t.n) ∧
  w.cell? ⟨g, o + 3, none⟩ = some (.int .i64 t.unit) ∧ w.cell? ⟨g, o + 4, none⟩ = some (.int .i64 t.at0) ∧ w.cell? ⟨g, o + 5, none⟩ = some (.slice A t.kids.length (t.kids.length + c))) ∧ KidsR w P t.kids A := by
 obtain ⟨k, x, n, u, a, kids⟩ := t
 unfold OneR at h
 obtain ⟨A, c, h0, h1, h2, h3, h4, h5, h6⟩ := h
 exact ⟨A, c, ⟨h0, h1, h2, h3, h4, h5⟩, h6⟩
def SparePost (r : Int) (w : World) (e : Ending) (w' : World) : Prop := e = .returned (.int .i64 r) ∧ Below w.heap.size w w'
theorem spareL_drop (ts : List Nd) (k : Nat) (hk : k < ts.length) (n : Int) (h : 0 ≤ n) : spareL (ts.drop k) n = spareL (ts.drop (k + 1)) (spareN ts[k] n) := by
 rw [List.drop_eq_getElem_cons hk, spareL, if_pos h]
theorem spareL_neg (ts : List Nd) (k : Nat) (n : Int) (h : n < 0) : spareL (ts.drop k) n = n := by
 cases hd : ts.drop k with
 | nil => rfl
 | cons t us => rw [spareL, if_neg (by omega)]
theorem spare_step (t : Nd) (ih : ∀ u ∈ t.kids, ∀ (w : World) (n : Int) (A : Option Addr) (c : Nat), 0 ≤ n → n ≤ 10000 → KidsR w (From 0) u.kids A → Calls Tryz.prog 66 #[nv u A c, .int .i64 n] w (SparePost (spareN u n) w))
  (w : World) (n : Int) (A : Option Addr) (c : Nat) (h0 : 0 ≤ n) (h1 : n ≤ 10000) (hK : KidsR w (From 0) t.kids A) :
  Calls Tryz.prog 66 #[nv t A c, .int .i64 n] w (SparePost (spareN t n) w) := by
 obtain ⟨r, hr⟩ : ∃ r, spareN t n = r := ⟨_, rfl⟩
 rw [hr]
 have hr' : spareL t.kids (n - 1) = r := by rw [← hr]; cases t; rfl
 have hR := Lib.hid hr'
 have IH := Lib.hid ih
 have hKH := Lib.hid hK
 clear hr hr' ih hK
 have q0 : IntKind.i64.wrap (n - 1) = n - 1 := IntWalk.i64_in _ (by omega)
 go_enter Tryz.func66, Tryz.ntmps66
 go_wp2
 clear q0
 go_loopg [1, 5] (t.kids.length) (fun gk m i wr => ∃ (k : Nat) (mv : Int), k + gk = t.kids.length ∧ i = .int .i64 k ∧ m = .int .i64 mv ∧ -1 ≤ mv ∧ mv + k ≤ n - 1 ∧ Hid (spareL (t.kids.drop k) mv = r) ∧ Hid (wr.heap[w.heap.size]? = some (.cells (ndArr t A c) 77 (0, 0))) ∧ Hid (Below w.heap.size w wr))
 case atStart => exact ⟨0, n - 1, by omega, rfl, rfl, by omega, by omega, hR.out, newBlk _ _ _ rfl, (Below.refl _ _).alloc (Nat.le_refl _) _⟩
 case round =>
  obtain ⟨k, mv, hk, rfl, rfl, hm1, hm2, hS, hB, hW⟩ := hrel
  obtain ⟨⟨b0, b1, b2, b3, b4, b5⟩, -⟩ := cells6 hB.out
  have hxb := blkLt hB.out
  clear b0 b1 b2 b3 b4
  by_cases hneg : 0 ≤ mv
  ·by_cases hlt : k < t.kids.length
   ·obtain ⟨g, rfl⟩ : ∃ g, gk = g + 1 := ⟨gk - 1, by omega⟩
    have hS1 := hS.out
    rw [spareL_drop _ _ hlt _ hneg] at hS1
    have hS1 := Lib.hid hS1
    have hKw : KidsR wr (From 0) t.kids A := hKH.out.keep (fun q h1 h2 => ⟨hW.out.block q h2, h1⟩)
    obtain ⟨ga, oa, rfl⟩ := hKw.addr (by omega)
    obtain ⟨A1, c1, ⟨e0, e1, e2, e3, e4, e5⟩, hK1⟩ := (hKw.get _ _ _ k _ (List.getElem?_eq_getElem hlt)).cells
    have hmem : t.kids[k] ∈ t.kids := List.getElem_mem hlt
    have hI := Lib.hid (IH.out _ hmem wr mv A1 c1 hneg (by omega) hK1)
    have hsp := spareN_le t.kids[k] mv hneg
    clear hS hK1 hKw hmem
    generalize t.kids[k] = u at *
    have hlt2 : k < t.kids.length := hlt
    go_wp2_with fail
    refine hI.out.mono ?_
    rintro e w2 ⟨rfl, hb2⟩
    have hB2 := Lib.hid ((hb2.block _ hxb).trans hB.out)
    have hW2 := Lib.hid (hW.out.trans (hb2.mono hW.out.size))
    clear hb2 e0 e1 e2 e3 e4 e5
    go_wp2
    go_roundg g
    case measure => omega
    case rel => exact ⟨k + 1, spareN u mv, by omega, by go_num, rfl, by omega, by omega, hS1, hB2, hW2⟩
   ·have hF : Hid (mv = r) := by have := hS.out; rw [List.drop_eq_nil_of_le (by omega)] at this; exact this
    clear hS
    go_wp2
    go_ret
    exact ⟨ret_i hF.out, hW.out⟩
  ·have hF : Hid (mv = r) := by have := hS.out; rw [spareL_neg _ _ _ (by omega)] at this; exact this
   have hng : decide (0 ≤ mv) = false := by simp; omega
   clear hS
   by_cases hlt : k < t.kids.length
   all_goals
    go_wp2
    go_ret
    exact ⟨ret_i hF.out, hW.out⟩
mutual
theorem spare_any : ∀ (t : Nd) (w : World) (n : Int) (A : Option Addr) (c : Nat), 0 ≤ n → n ≤ 10000 → KidsR w (From 0) t.kids A → Calls Tryz.prog 66 #[nv t A c, .int .i64 n] w (SparePost (spareN t n) w)
 | .mk k x m u a kids => fun w n A c h0 h1 hK => spare_step (.mk k x m u a kids) (spare_all kids) w n A c h0 h1 hK
theorem spare_all : ∀ (ts : List Nd), ∀ u ∈ ts, ∀ (w : World) (n : Int) (A : Option Addr) (c : Nat), 0 ≤ n → n ≤ 10000 → KidsR w (From 0) u.kids A → Calls Tryz.prog 66 #[nv u A c, .int .i64 n] w (SparePost (spareN u n) w)
 | [], u, hu => by cases hu
 | t :: ts, u, hu => by
  rcases List.mem_cons.1 hu with h | h
  ·rw [h]; exact spare_any t
  ·exact spare_all ts u h
end
end Go.Proofs.YtamfgjinfcknfaaGreatDoor
