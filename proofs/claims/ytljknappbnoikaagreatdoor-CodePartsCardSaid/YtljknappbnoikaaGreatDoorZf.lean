/- Texts of one proof: KzB, KzC, KzD, KzE. -/
import Derived.Test.YtljknappbnoikaaGreatDoorZd
import Derived.Test.YtljknappbnoikaaGreatDoorZe
import Derived.Deep.AppendLies
import Derived.Laws.AppendOwnNone
import Derived.Laws.OwnMore
import Derived.Laws.MakeOwn
import Derived.Deep.RegionLaw
set_option linter.unusedVariables false
set_option linter.unusedSimpArgs false
set_option maxRecDepth 100000
set_option maxHeartbeats 8000000
namespace Go.Proofs.YtljknappbnoikaaGreatDoor
open Go.RowKit
namespace K
theorem addN (a b : Nat) : (⟨a, b, none⟩ : Addr).add = fun j => ⟨a, b + j, none⟩ := by
 funext j; unfold Addr.add; split <;> simp_all
theorem info_parts2 {i : Option TypeInfo} {z : Value} {s y : Nat} (h : i.map (fun i => (i.zero, i.size, i.bytes)) = some (some z, s, y)) : ∃ x, i = some x ∧ x.zero = some z ∧ x.size = s ∧ x.bytes = y := by
 cases i with
 | none => simp at h
 | some x => simp at h; exact ⟨x, rfl, h.1, h.2.1, h.2.2⟩
def insC (l : List In) : List Value := l.flatMap (fun x => [.int .i64 x.op, .int .i64 x.n, .int .i64 x.r])
theorem insC_cons (x : In) (l : List In) : insC (x :: l) = .int .i64 x.op :: .int .i64 x.n :: .int .i64 x.r :: insC l := by simp [insC]
theorem insC_app (a b : List In) : insC (a ++ b) = insC a ++ insC b := by simp [insC]
theorem insC_len : ∀ l : List In, (insC l).length = l.length * 3
 | [] => rfl
 | x :: l => by rw [insC_cons]; simp only [List.length_cons, insC_len l]; omega
theorem insC_one : ∀ l : List In, ∀ u ∈ insC l, u.oneCell' = true
 | [], u, h => by simp [insC] at h
 | x :: l, u, h => by
  rw [insC_cons] at h
  simp only [List.mem_cons] at h
  rcases h with rfl | rfl | rfl | h
  ·rfl
  ·rfl
  ·rfl
  ·exact insC_one l u h
theorem insC_at : ∀ (l : List In) (i : Nat) (x : In), l[i]? = some x → (insC l)[i * 3]? = some (.int .i64 x.op) ∧ (insC l)[i * 3 + 1]? = some (.int .i64 x.n) ∧ (insC l)[i * 3 + 2]? = some (.int .i64 x.r)
 | [], i, x, h => by simp at h
 | y :: l, 0, x, h => by simp at h; subst h; rw [insC_cons]; exact ⟨rfl, rfl, rfl⟩
 | y :: l, i + 1, x, h => by
  have := insC_at l i x (by simpa using h)
  rw [insC_cons, show (i + 1) * 3 = i * 3 + 3 by omega]
  exact this
theorem insC_set : ∀ (l : List In) (i : Nat) (x : In) (m : Int), l[i]? = some x → (insC l).set (i * 3 + 1) (.int .i64 m) = insC (l.set i ⟨x.op, m, x.r⟩)
 | [], i, x, m, h => by simp at h
 | y :: l, 0, x, m, h => by simp at h; subst h; rw [List.set_cons_zero, insC_cons, insC_cons]; rfl
 | y :: l, i + 1, x, m, h => by
  have := insC_set l i x m (by simpa using h)
  rw [List.set_cons_succ, insC_cons, insC_cons, show (i + 1) * 3 + 1 = i * 3 + 1 + 3 by omega, List.set_cons_succ, List.set_cons_succ, List.set_cons_succ, this]
theorem own_ins {w : World} {B : Nat} {v : Value} {l : List In} {n : Nat} (h : w.ownsRow B 41 3 v n (insC l)) (hn : n = l.length) : ∃ A c, v = .slice A l.length c ∧ InsR w l A ∧ (∀ a, A = some a → B ≤ a.block) := by
 subst hn
 rcases h.2 with ⟨rfl, h0⟩ | ⟨g, cap, cur, rfl, hb, hg, hn, hc, hs, ht⟩
 ·obtain rfl : l = [] := List.eq_nil_of_length_eq_zero h0
  exact ⟨none, 0, rfl, .inl rfl, fun a h => by cases h⟩
 ·refine ⟨_, cap, rfl, .inr ⟨g, 0, rfl, fun i x hx => ?_⟩, fun a h => by cases h; exact hb⟩
  have hce := World.ownsRow.cells h (g := g) rfl
  obtain ⟨k0, k1, k2⟩ := insC_at l i x hx
  have f : ∀ (j : Nat) (u : Value), (insC l)[j]? = some u → w.cell? ⟨g, j, none⟩ = some u := fun j u hu => by
   have := hce j u hu
   rw [addN] at this
   simpa using this
  rw [Nat.zero_add]
  exact ⟨f _ _ k0, f _ _ k1, f _ _ k2⟩
theorem insInfo : (Tryz.prog.info? 41).map (fun i => (i.zero, i.size, i.bytes)) = some (some (.agg #[.int .i64 0, .int .i64 0, .int .i64 0]), 3, 24) := by kernel_rfl
theorem owns_gr {w w' : World} {B : Nat} {T : TypeId} {sz : Nat} {v : Value} {n : Nat} {xs : List Value} (h : w.ownsRow B T sz v n xs) (hb : Gr w w') : w'.ownsRow B T sz v n xs := by
 refine ⟨h.1, ?_⟩
 rcases h.2 with hn | ⟨g, cap, cur, hv, hg, hh, rest⟩
 ·exact .inl hn
 ·exact .inr ⟨g, cap, cur, hv, hg, grBlk hb hh, rest⟩
theorem insSet {w : World} {l : List In} {A : Option Addr} {b i : Nat} {v : Value} (h : InsR w l A) (hb : ∀ ad, A = some ad → ad.block ≠ b) : InsR (w.setCell ⟨b, i, none⟩ v) l A := by
 rcases h with h | ⟨g, o, rfl, h⟩
 ·exact .inl h
 ·have hne := hb _ rfl
  have f : ∀ (j : Nat) (u : Value), w.cell? ⟨g, j, none⟩ = some u → (w.setCell ⟨b, i, none⟩ v).cell? ⟨g, j, none⟩ = some u := fun j u hu => (World.cell?_of_block (heap_setCell_other w _ g v (by simp only; intro e; exact hne (by first | exact e | exact e.symm)))).trans hu
  exact .inr ⟨g, o, rfl, fun j x hx => ⟨f _ _ (h j x hx).1, f _ _ (h j x hx).2.1, f _ _ (h j x hx).2.2⟩⟩
def WrO (w : World) (B : Nat) (v : Value) (l : List In) : Prop := w.heap[B]? = some (.cells #[v] 49 (0, 0)) ∧ w.ownsRow (B + 1) 41 3 v l.length (insC l)
structure WrT (B : Nat) (w : World) (v : Value) (w' : World) (v' : Value) : Prop where
 os : w'.os = w.os
 tape : w'.tape = w.tape
 output : w'.output = w.output
 size : w.heap.size ≤ w'.heap.size
 block : ∀ k, k < w.heap.size → k ≠ B → v.ownBlock ≠ some k → w'.heap[k]? = w.heap[k]?
 own : ∀ k, v'.ownBlock = some k → v.ownBlock = some k ∨ w.heap.size ≤ k
theorem WrT.refl (B : Nat) (w : World) (v : Value) : WrT B w v w v := ⟨rfl, rfl, rfl, Nat.le_refl _, fun _ _ _ _ => rfl, fun _ h => .inl h⟩
theorem WrT.trans {B : Nat} {a b c : World} {u v x : Value} (h : WrT B a u b v) (k : WrT B b v c x) : WrT B a u c x :=
 ⟨k.os.trans h.os, k.tape.trans h.tape, k.output.trans h.output, Nat.le_trans h.size k.size, fun i hi hb hu => (k.block i (Nat.lt_of_lt_of_le hi h.size) hb (fun e => by
  rcases h.own i e with e | e
  ·exact hu e
  ·omega)).trans (h.block i hi hb hu), fun i e => by
  have := h.size
  rcases k.own i e with e | e
  ·exact h.own i e
  ·exact .inr (by omega)⟩
theorem WrT.of_gr {B : Nat} {a b : World} {v : Value} (h : Gr a b) : WrT B a v b v := ⟨h.os, h.tape, h.output, h.size, fun i hi _ _ => h.block i hi, fun _ h => .inl h⟩
theorem WrO.gr {w w' : World} {B : Nat} {v : Value} {l : List In} (h : WrO w B v l) (hg : Gr w w') : WrO w' B v l := ⟨grBlk hg h.1, owns_gr h.2 hg⟩
theorem WrO.lt {w : World} {B : Nat} {v : Value} {l : List In} (h : WrO w B v l) : B < w.heap.size := blkLt h.1
theorem WrO.own_lt {w : World} {B k : Nat} {v : Value} {l : List In} (h : WrO w B v l) (e : v.ownBlock = some k) : B < k ∧ k < w.heap.size := World.ownsRow.lt h.2 k e
theorem WrT.base {W0 : World} {B : Nat} {w w' : World} {v v' : Value} {l : List In} (h : WrT B w v w' v') (hO : WrO w B v l) (hg : Gr W0 w) (hB : W0.heap.size ≤ B) : Gr W0 w' :=
 hg.trans ⟨h.os, h.tape, h.output, h.size, fun i hi => h.block i (Nat.lt_of_lt_of_le hi hg.size) (by omega) (fun e => by have := (hO.own_lt e).1; omega)⟩
theorem WrT.keep {B k : Nat} {w w' : World} {v v' : Value} {o : Obj} (h : WrT B w v w' v') (hk : w.heap[k]? = some o) (hb : k ≠ B) (hv : v.ownBlock ≠ some k) : w'.heap[k]? = some o := (h.block k (blkLt hk) hb hv).trans hk
def WrP (W : World) (B : Nat) (v : Value) (l : List In) (e : Ending) (w' : World) : Prop := e = .returned (.tuple #[]) ∧ ∃ v', WrO w' B v' l ∧ WrT B W v w' v'
end K
end Go.Proofs.YtljknappbnoikaaGreatDoor
namespace Go.Proofs.YtljknappbnoikaaGreatDoor
open Go.RowKit
namespace K
theorem put_post {W1 W2 w2 : World} {B g cap : Nat} {v : Value} {l : List In} {x : In} (h : WrO W1 B v l) (h12 : Gr W1 W2) (hgrow : W2.grownBy w2 v.ownBlock)
  (hown : w2.ownsRow (B + 1) 41 3 (.slice (some ⟨g, 0, none⟩) (l.length + 1) cap) (l.length + 1) (insC l ++ [.int .i64 x.op, .int .i64 x.n, .int .i64 x.r])) (hat : v.ownBlock = some g ∨ g = W2.heap.size) :
  WrO (w2.setCell ⟨B, 0, none⟩ (.slice (some ⟨g, 0, none⟩) (l.length + 1) cap)) B (.slice (some ⟨g, 0, none⟩) (l.length + 1) cap) (l ++ [x]) ∧ WrT B W1 v (w2.setCell ⟨B, 0, none⟩ (.slice (some ⟨g, 0, none⟩) (l.length + 1) cap)) (.slice (some ⟨g, 0, none⟩) (l.length + 1) cap) := by
 have hBl := h.lt
 have hg1 : B < g := by
  rcases hat with e | e
  ·exact (h.own_lt e).1
  ·have := h12.size; omega
 have hB2 : w2.heap[B]? = some (.cells #[v] 49 (0, 0)) := (hgrow.block B (Nat.lt_of_lt_of_le hBl h12.size) (fun e => by have := (h.own_lt e.symm).1; omega)).trans (grBlk h12 h.1)
 refine ⟨⟨?_, ?_⟩, ⟨?_, ?_, ?_, ?_, ?_, ?_⟩⟩
 ·rw [heap_setCell_same w2 B 0 _ _ _ hB2]; simp
 ·rw [List.length_append, List.length_singleton, insC_app]
  exact World.ownsRow.kept hown (gbSet (gbRefl w2 _)) (.inr (by simp [Value.ownBlock]; omega))
 ·exact (show (w2.setCell ⟨B, 0, none⟩ _).os = w2.os from rfl).trans (hgrow.os.trans h12.os)
 ·exact (show (w2.setCell ⟨B, 0, none⟩ _).tape = w2.tape from rfl).trans (hgrow.tape.trans h12.tape)
 ·exact (show (w2.setCell ⟨B, 0, none⟩ _).output = w2.output from rfl).trans (hgrow.output.trans h12.output)
 ·have h1 := hgrow.size
  have h2 := h12.size
  simp
  omega
 ·intro k hk hkB hkv
  have h2 := h12.size
  exact (heap_setCell_other w2 _ k _ (by simpa using hkB)).trans ((hgrow.block k (by omega) (fun e => hkv e.symm)).trans (h12.block k hk))
 ·intro k hk
  have hgk : g = k := by simpa [Value.ownBlock] using hk
  subst hgk
  have h2 := h12.size
  rcases hat with e | e
  ·exact .inl e
  ·exact .inr (by omega)
theorem in_one (a b c : Int) : ∀ u ∈ [Value.int .i64 a, .int .i64 b, .int .i64 c], u.oneCell' = true := by
 intro u hu
 simp only [List.mem_cons, List.not_mem_nil, or_false] at hu
 rcases hu with rfl | rfl | rfl <;> rfl
theorem newCellsK (W : World) (arr : Array Value) (T : TypeId) (b : Nat) (hb : b = W.heap.size) : ∀ j u, arr.toList[j]? = some u → (W.alloc (.cells arr T)).cell? ((⟨b, 0, none⟩ : Addr).add j) = some u := by
 intro j u hu
 subst hb
 have hadd : (⟨W.heap.size, 0, none⟩ : Addr).add j = ⟨W.heap.size, j, none⟩ := by unfold Addr.add; split <;> simp_all
 rw [hadd, cell_of_row _ _ j arr T (0, 0) (heap_alloc_new W _)]
 simpa using hu
theorem put_any (w : World) (B : Nat) (v : Value) (l : List In) (x : In) (h : WrO w B v l) (hl : l.length ≤ 100000) :
  Calls Tryz.prog 62 #[.pointer (some ⟨B, 0, none⟩), .agg #[.int .i64 x.op, .int .i64 x.n, .int .i64 x.r]] w (WrP w B v (l ++ [x])) := by
 obtain ⟨i0, hi, hz0, hz1, hz2⟩ := info_parts2 insInfo
 obtain ⟨W1, hW1⟩ : ∃ W1, W1 = w.alloc (.cells #[.int .i64 x.op, .int .i64 x.n, .int .i64 x.r] 41) := ⟨_, rfl⟩
 have hg1 := Lib.hid (show Gr w W1 by rw [hW1]; exact grAlloc _ _)
 have hb1 : W1.heap[w.heap.size]? = some (.cells #[.int .i64 x.op, .int .i64 x.n, .int .i64 x.r] 41 (0, 0)) := by rw [hW1]; exact nBlk _ _ _ rfl
 obtain ⟨y0, y1, y2⟩ := cells3k hb1
 have hO := Lib.hid (h.gr hg1.out)
 have c0 : W1.cell? ⟨B, 0, none⟩ = some v := cell_of_row _ _ 0 _ _ (0, 0) hO.out.1
 have z0 := frz hO.out.1 0
 have hlH := Lib.hid hl
 have hBl := Lib.hid h.lt
 have hB1 := hO.out.lt
 have hW1l := blkLt hb1
 have hH := Lib.hid h
 clear hb1 h hl
 go_enter Tryz.func62, Tryz.ntmps62
 go_upto_region 1 with fail
 rw [← hW1]
 clear hW1
 go_region_law (first
  | (refine step_append_lies _ (by rfl) _ _ _ (by rfl) (B + 1) 41 i0 _ 3 24 Tryz.underlying27 hi hz0 hz1 hz2 rfl (by decide) v l.length (insC l) (by rfl) (owns_gr hO.out.2 ((grDrew _).tr (grAlloc _ _))) _ 1 1 [.int .i64 x.op, .int .i64 x.n, .int .i64 x.r] (by rfl) (by rfl) (newCellsK W1.drew #[.int .i64 x.op, .int .i64 x.n, .int .i64 x.r] _ _ rfl) (in_one _ _ _) (by decide) (by have := hlH.out; unfold maxLen; omega) (by have := hlH.out; omega) (by have := hBl.out; have := hg1.out.size; simp; omega) _ rfl ?_; intro g cap w2 hown2 hgrow hat hlt2; have hP := Lib.hid (put_post (x := x) hO.out ((grDrew _).tr (grAlloc _ _)) hgrow hown2 hat); have hB2 : w2.heap[B]? = some (.cells #[v] 49 (0, 0)) := (hgrow.block B (by have := hBl.out; have := hg1.out.size; simp; omega) (fun e => by have := (hH.out.own_lt e.symm).1; omega)).trans (grBlk ((grDrew _).tr (grAlloc _ _)) hO.out.1); have c2 : w2.cell? ⟨B, 0, none⟩ = some v := cell_of_row _ _ 0 _ _ (0, 0) hB2; have z2 := frz hB2 0))
 all_goals
  go_wp2
 all_goals exact ⟨rfl, .tuple #[], by simp [results, Tryz.results62, go_sem], rfl, _, hP.out.1, (WrT.of_gr hg1.out).trans hP.out.2⟩
end K
end Go.Proofs.YtljknappbnoikaaGreatDoor
namespace Go.Proofs.YtljknappbnoikaaGreatDoor
open Go.RowKit
namespace K
theorem cells1k {w : World} {b : Nat} {v0 : Value} {T : TypeId} (h : w.heap[b]? = some (.cells #[v0] T (0, 0))) : w.cell? ⟨b, 0, none⟩ = some v0 := cell_of_row _ _ 0 _ _ (0, 0) h
abbrev fwV (b c : Nat) : Value := .func (.func 79) #[] #[.pointer (some ⟨b, 0, none⟩), .pointer (some ⟨c, 0, none⟩)]
def FwR (w : World) (B b c from_ : Nat) : Prop := w.heap[b]? = some (.cells #[.pointer (some ⟨B, 0, none⟩)] 81 (0, 0)) ∧ w.heap[c]? = some (.cells #[.int .i64 from_] 3 (0, 0))
theorem FwR.keep {w w' : World} {B b c n : Nat} {v v' : Value} (h : FwR w B b c n) (ht : WrT B w v w' v') (hB : B < b ∧ B < c) (hv : v.ownBlock ≠ some b ∧ v.ownBlock ≠ some c) : FwR w' B b c n :=
 ⟨ht.keep h.1 (by omega) hv.1, ht.keep h.2 (by omega) hv.2⟩
theorem WrT.not_own {B k : Nat} {w w' : World} {v v' : Value} (ht : WrT B w v w' v') (hk : k < w.heap.size) (hv : v.ownBlock ≠ some k) : v'.ownBlock ≠ some k := fun e => by
 rcases ht.own k e with e | e
 ·exact hv e
 ·omega
def FwP (W : World) (B : Nat) (v : Value) (l : List In) (x : In) (e : Ending) (w' : World) : Prop :=
 ∃ b c v', e = .returned (fwV b c) ∧ FwR w' B b c l.length ∧ WrO w' B v' (l ++ [x]) ∧ WrT B W v w' v' ∧ W.heap.size ≤ b ∧ W.heap.size ≤ c ∧ v'.ownBlock ≠ some b ∧ v'.ownBlock ≠ some c
theorem putForward_any (w : World) (B : Nat) (v : Value) (l : List In) (x : In) (h : WrO w B v l) (hl : l.length ≤ 100000) :
  Calls Tryz.prog 63 #[.pointer (some ⟨B, 0, none⟩), .agg #[.int .i64 x.op, .int .i64 x.n, .int .i64 x.r]] w (FwP w B v l x) := by
 have hmf : ∀ (fn : Fn) (first cap : Array Value) (w : World), (Instr.makeFunc fn first cap).run Tryz.prog w = .ok (.func fn first cap) w := fun _ _ _ _ => rfl
 obtain ⟨A, cp, rfl, -, -⟩ := own_ins h.2 rfl
 obtain ⟨W3, hW3⟩ : ∃ W3, W3 = ((w.alloc (.cells #[.pointer (some ⟨B, 0, none⟩)] 81)).alloc (.cells #[.int .i64 x.op, .int .i64 x.n, .int .i64 x.r] 41)).alloc (.cells #[.int .i64 l.length] 3) := ⟨_, rfl⟩
 have hg3 := Lib.hid (show Gr w W3 by rw [hW3]; exact ((grAlloc _ _).tr (grAlloc _ _)).tr (grAlloc _ _))
 have hb1 := Lib.hid (show W3.heap[w.heap.size]? = some (.cells #[.pointer (some ⟨B, 0, none⟩)] 81 (0, 0)) by rw [hW3]; exact grBlk (grAlloc _ _) (grBlk (grAlloc _ _) (nBlk _ _ _ rfl)))
 have hb2 := Lib.hid (show W3.heap[w.heap.size + 1]? = some (.cells #[.int .i64 x.op, .int .i64 x.n, .int .i64 x.r] 41 (0, 0)) by rw [hW3]; exact grBlk (grAlloc _ _) (nBlk _ _ _ (by simp)))
 have hb3 := Lib.hid (show W3.heap[w.heap.size + 1 + 1]? = some (.cells #[.int .i64 l.length] 3 (0, 0)) by rw [hW3]; exact nBlk _ _ _ (by simp))
 have y0 := cells1k hb1.out
 obtain ⟨z0, z1, z2⟩ := cells3k hb2.out
 have hO := Lib.hid (h.gr hg3.out)
 have hp := Lib.hid (put_any W3 B (.slice A l.length cp) l x hO.out hl)
 have c0 : w.cell? ⟨B, 0, none⟩ = some (.slice A l.length cp) := cells1k h.1
 have hBl := h.lt
 have hown := Lib.hid (fun k e => h.own_lt (k := k) e)
 clear h
 go_enter Tryz.func63, Tryz.ntmps63
 go_upto_region 2 with fail
 rw [← hW3]
 clear hW3
 go_wp2_with (go_at_call 62; refine hp.out.mono ?_; rintro e w1 ⟨rfl, v', hO1, hT1⟩; have hO1 := Lib.hid hO1; have hT1 := Lib.hid hT1)
 have n1 : (Value.slice A l.length cp).ownBlock ≠ some w.heap.size := fun e => by have := hown.out _ e; omega
 have n2 : (Value.slice A l.length cp).ownBlock ≠ some (w.heap.size + 1 + 1) := fun e => by have := hown.out _ e; omega
 go_ret
 exact ⟨_, _, v', rfl, ⟨hT1.out.keep hb1.out (by omega) n1, hT1.out.keep hb3.out (by omega) n2⟩, hO1.out, (WrT.of_gr hg3.out).trans hT1.out, by omega, by omega, hT1.out.not_own (blkLt hb1.out) n1, hT1.out.not_own (blkLt hb3.out) n2⟩
theorem arrive_any (w : World) (B : Nat) (v : Value) (l : List In) (b c i : Nat) (x : In) (h : WrO w B v l) (hf : FwR w B b c i) (hx : l[i]? = some x) (hl : l.length ≤ 100000) :
  Calls Tryz.prog 79 #[.pointer (some ⟨b, 0, none⟩), .pointer (some ⟨c, 0, none⟩)] w (WrP w B v (l.set i ⟨x.op, l.length, x.r⟩)) := by
 have hil : i < l.length := (List.getElem?_eq_some_iff.1 hx).1
 have hown := h.2
 obtain ⟨g, cap, cur, rfl, hBg, hgb, hn, hc, hs, ht⟩ : ∃ g cap cur, v = .slice (some ⟨g, 0, none⟩) l.length cap ∧ B + 1 ≤ g ∧ w.heap[g]? = some (.cells cur 41 (0, 0)) ∧ l.length ≤ cap ∧ True ∧ True ∧ True := by
  rcases hown.2 with ⟨_, h0⟩ | ⟨g, cap, cur, hv, hb, hg, hn, -⟩
  ·omega
  ·exact ⟨g, cap, cur, hv, hb, hg, hn, trivial, trivial, trivial⟩
 obtain ⟨k0, k1, k2⟩ := insC_at l i x hx
 have hcell := World.ownsRow.cellAt hown (i * 3 + 1) (by rw [Nat.mul_comm]; omega)
 rw [k1] at hcell
 have hcl : w.drew.cell? ⟨g, i * 3 + 1, none⟩ = some (.int .i64 x.n) := hcell
 have hfz : w.drew.frozen? ⟨g, i * 3 + 1, none⟩ = false := World.ownsRow.frozenAt hown (i * 3 + 1)
 have c0 : w.drew.cell? ⟨B, 0, none⟩ = some (.slice (some ⟨g, 0, none⟩) l.length cap) := cells1k h.1
 have y0 : w.drew.cell? ⟨b, 0, none⟩ = some (.pointer (some ⟨B, 0, none⟩)) := cells1k hf.1
 have y1 : w.drew.cell? ⟨c, 0, none⟩ = some (.int .i64 i) := cells1k hf.2
 have hP : Hid (WrP w B (.slice (some ⟨g, 0, none⟩) l.length cap) (l.set i ⟨x.op, l.length, x.r⟩) (.returned (.tuple #[])) (w.drew.setCell ⟨g, i * 3 + 1, none⟩ (.int .i64 l.length))) := by
  refine Lib.hid ⟨rfl, .slice (some ⟨g, 0, none⟩) l.length cap, ⟨?_, ?_⟩, ⟨rfl, rfl, rfl, by simp, ?_, fun k e => .inl e⟩⟩
  ·exact (heap_setCell_other w.drew _ B _ (by simp; omega)).trans h.1
  ·have h3 := (World.ownsRow.stored (owns_gr hown (grDrew w)) (i * 3 + 1) (.int .i64 l.length)).1
   rw [insC_set l i x _ hx] at h3
   rw [List.length_set]
   exact h3
  ·intro k hk hB hv
   exact heap_setCell_other w.drew _ k _ (by simp only; intro e; exact hv (by simp [Value.ownBlock]; omega))
 clear hown hcell k0 k1 k2 h hf hx hgb
 go_enter Tryz.func79, Tryz.ntmps79
 go_region
 all_goals exact ⟨rfl, .tuple #[], by simp [results, Tryz.results79, go_sem], hP.out⟩
end K
end Go.Proofs.YtljknappbnoikaaGreatDoor
namespace Go.Proofs.YtljknappbnoikaaGreatDoor
open Go.RowKit
namespace K
open U (Ex St szK KidsE ev eArr)
def LaidO (w : World) : Prop := ∀ k : Nat, 1 ≤ k → k ≤ 10 → w.cell? ⟨2, k, none⟩ = some (.int .i64 k)
theorem LaidO.gr {w w' : World} (h : LaidO w) (hg : Gr w w') : LaidO w' := fun k h1 h2 => grCell hg (h k h1 h2)
theorem cells4k {w : World} {b : Nat} {v0 v1 v2 v3 : Value} {T : TypeId} (h : w.heap[b]? = some (.cells #[v0, v1, v2, v3] T (0, 0))) : w.cell? ⟨b, 0, none⟩ = some v0 ∧ w.cell? ⟨b, 1, none⟩ = some v1 ∧ w.cell? ⟨b, 2, none⟩ = some v2 ∧ w.cell? ⟨b, 3, none⟩ = some v3 := by
 have e : ∀ j, w.cell? ⟨b, j, none⟩ = (#[v0, v1, v2, v3] : Array Value)[j]? := fun j => cell_of_row _ _ j _ _ (0, 0) h
 exact ⟨e 0, e 1, e 2, e 3⟩
def ExprC (t : Ex) : Prop := ∀ (W0 w : World) (B : Nat) (v : Value) (l : List In) (A : Option Addr) (c : Nat), Gr W0 w → W0.heap.size ≤ B → WrO w B v l → KidsE W0 t.kids A → OpX t → LaidO W0 → l.length + t.size ≤ 50000 →
 Calls Tryz.prog 61 #[.pointer (some ⟨B, 0, none⟩), ev t A c] w (WrP w B v (l ++ cE t))
theorem szK_ge : ∀ l : List Ex, l.length ≤ szK l
 | [] => Nat.zero_le _
 | x :: xs => by have := szK_ge xs; have := U.Ex.size_pos x; rw [szK, List.length_cons]; omega
theorem expr_step (t : Ex) (ih : ∀ k ∈ t.kids, ExprC k) : ExprC t := by
 intro W0 w B v l A c hg hB hO hK hop hL hlen
 obtain ⟨op, n, u, ks⟩ := t
 obtain ⟨ho1, ho2, hok⟩ := OpX_of hop
 simp only [Ex.kids, Ex.op] at hK ih ho1 ho2 hok
 rw [Ex.size] at hlen
 have hkl := szK_ge ks
 obtain ⟨W1, hW1⟩ : ∃ W1, W1 = w.alloc (.cells #[.int .i64 op, .int .i64 n, .int .i64 u, .slice A ks.length (ks.length + c)] 66) := ⟨_, rfl⟩
 have hg1 := Lib.hid (show Gr w W1 by rw [hW1]; exact grAlloc _ _)
 have hb1 := Lib.hid (show W1.heap[w.heap.size]? = some (.cells #[.int .i64 op, .int .i64 n, .int .i64 u, .slice A ks.length (ks.length + c)] 66 (0, 0)) by rw [hW1]; exact nBlk _ _ _ rfl)
 obtain ⟨y0, y1, y2, y3⟩ := cells4k hb1.out
 have hO1 := Lib.hid (hO.gr hg1.out)
 have hT1 := Lib.hid (WrT.of_gr (B := B) (v := v) hg1.out)
 have hBw := hO.lt
 have hov : Hid (v.ownBlock ≠ some w.heap.size) := Lib.hid (fun e => by have := (hO.own_lt e).2; omega)
 have hG := Lib.hid hg
 have hGW : Hid (∀ (wr : World) (vr : Value), WrT B w v wr vr → Gr W0 wr) := Lib.hid (fun wr vr h => h.base hO hg hB)
 have HK := Lib.hid hK
 have HL := Lib.hid hL
 have IH := Lib.hid ih
 have HO := Lib.hid hok
 have hcE := Lib.hid (show l ++ cK (ks.drop 0) = l ++ cK ks by simp)
 have hBH := Lib.hid hB
 obtain ⟨R, hR⟩ : ∃ R, l ++ cK ks = R := ⟨_, rfl⟩
 obtain ⟨m, hm⟩ : ∃ m : Int, (if ks.length = 0 then n else 0) = m := ⟨_, rfl⟩
 have hmH := Lib.hid hm
 have hfin : Hid (l ++ cE (.mk op n u ks) = R ++ [⟨op, m, 0⟩]) := Lib.hid (by rw [cE, hm, ← hR, List.append_assoc])
 have hRl : Hid (R.length ≤ 50000) := Lib.hid (by rw [← hR, List.length_append, cK_len]; omega)
 rw [hfin.out]
 show Calls Tryz.prog 61 #[.pointer (some ⟨B, 0, none⟩), .agg #[.int .i64 op, .int .i64 n, .int .i64 u, .slice A ks.length (ks.length + c)]] w _
 rw [hR] at hcE
 have hlH := Lib.hid (show l.length + szK (ks.drop 0) ≤ 50000 by simp; omega)
 clear hg hB hO hK hop hL ih hok hR hfin hm
 go_enter Tryz.func61, Tryz.ntmps61
 go_upto_region 1 with fail
 rw [← hW1]
 clear hW1
 go_wp2_with fail
 go_loopg [10] (ks.length) (fun gk i wr => ∃ (k : Nat) (vr : Value) (lr : List In), k + gk = ks.length ∧ i = .int .i64 k ∧ Hid (WrO wr B vr lr) ∧ Hid (WrT B w v wr vr) ∧ Hid (wr.heap[w.heap.size]? = some (.cells #[.int .i64 op, .int .i64 n, .int .i64 u, .slice A ks.length (ks.length + c)] 66 (0, 0))) ∧ Hid (vr.ownBlock ≠ some w.heap.size) ∧ Hid (lr ++ cK (ks.drop k) = R) ∧ Hid (lr.length + szK (ks.drop k) ≤ 50000))
 case atStart => exact ⟨0, v, l, by omega, rfl, hO1, hT1, hb1, hov, hcE, hlH⟩
 case round =>
  obtain ⟨k, vr, lr, hk, rfl, hO, hT, hb, hv, hc, hl⟩ := hrel
  clear hO1 hT1 hb1 hov hcE hlH y0 y1 y2 y3
  obtain ⟨y0, y1, y2, y3⟩ := cells4k hb.out
  by_cases hlt : k < ks.length
  ·obtain ⟨gq, rfl⟩ : ∃ g, gk = g + 1 := ⟨gk - 1, by omega⟩
   have hGr := Lib.hid (hGW.out _ _ hT.out)
   obtain ⟨ga, oa, rfl⟩ := U.KidsE.addr HK.out (by omega)
   obtain ⟨A1, c1, ⟨e0, e1, e2, e3⟩, hl1, hK1⟩ := (U.KidsE.get _ _ _ HK.out k _ (List.getElem?_eq_getElem hlt)).cells
   have hmem : ks[k] ∈ ks := List.getElem_mem hlt
   have hcx := hc.out
   have hlx := hl.out
   rw [cK_drop hlt, ← List.append_assoc] at hcx
   rw [szK_drop hlt] at hlx
   have hi := IH.out _ hmem
   have hox := OpK_get HO.out _ hmem
   generalize ks[k] = x at *
   obtain ⟨W2, hW2⟩ : ∃ W2, W2 = wr.alloc (.cells (eArr x A1 c1) 66) := ⟨_, rfl⟩
   have hg2 := Lib.hid (show Gr wr W2 by rw [hW2]; exact grAlloc _ _)
   have hb2 := Lib.hid (show W2.heap[wr.heap.size]? = some (.cells (eArr x A1 c1) 66 (0, 0)) by rw [hW2]; exact nBlk _ _ _ rfl)
   have hq := Lib.hid (hi W0 W2 B vr lr A1 c1 (hGr.out.tr hg2.out) hBH.out (hO.out.gr hg2.out) hK1 hox HL.out (by omega))
   have hT2 := Lib.hid (hT.out.trans (WrT.of_gr hg2.out))
   have e0 := grCell hGr.out e0
   have e1 := grCell hGr.out e1
   have e2 := grCell hGr.out e2
   have e3 := grCell hGr.out e3
   have hcx := Lib.hid hcx
   have hlx := Lib.hid (show (lr ++ cE x).length + szK (ks.drop (k + 1)) ≤ 50000 by rw [List.length_append, cE_len]; omega)
   have hb := Lib.hid (grBlk hg2.out hb.out)
   clear hi hox hmem hK1 hl1 hc hl hO hT
   go_upto_region 4 with fail
   rw [← hW2]
   clear hW2
   obtain ⟨q0, q1, q2, q3⟩ := cells4k hb2.out
   clear e0 e1 e2 e3 y0 y1 y2 y3
   go_wp2_with (go_at_call 61; refine hq.out.mono ?_; rintro e w8 ⟨rfl, v8, hO8, hT8⟩; have hO8 := Lib.hid hO8; have hb8 := Lib.hid (hT8.keep hb.out (by omega) hv.out); have hv8 := Lib.hid (hT8.not_own (blkLt hb.out) hv.out); have hT8 := Lib.hid (hT2.out.trans hT8))
   go_roundg gq
   case measure => omega
   case rel => exact ⟨k + 1, v8, lr ++ cE x, by omega, by go_num, hO8, hT8, hb8, hv8, hcx, hlx⟩
  ·obtain rfl : gk = 0 := by omega
   obtain rfl : lr = R := by have := hc.out; rw [List.drop_eq_nil_of_le (by omega), cK, List.append_nil] at this; exact this
   have hkl : decide ((k : Int) < (ks.length : Int)) = false := by simp; omega
   have hGr := Lib.hid (hGW.out _ _ hT.out)
   obtain ⟨on, hon⟩ : ∃ on : Nat, op = on := ⟨op.toNat, by omega⟩
   subst hon
   have ho := grCell hGr.out (HL.out on (by omega) (by omega))
   have hi1 : (0 : Int) ≤ (on : Int) := by omega
   have hi2 : (on : Int) < 11 := by omega
   obtain ⟨W3, hW3⟩ : ∃ W3, W3 = wr.alloc (.cells #[.int .i64 on, .int .i64 0, .int .i64 0] 41) := ⟨_, rfl⟩
   have hg3 := Lib.hid (show Gr wr W3 by rw [hW3]; exact grAlloc _ _)
   have hb3 := Lib.hid (show W3.heap[wr.heap.size]? = some (.cells #[.int .i64 on, .int .i64 0, .int .i64 0] 41 (0, 0)) by rw [hW3]; exact nBlk _ _ _ rfl)
   have hwl := blkLt hb.out
   by_cases h0 : ks.length = 0
   ·obtain rfl : n = m := by have := hmH.out; rw [if_pos h0] at this; exact this
    have hkb : ((ks.length : Int) == 0) = true := by rw [beq_iff_eq]; omega
    obtain ⟨W4, hW4⟩ : ∃ W4, W4 = wr.alloc (.cells #[.int .i64 on, .int .i64 n, .int .i64 0] 41) := ⟨_, rfl⟩
    have hg4 := Lib.hid (show Gr wr W4 by rw [hW4]; exact grAlloc _ _)
    have hb4 := Lib.hid (show W4.heap[wr.heap.size]? = some (.cells #[.int .i64 on, .int .i64 n, .int .i64 0] 41 (0, 0)) by rw [hW4]; exact nBlk _ _ _ rfl)
    have hp := Lib.hid (put_any W4 B vr lr ⟨on, n, 0⟩ (hO.out.gr hg4.out) (by have := hRl.out; omega))
    have hT4 := Lib.hid (hT.out.trans (WrT.of_gr hg4.out))
    obtain ⟨z0, z1, z2⟩ := cells3k hb4.out
    clear hg3 hb3 hW3
    go_upto_region 9 with fail
    rw [← hW4]
    clear hW4
    go_wp2_with (go_at_call 62; refine hp.out.mono ?_; rintro e w8 ⟨rfl, v8, hO8, hT8⟩; have hO8 := Lib.hid hO8; have hT8 := Lib.hid (hT4.out.trans hT8))
    exact ⟨rfl, .tuple #[], by simp [results, Tryz.results61, go_sem], rfl, v8, hO8.out, hT8.out⟩
   ·obtain rfl : 0 = m := by have := hmH.out; rw [if_neg h0] at this; exact this
    have hkb : ((ks.length : Int) == 0) = false := by rw [beq_eq_false_iff_ne]; omega
    have hp := Lib.hid (put_any W3 B vr lr ⟨on, 0, 0⟩ (hO.out.gr hg3.out) (by have := hRl.out; omega))
    have hT3 := Lib.hid (hT.out.trans (WrT.of_gr hg3.out))
    obtain ⟨z0, z1, z2⟩ := cells3k hb3.out
    go_upto_region 7 with fail
    rw [← hW3]
    clear hW3
    have y3 := grCell hg3.out y3
    go_wp2_with (go_at_call 62; refine hp.out.mono ?_; rintro e w8 ⟨rfl, v8, hO8, hT8⟩; have hO8 := Lib.hid hO8; have hT8 := Lib.hid (hT3.out.trans hT8))
    exact ⟨rfl, .tuple #[], by simp [results, Tryz.results61, go_sem], rfl, v8, hO8.out, hT8.out⟩
mutual
theorem expr_any : ∀ t : Ex, ExprC t
 | .mk op n u ks => expr_step _ (expr_all ks)
theorem expr_all : ∀ (l : List Ex), ∀ k ∈ l, ExprC k
 | [], k, hk => by cases hk
 | y :: ys, k, hk => by
  rcases List.mem_cons.1 hk with h | h
  ·rw [h]; exact expr_any y
  ·exact expr_all ys k h
end
end K
end Go.Proofs.YtljknappbnoikaaGreatDoor
