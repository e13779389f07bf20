/- Texts of one proof: KzC, KzD. -/
import Derived.Test.YtamfgjinfcknfaaGreatDoorZn
import Derived.Deep.RegionLaw
set_option linter.unusedVariables false
set_option linter.unusedSimpArgs false
set_option maxRecDepth 100000
set_option maxHeartbeats 8000000
namespace Go.Proofs.YtamfgjinfcknfaaGreatDoor
open Go.RowKit
namespace K
theorem put_post {W1 W2 w2 : World} {B g cap : Nat} {v : Value} {l : List In} {x : In} (h : WrO W1 B v l) (h12 : Gr W1 W2) (hgrow : W2.grownBy w2 v.ownBlock)
  (hown : w2.ownsRow (B + 1) 43 3 (.slice (some ⟨g, 0, none⟩) (l.length + 1) cap) (l.length + 1) (insC l ++ [.int .i64 x.op, .int .i64 x.n, .int .i64 x.r])) (hat : v.ownBlock = some g ∨ g = W2.heap.size) :
  WrO (w2.setCell ⟨B, 0, none⟩ (.slice (some ⟨g, 0, none⟩) (l.length + 1) cap)) B (.slice (some ⟨g, 0, none⟩) (l.length + 1) cap) (l ++ [x]) ∧ WrT B W1 v (w2.setCell ⟨B, 0, none⟩ (.slice (some ⟨g, 0, none⟩) (l.length + 1) cap)) (.slice (some ⟨g, 0, none⟩) (l.length + 1) cap) := by
 have hBl := h.lt
 have hg1 : B < g := by
  rcases hat with e | e
  ·exact (h.own_lt e).1
  ·have := h12.size; omega
 have hB2 : w2.heap[B]? = some (.cells #[v] 48 (0, 0)) := (hgrow.block B (Nat.lt_of_lt_of_le hBl h12.size) (fun e => by have := (h.own_lt e.symm).1; omega)).trans (grBlk h12 h.1)
 refine ⟨⟨?_, ?_⟩, ⟨?_, ?_, ?_, ?_, ?_, ?_⟩⟩
 ·rw [heap_setCell_same w2 B 0 _ _ _ hB2]; simp
 ·rw [List.length_append, List.length_singleton, insC_app]
  exact World.ownsRow.kept hown (gbSet (gbRefl w2 _)) (.inr (by simp [Value.ownBlock]; omega))
 ·exact (show (w2.setCell ⟨B, 0, none⟩ _).os = w2.os from rfl).trans (hgrow.os.trans h12.os)
 ·exact (show (w2.setCell ⟨B, 0, none⟩ _).tape = w2.tape from rfl).trans (hgrow.tape.trans h12.tape)
 ·exact (show (w2.setCell ⟨B, 0, none⟩ _).output = w2.output from rfl).trans (hgrow.output.trans h12.output)
 ·have h1 := hgrow.size
  have h2 := h12.size
  simp
  omega
 ·intro k hk hkB hkv
  have h2 := h12.size
  exact (heap_setCell_other w2 _ k _ (by simpa using hkB)).trans ((hgrow.block k (by omega) (fun e => hkv e.symm)).trans (h12.block k hk))
 ·intro k hk
  have hgk : g = k := by simpa [Value.ownBlock] using hk
  subst hgk
  have h2 := h12.size
  rcases hat with e | e
  ·exact .inl e
  ·exact .inr (by omega)
theorem in_one (a b c : Int) : ∀ u ∈ [Value.int .i64 a, .int .i64 b, .int .i64 c], u.oneCell' = true := by
 intro u hu
 simp only [List.mem_cons, List.not_mem_nil, or_false] at hu
 rcases hu with rfl | rfl | rfl <;> rfl
theorem newCellsK (W : World) (arr : Array Value) (T : TypeId) (b : Nat) (hb : b = W.heap.size) : ∀ j u, arr.toList[j]? = some u → (W.alloc (.cells arr T)).cell? ((⟨b, 0, none⟩ : Addr).add j) = some u := by
 intro j u hu
 subst hb
 have hadd : (⟨W.heap.size, 0, none⟩ : Addr).add j = ⟨W.heap.size, j, none⟩ := by unfold Addr.add; split <;> simp_all
 rw [hadd, cell_of_row _ _ j arr T (0, 0) (heap_alloc_new W _)]
 simpa using hu
theorem put_any (w : World) (B : Nat) (v : Value) (l : List In) (x : In) (h : WrO w B v l) (hl : l.length ≤ 100000) :
  Calls Tryz.prog 56 #[.pointer (some ⟨B, 0, none⟩), .agg #[.int .i64 x.op, .int .i64 x.n, .int .i64 x.r]] w (WrP w B v (l ++ [x])) := by
 obtain ⟨i0, hi, hz0, hz1, hz2⟩ := info_parts2 insInfo
 obtain ⟨W1, hW1⟩ : ∃ W1, W1 = w.alloc (.cells #[.int .i64 x.op, .int .i64 x.n, .int .i64 x.r] 43) := ⟨_, rfl⟩
 have hg1 := Lib.hid (show Gr w W1 by rw [hW1]; exact grAlloc _ _)
 have hb1 : W1.heap[w.heap.size]? = some (.cells #[.int .i64 x.op, .int .i64 x.n, .int .i64 x.r] 43 (0, 0)) := by rw [hW1]; exact nBlk _ _ _ rfl
 obtain ⟨y0, y1, y2⟩ := cells3k hb1
 have hO := Lib.hid (h.gr hg1.out)
 have c0 : W1.cell? ⟨B, 0, none⟩ = some v := cell_of_row _ _ 0 _ _ (0, 0) hO.out.1
 have z0 := frz hO.out.1 0
 have hlH := Lib.hid hl
 have hBl := Lib.hid h.lt
 have hB1 := hO.out.lt
 have hW1l := blkLt hb1
 have hH := Lib.hid h
 clear hb1 h hl
 go_enter Tryz.func56, Tryz.ntmps56
 go_upto_region 1 with fail
 rw [← hW1]
 clear hW1
 go_region_law (first
  | (refine step_append_lies _ (by rfl) _ _ _ (by rfl) (B + 1) 43 i0 _ 3 24 Tryz.underlying29 hi hz0 hz1 hz2 rfl (by decide) v l.length (insC l) (by rfl) (owns_gr hO.out.2 ((grDrew _).tr (grAlloc _ _))) _ 1 1 [.int .i64 x.op, .int .i64 x.n, .int .i64 x.r] (by rfl) (by rfl) (newCellsK W1.drew #[.int .i64 x.op, .int .i64 x.n, .int .i64 x.r] _ _ rfl) (in_one _ _ _) (by decide) (by have := hlH.out; unfold maxLen; omega) (by have := hlH.out; omega) (by have := hBl.out; have := hg1.out.size; simp; omega) _ rfl ?_; intro g cap w2 hown2 hgrow hat hlt2; have hP := Lib.hid (put_post (x := x) hO.out ((grDrew _).tr (grAlloc _ _)) hgrow hown2 hat); have hB2 : w2.heap[B]? = some (.cells #[v] 48 (0, 0)) := (hgrow.block B (by have := hBl.out; have := hg1.out.size; simp; omega) (fun e => by have := (hH.out.own_lt e.symm).1; omega)).trans (grBlk ((grDrew _).tr (grAlloc _ _)) hO.out.1); have c2 : w2.cell? ⟨B, 0, none⟩ = some v := cell_of_row _ _ 0 _ _ (0, 0) hB2; have z2 := frz hB2 0))
 all_goals
  go_wp2
 all_goals exact ⟨rfl, .tuple #[], by simp [results, Tryz.results56, go_sem], rfl, _, hP.out.1, (WrT.of_gr hg1.out).trans hP.out.2⟩
end K
end Go.Proofs.YtamfgjinfcknfaaGreatDoor
namespace Go.Proofs.YtamfgjinfcknfaaGreatDoor
open Go.RowKit
namespace K
theorem cells1k {w : World} {b : Nat} {v0 : Value} {T : TypeId} (h : w.heap[b]? = some (.cells #[v0] T (0, 0))) : w.cell? ⟨b, 0, none⟩ = some v0 := cell_of_row _ _ 0 _ _ (0, 0) h
abbrev fwV (b c : Nat) : Value := .func (.func 72) #[] #[.pointer (some ⟨b, 0, none⟩), .pointer (some ⟨c, 0, none⟩)]
def FwR (w : World) (B b c from_ : Nat) : Prop := w.heap[b]? = some (.cells #[.pointer (some ⟨B, 0, none⟩)] 79 (0, 0)) ∧ w.heap[c]? = some (.cells #[.int .i64 from_] 3 (0, 0))
theorem FwR.keep {w w' : World} {B b c n : Nat} {v v' : Value} (h : FwR w B b c n) (ht : WrT B w v w' v') (hB : B < b ∧ B < c) (hv : v.ownBlock ≠ some b ∧ v.ownBlock ≠ some c) : FwR w' B b c n :=
 ⟨ht.keep h.1 (by omega) hv.1, ht.keep h.2 (by omega) hv.2⟩
theorem WrT.not_own {B k : Nat} {w w' : World} {v v' : Value} (ht : WrT B w v w' v') (hk : k < w.heap.size) (hv : v.ownBlock ≠ some k) : v'.ownBlock ≠ some k := fun e => by
 rcases ht.own k e with e | e
 ·exact hv e
 ·omega
def FwP (W : World) (B : Nat) (v : Value) (l : List In) (x : In) (e : Ending) (w' : World) : Prop :=
 ∃ b c v', e = .returned (fwV b c) ∧ FwR w' B b c l.length ∧ WrO w' B v' (l ++ [x]) ∧ WrT B W v w' v' ∧ W.heap.size ≤ b ∧ W.heap.size ≤ c ∧ v'.ownBlock ≠ some b ∧ v'.ownBlock ≠ some c
theorem putForward_any (w : World) (B : Nat) (v : Value) (l : List In) (x : In) (h : WrO w B v l) (hl : l.length ≤ 100000) :
  Calls Tryz.prog 57 #[.pointer (some ⟨B, 0, none⟩), .agg #[.int .i64 x.op, .int .i64 x.n, .int .i64 x.r]] w (FwP w B v l x) := by
 have hmf : ∀ (fn : Fn) (first cap : Array Value) (w : World), (Instr.makeFunc fn first cap).run Tryz.prog w = .ok (.func fn first cap) w := fun _ _ _ _ => rfl
 obtain ⟨A, cp, rfl, -, -⟩ := own_ins h.2 rfl
 obtain ⟨W3, hW3⟩ : ∃ W3, W3 = ((w.alloc (.cells #[.pointer (some ⟨B, 0, none⟩)] 79)).alloc (.cells #[.int .i64 x.op, .int .i64 x.n, .int .i64 x.r] 43)).alloc (.cells #[.int .i64 l.length] 3) := ⟨_, rfl⟩
 have hg3 := Lib.hid (show Gr w W3 by rw [hW3]; exact ((grAlloc _ _).tr (grAlloc _ _)).tr (grAlloc _ _))
 have hb1 := Lib.hid (show W3.heap[w.heap.size]? = some (.cells #[.pointer (some ⟨B, 0, none⟩)] 79 (0, 0)) by rw [hW3]; exact grBlk (grAlloc _ _) (grBlk (grAlloc _ _) (nBlk _ _ _ rfl)))
 have hb2 := Lib.hid (show W3.heap[w.heap.size + 1]? = some (.cells #[.int .i64 x.op, .int .i64 x.n, .int .i64 x.r] 43 (0, 0)) by rw [hW3]; exact grBlk (grAlloc _ _) (nBlk _ _ _ (by simp)))
 have hb3 := Lib.hid (show W3.heap[w.heap.size + 1 + 1]? = some (.cells #[.int .i64 l.length] 3 (0, 0)) by rw [hW3]; exact nBlk _ _ _ (by simp))
 have y0 := cells1k hb1.out
 obtain ⟨z0, z1, z2⟩ := cells3k hb2.out
 have hO := Lib.hid (h.gr hg3.out)
 have hp := Lib.hid (put_any W3 B (.slice A l.length cp) l x hO.out hl)
 have c0 : w.cell? ⟨B, 0, none⟩ = some (.slice A l.length cp) := cells1k h.1
 have hBl := h.lt
 have hown := Lib.hid (fun k e => h.own_lt (k := k) e)
 clear h
 go_enter Tryz.func57, Tryz.ntmps57
 go_upto_region 2 with fail
 rw [← hW3]
 clear hW3
 go_wp2_with (go_at_call 56; refine hp.out.mono ?_; rintro e w1 ⟨rfl, v', hO1, hT1⟩; have hO1 := Lib.hid hO1; have hT1 := Lib.hid hT1)
 have n1 : (Value.slice A l.length cp).ownBlock ≠ some w.heap.size := fun e => by have := hown.out _ e; omega
 have n2 : (Value.slice A l.length cp).ownBlock ≠ some (w.heap.size + 1 + 1) := fun e => by have := hown.out _ e; omega
 go_ret
 exact ⟨_, _, v', rfl, ⟨hT1.out.keep hb1.out (by omega) n1, hT1.out.keep hb3.out (by omega) n2⟩, hO1.out, (WrT.of_gr hg3.out).trans hT1.out, by omega, by omega, hT1.out.not_own (blkLt hb1.out) n1, hT1.out.not_own (blkLt hb3.out) n2⟩
theorem arrive_any (w : World) (B : Nat) (v : Value) (l : List In) (b c i : Nat) (x : In) (h : WrO w B v l) (hf : FwR w B b c i) (hx : l[i]? = some x) (hl : l.length ≤ 100000) :
  Calls Tryz.prog 72 #[.pointer (some ⟨b, 0, none⟩), .pointer (some ⟨c, 0, none⟩)] w (WrP w B v (l.set i ⟨x.op, l.length, x.r⟩)) := by
 have hil : i < l.length := (List.getElem?_eq_some_iff.1 hx).1
 have hown := h.2
 obtain ⟨g, cap, cur, rfl, hBg, hgb, hn, hc, hs, ht⟩ : ∃ g cap cur, v = .slice (some ⟨g, 0, none⟩) l.length cap ∧ B + 1 ≤ g ∧ w.heap[g]? = some (.cells cur 43 (0, 0)) ∧ l.length ≤ cap ∧ True ∧ True ∧ True := by
  rcases hown.2 with ⟨_, h0⟩ | ⟨g, cap, cur, hv, hb, hg, hn, -⟩
  ·omega
  ·exact ⟨g, cap, cur, hv, hb, hg, hn, trivial, trivial, trivial⟩
 obtain ⟨k0, k1, k2⟩ := insC_at l i x hx
 have hcell := World.ownsRow.cellAt hown (i * 3 + 1) (by rw [Nat.mul_comm]; omega)
 rw [k1] at hcell
 have hcl : w.drew.cell? ⟨g, i * 3 + 1, none⟩ = some (.int .i64 x.n) := hcell
 have hfz : w.drew.frozen? ⟨g, i * 3 + 1, none⟩ = false := World.ownsRow.frozenAt hown (i * 3 + 1)
 have c0 : w.drew.cell? ⟨B, 0, none⟩ = some (.slice (some ⟨g, 0, none⟩) l.length cap) := cells1k h.1
 have y0 : w.drew.cell? ⟨b, 0, none⟩ = some (.pointer (some ⟨B, 0, none⟩)) := cells1k hf.1
 have y1 : w.drew.cell? ⟨c, 0, none⟩ = some (.int .i64 i) := cells1k hf.2
 have hP : Hid (WrP w B (.slice (some ⟨g, 0, none⟩) l.length cap) (l.set i ⟨x.op, l.length, x.r⟩) (.returned (.tuple #[])) (w.drew.setCell ⟨g, i * 3 + 1, none⟩ (.int .i64 l.length))) := by
  refine Lib.hid ⟨rfl, .slice (some ⟨g, 0, none⟩) l.length cap, ⟨?_, ?_⟩, ⟨rfl, rfl, rfl, by simp, ?_, fun k e => .inl e⟩⟩
  ·exact (heap_setCell_other w.drew _ B _ (by simp; omega)).trans h.1
  ·have h3 := (World.ownsRow.stored (owns_gr hown (grDrew w)) (i * 3 + 1) (.int .i64 l.length)).1
   rw [insC_set l i x _ hx] at h3
   rw [List.length_set]
   exact h3
  ·intro k hk hB hv
   exact heap_setCell_other w.drew _ k _ (by simp only; intro e; exact hv (by simp [Value.ownBlock]; omega))
 clear hown hcell k0 k1 k2 h hf hx hgb
 go_enter Tryz.func72, Tryz.ntmps72
 go_region
 all_goals exact ⟨rfl, .tuple #[], by simp [results, Tryz.results72, go_sem], hP.out⟩
end K
end Go.Proofs.YtamfgjinfcknfaaGreatDoor
