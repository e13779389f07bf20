/- Texts of one proof: KzC, KzD, KzE, UxK. -/
import Derived.Test.YtfmjbfpjkilpcaaGreatDoorZh
import Derived.Deep.RegionLaw
set_option linter.unusedVariables false
set_option linter.unusedSimpArgs false
set_option maxRecDepth 100000
set_option maxHeartbeats 8000000
namespace Go.Proofs.YtfmjbfpjkilpcaaGreatDoor
open Go.RowKit
namespace K
theorem put_post {W1 W2 w2 : World} {B g cap : Nat} {v : Value} {l : List In} {x : In} (h : WrO W1 B v l) (h12 : Gr W1 W2) (hgrow : W2.grownBy w2 v.ownBlock)
  (hown : w2.ownsRow (B + 1) 30 3 (.slice (some ⟨g, 0, none⟩) (l.length + 1) cap) (l.length + 1) (insC l ++ [.int .i64 x.op, .int .i64 x.n, .int .i64 x.r])) (hat : v.ownBlock = some g ∨ g = W2.heap.size) :
  WrO (w2.setCell ⟨B, 0, none⟩ (.slice (some ⟨g, 0, none⟩) (l.length + 1) cap)) B (.slice (some ⟨g, 0, none⟩) (l.length + 1) cap) (l ++ [x]) ∧ WrT B W1 v (w2.setCell ⟨B, 0, none⟩ (.slice (some ⟨g, 0, none⟩) (l.length + 1) cap)) (.slice (some ⟨g, 0, none⟩) (l.length + 1) cap) := by
 have hBl := h.lt
 have hg1 : B < g := by
  rcases hat with e | e
  ·exact (h.own_lt e).1
  ·have := h12.size; omega
 have hB2 : w2.heap[B]? = some (.cells #[v] 54 (0, 0)) := (hgrow.block B (Nat.lt_of_lt_of_le hBl h12.size) (fun e => by have := (h.own_lt e.symm).1; omega)).trans (grBlk h12 h.1)
 refine ⟨⟨?_, ?_⟩, ⟨?_, ?_, ?_, ?_, ?_, ?_⟩⟩
 ·rw [heap_setCell_same w2 B 0 _ _ _ hB2]; simp
 ·rw [List.length_append, List.length_singleton, insC_app]
  exact World.ownsRow.kept hown (gbSet (gbRefl w2 _)) (.inr (by simp [Value.ownBlock]; omega))
 ·exact (show (w2.setCell ⟨B, 0, none⟩ _).os = w2.os from rfl).trans (hgrow.os.trans h12.os)
 ·exact (show (w2.setCell ⟨B, 0, none⟩ _).tape = w2.tape from rfl).trans (hgrow.tape.trans h12.tape)
 ·exact (show (w2.setCell ⟨B, 0, none⟩ _).output = w2.output from rfl).trans (hgrow.output.trans h12.output)
 ·have h1 := hgrow.size
  have h2 := h12.size
  simp
  omega
 ·intro k hk hkB hkv
  have h2 := h12.size
  exact (heap_setCell_other w2 _ k _ (by simpa using hkB)).trans ((hgrow.block k (by omega) (fun e => hkv e.symm)).trans (h12.block k hk))
 ·intro k hk
  have hgk : g = k := by simpa [Value.ownBlock] using hk
  subst hgk
  have h2 := h12.size
  rcases hat with e | e
  ·exact .inl e
  ·exact .inr (by omega)
theorem in_one (a b c : Int) : ∀ u ∈ [Value.int .i64 a, .int .i64 b, .int .i64 c], u.oneCell' = true := by
 intro u hu
 simp only [List.mem_cons, List.not_mem_nil, or_false] at hu
 rcases hu with rfl | rfl | rfl <;> rfl
theorem newCellsK (W : World) (arr : Array Value) (T : TypeId) (b : Nat) (hb : b = W.heap.size) : ∀ j u, arr.toList[j]? = some u → (W.alloc (.cells arr T)).cell? ((⟨b, 0, none⟩ : Addr).add j) = some u := by
 intro j u hu
 subst hb
 have hadd : (⟨W.heap.size, 0, none⟩ : Addr).add j = ⟨W.heap.size, j, none⟩ := by unfold Addr.add; split <;> simp_all
 rw [hadd, cell_of_row _ _ j arr T (0, 0) (heap_alloc_new W _)]
 simpa using hu
theorem put_any (w : World) (B : Nat) (v : Value) (l : List In) (x : In) (h : WrO w B v l) (hl : l.length ≤ 100000) :
  Calls Tryz.prog 37 #[.pointer (some ⟨B, 0, none⟩), .agg #[.int .i64 x.op, .int .i64 x.n, .int .i64 x.r]] w (WrP w B v (l ++ [x])) := by
 obtain ⟨i0, hi, hz0, hz1, hz2⟩ := info_parts2 insInfo
 obtain ⟨W1, hW1⟩ : ∃ W1, W1 = w.alloc (.cells #[.int .i64 x.op, .int .i64 x.n, .int .i64 x.r] 30) := ⟨_, rfl⟩
 have hg1 := Lib.hid (show Gr w W1 by rw [hW1]; exact grAlloc _ _)
 have hb1 : W1.heap[w.heap.size]? = some (.cells #[.int .i64 x.op, .int .i64 x.n, .int .i64 x.r] 30 (0, 0)) := by rw [hW1]; exact nBlk _ _ _ rfl
 obtain ⟨y0, y1, y2⟩ := cells3k hb1
 have hO := Lib.hid (h.gr hg1.out)
 have c0 : W1.cell? ⟨B, 0, none⟩ = some v := cell_of_row _ _ 0 _ _ (0, 0) hO.out.1
 have z0 := frz hO.out.1 0
 have hlH := Lib.hid hl
 have hBl := Lib.hid h.lt
 have hB1 := hO.out.lt
 have hW1l := blkLt hb1
 have hH := Lib.hid h
 clear hb1 h hl
 go_enter Tryz.func37, Tryz.ntmps37
 go_upto_region 1 with fail
 rw [← hW1]
 clear hW1
 go_region_law (first
  | (refine step_append_lies _ (by rfl) _ _ _ (by rfl) (B + 1) 30 i0 _ 3 24 Tryz.underlying22 hi hz0 hz1 hz2 rfl (by decide) v l.length (insC l) (by rfl) (owns_gr hO.out.2 ((grDrew _).tr (grAlloc _ _))) _ 1 1 [.int .i64 x.op, .int .i64 x.n, .int .i64 x.r] (by rfl) (by rfl) (newCellsK W1.drew #[.int .i64 x.op, .int .i64 x.n, .int .i64 x.r] _ _ rfl) (in_one _ _ _) (by decide) (by have := hlH.out; unfold maxLen; omega) (by have := hlH.out; omega) (by have := hBl.out; have := hg1.out.size; simp; omega) _ rfl ?_; intro g cap w2 hown2 hgrow hat hlt2; have hP := Lib.hid (put_post (x := x) hO.out ((grDrew _).tr (grAlloc _ _)) hgrow hown2 hat); have hB2 : w2.heap[B]? = some (.cells #[v] 54 (0, 0)) := (hgrow.block B (by have := hBl.out; have := hg1.out.size; simp; omega) (fun e => by have := (hH.out.own_lt e.symm).1; omega)).trans (grBlk ((grDrew _).tr (grAlloc _ _)) hO.out.1); have c2 : w2.cell? ⟨B, 0, none⟩ = some v := cell_of_row _ _ 0 _ _ (0, 0) hB2; have z2 := frz hB2 0))
 all_goals
  go_wp2
 all_goals exact ⟨rfl, .tuple #[], by simp [results, Tryz.results37, go_sem], rfl, _, hP.out.1, (WrT.of_gr hg1.out).trans hP.out.2⟩
end K
end Go.Proofs.YtfmjbfpjkilpcaaGreatDoor
namespace Go.Proofs.YtfmjbfpjkilpcaaGreatDoor
open Go.RowKit
namespace K
theorem cells1k {w : World} {b : Nat} {v0 : Value} {T : TypeId} (h : w.heap[b]? = some (.cells #[v0] T (0, 0))) : w.cell? ⟨b, 0, none⟩ = some v0 := cell_of_row _ _ 0 _ _ (0, 0) h
abbrev fwV (b c : Nat) : Value := .func (.func 50) #[] #[.pointer (some ⟨b, 0, none⟩), .pointer (some ⟨c, 0, none⟩)]
def FwR (w : World) (B b c from_ : Nat) : Prop := w.heap[b]? = some (.cells #[.pointer (some ⟨B, 0, none⟩)] 82 (0, 0)) ∧ w.heap[c]? = some (.cells #[.int .i64 from_] 3 (0, 0))
theorem FwR.keep {w w' : World} {B b c n : Nat} {v v' : Value} (h : FwR w B b c n) (ht : WrT B w v w' v') (hB : B < b ∧ B < c) (hv : v.ownBlock ≠ some b ∧ v.ownBlock ≠ some c) : FwR w' B b c n :=
 ⟨ht.keep h.1 (by omega) hv.1, ht.keep h.2 (by omega) hv.2⟩
theorem WrT.not_own {B k : Nat} {w w' : World} {v v' : Value} (ht : WrT B w v w' v') (hk : k < w.heap.size) (hv : v.ownBlock ≠ some k) : v'.ownBlock ≠ some k := fun e => by
 rcases ht.own k e with e | e
 ·exact hv e
 ·omega
def FwP (W : World) (B : Nat) (v : Value) (l : List In) (x : In) (e : Ending) (w' : World) : Prop :=
 ∃ b c v', e = .returned (fwV b c) ∧ FwR w' B b c l.length ∧ WrO w' B v' (l ++ [x]) ∧ WrT B W v w' v' ∧ W.heap.size ≤ b ∧ W.heap.size ≤ c ∧ v'.ownBlock ≠ some b ∧ v'.ownBlock ≠ some c
theorem putForward_any (w : World) (B : Nat) (v : Value) (l : List In) (x : In) (h : WrO w B v l) (hl : l.length ≤ 100000) :
  Calls Tryz.prog 38 #[.pointer (some ⟨B, 0, none⟩), .agg #[.int .i64 x.op, .int .i64 x.n, .int .i64 x.r]] w (FwP w B v l x) := by
 have hmf : ∀ (fn : Fn) (first cap : Array Value) (w : World), (Instr.makeFunc fn first cap).run Tryz.prog w = .ok (.func fn first cap) w := fun _ _ _ _ => rfl
 obtain ⟨A, cp, rfl, -, -⟩ := own_ins h.2 rfl
 obtain ⟨W3, hW3⟩ : ∃ W3, W3 = ((w.alloc (.cells #[.pointer (some ⟨B, 0, none⟩)] 82)).alloc (.cells #[.int .i64 x.op, .int .i64 x.n, .int .i64 x.r] 30)).alloc (.cells #[.int .i64 l.length] 3) := ⟨_, rfl⟩
 have hg3 := Lib.hid (show Gr w W3 by rw [hW3]; exact ((grAlloc _ _).tr (grAlloc _ _)).tr (grAlloc _ _))
 have hb1 := Lib.hid (show W3.heap[w.heap.size]? = some (.cells #[.pointer (some ⟨B, 0, none⟩)] 82 (0, 0)) by rw [hW3]; exact grBlk (grAlloc _ _) (grBlk (grAlloc _ _) (nBlk _ _ _ rfl)))
 have hb2 := Lib.hid (show W3.heap[w.heap.size + 1]? = some (.cells #[.int .i64 x.op, .int .i64 x.n, .int .i64 x.r] 30 (0, 0)) by rw [hW3]; exact grBlk (grAlloc _ _) (nBlk _ _ _ (by simp)))
 have hb3 := Lib.hid (show W3.heap[w.heap.size + 1 + 1]? = some (.cells #[.int .i64 l.length] 3 (0, 0)) by rw [hW3]; exact nBlk _ _ _ (by simp))
 have y0 := cells1k hb1.out
 obtain ⟨z0, z1, z2⟩ := cells3k hb2.out
 have hO := Lib.hid (h.gr hg3.out)
 have hp := Lib.hid (put_any W3 B (.slice A l.length cp) l x hO.out hl)
 have c0 : w.cell? ⟨B, 0, none⟩ = some (.slice A l.length cp) := cells1k h.1
 have hBl := h.lt
 have hown := Lib.hid (fun k e => h.own_lt (k := k) e)
 clear h
 go_enter Tryz.func38, Tryz.ntmps38
 go_upto_region 2 with fail
 rw [← hW3]
 clear hW3
 go_wp2_with (go_at_call 37; refine hp.out.mono ?_; rintro e w1 ⟨rfl, v', hO1, hT1⟩; have hO1 := Lib.hid hO1; have hT1 := Lib.hid hT1)
 have n1 : (Value.slice A l.length cp).ownBlock ≠ some w.heap.size := fun e => by have := hown.out _ e; omega
 have n2 : (Value.slice A l.length cp).ownBlock ≠ some (w.heap.size + 1 + 1) := fun e => by have := hown.out _ e; omega
 go_ret
 exact ⟨_, _, v', rfl, ⟨hT1.out.keep hb1.out (by omega) n1, hT1.out.keep hb3.out (by omega) n2⟩, hO1.out, (WrT.of_gr hg3.out).trans hT1.out, by omega, by omega, hT1.out.not_own (blkLt hb1.out) n1, hT1.out.not_own (blkLt hb3.out) n2⟩
theorem arrive_any (w : World) (B : Nat) (v : Value) (l : List In) (b c i : Nat) (x : In) (h : WrO w B v l) (hf : FwR w B b c i) (hx : l[i]? = some x) (hl : l.length ≤ 100000) :
  Calls Tryz.prog 50 #[.pointer (some ⟨b, 0, none⟩), .pointer (some ⟨c, 0, none⟩)] w (WrP w B v (l.set i ⟨x.op, l.length, x.r⟩)) := by
 have hil : i < l.length := (List.getElem?_eq_some_iff.1 hx).1
 have hown := h.2
 obtain ⟨g, cap, cur, rfl, hBg, hgb, hn, hc, hs, ht⟩ : ∃ g cap cur, v = .slice (some ⟨g, 0, none⟩) l.length cap ∧ B + 1 ≤ g ∧ w.heap[g]? = some (.cells cur 30 (0, 0)) ∧ l.length ≤ cap ∧ True ∧ True ∧ True := by
  rcases hown.2 with ⟨_, h0⟩ | ⟨g, cap, cur, hv, hb, hg, hn, -⟩
  ·omega
  ·exact ⟨g, cap, cur, hv, hb, hg, hn, trivial, trivial, trivial⟩
 obtain ⟨k0, k1, k2⟩ := insC_at l i x hx
 have hcell := World.ownsRow.cellAt hown (i * 3 + 1) (by rw [Nat.mul_comm]; omega)
 rw [k1] at hcell
 have hcl : w.drew.cell? ⟨g, i * 3 + 1, none⟩ = some (.int .i64 x.n) := hcell
 have hfz : w.drew.frozen? ⟨g, i * 3 + 1, none⟩ = false := World.ownsRow.frozenAt hown (i * 3 + 1)
 have c0 : w.drew.cell? ⟨B, 0, none⟩ = some (.slice (some ⟨g, 0, none⟩) l.length cap) := cells1k h.1
 have y0 : w.drew.cell? ⟨b, 0, none⟩ = some (.pointer (some ⟨B, 0, none⟩)) := cells1k hf.1
 have y1 : w.drew.cell? ⟨c, 0, none⟩ = some (.int .i64 i) := cells1k hf.2
 have hP : Hid (WrP w B (.slice (some ⟨g, 0, none⟩) l.length cap) (l.set i ⟨x.op, l.length, x.r⟩) (.returned (.tuple #[])) (w.drew.setCell ⟨g, i * 3 + 1, none⟩ (.int .i64 l.length))) := by
  refine Lib.hid ⟨rfl, .slice (some ⟨g, 0, none⟩) l.length cap, ⟨?_, ?_⟩, ⟨rfl, rfl, rfl, by simp, ?_, fun k e => .inl e⟩⟩
  ·exact (heap_setCell_other w.drew _ B _ (by simp; omega)).trans h.1
  ·have h3 := (World.ownsRow.stored (owns_gr hown (grDrew w)) (i * 3 + 1) (.int .i64 l.length)).1
   rw [insC_set l i x _ hx] at h3
   rw [List.length_set]
   exact h3
  ·intro k hk hB hv
   exact heap_setCell_other w.drew _ k _ (by simp only; intro e; exact hv (by simp [Value.ownBlock]; omega))
 clear hown hcell k0 k1 k2 h hf hx hgb
 go_enter Tryz.func50, Tryz.ntmps50
 go_region
 all_goals exact ⟨rfl, .tuple #[], by simp [results, Tryz.results50, go_sem], hP.out⟩
end K
end Go.Proofs.YtfmjbfpjkilpcaaGreatDoor
namespace Go.Proofs.YtfmjbfpjkilpcaaGreatDoor
open Go.RowKit
namespace K
open U (Ex St szK KidsE ev eArr)
def LaidO (w : World) : Prop := ∀ k : Nat, 1 ≤ k → k ≤ 10 → w.cell? ⟨2, k, none⟩ = some (.int .i64 k)
theorem LaidO.gr {w w' : World} (h : LaidO w) (hg : Gr w w') : LaidO w' := fun k h1 h2 => grCell hg (h k h1 h2)
theorem cells4k {w : World} {b : Nat} {v0 v1 v2 v3 : Value} {T : TypeId} (h : w.heap[b]? = some (.cells #[v0, v1, v2, v3] T (0, 0))) : w.cell? ⟨b, 0, none⟩ = some v0 ∧ w.cell? ⟨b, 1, none⟩ = some v1 ∧ w.cell? ⟨b, 2, none⟩ = some v2 ∧ w.cell? ⟨b, 3, none⟩ = some v3 := by
 have e : ∀ j, w.cell? ⟨b, j, none⟩ = (#[v0, v1, v2, v3] : Array Value)[j]? := fun j => cell_of_row _ _ j _ _ (0, 0) h
 exact ⟨e 0, e 1, e 2, e 3⟩
def ExprC (t : Ex) : Prop := ∀ (W0 w : World) (B : Nat) (v : Value) (l : List In) (A : Option Addr) (c : Nat), Gr W0 w → W0.heap.size ≤ B → WrO w B v l → KidsE W0 t.kids A → OpX t → LaidO W0 → l.length + t.size ≤ 50000 →
 Calls Tryz.prog 36 #[.pointer (some ⟨B, 0, none⟩), ev t A c] w (WrP w B v (l ++ cE t))
theorem szK_ge : ∀ l : List Ex, l.length ≤ szK l
 | [] => Nat.zero_le _
 | x :: xs => by have := szK_ge xs; have := U.Ex.size_pos x; rw [szK, List.length_cons]; omega
theorem expr_step (t : Ex) (ih : ∀ k ∈ t.kids, ExprC k) : ExprC t := by
 intro W0 w B v l A c hg hB hO hK hop hL hlen
 obtain ⟨op, n, u, ks⟩ := t
 obtain ⟨ho1, ho2, hok⟩ := OpX_of hop
 simp only [Ex.kids, Ex.op] at hK ih ho1 ho2 hok
 rw [Ex.size] at hlen
 have hkl := szK_ge ks
 obtain ⟨W1, hW1⟩ : ∃ W1, W1 = w.alloc (.cells #[.int .i64 op, .int .i64 n, .int .i64 u, .slice A ks.length (ks.length + c)] 58) := ⟨_, rfl⟩
 have hg1 := Lib.hid (show Gr w W1 by rw [hW1]; exact grAlloc _ _)
 have hb1 := Lib.hid (show W1.heap[w.heap.size]? = some (.cells #[.int .i64 op, .int .i64 n, .int .i64 u, .slice A ks.length (ks.length + c)] 58 (0, 0)) by rw [hW1]; exact nBlk _ _ _ rfl)
 obtain ⟨y0, y1, y2, y3⟩ := cells4k hb1.out
 have hO1 := Lib.hid (hO.gr hg1.out)
 have hT1 := Lib.hid (WrT.of_gr (B := B) (v := v) hg1.out)
 have hBw := hO.lt
 have hov : Hid (v.ownBlock ≠ some w.heap.size) := Lib.hid (fun e => by have := (hO.own_lt e).2; omega)
 have hG := Lib.hid hg
 have hGW : Hid (∀ (wr : World) (vr : Value), WrT B w v wr vr → Gr W0 wr) := Lib.hid (fun wr vr h => h.base hO hg hB)
 have HK := Lib.hid hK
 have HL := Lib.hid hL
 have IH := Lib.hid ih
 have HO := Lib.hid hok
 have hcE := Lib.hid (show l ++ cK (ks.drop 0) = l ++ cK ks by simp)
 have hBH := Lib.hid hB
 obtain ⟨R, hR⟩ : ∃ R, l ++ cK ks = R := ⟨_, rfl⟩
 obtain ⟨m, hm⟩ : ∃ m : Int, (if ks.length = 0 then n else 0) = m := ⟨_, rfl⟩
 have hmH := Lib.hid hm
 have hfin : Hid (l ++ cE (.mk op n u ks) = R ++ [⟨op, m, 0⟩]) := Lib.hid (by rw [cE, hm, ← hR, List.append_assoc])
 have hRl : Hid (R.length ≤ 50000) := Lib.hid (by rw [← hR, List.length_append, cK_len]; omega)
 rw [hfin.out]
 show Calls Tryz.prog 36 #[.pointer (some ⟨B, 0, none⟩), .agg #[.int .i64 op, .int .i64 n, .int .i64 u, .slice A ks.length (ks.length + c)]] w _
 rw [hR] at hcE
 have hlH := Lib.hid (show l.length + szK (ks.drop 0) ≤ 50000 by simp; omega)
 clear hg hB hO hK hop hL ih hok hR hfin hm
 go_enter Tryz.func36, Tryz.ntmps36
 go_upto_region 1 with fail
 rw [← hW1]
 clear hW1
 go_wp2_with fail
 go_loopg [10] (ks.length) (fun gk i wr => ∃ (k : Nat) (vr : Value) (lr : List In), k + gk = ks.length ∧ i = .int .i64 k ∧ Hid (WrO wr B vr lr) ∧ Hid (WrT B w v wr vr) ∧ Hid (wr.heap[w.heap.size]? = some (.cells #[.int .i64 op, .int .i64 n, .int .i64 u, .slice A ks.length (ks.length + c)] 58 (0, 0))) ∧ Hid (vr.ownBlock ≠ some w.heap.size) ∧ Hid (lr ++ cK (ks.drop k) = R) ∧ Hid (lr.length + szK (ks.drop k) ≤ 50000))
 case atStart => exact ⟨0, v, l, by omega, rfl, hO1, hT1, hb1, hov, hcE, hlH⟩
 case round =>
  obtain ⟨k, vr, lr, hk, rfl, hO, hT, hb, hv, hc, hl⟩ := hrel
  clear hO1 hT1 hb1 hov hcE hlH y0 y1 y2 y3
  obtain ⟨y0, y1, y2, y3⟩ := cells4k hb.out
  by_cases hlt : k < ks.length
  ·obtain ⟨gq, rfl⟩ : ∃ g, gk = g + 1 := ⟨gk - 1, by omega⟩
   have hGr := Lib.hid (hGW.out _ _ hT.out)
   obtain ⟨ga, oa, rfl⟩ := U.KidsE.addr HK.out (by omega)
   obtain ⟨A1, c1, ⟨e0, e1, e2, e3⟩, hl1, hK1⟩ := (U.KidsE.get _ _ _ HK.out k _ (List.getElem?_eq_getElem hlt)).cells
   have hmem : ks[k] ∈ ks := List.getElem_mem hlt
   have hcx := hc.out
   have hlx := hl.out
   rw [cK_drop hlt, ← List.append_assoc] at hcx
   rw [szK_drop hlt] at hlx
   have hi := IH.out _ hmem
   have hox := OpK_get HO.out _ hmem
   generalize ks[k] = x at *
   obtain ⟨W2, hW2⟩ : ∃ W2, W2 = wr.alloc (.cells (eArr x A1 c1) 58) := ⟨_, rfl⟩
   have hg2 := Lib.hid (show Gr wr W2 by rw [hW2]; exact grAlloc _ _)
   have hb2 := Lib.hid (show W2.heap[wr.heap.size]? = some (.cells (eArr x A1 c1) 58 (0, 0)) by rw [hW2]; exact nBlk _ _ _ rfl)
   have hq := Lib.hid (hi W0 W2 B vr lr A1 c1 (hGr.out.tr hg2.out) hBH.out (hO.out.gr hg2.out) hK1 hox HL.out (by omega))
   have hT2 := Lib.hid (hT.out.trans (WrT.of_gr hg2.out))
   have e0 := grCell hGr.out e0
   have e1 := grCell hGr.out e1
   have e2 := grCell hGr.out e2
   have e3 := grCell hGr.out e3
   have hcx := Lib.hid hcx
   have hlx := Lib.hid (show (lr ++ cE x).length + szK (ks.drop (k + 1)) ≤ 50000 by rw [List.length_append, cE_len]; omega)
   have hb := Lib.hid (grBlk hg2.out hb.out)
   clear hi hox hmem hK1 hl1 hc hl hO hT
   go_upto_region 4 with fail
   rw [← hW2]
   clear hW2
   obtain ⟨q0, q1, q2, q3⟩ := cells4k hb2.out
   clear e0 e1 e2 e3 y0 y1 y2 y3
   go_wp2_with (go_at_call 36; refine hq.out.mono ?_; rintro e w8 ⟨rfl, v8, hO8, hT8⟩; have hO8 := Lib.hid hO8; have hb8 := Lib.hid (hT8.keep hb.out (by omega) hv.out); have hv8 := Lib.hid (hT8.not_own (blkLt hb.out) hv.out); have hT8 := Lib.hid (hT2.out.trans hT8))
   go_roundg gq
   case measure => omega
   case rel => exact ⟨k + 1, v8, lr ++ cE x, by omega, by go_num, hO8, hT8, hb8, hv8, hcx, hlx⟩
  ·obtain rfl : gk = 0 := by omega
   obtain rfl : lr = R := by have := hc.out; rw [List.drop_eq_nil_of_le (by omega), cK, List.append_nil] at this; exact this
   have hkl : decide ((k : Int) < (ks.length : Int)) = false := by simp; omega
   have hGr := Lib.hid (hGW.out _ _ hT.out)
   obtain ⟨on, hon⟩ : ∃ on : Nat, op = on := ⟨op.toNat, by omega⟩
   subst hon
   have ho := grCell hGr.out (HL.out on (by omega) (by omega))
   have hi1 : (0 : Int) ≤ (on : Int) := by omega
   have hi2 : (on : Int) < 11 := by omega
   obtain ⟨W3, hW3⟩ : ∃ W3, W3 = wr.alloc (.cells #[.int .i64 on, .int .i64 0, .int .i64 0] 30) := ⟨_, rfl⟩
   have hg3 := Lib.hid (show Gr wr W3 by rw [hW3]; exact grAlloc _ _)
   have hb3 := Lib.hid (show W3.heap[wr.heap.size]? = some (.cells #[.int .i64 on, .int .i64 0, .int .i64 0] 30 (0, 0)) by rw [hW3]; exact nBlk _ _ _ rfl)
   have hwl := blkLt hb.out
   by_cases h0 : ks.length = 0
   ·obtain rfl : n = m := by have := hmH.out; rw [if_pos h0] at this; exact this
    have hkb : ((ks.length : Int) == 0) = true := by rw [beq_iff_eq]; omega
    obtain ⟨W4, hW4⟩ : ∃ W4, W4 = wr.alloc (.cells #[.int .i64 on, .int .i64 n, .int .i64 0] 30) := ⟨_, rfl⟩
    have hg4 := Lib.hid (show Gr wr W4 by rw [hW4]; exact grAlloc _ _)
    have hb4 := Lib.hid (show W4.heap[wr.heap.size]? = some (.cells #[.int .i64 on, .int .i64 n, .int .i64 0] 30 (0, 0)) by rw [hW4]; exact nBlk _ _ _ rfl)
    have hp := Lib.hid (put_any W4 B vr lr ⟨on, n, 0⟩ (hO.out.gr hg4.out) (by have := hRl.out; omega))
    have hT4 := Lib.hid (hT.out.trans (WrT.of_gr hg4.out))
    obtain ⟨z0, z1, z2⟩ := cells3k hb4.out
    clear hg3 hb3 hW3
    go_upto_region 9 with fail
    rw [← hW4]
    clear hW4
    go_wp2_with (go_at_call 37; refine hp.out.mono ?_; rintro e w8 ⟨rfl, v8, hO8, hT8⟩; have hO8 := Lib.hid hO8; have hT8 := Lib.hid (hT4.out.trans hT8))
    exact ⟨rfl, .tuple #[], by simp [results, Tryz.results36, go_sem], rfl, v8, hO8.out, hT8.out⟩
   ·obtain rfl : 0 = m := by have := hmH.out; rw [if_neg h0] at this; exact this
    have hkb : ((ks.length : Int) == 0) = false := by rw [beq_eq_false_iff_ne]; omega
    have hp := Lib.hid (put_any W3 B vr lr ⟨on, 0, 0⟩ (hO.out.gr hg3.out) (by have := hRl.out; omega))
    have hT3 := Lib.hid (hT.out.trans (WrT.of_gr hg3.out))
    obtain ⟨z0, z1, z2⟩ := cells3k hb3.out
    go_upto_region 7 with fail
    rw [← hW3]
    clear hW3
    have y3 := grCell hg3.out y3
    go_wp2_with (go_at_call 37; refine hp.out.mono ?_; rintro e w8 ⟨rfl, v8, hO8, hT8⟩; have hO8 := Lib.hid hO8; have hT8 := Lib.hid (hT3.out.trans hT8))
    exact ⟨rfl, .tuple #[], by simp [results, Tryz.results36, go_sem], rfl, v8, hO8.out, hT8.out⟩
mutual
theorem expr_any : ∀ t : Ex, ExprC t
 | .mk op n u ks => expr_step _ (expr_all ks)
theorem expr_all : ∀ (l : List Ex), ∀ k ∈ l, ExprC k
 | [], k, hk => by cases hk
 | y :: ys, k, hk => by
  rcases List.mem_cons.1 hk with h | h
  ·rw [h]; exact expr_any y
  ·exact expr_all ys k h
end
end K
end Go.Proofs.YtfmjbfpjkilpcaaGreatDoor
namespace Go.Proofs.YtfmjbfpjkilpcaaGreatDoor.U
open Go.RowKit
theorem cells13 {w : World} {b : Nat} {v0 v1 v2 v3 v4 v5 v6 v7 v8 v9 v10 v11 v12 : Value} {T : TypeId} (h : w.heap[b]? = some (.cells #[v0, v1, v2, v3, v4, v5, v6, v7, v8, v9, v10, v11, v12] T (0, 0))) :
  w.cell? ⟨b, 0, none⟩ = some v0 ∧ w.cell? ⟨b, 1, none⟩ = some v1 ∧ w.cell? ⟨b, 2, none⟩ = some v2 ∧ w.cell? ⟨b, 3, none⟩ = some v3 ∧ w.cell? ⟨b, 4, none⟩ = some v4 ∧ w.cell? ⟨b, 5, none⟩ = some v5 ∧ w.cell? ⟨b, 6, none⟩ = some v6 ∧
  w.cell? ⟨b, 7, none⟩ = some v7 ∧ w.cell? ⟨b, 8, none⟩ = some v8 ∧ w.cell? ⟨b, 9, none⟩ = some v9 ∧ w.cell? ⟨b, 10, none⟩ = some v10 ∧ w.cell? ⟨b, 11, none⟩ = some v11 ∧ w.cell? ⟨b, 12, none⟩ = some v12 := by
 have e : ∀ j, w.cell? ⟨b, j, none⟩ = (#[v0, v1, v2, v3, v4, v5, v6, v7, v8, v9, v10, v11, v12] : Array Value)[j]? := fun j => cell_of_row _ _ j _ _ (0, 0) h
 exact ⟨e 0, e 1, e 2, e 3, e 4, e 5, e 6, e 7, e 8, e 9, e 10, e 11, e 12⟩
theorem cell1 {w : World} {b : Nat} {v : Value} {T : TypeId} (h : w.heap[b]? = some (.cells #[v] T (0, 0))) : w.cell? ⟨b, 0, none⟩ = some v ∧ w.frozen? ⟨b, 0, none⟩ = false :=
 ⟨by rw [cell_of_row _ _ 0 _ _ (0, 0) h]; rfl, by simp [World.frozen?, h]⟩
theorem set1 {w : World} {b : Nat} {v u : Value} {T : TypeId} (h : w.heap[b]? = some (.cells #[v] T (0, 0))) : (w.setCell ⟨b, 0, none⟩ u).heap[b]? = some (.cells #[u] T (0, 0)) := by
 rw [heap_setCell_same _ _ _ _ _ _ h]; rfl
def LeftP (L : Nat) (r : Bool × Int) (w : World) (e : Ending) (w' : World) : Prop := e = .returned (.bool r.1) ∧ w'.heap[L]? = some (.cells #[.int .i64 r.2] 3 (0, 0)) ∧ KpL L w w'
theorem clo_any (x : St) (A B T E : Option Addr) (c d m n L : Nat) (left : Int) (hl0 : 0 ≤ left) (hl1 : left ≤ 100) (W0 w : World) (hb0 : Below W0.heap.size W0 w) (hLW : W0.heap.size ≤ L) (hLb : w.heap[L]? = some (.cells #[.int .i64 left] 3 (0, 0)))
  (hA : KidsE W0 x.a.kids A) (hB : KidsE W0 x.b.kids B) : Calls Tryz.prog 53 #[sv x A c B d T m E n, .pointer (some ⟨L, 0, none⟩)] w (LeftP L (okS x.kind x.a x.b (left - 1), left - 1) w) := by
 have HA := Lib.hid (fun wx (h : Below W0.heap.size W0 wx) => isLong_any x.a wx A c (hA.below h))
 have HB := Lib.hid (fun wx (h : Below W0.heap.size W0 wx) => isLong_any x.b wx B d (hB.below h))
 have hxL := blkLt hLb
 have q0 : IntKind.i64.wrap (left - 1) = left - 1 := IntWalk.i64_in _ (by omega)
 have hW1 : Hid (Below W0.heap.size W0 ((w.setCell ⟨L, 0, none⟩ (.int .i64 (left - 1))).alloc (.cells (sArr x A c B d T m E n) 63))) := Lib.hid ((belowSet hb0 hLW).alloc (by simpa using hb0.size) _)
 have hK1 : Hid (KpL L w ((w.setCell ⟨L, 0, none⟩ (.int .i64 (left - 1))).alloc (.cells (sArr x A c B d T m E n) 63))) := Lib.hid (((KpL.refl L w).set _).alloc _)
 have hL1 : Hid (((w.setCell ⟨L, 0, none⟩ (.int .i64 (left - 1))).alloc (.cells (sArr x A c B d T m E n) 63)).heap[L]? = some (.cells #[.int .i64 (left - 1)] 3 (0, 0))) := Lib.hid ((Below.heap_alloc _ _ _ (by simpa using hxL)).trans (set1 hLb))
 have hS1 : Hid (((w.setCell ⟨L, 0, none⟩ (.int .i64 (left - 1))).alloc (.cells (sArr x A c B d T m E n) 63)).heap[w.heap.size]? = some (.cells (sArr x A c B d T m E n) 63 (0, 0))) := Lib.hid (newBlk _ _ _ (by simp))
 obtain ⟨l0, l1⟩ := cell1 hLb
 unfold okS
 generalize hla : decide (60 < x.a.size) = la at *
 generalize hlb : decide (60 < x.b.size) = lb at *
 have hcell := (cell1 hL1.out).1
 have hxs := blkLt hS1.out
 have hxl := blkLt hL1.out
 obtain ⟨s0, s1, s2, s3, s4, s5, s6, s7, s8, s9, s10, s11, s12⟩ := cells13 hS1.out
 clear hA hB hLb hb0 hla hlb s1 s2 s11 s12
 go_enter Tryz.func53, Tryz.ntmps53
 go_wp2_with (go_at_call 54; first
  | (refine (HA.out _ hW1.out).mono ?_; rintro e w1 ⟨rfl, hb1⟩; have hW2 := Lib.hid (hW1.out.trans (hb1.mono hW1.out.size)); have hK2 := Lib.hid (hK1.out.trans (Below.kpl hb1)); have hL2 := Lib.hid ((hb1.block _ hxl).trans hL1.out); have hS2 := Lib.hid ((hb1.block _ hxs).trans hS1.out); clear hb1 s0 s3 s4 s5 s6 s7 s8 s9 s10; obtain ⟨s0, s1, s2, s3, s4, s5, s6, s7, s8, s9, s10, s11, s12⟩ := cells13 hS2.out; clear s1 s2 s11 s12; have hxs2 := blkLt hS2.out; have hxl2 := blkLt hL2.out)
  | (refine (HB.out _ hW2.out).mono ?_; rintro e w2 ⟨rfl, hb2⟩; have hK3 := Lib.hid (hK2.out.trans (Below.kpl hb2)); have hL3 := Lib.hid ((hb2.block _ hxl2).trans hL2.out); clear hb2))
 all_goals
  go_ret
  refine ⟨?_, by first | exact hL3.out | exact hL2.out | exact hL1.out, by first | exact hK3.out | exact hK2.out | exact hK1.out⟩
  simp [*]
 all_goals
  intro h9
  omega
theorem evS_eq (x : St) (n : Int) : evS x n = if okS x.kind x.a x.b (n - 1) = true then (if x.kind = 2 then (match evL x.th (n - 1) with | (true, m) => evL x.el m | (false, m) => (false, m)) else (true, n - 1)) else (false, n - 1) := by
 cases x
 rw [evS]
 rfl
theorem LeftP.mk' {L : Nat} {r : Bool × Int} {b : Bool} {z : Int} {w w' : World} (hr : (b, z) = r) (h : w'.heap[L]? = some (.cells #[.int .i64 z] 3 (0, 0))) (hk : KpL L w w') : LeftP L r w (.returned (.bool b)) w' := by
 subst hr
 exact ⟨rfl, h, hk⟩
def EvC (l : List St) : Prop := ∀ (W0 w : World) (A : Option Addr) (m L : Nat) (left : Int), 0 ≤ left → left ≤ 100 → Below W0.heap.size W0 w → W0.heap.size ≤ L → w.heap[L]? = some (.cells #[.int .i64 left] 3 (0, 0)) → StsR W0 l A → l.length ≤ maxLen →
 Calls Tryz.prog 52 #[.slice A l.length m, .func (.func 53) #[] #[.pointer (some ⟨L, 0, none⟩)]] w (LeftP L (evL l left) w)
theorem every_step (l : List St) (ih : ∀ x ∈ l, EvC x.th ∧ EvC x.el) : EvC l := by
 intro W0 w A m L left hl0 hl1 hb0 hLW hLb hR hlen
 obtain ⟨r, hr⟩ : ∃ r, evL l left = r := ⟨_, rfl⟩
 rw [hr]
 have HR := Lib.hid hr
 have IH := Lib.hid ih
 have HS := Lib.hid hR
 have HB0 := Lib.hid hb0
 have HL0 := Lib.hid hLb
 have hxL := blkLt hLb
 have hsz := hb0.size
 clear hr ih hR hLb hb0
 unfold maxLen at hlen
 go_enter Tryz.func52, Tryz.ntmps52
 go_wp2_with fail
 go_loopg [9] (l.length) (fun gk i wr => ∃ (k : Nat) (lv : Int), k + gk = l.length ∧ i = .int .i64 k ∧ 0 ≤ lv ∧ lv ≤ 100 ∧ Hid (evL (l.drop k) lv = r) ∧ Hid (wr.heap[L]? = some (.cells #[.int .i64 lv] 3 (0, 0))) ∧ Hid (KpL L w wr))
 case atStart => exact ⟨0, left, by omega, rfl, hl0, hl1, HR, HL0, Lib.hid (KpL.refl _ _)⟩
 case round =>
  obtain ⟨k, lv, hk, rfl, hv0, hv1, hE, hLb, hK⟩ := hrel
  have hxl := blkLt hLb.out
  by_cases hlt : k < l.length
  ·obtain ⟨g, rfl⟩ : ∃ g, gk = g + 1 := ⟨gk - 1, by omega⟩
   have hBr := KpL.below HB0.out hK.out hsz hLW
   have hSr := HS.out.below hBr
   obtain ⟨ga, oa, rfl⟩ := hSr.addr (by omega)
   have hS0 := (HS.out.get _ _ _ k _ (List.getElem?_eq_getElem hlt)).cells
   have hmem : l[k] ∈ l := List.getElem_mem hlt
   have hI := IH.out _ hmem
   have hE1 := hE.out
   rw [List.drop_eq_getElem_cons hlt, evL] at hE1
   clear hmem hE hSr
   generalize l[k] = x at *
   obtain ⟨A1, c1, B1, d1, T1, m1, E1, n1, hat0, hKa, hKb, hTh, hEl0, hlt1, hlt2⟩ := hS0
   have hat := hat0.keep (hBr.block ga (World.block_lt_of_cell? _ _ hat0.1))
   obtain ⟨s0, s1, s2, s3, s4, s5, s6, s7, s8, s9, s10, s11, s12⟩ := hat
   have hB1 : Hid (Below W0.heap.size W0 (wr.alloc (.cells (sArr x A1 c1 B1 d1 T1 m1 E1 n1) 63))) := Lib.hid (hBr.alloc hBr.size _)
   have hK1 : Hid (KpL L w (wr.alloc (.cells (sArr x A1 c1 B1 d1 T1 m1 E1 n1) 63))) := Lib.hid (hK.out.alloc _)
   have hL1 := (Below.heap_alloc wr (.cells (sArr x A1 c1 B1 d1 T1 m1 E1 n1) 63) L hxl).trans hLb.out
   have hX1 : Hid ((wr.alloc (.cells (sArr x A1 c1 B1 d1 T1 m1 E1 n1) 63)).heap[wr.heap.size]? = some (.cells (sArr x A1 c1 B1 d1 T1 m1 E1 n1) 63 (0, 0))) := Lib.hid (newBlk _ _ _ rfl)
   have hxX := blkLt hX1.out
   have hne : wr.heap.size ≠ L := by omega
   have HC := Lib.hid (clo_any x A1 B1 T1 E1 c1 d1 m1 n1 L lv hv0 hv1 W0 (wr.alloc (.cells (sArr x A1 c1 B1 d1 T1 m1 E1 n1) 63)) hB1.out hLW hL1 hKa hKb)
   have hTH := Lib.hid hTh
   have hEL := Lib.hid hEl0
   have hT := Lib.hid hI.1
   have hEl := Lib.hid hI.2
   rw [evS_eq] at hE1
   clear hat0 hKa hKb hTh hEl0 hBr hI hL1
   cases hok : okS x.kind x.a x.b (lv - 1) with
   | false =>
    rw [hok] at HC hE1
    have hF : Hid ((false, lv - 1) = r) := Lib.hid (by simpa using hE1)
    clear hok hE1
    go_wp2_with (go_at_call 53; refine HC.out.mono ?_; rintro e w1 ⟨rfl, hL2, hK2⟩; have hL2 := Lib.hid hL2; have hKw2 := Lib.hid (hK1.out.trans hK2); have hB2 := Lib.hid (KpL.below hB1.out hK2 hB1.out.size hLW); have hX2 := Lib.hid ((hK2.block _ hxX hne).trans hX1.out); obtain ⟨x0, x1, x2, x3, x4, x5, x6, x7, x8, x9, x10, x11, x12⟩ := cells13 hX2.out; have hxX2 := blkLt hX2.out; have hxL2 := blkLt hL2.out; clear hK2 x1 x2 x3 x4 x5 x6 x7 x8 x9 x10 s0 s1 s2 s3 s4 s5 s6 s7 s8 s9 s10 s11 s12)
    go_ret
    exact LeftP.mk' hF.out hL2.out hKw2.out
   | true =>
    rw [hok] at HC
    have hlv : 0 ≤ lv - 1 := by simp [okS] at hok; omega
    rw [hok, if_pos rfl] at hE1
    clear hok
    by_cases hkd : x.kind = 2
    ·rw [if_pos hkd] at hE1
     have HKD := Lib.hid hkd
     clear hkd
     rcases hev : evL x.th (lv - 1) with ⟨b1, m2⟩
     have hrange := evL_range x.th (lv - 1) hlv
     rw [hev] at hE1 hrange
     have hev := Lib.hid hev
     cases b1 with
     | false =>
      have hF : Hid ((false, m2) = r) := hE1
      clear hE1
      go_wp2_with (first
       | (go_at_call 53; refine HC.out.mono ?_; rintro e w1 ⟨rfl, hL2, hK2⟩; have hL2 := Lib.hid hL2; have hKw2 := Lib.hid (hK1.out.trans hK2); have hB2 := Lib.hid (KpL.below hB1.out hK2 hB1.out.size hLW); have hX2 := Lib.hid ((hK2.block _ hxX hne).trans hX1.out); obtain ⟨x0, x1, x2, x3, x4, x5, x6, x7, x8, x9, x10, x11, x12⟩ := cells13 hX2.out; rw [HKD.out] at x0; have hxX2 := blkLt hX2.out; have hxL2 := blkLt hL2.out; clear hK2 x1 x2 x3 x4 x5 x6 x7 x8 x9 x10 s0 s1 s2 s3 s4 s5 s6 s7 s8 s9 s10 s11 s12)
       | (go_at_call_of 52 (Value.slice T1 x.th.length m1); refine (hT.out W0 w1 T1 m1 L (lv - 1) hlv (by omega) hB2.out hLW hL2.out hTH.out hlt1).mono ?_; rw [hev.out]; rintro e w2 ⟨rfl, hL3, hK3⟩; have hL3 := Lib.hid hL3; have hKw3 := Lib.hid (hKw2.out.trans hK3); have hB3 := Lib.hid (KpL.below hB2.out hK3 hB2.out.size hLW); have hX3 := Lib.hid ((hK3.block _ hxX2 hne).trans hX2.out); clear x0 x11 x12; obtain ⟨x0, x1, x2, x3, x4, x5, x6, x7, x8, x9, x10, x11, x12⟩ := cells13 hX3.out; rw [HKD.out] at x0; have hxX3 := blkLt hX3.out; have hxL3 := blkLt hL3.out; clear hK3 x1 x2 x3 x4 x5 x6 x7 x8 x9 x10))
      go_ret
      exact LeftP.mk' hF.out hL3.out hKw3.out
     | true =>
      have hm0 : 0 ≤ m2 := hrange.2.2 rfl
      have hm1 : m2 ≤ 100 := by have := hrange.2.1; simp only at this; omega
      rcases hev2 : evL x.el m2 with ⟨b2, m3⟩
      have hrange2 := evL_range x.el m2 hm0
      simp only at hE1
      rw [hev2] at hE1 hrange2
      have hev2 := Lib.hid hev2
      cases b2 with
      | false =>
       have hF : Hid ((false, m3) = r) := hE1
       clear hE1 hrange hrange2
       go_wp2_with (first
        | (go_at_call 53; refine HC.out.mono ?_; rintro e w1 ⟨rfl, hL2, hK2⟩; have hL2 := Lib.hid hL2; have hKw2 := Lib.hid (hK1.out.trans hK2); have hB2 := Lib.hid (KpL.below hB1.out hK2 hB1.out.size hLW); have hX2 := Lib.hid ((hK2.block _ hxX hne).trans hX1.out); obtain ⟨x0, x1, x2, x3, x4, x5, x6, x7, x8, x9, x10, x11, x12⟩ := cells13 hX2.out; rw [HKD.out] at x0; have hxX2 := blkLt hX2.out; have hxL2 := blkLt hL2.out; clear hK2 x1 x2 x3 x4 x5 x6 x7 x8 x9 x10 s0 s1 s2 s3 s4 s5 s6 s7 s8 s9 s10 s11 s12)
        | (go_at_call_of 52 (Value.slice T1 x.th.length m1); refine (hT.out W0 w1 T1 m1 L (lv - 1) hlv (by omega) hB2.out hLW hL2.out hTH.out hlt1).mono ?_; rw [hev.out]; rintro e w2 ⟨rfl, hL3, hK3⟩; have hL3 := Lib.hid hL3; have hKw3 := Lib.hid (hKw2.out.trans hK3); have hB3 := Lib.hid (KpL.below hB2.out hK3 hB2.out.size hLW); have hX3 := Lib.hid ((hK3.block _ hxX2 hne).trans hX2.out); clear x0 x11 x12; obtain ⟨x0, x1, x2, x3, x4, x5, x6, x7, x8, x9, x10, x11, x12⟩ := cells13 hX3.out; rw [HKD.out] at x0; have hxX3 := blkLt hX3.out; have hxL3 := blkLt hL3.out; clear hK3 x1 x2 x3 x4 x5 x6 x7 x8 x9 x10)
        | (go_at_call_of 52 (Value.slice E1 x.el.length n1); refine (hEl.out W0 w2 E1 n1 L m2 hm0 hm1 hB3.out hLW hL3.out hEL.out hlt2).mono ?_; rw [hev2.out]; rintro e w3 ⟨rfl, hL4, hK4⟩; have hL4 := Lib.hid hL4; have hKw4 := Lib.hid (hKw3.out.trans hK4); clear hK4))
       go_ret
       exact LeftP.mk' hF.out hL4.out hKw4.out
      | true =>
       have hm2 : 0 ≤ m3 := hrange2.2.2 rfl
       have hm3 : m3 ≤ 100 := by have := hrange2.2.1; simp only at this; omega
       have hG : Hid (evL (l.drop (k + 1)) m3 = r) := hE1
       clear hE1 hrange hrange2
       go_wp2_with (first
        | (go_at_call 53; refine HC.out.mono ?_; rintro e w1 ⟨rfl, hL2, hK2⟩; have hL2 := Lib.hid hL2; have hKw2 := Lib.hid (hK1.out.trans hK2); have hB2 := Lib.hid (KpL.below hB1.out hK2 hB1.out.size hLW); have hX2 := Lib.hid ((hK2.block _ hxX hne).trans hX1.out); obtain ⟨x0, x1, x2, x3, x4, x5, x6, x7, x8, x9, x10, x11, x12⟩ := cells13 hX2.out; rw [HKD.out] at x0; have hxX2 := blkLt hX2.out; have hxL2 := blkLt hL2.out; clear hK2 x1 x2 x3 x4 x5 x6 x7 x8 x9 x10 s0 s1 s2 s3 s4 s5 s6 s7 s8 s9 s10 s11 s12)
        | (go_at_call_of 52 (Value.slice T1 x.th.length m1); refine (hT.out W0 w1 T1 m1 L (lv - 1) hlv (by omega) hB2.out hLW hL2.out hTH.out hlt1).mono ?_; rw [hev.out]; rintro e w2 ⟨rfl, hL3, hK3⟩; have hL3 := Lib.hid hL3; have hKw3 := Lib.hid (hKw2.out.trans hK3); have hB3 := Lib.hid (KpL.below hB2.out hK3 hB2.out.size hLW); have hX3 := Lib.hid ((hK3.block _ hxX2 hne).trans hX2.out); clear x0 x11 x12; obtain ⟨x0, x1, x2, x3, x4, x5, x6, x7, x8, x9, x10, x11, x12⟩ := cells13 hX3.out; rw [HKD.out] at x0; have hxX3 := blkLt hX3.out; have hxL3 := blkLt hL3.out; clear hK3 x1 x2 x3 x4 x5 x6 x7 x8 x9 x10)
        | (go_at_call_of 52 (Value.slice E1 x.el.length n1); refine (hEl.out W0 w2 E1 n1 L m2 hm0 hm1 hB3.out hLW hL3.out hEL.out hlt2).mono ?_; rw [hev2.out]; rintro e w3 ⟨rfl, hL4, hK4⟩; have hL4 := Lib.hid hL4; have hKw4 := Lib.hid (hKw3.out.trans hK4); clear hK4))
       go_roundg g
       case measure => omega
       case rel => exact ⟨k + 1, m3, by omega, by go_num, hm2, hm3, hG, hL4, hKw4⟩
    ·rw [if_neg hkd] at hE1
     have hG : Hid (evL (l.drop (k + 1)) (lv - 1) = r) := hE1
     clear hE1
     go_wp2_with (go_at_call 53; refine HC.out.mono ?_; rintro e w1 ⟨rfl, hL2, hK2⟩; have hL2 := Lib.hid hL2; have hKw2 := Lib.hid (hK1.out.trans hK2); have hB2 := Lib.hid (KpL.below hB1.out hK2 hB1.out.size hLW); have hX2 := Lib.hid ((hK2.block _ hxX hne).trans hX1.out); obtain ⟨x0, x1, x2, x3, x4, x5, x6, x7, x8, x9, x10, x11, x12⟩ := cells13 hX2.out; have hxX2 := blkLt hX2.out; have hxL2 := blkLt hL2.out; clear hK2 x1 x2 x3 x4 x5 x6 x7 x8 x9 x10 s0 s1 s2 s3 s4 s5 s6 s7 s8 s9 s10 s11 s12)
     go_roundg g
     case measure => omega
     case rel => exact ⟨k + 1, lv - 1, by omega, by go_num, hlv, by omega, hG, hL2, hKw2⟩
  ·have hF : Hid ((true, lv) = r) := Lib.hid (by have := hE.out; rw [List.drop_eq_nil_of_le (by omega), evL] at this; exact this)
   clear hE
   go_wp2_with fail
   go_ret
   exact LeftP.mk' hF.out hLb.out hK.out
mutual
theorem every_any : ∀ x : St, EvC x.th ∧ EvC x.el
 | .mk k v r a b th el => ⟨every_step th (every_all th), every_step el (every_all el)⟩
theorem every_all : ∀ l : List St, ∀ x ∈ l, EvC x.th ∧ EvC x.el
 | [], x, h => by cases h
 | y :: ys, x, h => by
  rcases List.mem_cons.1 h with h | h
  ·rw [h]; exact every_any y
  ·exact every_all ys x h
end
end Go.Proofs.YtfmjbfpjkilpcaaGreatDoor.U
