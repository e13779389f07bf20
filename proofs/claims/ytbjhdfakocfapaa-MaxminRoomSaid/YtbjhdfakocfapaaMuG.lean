/- Law package 13: mathematics of MaxminScale; a network that is built in memory by appends of numbers. -/
import Derived.Test.YtbjhdfakocfapaaMuC
import Derived.Deep.AppendLies
import Derived.Deep.RegionLaw
import Derived.Laws.AppendOwnNone
import Derived.Laws.OwnMore
import Derived.Laws.MakeOwn
namespace Go.Proofs.Ytbjhdfakocfapaa
open Go.RowKit
set_option linter.unusedVariables false
set_option linter.unusedSimpArgs false
/-! ### mathematics -/
def mulL (l : List Int) (t : Int) : List Int := l.map (· * t)
def scaled (n : Net) (t : Int) : Net := ⟨mulL n.c t, n.f, mulL n.l t⟩
theorem num_mulL (l : List Int) (t : Int) (i : Nat) : num (mulL l t) i = num l i * t := by
  unfold num mulL
  rw [List.getElem?_map]
  cases l[i]? <;> simp
theorem netT_scaled (n : Net) (t : Int) : netT (scaled n t) = { netT n with cap := fun l => (t : Rat) * (netT n).cap l, lm := fun i => (t : Rat) * (netT n).lm i } := by
  have h1 : (fun l => (num (mulL n.c t) l : Rat)) = (fun l => (t : Rat) * (num n.c l : Rat)) := by
    funext l; rw [num_mulL, Rat.intCast_mul]; grind
  have h2 : (fun l => (num (mulL n.l t) l : Rat)) = (fun l => (t : Rat) * (num n.l l : Rat)) := by
    funext l; rw [num_mulL, Rat.intCast_mul]; grind
  have h3 : (mulL n.c t).length = n.c.length := by simp [mulL]
  unfold netT scaled
  simp only [h1, h2, h3]
theorem scale_val {n : Net} {t : Int} (hv : validB n = true) (hw : validB (scaled n t) = true) (ht : 1 ≤ t) {i : Nat} (hi : i < n.f.length) :
    (rat (shareM (scaled n t)) i).n * (rat (shareM n) i).d = t * (rat (shareM n) i).n * (rat (shareM (scaled n t)) i).d := by
  obtain ⟨f1, l1, q1, -⟩ := share_fair hv
  obtain ⟨f2, l2, q2, -⟩ := share_fair hw
  have ht0 : (0 : Rat) < (t : Rat) := Rat.intCast_pos.2 (by omega)
  have h1 := MM.fair_scale f1 ht0
  rw [netT_scaled] at f2
  have h2 : ratT (shareM (scaled n t)) i = (t : Rat) * ratT (shareM n) i := MM.unique f2 h1 i hi
  have qx := q1 i hi
  have qy := q2 i hi
  have e : ((rat (shareM (scaled n t)) i).n : Rat) / ((rat (shareM (scaled n t)) i).d : Rat) = ((t * (rat (shareM n) i).n : Int) : Rat) / ((rat (shareM n) i).d : Rat) := by
    have h3 : val (rat (shareM (scaled n t)) i) = (t : Rat) * val (rat (shareM n) i) := h2
    unfold val at h3
    rw [h3, Rat.intCast_mul]
    have := cast_ne (qB_d qx)
    grind
  exact (div_eq_iff' (qB_d qy) (qB_d qx)).1 e
/-! ### memory -/
theorem gbRefl (w : World) (r : Option Nat) : w.grownBy w r := ⟨rfl, rfl, rfl, Nat.le_refl _, fun _ _ _ => rfl⟩
theorem gbSet {w w' : World} {b i : Nat} {v : Value} (h : w.grownBy w' (some b)) : w.grownBy (w'.setCell ⟨b, i, none⟩ v) (some b) :=
  ⟨h.os, h.tape, h.output, by simpa using h.size, fun k hk hn => (heap_setCell_other w' _ k v (fun e => hn (by rw [e]))).trans (h.block k hk hn)⟩
theorem gbBelow {a b : World} {B : Nat} {r : Option Nat} (h : a.grownBy b r) (hB : B ≤ a.heap.size) (hr : ∀ k, r = some k → B ≤ k) : Below B a b :=
  ⟨h.os, h.tape, h.output, h.size, fun i hi => h.block i (by omega) (fun e => by have := hr i e.symm; omega)⟩
theorem owns_gr {w w' : World} {B : Nat} {T : TypeId} {sz : Nat} {v : Value} {n : Nat} {xs : List Value} (h : w.ownsRow B T sz v n xs) (hb : Gr w w') : w'.ownsRow B T sz v n xs := by
  refine ⟨h.1, ?_⟩
  rcases h.2 with hn | ⟨g, cap, cur, hv, hg, hh, rest⟩
  · exact .inl hn
  · exact .inr ⟨g, cap, cur, hv, hg, grBlk hb hh, rest⟩
theorem iC_len (l : List Int) : (iC l).length = l.length := by simp [iC]
theorem iC_app (l : List Int) (x : Int) : iC (l ++ [x]) = iC l ++ [.int .i64 x] := by simp [iC]
theorem own_ints {w : World} {B : Nat} {v : Value} {l : List Int} {n : Nat} (h : w.ownsRow B 3 1 v n (iC l)) (hn : n = l.length) : ∃ A c, v = .slice A l.length c ∧ IntsR w l A := by
  subst hn
  rcases h.2 with ⟨rfl, h0⟩ | ⟨g, cap, cur, rfl, hb, hg, hn, hc, hs, ht⟩
  · obtain rfl : l = [] := List.eq_nil_of_length_eq_zero h0
    exact ⟨none, 0, rfl, .inl rfl⟩
  · refine ⟨_, cap, rfl, .inr ⟨g, 0, rfl, fun i x hx => ?_⟩⟩
    rw [Nat.zero_add, cell_of_row w g i cur _ (0, 0) hg]
    have h1 : (cur.toList.take (l.length * 1))[i]? = some (.int .i64 x) := by rw [ht]; simp [iC, hx]
    rw [List.getElem?_take] at h1
    split at h1
    · simpa using h1
    · cases h1
/-- a store into a block below leaves what is owned -/
theorem owns_set {w : World} {B BM i : Nat} {T : TypeId} {v u : Value} {n : Nat} {xs : List Value} (h : w.ownsRow B T 1 v n xs) (hB : BM < B) : (w.setCell ⟨BM, i, none⟩ u).ownsRow B T 1 v n xs := by
  refine World.ownsRow.kept h (gbSet (gbRefl w (some BM))) ?_
  cases e : v.ownBlock with
  | none => exact .inl rfl
  | some k =>
    have := (World.ownsRow.lt h k e).1
    exact .inr (fun hc => by have := Option.some.inj hc; omega)
/-- a network in block BM whose caps and limits are appended to; vf are its flows -/
structure NB (W1 : World) (BM : Nat) (vf v0 v2 : Value) (cs ls : List Int) (w : World) : Prop where
  gr : Gr W1 w
  hB : W1.heap.size ≤ BM
  blk : w.heap[BM]? = some (.cells #[v0, vf, v2] 25 (0, 0))
  o0 : w.ownsRow (BM + 1) 3 1 v0 cs.length (iC cs)
  o2 : w.ownsRow (BM + 1) 3 1 v2 ls.length (iC ls)
  ne : ∀ k, v0.ownBlock = some k → v2.ownBlock ≠ some k
theorem NB.up {W1 w w' : World} {BM : Nat} {vf v0 v2 : Value} {cs ls : List Int} (h : NB W1 BM vf v0 v2 cs ls w) (hg : Gr w w') : NB W1 BM vf v0 v2 cs ls w' :=
  ⟨h.gr.tr hg, h.hB, grBlk hg h.blk, owns_gr h.o0 hg, owns_gr h.o2 hg, h.ne⟩
theorem NB.step0 {W1 wa w2 : World} {BM g cap : Nat} {vf v0 v2 : Value} {cs ls : List Int} {x : Int} (h : NB W1 BM vf v0 v2 cs ls wa) (hgrow : wa.grownBy w2 v0.ownBlock)
    (hown : w2.ownsRow (BM + 1) 3 1 (.slice (some ⟨g, 0, none⟩) (cs.length + 1) cap) (cs.length + 1) (iC cs ++ [.int .i64 x])) (hat : v0.ownBlock = some g ∨ g = wa.heap.size) :
    NB W1 BM vf (.slice (some ⟨g, 0, none⟩) (cs.length + 1) cap) v2 (cs ++ [x]) ls (w2.setCell ⟨BM, 0, none⟩ (.slice (some ⟨g, 0, none⟩) (cs.length + 1) cap)) := by
  have hlt := blkLt h.blk
  have hr : ∀ k, v0.ownBlock = some k → BM + 1 ≤ k ∧ k < wa.heap.size := fun k hk => World.ownsRow.lt h.o0 k hk
  have hB2 : w2.heap[BM]? = some (.cells #[v0, vf, v2] 25 (0, 0)) := (hgrow.block BM hlt (fun e => by have := hr _ e.symm; omega)).trans h.blk
  have h2 : w2.ownsRow (BM + 1) 3 1 v2 ls.length (iC ls) := World.ownsRow.kept h.o2 hgrow (by
    cases e : v2.ownBlock with
    | none => exact .inl rfl
    | some k => exact .inr (fun hc => h.ne k hc.symm e))
  refine ⟨?_, h.hB, ?_, ?_, owns_set h2 (by omega), ?_⟩
  · exact Below.setCell (p := ⟨BM, 0, none⟩) (h.gr.trans (gbBelow hgrow (Nat.le_trans h.hB (by omega)) (fun k hk => by have := hr k hk; have := h.hB; omega))) h.hB _
  · rw [heap_setCell_same w2 BM 0 _ _ _ hB2]; simp
  · rw [List.length_append, List.length_singleton, iC_app]
    exact owns_set hown (by omega)
  · intro k hk e
    have hgk : g = k := by simpa [Value.ownBlock] using hk
    subst hgk
    rcases hat with hc | hc
    · exact h.ne g hc e
    · have := (World.ownsRow.lt h.o2 g e).2; omega
theorem NB.step2 {W1 wa w2 : World} {BM g cap : Nat} {vf v0 v2 : Value} {cs ls : List Int} {x : Int} (h : NB W1 BM vf v0 v2 cs ls wa) (hgrow : wa.grownBy w2 v2.ownBlock)
    (hown : w2.ownsRow (BM + 1) 3 1 (.slice (some ⟨g, 0, none⟩) (ls.length + 1) cap) (ls.length + 1) (iC ls ++ [.int .i64 x])) (hat : v2.ownBlock = some g ∨ g = wa.heap.size) :
    NB W1 BM vf v0 (.slice (some ⟨g, 0, none⟩) (ls.length + 1) cap) cs (ls ++ [x]) (w2.setCell ⟨BM, 2, none⟩ (.slice (some ⟨g, 0, none⟩) (ls.length + 1) cap)) := by
  have hlt := blkLt h.blk
  have hr : ∀ k, v2.ownBlock = some k → BM + 1 ≤ k ∧ k < wa.heap.size := fun k hk => World.ownsRow.lt h.o2 k hk
  have hB2 : w2.heap[BM]? = some (.cells #[v0, vf, v2] 25 (0, 0)) := (hgrow.block BM hlt (fun e => by have := hr _ e.symm; omega)).trans h.blk
  have h2 : w2.ownsRow (BM + 1) 3 1 v0 cs.length (iC cs) := World.ownsRow.kept h.o0 hgrow (by
    cases e : v0.ownBlock with
    | none => exact .inl rfl
    | some k => exact .inr (fun hc => h.ne k e hc.symm))
  refine ⟨?_, h.hB, ?_, owns_set h2 (by omega), ?_, ?_⟩
  · exact Below.setCell (p := ⟨BM, 2, none⟩) (h.gr.trans (gbBelow hgrow (Nat.le_trans h.hB (by omega)) (fun k hk => by have := hr k hk; have := h.hB; omega))) h.hB _
  · rw [heap_setCell_same w2 BM 2 _ _ _ hB2]; simp
  · rw [List.length_append, List.length_singleton, iC_app]
    exact owns_set hown (by omega)
  · intro k hk e
    have hgk : g = k := by simpa [Value.ownBlock] using e
    subst hgk
    rcases hat with hc | hc
    · exact h.ne g hk hc
    · have := (World.ownsRow.lt h.o0 g hk).2; omega
theorem frz {w : World} {b : Nat} {cs : Array Value} {T : TypeId} (h : w.heap[b]? = some (.cells cs T (0, 0))) (i : Nat) : w.frozen? ⟨b, i, none⟩ = false := by simp [World.frozen?, h]
theorem newOne (W : World) (x : Value) (T : TypeId) (b : Nat) (hb : b = W.heap.size) : ∀ j u, [x][j]? = some u → (W.alloc (.cells #[x] T)).cell? ((⟨b, 0, none⟩ : Addr).add j) = some u := by
  intro j u hu
  subst hb
  have hadd : (⟨W.heap.size, 0, none⟩ : Addr).add j = ⟨W.heap.size, j, none⟩ := by unfold Addr.add; split <;> simp_all
  rw [hadd, cell_of_row _ _ j #[x] T (0, 0) (heap_alloc_new W _)]
  simpa using hu
theorem newOneD (W : World) (x : Value) (T : TypeId) (b : Nat) (hb : b = W.heap.size) : ∀ j u, [x][j]? = some u → (W.alloc (.cells #[x] T)).drew.cell? ((⟨b, 0, none⟩ : Addr).add j) = some u := newOne W x T b hb
theorem one_int (x : Int) : ∀ u ∈ [Value.int .i64 x], u.oneCell' = true := by
  intro u hu
  simp only [List.mem_cons, List.not_mem_nil, or_false] at hu
  subst hu; rfl
end Go.Proofs.Ytbjhdfakocfapaa
