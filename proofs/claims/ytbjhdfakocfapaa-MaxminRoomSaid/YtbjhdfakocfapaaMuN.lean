/- Law package 13: a network with new caps, in memory. -/
import Derived.Test.YtbjhdfakocfapaaMuG
import Derived.Test.YtbjhdfakocfapaaMsN
namespace Go.Proofs.Ytbjhdfakocfapaa
open Go.RowKit
set_option linter.unusedVariables false
set_option linter.unusedSimpArgs false
/-- the network in block BM, its caps in block g, both new since wq -/
structure WB (wq : World) (BM g cap : Nat) (cs : List Int) (vf vl : Value) (w : World) : Prop where
  gr : Gr wq w
  hB : wq.heap.size ≤ BM
  hg : wq.heap.size ≤ g
  ne : BM ≠ g
  blk : w.heap[BM]? = some (.cells #[.slice (some ⟨g, 0, none⟩) cs.length cap, vf, vl] 25 (0, 0))
  row : ∃ cur, w.heap[g]? = some (.cells cur 3 (0, 0)) ∧ cur.toList.take cs.length = iC cs
theorem ints_take {w : World} {g : Nat} {cur : Array Value} {l : List Int} {T : TypeId} (hg : w.heap[g]? = some (.cells cur T (0, 0))) (ht : cur.toList.take l.length = iC l) : IntsR w l (some ⟨g, 0, none⟩) := by
  refine .inr ⟨g, 0, rfl, fun i x hx => ?_⟩
  rw [Nat.zero_add, cell_of_row w g i cur _ (0, 0) hg]
  have h1 : (cur.toList.take l.length)[i]? = some (.int .i64 x) := by rw [ht]; simp [iC, hx]
  rw [List.getElem?_take] at h1
  split at h1
  · simpa using h1
  · cases h1
theorem WB.ints {wq w : World} {BM g cap : Nat} {cs : List Int} {vf vl : Value} (h : WB wq BM g cap cs vf vl w) : IntsR w cs (some ⟨g, 0, none⟩) := by
  obtain ⟨cur, h1, h2⟩ := h.row
  exact ints_take h1 h2
theorem WB.frz {wq w : World} {BM g cap : Nat} {cs : List Int} {vf vl : Value} (h : WB wq BM g cap cs vf vl w) (i : Nat) : w.frozen? ⟨g, i, none⟩ = false := by
  obtain ⟨cur, h1, -⟩ := h.row
  exact Go.Proofs.Ytbjhdfakocfapaa.frz h1 i
theorem cell_lt {w : World} {a : Addr} {v : Value} (h : w.cell? a = some v) : a.block < w.heap.size := by
  refine Classical.byContradiction fun hc => ?_
  have : w.heap[a.block]? = none := Array.getElem?_eq_none (by omega)
  simp [World.cell?, this] at h
/-- behind the store of a cap -/
theorem WB.put {wq w : World} {BM g cap : Nat} {cs : List Int} {vf vl : Value} (h : WB wq BM g cap cs vf vl w) (i : Nat) (v : Int) :
    Gr wq (w.setCell ⟨g, i, none⟩ (.int .i64 v)) ∧ (w.setCell ⟨g, i, none⟩ (.int .i64 v)).heap[BM]? = some (.cells #[.slice (some ⟨g, 0, none⟩) cs.length cap, vf, vl] 25 (0, 0)) ∧ IntsR (w.setCell ⟨g, i, none⟩ (.int .i64 v)) (cs.set i v) (some ⟨g, 0, none⟩) := by
  obtain ⟨cur, h1, h2⟩ := h.row
  refine ⟨Below.setCell (p := ⟨g, i, none⟩) h.gr h.hg _, (Below.heap_setCell _ _ _ _ h.ne).trans h.blk, ?_⟩
  have h3 := heap_setCell_same w g i _ _ (.int .i64 v) h1
  refine ints_take h3 ?_
  rw [List.length_set, iC_set, ← h2]
  simp [List.take_set]
theorem one_ints (l : List Int) : ∀ u ∈ iC l, u.oneCell' = true := by
  intro u hu
  unfold iC at hu
  obtain ⟨x, -, rfl⟩ := List.mem_map.1 hu
  rfl
theorem mkI0 (k : Nat) (hk : k ≤ 1000) (w : World) : (Instr.makeSlice 22 (.int .i64 0) (.int .i64 k)).run Try.prog w = .ok (.slice (some ⟨w.heap.size, 0, none⟩) 0 k) (w.alloc (.cells (iC (List.replicate k 0)).toArray 3 (0, 0))) := by
  obtain ⟨ix, hi, hz0, hz1, hz2⟩ := info_parts intInfo
  have := run_make w 22 3 ix (.int .i64 0) Try.underlying22 hi hz0 .i64 .i64 0 k (by omega) (by omega) (by rw [hz2]; omega) (by omega)
  rw [iC_rep, ← made1]
  simpa [hz1, Value.cells] using this
/-- what makeSlice made is owned, and empty -/
theorem own_made {w : World} {B G k : Nat} (hB : B ≤ G) (hk : k ≤ 1000) (h : w.heap[G]? = some (.cells (iC (List.replicate k 0)).toArray 3 (0, 0))) : w.ownsRow B 3 1 (.slice (some ⟨G, 0, none⟩) 0 k) 0 [] :=
  ⟨rfl, .inr ⟨G, k, _, rfl, hB, h, Nat.zero_le _, by unfold maxLen; omega, by simp [iC], by simp⟩⟩
theorem news_ints {w : World} {l : List Int} {g o : Nat} (h : IntsR w l (some ⟨g, o, none⟩)) : ∀ j u, (iC l)[j]? = some u → w.cell? ((⟨g, o, none⟩ : Addr).add j) = some u := by
  intro j u hu
  have hadd : (⟨g, o, none⟩ : Addr).add j = ⟨g, o + j, none⟩ := by unfold Addr.add; split <;> simp_all
  rw [hadd]
  unfold iC at hu
  rw [List.getElem?_map] at hu
  cases e : l[j]? with
  | none => rw [e] at hu; cases hu
  | some x =>
    rw [e] at hu
    obtain rfl : Value.int .i64 x = u := by simpa using hu
    rcases h with h | ⟨g', o', e', hc⟩
    · rw [h] at e; simp at e
    · simp only [Option.some.injEq, Addr.mk.injEq, and_true] at e'
      obtain ⟨rfl, rfl⟩ := e'
      exact hc j x e
section
variable {wq wa w2 : World} {G g cap BM : Nat} {cs : List Int} {vf vl z0 z1 z2 : Value}
theorem row_of (hown : w2.ownsRow wq.heap.size 3 1 (.slice (some ⟨g, 0, none⟩) (0 + cs.length) cap) (0 + cs.length) ([] ++ iC cs)) : wq.heap.size ≤ g ∧ ∃ cur, w2.heap[g]? = some (.cells cur 3 (0, 0)) ∧ cur.toList.take cs.length = iC cs := by
  rcases hown.2 with ⟨h, -⟩ | ⟨g', cap', cur, hv, hb, hg, hn, hc, hs, ht⟩
  · cases h
  · simp only [Value.slice.injEq, Option.some.injEq, Addr.mk.injEq, and_true] at hv
    obtain ⟨rfl, -⟩ := hv
    refine ⟨hb, cur, hg, ?_⟩
    rw [Nat.zero_add, Nat.mul_one, List.nil_append] at ht
    exact ht
theorem WB.ofAlloc (hg : Gr wq wa) (hG : wq.heap.size ≤ G) (hgrow : wa.grownBy w2 (some G)) (hown : w2.ownsRow wq.heap.size 3 1 (.slice (some ⟨g, 0, none⟩) (0 + cs.length) cap) (0 + cs.length) ([] ++ iC cs)) :
    WB wq w2.heap.size g cap cs vf vl (w2.alloc (.cells #[.slice (some ⟨g, 0, none⟩) cs.length cap, vf, vl] 25 (0, 0))) := by
  obtain ⟨hb, cur, h1, h2⟩ := row_of hown
  have h3 : Gr wq w2 := hg.trans (gbBelow hgrow hg.size (fun k hk => by have := Option.some.inj hk; omega))
  have hl := blkLt h1
  exact ⟨Gr.tr h3 (grAlloc _ _), h3.size, hb, by omega, newBlk _ _ _ rfl, cur, mvAlloc h1, h2⟩
theorem WB.ofSet (hg : Gr wq wa) (hG : wq.heap.size ≤ G) (hgrow : wa.grownBy w2 (some G)) (hown : w2.ownsRow wq.heap.size 3 1 (.slice (some ⟨g, 0, none⟩) (0 + cs.length) cap) (0 + cs.length) ([] ++ iC cs))
    (hBM : wq.heap.size ≤ BM) (hne : BM ≠ g) (hblk : w2.heap[BM]? = some (.cells #[z0, z1, z2] 25 (0, 0))) :
    WB wq BM g cap cs vf vl (((w2.setCell ⟨BM, 0, none⟩ (.slice (some ⟨g, 0, none⟩) cs.length cap)).setCell ⟨BM, 1, none⟩ vf).setCell ⟨BM, 2, none⟩ vl) := by
  obtain ⟨hb, cur, h1, h2⟩ := row_of hown
  have h3 : Gr wq w2 := hg.trans (gbBelow hgrow hg.size (fun k hk => by have := Option.some.inj hk; omega))
  have g0 : (w2.setCell ⟨BM, 0, none⟩ (.slice (some ⟨g, 0, none⟩) cs.length cap)).heap[BM]? = some (.cells #[.slice (some ⟨g, 0, none⟩) cs.length cap, z1, z2] 25 (0, 0)) := by rw [heap_setCell_same w2 BM 0 _ _ _ hblk]; simp
  have g1 : ((w2.setCell ⟨BM, 0, none⟩ (.slice (some ⟨g, 0, none⟩) cs.length cap)).setCell ⟨BM, 1, none⟩ vf).heap[BM]? = some (.cells #[.slice (some ⟨g, 0, none⟩) cs.length cap, vf, z2] 25 (0, 0)) := by rw [heap_setCell_same _ BM 1 _ _ _ g0]; simp
  have hne2 : g ≠ BM := fun e => hne e.symm
  refine ⟨Below.setCell (p := ⟨BM, 2, none⟩) (Below.setCell (p := ⟨BM, 1, none⟩) (Below.setCell (p := ⟨BM, 0, none⟩) h3 hBM _) hBM _) hBM _, hBM, hb, hne, ?_, cur, ?_, h2⟩
  · rw [heap_setCell_same _ BM 2 _ _ _ g1]; simp
  · exact (Below.heap_setCell _ _ _ _ hne2).trans ((Below.heap_setCell _ _ _ _ hne2).trans ((Below.heap_setCell _ _ _ _ hne2).trans h1))
theorem WB.set2 (h3 : Gr wq w2) (hown : w2.ownsRow wq.heap.size 3 1 (.slice (some ⟨g, 0, none⟩) (0 + cs.length) cap) (0 + cs.length) ([] ++ iC cs))
    (hBM : wq.heap.size ≤ BM) (hne : BM ≠ g) (hblk : w2.heap[BM]? = some (.cells #[z0, z1, z2] 25 (0, 0))) :
    WB wq BM g cap cs vf vl (((w2.setCell ⟨BM, 0, none⟩ (.slice (some ⟨g, 0, none⟩) cs.length cap)).setCell ⟨BM, 1, none⟩ vf).setCell ⟨BM, 2, none⟩ vl) := by
  obtain ⟨hb, cur, h1, h2⟩ := row_of hown
  have g0 : (w2.setCell ⟨BM, 0, none⟩ (.slice (some ⟨g, 0, none⟩) cs.length cap)).heap[BM]? = some (.cells #[.slice (some ⟨g, 0, none⟩) cs.length cap, z1, z2] 25 (0, 0)) := by rw [heap_setCell_same w2 BM 0 _ _ _ hblk]; simp
  have g1 : ((w2.setCell ⟨BM, 0, none⟩ (.slice (some ⟨g, 0, none⟩) cs.length cap)).setCell ⟨BM, 1, none⟩ vf).heap[BM]? = some (.cells #[.slice (some ⟨g, 0, none⟩) cs.length cap, vf, z2] 25 (0, 0)) := by rw [heap_setCell_same _ BM 1 _ _ _ g0]; simp
  have hne2 : g ≠ BM := fun e => hne e.symm
  refine ⟨Below.setCell (p := ⟨BM, 2, none⟩) (Below.setCell (p := ⟨BM, 1, none⟩) (Below.setCell (p := ⟨BM, 0, none⟩) h3 hBM _) hBM _) hBM _, hBM, hb, hne, ?_, cur, ?_, h2⟩
  · rw [heap_setCell_same _ BM 2 _ _ _ g1]; simp
  · exact (Below.heap_setCell _ _ _ _ hne2).trans ((Below.heap_setCell _ _ _ _ hne2).trans ((Below.heap_setCell _ _ _ _ hne2).trans h1))
theorem WB.up {w w' : World} (h : WB wq BM g cap cs vf vl w) (hg : Gr w w') : WB wq BM g cap cs vf vl w' := by
  obtain ⟨cur, h1, h2⟩ := h.row
  exact ⟨h.gr.tr hg, h.hB, h.hg, h.ne, grBlk hg h.blk, cur, grBlk hg h1, h2⟩
end
end Go.Proofs.Ytbjhdfakocfapaa
