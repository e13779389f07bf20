/- Law package 13: a network that is built in memory by appends, with its rows: blocks that it owns, one after the other. -/
import Derived.Test.YtbjhdfakocfapaaMuG
namespace Go.Proofs.Ytbjhdfakocfapaa
open Go.RowKit
set_option linter.unusedVariables false
set_option linter.unusedSimpArgs false
abbrev Own : Type := Value × TypeId × List Value
/-- owned slices of one-cell elements, no two in one block -/
def OwnL (w : World) (B : Nat) (L : List Own) : Prop := (∀ x ∈ L, w.ownsRow B x.2.1 1 x.1 x.2.2.length x.2.2) ∧ L.Pairwise (fun x y => ∀ k, x.1.ownBlock = some k → y.1.ownBlock ≠ some k)
theorem OwnL.perm {w : World} {B : Nat} {L M : List Own} (h : OwnL w B L) (p : L.Perm M) : OwnL w B M :=
  ⟨fun x hx => h.1 x (p.mem_iff.2 hx), (p.pairwise_iff (fun {x y} hxy k hk e => hxy k e hk)).1 h.2⟩
theorem OwnL.up {w w' : World} {B : Nat} {L : List Own} (h : OwnL w B L) (hg : Gr w w') : OwnL w' B L := ⟨fun x hx => owns_gr (h.1 x hx) hg, h.2⟩
theorem OwnL.set {w : World} {B BM i : Nat} {u : Value} {L : List Own} (h : OwnL w B L) (hB : BM < B) : OwnL (w.setCell ⟨BM, i, none⟩ u) B L := ⟨fun x hx => owns_set (h.1 x hx) hB, h.2⟩
theorem OwnL.head {w : World} {B : Nat} {v : Value} {T : TypeId} {xs : List Value} {L : List Own} (h : OwnL w B ((v, T, xs) :: L)) : w.ownsRow B T 1 v xs.length xs := h.1 _ (List.mem_cons_self ..)
theorem OwnL.nil {w : World} {B : Nat} {L : List Own} (T : TypeId) (h : OwnL w B L) : OwnL w B ((.slice none 0 0, T, []) :: L) := by
  refine ⟨fun x hx => ?_, List.Pairwise.cons (fun y _ k hk => by simp [Value.ownBlock] at hk) h.2⟩
  rcases List.mem_cons.1 hx with rfl | hx
  · exact ⟨rfl, .inl ⟨rfl, rfl⟩⟩
  · exact h.1 x hx
theorem OwnL.step {w w2 : World} {B g cap : Nat} {v u : Value} {T : TypeId} {xs : List Value} {L : List Own} (h : OwnL w B ((v, T, xs) :: L)) (hgrow : w.grownBy w2 v.ownBlock)
    (hown : w2.ownsRow B T 1 (.slice (some ⟨g, 0, none⟩) (xs.length + 1) cap) (xs.length + 1) (xs ++ [u])) (hat : v.ownBlock = some g ∨ g = w.heap.size) :
    OwnL w2 B ((.slice (some ⟨g, 0, none⟩) (xs.length + 1) cap, T, xs ++ [u]) :: L) := by
  have hp := List.pairwise_cons.1 h.2
  refine ⟨fun x hx => ?_, List.Pairwise.cons (fun y hy k hk e => ?_) hp.2⟩
  · rcases List.mem_cons.1 hx with rfl | hx
    · show w2.ownsRow B T 1 _ (xs ++ [u]).length _
      rw [List.length_append, List.length_singleton]
      exact hown
    · refine World.ownsRow.kept (h.1 x (List.mem_cons_of_mem _ hx)) hgrow ?_
      cases e : x.1.ownBlock with
      | none => exact .inl rfl
      | some k => exact .inr (fun hc => hp.1 x hx k hc.symm e)
  · have hgk : g = k := by simpa [Value.ownBlock] using hk
    subst hgk
    rcases hat with hc | hc
    · exact hp.1 y hy g hc e
    · have := (World.ownsRow.lt (h.1 y (List.mem_cons_of_mem _ hy)) g e).2; omega
theorem grow_base {W1 w w2 : World} {BM : Nat} {o : Obj} {v : Value} {T : TypeId} {n : Nat} {xs : List Value} (hgr : Gr W1 w) (hB : W1.heap.size ≤ BM) (hblk : w.heap[BM]? = some o) (hv : w.ownsRow (BM + 1) T 1 v n xs)
    (hgrow : w.grownBy w2 v.ownBlock) : Gr W1 w2 ∧ w2.heap[BM]? = some o := by
  have hr : ∀ k, v.ownBlock = some k → BM + 1 ≤ k ∧ k < w.heap.size := fun k hk => World.ownsRow.lt hv k hk
  have hlt := blkLt hblk
  exact ⟨hgr.trans (gbBelow hgrow hgr.size (fun k hk => by have := hr k hk; omega)), (hgrow.block BM hlt (fun e => by have := hr _ e.symm; omega)).trans hblk⟩
abbrev tI : TypeId := 3
abbrev tS : TypeId := 22
def rowO (r : Value × List Int) : Own := (r.1, tI, iC r.2)
/-- the network under way in block BM; ex: the row under way -/
structure NO (W1 : World) (BM : Nat) (v0 v1 v2 : Value) (cs : List Int) (rows : List (Value × List Int)) (ls : List Int) (ex : List Own) (w : World) : Prop where
  gr : Gr W1 w
  hB : W1.heap.size ≤ BM
  blk : w.heap[BM]? = some (.cells #[v0, v1, v2] 25 (0, 0))
  own : OwnL w (BM + 1) ((v0, tI, iC cs) :: (v1, tS, rows.map (·.1)) :: (v2, tI, iC ls) :: (ex ++ rows.map rowO))
theorem NO.up {W1 w w' : World} {BM : Nat} {v0 v1 v2 : Value} {cs ls : List Int} {rows : List (Value × List Int)} {ex : List Own} (h : NO W1 BM v0 v1 v2 cs rows ls ex w) (hg : Gr w w') : NO W1 BM v0 v1 v2 cs rows ls ex w' :=
  ⟨h.gr.tr hg, h.hB, grBlk hg h.blk, h.own.up hg⟩
section
variable {W1 wa w2 : World} {BM g cap : Nat} {v0 v1 v2 vl : Value} {cs ls l : List Int} {rows : List (Value × List Int)} {ex : List Own} {x : Int}
theorem NO.o0 (h : NO W1 BM v0 v1 v2 cs rows ls ex wa) : wa.ownsRow (BM + 1) tI 1 v0 cs.length (iC cs) := by
  have := h.own.head
  rwa [iC_len] at this
theorem NO.o1 (h : NO W1 BM v0 v1 v2 cs rows ls ex wa) : wa.ownsRow (BM + 1) tS 1 v1 rows.length (rows.map (·.1)) := by
  have := (h.own.perm (List.Perm.swap _ _ _)).head
  rwa [List.length_map] at this
theorem perm2 {α : Type} (a b c : α) (L : List α) : (a :: b :: c :: L).Perm (c :: a :: b :: L) := ((List.Perm.swap c b L).cons a).trans (List.Perm.swap c a _)
theorem perm3 {α : Type} (a b c d : α) (L : List α) : (a :: b :: c :: d :: L).Perm (d :: a :: b :: c :: L) := ((perm2 b c d L).cons a).trans (List.Perm.swap d a _)
theorem NO.o2 (h : NO W1 BM v0 v1 v2 cs rows ls ex wa) : wa.ownsRow (BM + 1) tI 1 v2 ls.length (iC ls) := by
  have := (h.own.perm (perm2 _ _ _ _)).head
  rwa [iC_len] at this
theorem NO.ol (h : NO W1 BM v0 v1 v2 cs rows ls [(vl, tI, iC l)] wa) : wa.ownsRow (BM + 1) tI 1 vl l.length (iC l) := by
  have := (h.own.perm (perm3 _ _ _ _ _)).head
  rwa [iC_len] at this
theorem blk_set {w : World} {BM : Nat} {a0 a1 a2 u : Value} {T : TypeId} (h : w.heap[BM]? = some (.cells #[a0, a1, a2] T (0, 0))) :
    (w.setCell ⟨BM, 0, none⟩ u).heap[BM]? = some (.cells #[u, a1, a2] T (0, 0)) ∧ (w.setCell ⟨BM, 1, none⟩ u).heap[BM]? = some (.cells #[a0, u, a2] T (0, 0)) ∧ (w.setCell ⟨BM, 2, none⟩ u).heap[BM]? = some (.cells #[a0, a1, u] T (0, 0)) := by
  refine ⟨?_, ?_, ?_⟩
  · rw [heap_setCell_same w BM 0 _ _ _ h]; simp
  · rw [heap_setCell_same w BM 1 _ _ _ h]; simp
  · rw [heap_setCell_same w BM 2 _ _ _ h]; simp
theorem NO.stepC (h : NO W1 BM v0 v1 v2 cs rows ls ex wa) (hgrow : wa.grownBy w2 v0.ownBlock) (hown : w2.ownsRow (BM + 1) tI 1 (.slice (some ⟨g, 0, none⟩) (cs.length + 1) cap) (cs.length + 1) (iC cs ++ [.int .i64 x]))
    (hat : v0.ownBlock = some g ∨ g = wa.heap.size) : NO W1 BM (.slice (some ⟨g, 0, none⟩) (cs.length + 1) cap) v1 v2 (cs ++ [x]) rows ls ex (w2.setCell ⟨BM, 0, none⟩ (.slice (some ⟨g, 0, none⟩) (cs.length + 1) cap)) := by
  obtain ⟨g1, g2⟩ := grow_base h.gr h.hB h.blk h.o0 hgrow
  have h3 := OwnL.step (g := g) (cap := cap) (u := .int .i64 x) h.own hgrow (by rw [iC_len]; exact hown) hat
  rw [iC_len] at h3
  refine ⟨Below.setCell (p := ⟨BM, 0, none⟩) g1 h.hB _, h.hB, (blk_set g2).1, ?_⟩
  rw [iC_app]
  exact h3.set (by omega)
theorem NO.stepL (h : NO W1 BM v0 v1 v2 cs rows ls ex wa) (hgrow : wa.grownBy w2 v2.ownBlock) (hown : w2.ownsRow (BM + 1) tI 1 (.slice (some ⟨g, 0, none⟩) (ls.length + 1) cap) (ls.length + 1) (iC ls ++ [.int .i64 x]))
    (hat : v2.ownBlock = some g ∨ g = wa.heap.size) : NO W1 BM v0 v1 (.slice (some ⟨g, 0, none⟩) (ls.length + 1) cap) cs rows (ls ++ [x]) ex (w2.setCell ⟨BM, 2, none⟩ (.slice (some ⟨g, 0, none⟩) (ls.length + 1) cap)) := by
  obtain ⟨g1, g2⟩ := grow_base h.gr h.hB h.blk h.o2 hgrow
  have h3 := OwnL.step (g := g) (cap := cap) (u := .int .i64 x) (h.own.perm (perm2 _ _ _ _)) hgrow (by rw [iC_len]; exact hown) hat
  rw [iC_len] at h3
  refine ⟨Below.setCell (p := ⟨BM, 2, none⟩) g1 h.hB _, h.hB, (blk_set g2).2.2, ?_⟩
  rw [iC_app]
  exact (h3.perm (perm2 _ _ _ _).symm).set (by omega)
theorem NO.stepX (h : NO W1 BM v0 v1 v2 cs rows ls [(vl, tI, iC l)] wa) (hgrow : wa.grownBy w2 vl.ownBlock) (hown : w2.ownsRow (BM + 1) tI 1 (.slice (some ⟨g, 0, none⟩) (l.length + 1) cap) (l.length + 1) (iC l ++ [.int .i64 x]))
    (hat : vl.ownBlock = some g ∨ g = wa.heap.size) : NO W1 BM v0 v1 v2 cs rows ls [(.slice (some ⟨g, 0, none⟩) (l.length + 1) cap, tI, iC (l ++ [x]))] w2 := by
  obtain ⟨g1, g2⟩ := grow_base h.gr h.hB h.blk h.ol hgrow
  have h3 := OwnL.step (g := g) (cap := cap) (u := .int .i64 x) (h.own.perm (perm3 _ _ _ _ _)) hgrow (by rw [iC_len]; exact hown) hat
  rw [iC_len] at h3
  refine ⟨g1, h.hB, g2, ?_⟩
  rw [iC_app]
  exact h3.perm (perm3 _ _ _ _ _).symm
theorem NO.stepR (h : NO W1 BM v0 v1 v2 cs rows ls [(vl, tI, iC l)] wa) (hgrow : wa.grownBy w2 v1.ownBlock) (hown : w2.ownsRow (BM + 1) tS 1 (.slice (some ⟨g, 0, none⟩) (rows.length + 1) cap) (rows.length + 1) (rows.map (·.1) ++ [vl]))
    (hat : v1.ownBlock = some g ∨ g = wa.heap.size) : NO W1 BM v0 (.slice (some ⟨g, 0, none⟩) (rows.length + 1) cap) v2 cs (rows ++ [(vl, l)]) ls [] (w2.setCell ⟨BM, 1, none⟩ (.slice (some ⟨g, 0, none⟩) (rows.length + 1) cap)) := by
  obtain ⟨g1, g2⟩ := grow_base h.gr h.hB h.blk h.o1 hgrow
  have h3 := OwnL.step (g := g) (cap := cap) (u := vl) (h.own.perm (List.Perm.swap _ _ _)) hgrow (by rw [List.length_map]; exact hown) hat
  rw [List.length_map] at h3
  refine ⟨Below.setCell (p := ⟨BM, 1, none⟩) g1 h.hB _, h.hB, (blk_set g2).2.1, ?_⟩
  have e : (rows ++ [(vl, l)]).map (·.1) = rows.map (·.1) ++ [vl] := by simp
  have e2 : ([] : List Own) ++ (rows ++ [(vl, l)]).map rowO = rows.map rowO ++ [(vl, tI, iC l)] := by simp [rowO]
  rw [e, e2]
  refine OwnL.set (h3.perm ((List.Perm.swap _ _ _).trans (List.Perm.cons _ (List.Perm.cons _ (List.Perm.cons _ ?_))))) (by omega)
  exact (List.perm_append_comm (l₁ := [(vl, tI, iC l)]) (l₂ := rows.map rowO))
theorem NO.begin (h : NO W1 BM v0 v1 v2 cs rows ls [] wa) : NO W1 BM v0 v1 v2 cs rows ls [(.slice none 0 0, tI, iC [])] wa :=
  ⟨h.gr, h.hB, h.blk, (OwnL.nil tI h.own).perm (perm3 _ _ _ _ _).symm⟩
/-- the rows, when they are done -/
theorem NO.rowsR (h : NO W1 BM v0 v1 v2 cs rows ls [] wa) : ∃ A c, v1 = .slice A rows.length c ∧ RowsR wa (rows.map (·.2)) A := by
  have hr : ∀ r ∈ rows, ∃ A c, r.1 = .slice A r.2.length c ∧ IntsR wa r.2 A := fun r hr => by
    have h1 := h.own.1 (rowO r) (by
      refine List.mem_cons_of_mem _ (List.mem_cons_of_mem _ (List.mem_cons_of_mem _ ?_))
      rw [List.nil_append]
      exact List.mem_map_of_mem hr)
    have h2 : wa.ownsRow (BM + 1) tI 1 r.1 (iC r.2).length (iC r.2) := h1
    exact own_ints h2 (by rw [iC_len])
  have h0 := h.o1
  rcases h0.2 with ⟨rfl, hz⟩ | ⟨g, cap, cur, rfl, hb, hg, hn, hc, hs, ht⟩
  · obtain rfl : rows = [] := List.eq_nil_of_length_eq_zero hz
    exact ⟨none, 0, rfl, .inl rfl⟩
  · refine ⟨_, cap, rfl, .inr ⟨g, 0, rfl, fun i r hi => ?_⟩⟩
    rw [List.getElem?_map] at hi
    cases e : rows[i]? with
    | none => rw [e] at hi; cases hi
    | some q =>
      rw [e] at hi
      obtain rfl : q.2 = r := by simpa using hi
      obtain ⟨A, c, e1, e2⟩ := hr q (List.mem_of_getElem? e)
      refine ⟨A, c, ?_, e2⟩
      rw [Nat.zero_add, cell_of_row wa g i cur _ (0, 0) hg, ← e1]
      have h1 : (cur.toList.take (rows.length * 1))[i]? = some q.1 := by rw [ht, List.getElem?_map, e]; rfl
      rw [List.getElem?_take] at h1
      split at h1
      · simpa using h1
      · cases h1
end
theorem slInfo : (Try.prog.info? 22).map (fun i => (i.zero, i.size, i.bytes)) = some (some (.slice none 0 0), 1, 24) := by kernel_rfl
theorem one_slice {v : Value} {A : Option Addr} {n c : Nat} (h : v = .slice A n c) : ∀ u ∈ [v], u.oneCell' = true := by
  intro u hu
  simp only [List.mem_cons, List.not_mem_nil, or_false] at hu
  subst hu; subst h; rfl
end Go.Proofs.Ytbjhdfakocfapaa
