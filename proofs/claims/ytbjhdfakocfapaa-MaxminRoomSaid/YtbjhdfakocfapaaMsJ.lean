/- Package maxmin: fill. -/
import Derived.Test.YtbjhdfakocfapaaMsI
namespace Go.Proofs.Ytbjhdfakocfapaa
open Go.RowKit
set_option linter.unusedVariables false
set_option linter.unusedSimpArgs false
attribute [local go_sem] Oper.semAt_some
theorem enc_eta : (fun i : Nat => #[Value.int .i64 (i : Int)]) = (fun i : Nat => #[Value.int .i64 (i : Int)]) := rfl
theorem FilR.put {W0 : World} {F R X : Nat} {n : Net} {a : NetA} {xs : List Q} {fx : List Bool} {w : World} (h : FilR W0 F R X n a xs fx w) {D : Nat} {x : Option (List Deferred)} (hD : w.heap[D]? = some (.deferred x)) (hB : W0.heap.size ≤ D) (o : Obj) : FilR W0 F R X n a xs fx (w.putObj D o) := by
  have hne : ∀ {b : Nat} {c : Array Value} {T : TypeId}, w.heap[b]? = some (.cells c T (0, 0)) → b ≠ D := fun hb e => by subst e; rw [hD] at hb; cases hb
  exact ⟨Below.trans h.gr (belPut o hB), h.hF, h.hR, h.hX, h.net, (World.putObj_heap_other (hne h.fil)).trans h.fil, (World.putObj_heap_other (hne h.rats)).trans h.rats, (World.putObj_heap_other (hne h.fixs)).trans h.fixs, h.lx, h.lf⟩
abbrev mk (D : Nat) : Deferred := { target := .collected D, args := #[] }
/-- the marks of loops that are over -/
def Marks (B : Nat) (ds : List Nat) (w : World) : Prop := ds.Nodup ∧ ∀ D ∈ ds, B ≤ D ∧ D < w.heap.size ∧ w.heap[D]? = some (.deferred (some []))
theorem Marks.keep {B : Nat} {ds : List Nat} {w w' : World} (h : Marks B ds w) (hs : w.heap.size ≤ w'.heap.size) (hk : ∀ D ∈ ds, w'.heap[D]? = w.heap[D]?) : Marks B ds w' :=
  ⟨h.1, fun D hD => ⟨(h.2 D hD).1, Nat.lt_of_lt_of_le (h.2 D hD).2.1 hs, (hk D hD).trans (h.2 D hD).2.2⟩⟩
theorem leaves_marks {F : Fence} {n : Nat} {P : Program} {fn : Func} {tmps : Array Value} {R : Ending → World → Prop} {v : Value} (hres : ∀ w, (results fn tmps).run P w = .ok v w) (Rr : World → Prop) (hend : ∀ w, Rr w → R (.returned v) w) :
    ∀ (ds : List Nat) (w : World), ds.Nodup → (∀ D ∈ ds, w.heap[D]? = some (.deferred (some []))) → (∀ w D, D ∈ ds → w.heap[D]? = some (.deferred (some [])) → Rr w → Rr (w.putObj D (.deferred none))) → Rr w → LeavesInM F n P fn tmps R (ds.map mk) .returning w
  | [], w, _, _, _, h0 => ⟨v, hres w, hend w h0⟩
  | D :: ds, w, hn, hd, hs, h0 => by
    have hD := hd D (by simp)
    refine ⟨by simp, .inl ⟨_, _, rfl, run_takeDeferred hD, ?_⟩⟩
    refine leaves_marks hres Rr hend ds _ (List.nodup_cons.1 hn).2 (fun E hE => ?_) (fun w E hE => hs w E (by simp [hE])) (hs _ _ (by simp) hD h0)
    have hne : E ≠ D := fun e => (List.nodup_cons.1 hn).1 (by rw [← e]; exact hE)
    rw [World.putObj_heap_other hne]
    exact hd E (by simp [hE])
def unfixed (fx : List Bool) : Nat := fx.count false
theorem unfixed_set {fx : List Bool} {i : Nat} (h : i < fx.length) : unfixed (fx.set i true) ≤ unfixed fx ∧ (fxd fx i = false → unfixed (fx.set i true) < unfixed fx) := by
  unfold unfixed fxd
  rw [List.count_set h]
  have hc : fx[i] = false → 0 < fx.count false := fun e => List.count_pos_iff.2 (by rw [← e]; exact List.getElem_mem h)
  rw [List.getElem?_eq_getElem h]
  cases hb : fx[i] with
  | false => have := hc hb; simp; omega
  | true => simp
theorem unfixed_setB {fx : List Bool} {S : List Nat} (hS : ∀ i ∈ S, i < fx.length) : unfixed (setB fx S) ≤ unfixed fx := by
  unfold setB
  induction S generalizing fx with
  | nil => exact Nat.le_refl _
  | cons i S ih =>
    rw [List.foldl_cons]
    exact Nat.le_trans (ih (fun j hj => by rw [List.length_set]; exact hS j (by simp [hj]))) (unfixed_set (hS i (by simp))).1
theorem unfixed_lt {fx : List Bool} {S : List Nat} (hS : ∀ i ∈ S, i < fx.length) (hu : ∀ i ∈ S, fxd fx i = false) (hne : S ≠ []) : unfixed (setB fx S) < unfixed fx := by
  cases S with
  | nil => exact absurd rfl hne
  | cons i S =>
    unfold setB
    rw [List.foldl_cons]
    exact Nat.lt_of_le_of_lt (unfixed_setB (S := S) (fun j hj => by rw [List.length_set]; exact hS j (by simp [hj]))) ((unfixed_set (hS i (by simp))).2 (hu i (by simp)))
theorem stop_ok {n : Net} {fx : List Bool} {s : Sp} (hl : fx.length = n.f.length) (hNL : n.l.length = n.f.length) (h : s ∈ stopsL n fx) : (∀ i ∈ stopped n fx s, i < fx.length) ∧ (∀ i ∈ stopped n fx s, fxd fx i = false) ∧ stopped n fx s ≠ [] := by
  unfold stopsL at h
  rcases List.mem_append.1 h with h | h
  · obtain ⟨l, hl', rfl⟩ := List.mem_map.1 h
    have h2 := (sel_mem.1 hl').2
    refine ⟨fun i hi => by rw [hl]; exact (sel_mem.1 hi).1, fun i hi => ?_, fun e => ?_⟩
    · have := (sel_mem.1 hi).2
      simp only [unf, Bool.and_eq_true, Bool.not_eq_true'] at this
      exact this.2
    · have e' : unfL n fx l = [] := e
      simp [hasLink, e'] at h2
  · obtain ⟨i, hi, rfl⟩ := List.mem_map.1 h
    have h1 := (sel_mem.1 hi).1
    have h2 := (sel_mem.1 hi).2
    simp only [hasLim, Bool.and_eq_true, Bool.not_eq_true'] at h2
    have e : stopped n fx (.lim i) = [i] := by show (if fxd fx i = true then [] else [i]) = [i]; rw [if_neg (by rw [h2.2]; decide)]
    rw [e]
    refine ⟨fun j hj => by simp at hj; omega, fun j hj => ?_, by simp⟩
    simp at hj; subst hj; exact h2.2
theorem setQ_succ (xs : List Q) (S : List Nat) (v : Q) {k : Nat} (h : k < S.length) : setQ xs (S.take (k + 1)) v = (setQ xs (S.take k) v).set S[k] v := foldl_take _ _ _ h
theorem setB_succ (fx : List Bool) (S : List Nat) {k : Nat} (h : k < S.length) : setB fx (S.take (k + 1)) = (setB fx (S.take k)).set S[k] true := foldl_take _ _ _ h
theorem fxd_setB (fx : List Bool) (S : List Nat) {j : Nat} (h : j ∉ S) : fxd (setB fx S) j = fxd fx j := by
  unfold fxd; rw [setB_get]; simp [h]
theorem bC_set (fx : List Bool) (i : Nat) : bC (fx.set i true) = (bC fx).set i (.bool true) := by simp [bC, List.map_set]
/-- one flow is fixed -/
theorem FilR.set {W0 : World} {F R X : Nat} {n : Net} {a : NetA} {xs : List Q} {fx : List Bool} {w w1 w2 w3 w4 : World} (h : FilR W0 F R X n a xs fx w) {i : Nat} {v : Q} (h1 : Gr w w1)
    (h2 : Gr ((w1.setCell ⟨R, i * 2, none⟩ (.int .i64 v.n)).setCell ⟨R, i * 2 + 1, none⟩ (.int .i64 v.d)) w2) (h3 : Gr w2 w3) (h4 : Gr (w3.setCell ⟨X, i, none⟩ (.bool true)) w4) (hFR : F ≠ R) (hFX : F ≠ X) (hRX : R ≠ X) :
    FilR W0 F R X n a (xs.set i v) (fx.set i true) w4 := by
  have g1 : Below W0.heap.size W0 w1 := Gr.tr h.gr h1
  have g2 : Below W0.heap.size W0 ((w1.setCell ⟨R, i * 2, none⟩ (.int .i64 v.n)).setCell ⟨R, i * 2 + 1, none⟩ (.int .i64 v.d)) := (g1.setCell (p := ⟨R, i * 2, none⟩) h.hR _).setCell (p := ⟨R, i * 2 + 1, none⟩) h.hR _
  have g3 : Below W0.heap.size W0 w3 := (g2.trans (Below.mono h2 g2.size)).trans (Below.mono h3 (g2.trans (Below.mono h2 g2.size)).size)
  have g4 : Below W0.heap.size W0 (w3.setCell ⟨X, i, none⟩ (.bool true)) := g3.setCell (p := ⟨X, i, none⟩) h.hX _
  have far : ∀ {b : Nat} {ob : Obj}, b ≠ R → b ≠ X → w.heap[b]? = some ob → w4.heap[b]? = some ob := fun e1 e2 hb =>
    grBlk h4 ((Below.heap_setCell _ _ _ _ e2).trans (grBlk h3 (grBlk h2 ((Below.heap_setCell _ _ _ _ e1).trans ((Below.heap_setCell _ _ _ _ e1).trans (grBlk h1 hb))))))
  refine ⟨g4.trans (Below.mono h4 g4.size), h.hF, h.hR, h.hX, h.net, far hFR hFX h.fil, ?_, ?_, by rw [List.length_set]; exact h.lx, by rw [List.length_set]; exact h.lf⟩
  · refine grBlk h4 ((Below.heap_setCell _ _ _ _ hRX).trans (grBlk h3 (grBlk h2 ?_)))
    have e1 : (w1.setCell ⟨R, i * 2, none⟩ (.int .i64 v.n)).heap[R]? = some (.cells ((qC xs).set (i * 2) (.int .i64 v.n)).toArray 35 (0, 0)) := by rw [heap_setCell_same _ _ _ _ _ _ (grBlk h1 h.rats)]; simp
    rw [heap_setCell_same _ _ _ _ _ _ e1, qC_set]
    simp
  · refine grBlk h4 ?_
    have e0 : w3.heap[X]? = some (.cells (bC fx).toArray 4 (0, 0)) := grBlk h3 (grBlk h2 ((Below.heap_setCell _ _ _ _ hRX.symm).trans ((Below.heap_setCell _ _ _ _ hRX.symm).trans (grBlk h1 h.fixs))))
    rw [heap_setCell_same _ _ _ _ _ _ e0, bC_set]
    simp
end Go.Proofs.Ytbjhdfakocfapaa
