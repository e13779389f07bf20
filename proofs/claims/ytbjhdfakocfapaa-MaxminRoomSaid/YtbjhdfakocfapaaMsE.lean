/- Package maxmin: the iterator of a limit; isAny. -/
import Derived.Test.YtbjhdfakocfapaaMsD
namespace Go.Proofs.Ytbjhdfakocfapaa
open Go.RowKit
set_option linter.unusedVariables false
set_option linter.unusedSimpArgs false
attribute [local go_sem] Oper.semAt_some
theorem npIn {P : Program} {c : Code} {F : Fence} {n : Nat} {Q : Exit → Act → World → Prop} {a : Act} {w : World} (h : c.wpIn F n P (NP Q) a w) : c.wpIn F n P Q a w :=
  wpIn_mono h (fun e a w hq => by cases e <;> first | exact hq | exact (hq : False).elim)
theorem ret_ofc {w : World} {fn : Func} {F : Fence} {n : Nat} {P : Program} {R : Ending → World → Prop} {tmps : Array Value} {D : Nat} {v : Value} (hK : w.heap[D]? = some (.deferred (some [])))
    (hr : (results fn tmps).run P (w.putObj D (.deferred none)) = .ok v (w.putObj D (.deferred none))) (h : R (.returned v) (w.putObj D (.deferred none))) :
    bodyPostM F n P fn R .normal { tmps := tmps, defers := [{ target := .collected D, args := #[] }] } w :=
  ⟨by simp, .inl ⟨_, _, rfl, run_takeDeferred hK, ⟨v, hr, h⟩⟩⟩
theorem ret_ofc' {w : World} {fn : Func} {F : Fence} {n : Nat} {P : Program} {R : Ending → World → Prop} {tmps : Array Value} {D : Nat} {v : Value} (hK : w.heap[D]? = some (.deferred (some [])))
    (hr : (results fn tmps).run P (w.putObj D (.deferred none)) = .ok v (w.putObj D (.deferred none))) (h : R (.returned v) (w.putObj D (.deferred none))) :
    bodyPostM F n P fn R .ret { tmps := tmps, defers := [{ target := .collected D, args := #[] }] } w :=
  ⟨by simp, .inl ⟨_, _, rfl, run_takeDeferred hK, ⟨v, hr, h⟩⟩⟩
def limL (fx : List Bool) (i : Nat) : List Nat := if fxd fx i = true then [] else [i]
set_option maxHeartbeats 4000000 in
set_option maxRecDepth 100000 in
theorem mstop_iter (W0 : World) (F R X : Nat) (n : Net) (a : NetA) (fx : List Bool) (i bs : Nat) (hi : i < n.f.length) :
    Iter Try.prog 98 #[ptr bs] (limL fx i) (fun i : Nat => #[Value.int .i64 (i : Int)]) (LimR W0 F R X n a fx i bs) := by
  intro lr J Jx W hJ hJx hRd hY h0
  obtain ⟨hbs, xs', fx', hf, he⟩ := hRd 0 W (Nat.zero_le _) h0
  obtain ⟨⟨s0, s1⟩, -⟩ := cells2 hbs
  obtain ⟨f0, f1, f2, f3, f4⟩ := cells5 hf.fil
  have x0 := bC_at hf.fixs (i := i) (by rw [hf.lf]; exact hi)
  rw [he rfl] at x0
  have HY := Lib.hid hY
  have H0 := Lib.hid h0
  have HJ := Lib.hid hJ
  have HJx := Lib.hid hJx
  clear hbs hf he hY h0 hRd hJ hJx f0 f1 f2 f3
  rcases hb : fxd fx i with _ | _
  · rw [hb] at x0
    have hl : limL fx i = [i] := by unfold limL; rw [hb]; rfl
    rw [hl] at HY ⊢
    clear hl hb
    refine (callsIn_wide (n := 0)).1 ?_
    refine callsIn_of_wp Try.func98 rfl trivial (npIn ?_) rfl
    simp only [Try.ntmps98, List.size_toArray, List.length_cons, List.length_nil, Nat.reduceAdd, Nat.reduceSub, Array.replicate_succ, Array.replicate_zero, List.push_toArray, List.append_toArray, List.nil_append, List.cons_append]
    gi_wp2_with fail
    refine wpIn_wide.2 ?_
    refine wp_region_G (S := fun wq => Gr W wq) (by kernel_rfl) (grDrew _) (fun hHeld => ?_)
    have hSG : Hid (∀ wp wq : World, Gr W wp → Gr wp wq → Gr W wq) := Lib.hid (fun _ _ h k => h.tr k)
    have hmv := Lib.hid (fun (wq : World) (hq : Gr W wq) => And.intro (grCell hq s0) (And.intro (grCell hq s1) (And.intro (grCell hq f4) (grCell hq x0))))
    first
     | (refine tk hSG 0 (v := ?_) rfl (by kernel_rfl) (fun _ _ _ h => h) (by rfl) ?_ hHeld ?_; rotate_left; focus (intro w' hSw; obtain ⟨s0, s1, f4, x0⟩ := hmv.out _ hSw; go_simp; (try with_reducible rfl)))
     | refine tn hSG 0 rfl (by kernel_rfl) (fun _ _ _ h => h) (by rfl) hHeld ?_
    (try simp only [zq1, zq2, zq3, Act.put, zq4, zq5, zq6])
    first
     | (refine tk hSG 1 (v := ?_) rfl (by kernel_rfl) (fun _ _ _ h => h) (by rfl) ?_ hHeld ?_; rotate_left; focus (intro w' hSw; obtain ⟨s0, s1, f4, x0⟩ := hmv.out _ hSw; go_simp; (try with_reducible rfl)))
     | refine tn hSG 1 rfl (by kernel_rfl) (fun _ _ _ h => h) (by rfl) hHeld ?_
    (try simp only [zq1, zq2, zq3, Act.put, zq4, zq5, zq6])
    first
     | (refine tk hSG 2 (v := ?_) rfl (by kernel_rfl) (fun _ _ _ h => h) (by rfl) ?_ hHeld ?_; rotate_left; focus (intro w' hSw; obtain ⟨s0, s1, f4, x0⟩ := hmv.out _ hSw; go_simp; (try with_reducible rfl)))
     | refine tn hSG 2 rfl (by kernel_rfl) (fun _ _ _ h => h) (by rfl) hHeld ?_
    (try simp only [zq1, zq2, zq3, Act.put, zq4, zq5, zq6])
    first
     | (refine tk hSG 3 (v := ?_) rfl (by kernel_rfl) (fun _ _ _ h => h) (by rfl) ?_ hHeld ?_; rotate_left; focus (intro w' hSw; obtain ⟨s0, s1, f4, x0⟩ := hmv.out _ hSw; go_simp; (try with_reducible rfl)))
     | refine tn hSG 3 rfl (by kernel_rfl) (fun _ _ _ h => h) (by rfl) hHeld ?_
    (try simp only [zq1, zq2, zq3, Act.put, zq4, zq5, zq6])
    first
     | (refine tk hSG 4 (v := ?_) rfl (by kernel_rfl) (fun _ _ _ h => h) (by rfl) ?_ hHeld ?_; rotate_left; focus (intro w' hSw; obtain ⟨s0, s1, f4, x0⟩ := hmv.out _ hSw; go_simp; (try with_reducible rfl)))
     | refine tn hSG 4 rfl (by kernel_rfl) (fun _ _ _ h => h) (by rfl) hHeld ?_
    (try simp only [zq1, zq2, zq3, Act.put, zq4, zq5, zq6])
    first
     | (refine tk hSG 5 (v := ?_) rfl (by kernel_rfl) (fun _ _ _ h => h) (by rfl) ?_ hHeld ?_; rotate_left; focus (intro w' hSw; obtain ⟨s0, s1, f4, x0⟩ := hmv.out _ hSw; go_simp; (try with_reducible rfl)))
     | refine tn hSG 5 rfl (by kernel_rfl) (fun _ _ _ h => h) (by rfl) hHeld ?_
    (try simp only [zq1, zq2, zq3, Act.put, zq4, zq5, zq6])
    first
     | (refine tk hSG 6 (v := ?_) rfl (by kernel_rfl) (fun _ _ _ h => h) (by rfl) ?_ hHeld ?_; rotate_left; focus (intro w' hSw; obtain ⟨s0, s1, f4, x0⟩ := hmv.out _ hSw; go_simp; (try with_reducible rfl)))
     | refine tn hSG 6 rfl (by kernel_rfl) (fun _ _ _ h => h) (by rfl) hHeld ?_
    (try simp only [zq1, zq2, zq3, Act.put, zq4, zq5, zq6])
    first
     | (refine tk hSG 7 (v := ?_) rfl (by kernel_rfl) (fun _ _ _ h => h) (by rfl) ?_ hHeld ?_; rotate_left; focus (intro w' hSw; obtain ⟨s0, s1, f4, x0⟩ := hmv.out _ hSw; go_simp; (try with_reducible rfl)))
     | refine tn hSG 7 rfl (by kernel_rfl) (fun _ _ _ h => h) (by rfl) hHeld ?_
    (try simp only [zq1, zq2, zq3, Act.put, zq4, zq5, zq6])
    first
     | (refine tk hSG 8 (v := ?_) rfl (by kernel_rfl) (fun _ _ _ h => h) (by rfl) ?_ hHeld ?_; rotate_left; focus (intro w' hSw; obtain ⟨s0, s1, f4, x0⟩ := hmv.out _ hSw; go_simp; (try with_reducible rfl)))
     | refine tn hSG 8 rfl (by kernel_rfl) (fun _ _ _ h => h) (by rfl) hHeld ?_
    (try simp only [zq1, zq2, zq3, Act.put, zq4, zq5, zq6])
    first
     | (refine tk hSG 9 (v := ?_) rfl (by kernel_rfl) (fun _ _ _ h => h) (by rfl) ?_ hHeld ?_; rotate_left; focus (intro w' hSw; obtain ⟨s0, s1, f4, x0⟩ := hmv.out _ hSw; go_simp; (try with_reducible rfl)))
     | refine tn hSG 9 rfl (by kernel_rfl) (fun _ _ _ h => h) (by rfl) hHeld ?_
    (try simp only [zq1, zq2, zq3, Act.put, zq4, zq5, zq6])
    refine wpAnyG_done (by kernel_rfl) (fun w9 hgD => ?_) _
    have hg9 : Gr W w9 := (grDrew W).tr hgD
    clear hgD hSG hHeld
    have j9 := HJ.out _ _ _ H0.out hg9
    have z9 := hg9.size
    have t0 := grCell hg9 s0
    have t1 := grCell hg9 s1
    obtain ⟨fn, tmps, assign, body, hy, hR⟩ := HY.out 0 (by simp) w9 j9 z9
    have hy : (Instr.yield lr #[Value.int .i64 (i : Int)]).run Try.prog w9 = .ok (.round lr fn tmps assign body) w9 := hy
    clear s0 s1 f4 x0 j9
    gi_wp2
    first | refine hR.mono ?_ | refine ⟨rfl, hR.mono ?_⟩ | refine ⟨trivial, rfl, hR.mono ?_⟩
    rintro e W3 ⟨hup, (⟨rfl, hJ3⟩ | ⟨rfl, hJx3⟩)⟩
    · gi_wp2
      simp only [NP]
      go_end0
      exact ⟨⟨_, rfl⟩, Nat.le_trans z9 hup.size, .inl hJ3⟩
    · gi_wp2
      simp only [NP]
      go_end0
      exact ⟨⟨_, rfl⟩, Nat.le_trans z9 hup.size, .inr hJx3⟩
  · rw [hb] at x0
    have hl : limL fx i = [] := by unfold limL; rw [hb]; rfl
    rw [hl] at HY ⊢
    clear hl hb
    refine (callsIn_wide (n := 0)).1 ?_
    refine callsIn_of_wp Try.func98 rfl trivial (npIn ?_) rfl
    simp only [Try.ntmps98, List.size_toArray, List.length_cons, List.length_nil, Nat.reduceAdd, Nat.reduceSub, Array.replicate_succ, Array.replicate_zero, List.push_toArray, List.append_toArray, List.nil_append, List.cons_append]
    gi_wp2_with fail
    refine wpIn_wide.2 ?_
    refine wp_region_G (S := fun wq => Gr W wq) (by kernel_rfl) (grDrew _) (fun hHeld => ?_)
    have hSG : Hid (∀ wp wq : World, Gr W wp → Gr wp wq → Gr W wq) := Lib.hid (fun _ _ h k => h.tr k)
    have hmv := Lib.hid (fun (wq : World) (hq : Gr W wq) => And.intro (grCell hq s0) (And.intro (grCell hq s1) (And.intro (grCell hq f4) (grCell hq x0))))
    first
     | (refine tk hSG 0 (v := ?_) rfl (by kernel_rfl) (fun _ _ _ h => h) (by rfl) ?_ hHeld ?_; rotate_left; focus (intro w' hSw; obtain ⟨s0, s1, f4, x0⟩ := hmv.out _ hSw; go_simp; (try with_reducible rfl)))
     | refine tn hSG 0 rfl (by kernel_rfl) (fun _ _ _ h => h) (by rfl) hHeld ?_
    (try simp only [zq1, zq2, zq3, Act.put, zq4, zq5, zq6])
    first
     | (refine tk hSG 1 (v := ?_) rfl (by kernel_rfl) (fun _ _ _ h => h) (by rfl) ?_ hHeld ?_; rotate_left; focus (intro w' hSw; obtain ⟨s0, s1, f4, x0⟩ := hmv.out _ hSw; go_simp; (try with_reducible rfl)))
     | refine tn hSG 1 rfl (by kernel_rfl) (fun _ _ _ h => h) (by rfl) hHeld ?_
    (try simp only [zq1, zq2, zq3, Act.put, zq4, zq5, zq6])
    first
     | (refine tk hSG 2 (v := ?_) rfl (by kernel_rfl) (fun _ _ _ h => h) (by rfl) ?_ hHeld ?_; rotate_left; focus (intro w' hSw; obtain ⟨s0, s1, f4, x0⟩ := hmv.out _ hSw; go_simp; (try with_reducible rfl)))
     | refine tn hSG 2 rfl (by kernel_rfl) (fun _ _ _ h => h) (by rfl) hHeld ?_
    (try simp only [zq1, zq2, zq3, Act.put, zq4, zq5, zq6])
    first
     | (refine tk hSG 3 (v := ?_) rfl (by kernel_rfl) (fun _ _ _ h => h) (by rfl) ?_ hHeld ?_; rotate_left; focus (intro w' hSw; obtain ⟨s0, s1, f4, x0⟩ := hmv.out _ hSw; go_simp; (try with_reducible rfl)))
     | refine tn hSG 3 rfl (by kernel_rfl) (fun _ _ _ h => h) (by rfl) hHeld ?_
    (try simp only [zq1, zq2, zq3, Act.put, zq4, zq5, zq6])
    first
     | (refine tk hSG 4 (v := ?_) rfl (by kernel_rfl) (fun _ _ _ h => h) (by rfl) ?_ hHeld ?_; rotate_left; focus (intro w' hSw; obtain ⟨s0, s1, f4, x0⟩ := hmv.out _ hSw; go_simp; (try with_reducible rfl)))
     | refine tn hSG 4 rfl (by kernel_rfl) (fun _ _ _ h => h) (by rfl) hHeld ?_
    (try simp only [zq1, zq2, zq3, Act.put, zq4, zq5, zq6])
    first
     | (refine tk hSG 5 (v := ?_) rfl (by kernel_rfl) (fun _ _ _ h => h) (by rfl) ?_ hHeld ?_; rotate_left; focus (intro w' hSw; obtain ⟨s0, s1, f4, x0⟩ := hmv.out _ hSw; go_simp; (try with_reducible rfl)))
     | refine tn hSG 5 rfl (by kernel_rfl) (fun _ _ _ h => h) (by rfl) hHeld ?_
    (try simp only [zq1, zq2, zq3, Act.put, zq4, zq5, zq6])
    first
     | (refine tk hSG 6 (v := ?_) rfl (by kernel_rfl) (fun _ _ _ h => h) (by rfl) ?_ hHeld ?_; rotate_left; focus (intro w' hSw; obtain ⟨s0, s1, f4, x0⟩ := hmv.out _ hSw; go_simp; (try with_reducible rfl)))
     | refine tn hSG 6 rfl (by kernel_rfl) (fun _ _ _ h => h) (by rfl) hHeld ?_
    (try simp only [zq1, zq2, zq3, Act.put, zq4, zq5, zq6])
    first
     | (refine tk hSG 7 (v := ?_) rfl (by kernel_rfl) (fun _ _ _ h => h) (by rfl) ?_ hHeld ?_; rotate_left; focus (intro w' hSw; obtain ⟨s0, s1, f4, x0⟩ := hmv.out _ hSw; go_simp; (try with_reducible rfl)))
     | refine tn hSG 7 rfl (by kernel_rfl) (fun _ _ _ h => h) (by rfl) hHeld ?_
    (try simp only [zq1, zq2, zq3, Act.put, zq4, zq5, zq6])
    first
     | (refine tk hSG 8 (v := ?_) rfl (by kernel_rfl) (fun _ _ _ h => h) (by rfl) ?_ hHeld ?_; rotate_left; focus (intro w' hSw; obtain ⟨s0, s1, f4, x0⟩ := hmv.out _ hSw; go_simp; (try with_reducible rfl)))
     | refine tn hSG 8 rfl (by kernel_rfl) (fun _ _ _ h => h) (by rfl) hHeld ?_
    (try simp only [zq1, zq2, zq3, Act.put, zq4, zq5, zq6])
    first
     | (refine tk hSG 9 (v := ?_) rfl (by kernel_rfl) (fun _ _ _ h => h) (by rfl) ?_ hHeld ?_; rotate_left; focus (intro w' hSw; obtain ⟨s0, s1, f4, x0⟩ := hmv.out _ hSw; go_simp; (try with_reducible rfl)))
     | refine tn hSG 9 rfl (by kernel_rfl) (fun _ _ _ h => h) (by rfl) hHeld ?_
    (try simp only [zq1, zq2, zq3, Act.put, zq4, zq5, zq6])
    refine wpAnyG_done (by kernel_rfl) (fun w9 hgD => ?_) _
    have hg9 : Gr W w9 := (grDrew W).tr hgD
    clear hgD hSG hHeld
    have j9 := HJ.out _ _ _ H0.out hg9
    have z9 := hg9.size
    clear s0 s1 f4 x0
    gi_wp2
    simp only [NP]
    go_end0
    exact ⟨⟨_, rfl⟩, z9, .inl j9⟩
set_option maxHeartbeats 4000000 in
set_option maxRecDepth 100000 in
theorem isAny_any {α : Type} (gf : Nat) (lb : Array Value) (xs : List α) (enc : α → Value) (Rd : Nat → World → Prop) (eg : ∀ args w, (callFunc gf args).run Try.prog w = .ok (.enter gf args) w)
    (hit : Iter Try.prog gf lb xs (fun x => #[enc x]) Rd) (w : World) (hRd : ∀ k W, Gr w W → Rd k W) :
    Calls Try.prog 78 #[.func (.func gf) #[] lb] w (BB (!xs.isEmpty) w) := by
  obtain ⟨W1, hW1⟩ : ∃ W1, W1 = w.alloc (.cells #[.bool false] 4) := ⟨_, rfl⟩
  have G1 : Gr w W1 := by rw [hW1]; exact grAlloc _ _
  have B1 : W1.heap[w.heap.size]? = some (.cells #[.bool false] 4 (0, 0)) := by rw [hW1]; exact newBlk _ _ _ rfl
  have z1 : W1.heap.size = w.heap.size + 1 := by rw [hW1]; simp
  refine (callsIn_wide (n := 0)).1 ?_
  refine callsIn_of_wp_marks Try.func78 rfl trivial ?_ rfl
  simp only [Try.ntmps78, List.size_toArray, List.length_cons, List.length_nil, Nat.reduceAdd, Nat.reduceSub, Array.replicate_succ, Array.replicate_zero, List.push_toArray, List.append_toArray, List.nil_append, List.cons_append]
  refine wpIn_wide.2 (np ?_)
  have HI := Lib.hid hit
  have HB := Lib.hid B1
  have HG := Lib.hid G1
  have HR := Lib.hid hRd
  clear hit B1 G1 hRd
  go_upto_region 1 with fail
  rw [← hW1]
  clear hW1
  go_wp2
  refine' range_law (gf := gf) (lb := lb) rfl eg HI.out (fun _ => rfl)
    (fun k V => k = 0 ∧ Below w.heap.size w V ∧ V.heap[w.heap.size]? = some (.cells #[.bool false] 4 (0, 0)))
    (fun c V => c = .ret ∧ xs ≠ [] ∧ Below w.heap.size w V ∧ V.heap[w.heap.size]? = some (.cells #[.bool true] 4 (0, 0))) ?hJ ?hJx ?hRd ?h0 _ ?assign ?body ?done ?stop
  case hJ =>
    rintro k A B ⟨h1, h2, h3⟩ hb
    exact ⟨h1, h2.trans (hb.mono (by omega)), (hb.block _ (by omega)).trans h3⟩
  case hJx =>
    rintro c A B ⟨h0, h1, h2, h3⟩ hb
    exact ⟨h0, h1, h2.trans (hb.mono (by omega)), (hb.block _ (by omega)).trans h3⟩
  case hRd =>
    rintro k A hk ⟨h1, h2, h3⟩
    exact HR.out _ _ h2
  case h0 => exact ⟨rfl, HG.out, HB.out⟩
  case assign =>
    intro lx x V K hK
    gi_wp2
    exact hK
  case body =>
    rintro l1 k hk V hsz ⟨rfl, h2, h3⟩
    obtain ⟨c0, c1⟩ := cells1 h3
    gi_wp2
    refine ⟨(Up.refl _ _).setCell (p := ⟨w.heap.size, 0, none⟩) (by show w.heap.size < _; omega) _, rfl, fun e => by rw [e] at hk; simp at hk, h2.setCell (p := ⟨w.heap.size, 0, none⟩) (Nat.le_refl _) _, ?_⟩
    rw [heap_setCell_same _ _ 0 _ _ _ h3]
    simp
  case done =>
    rintro V hsz ⟨h1, h2, h3⟩ hD
    have e1 : xs = [] := by cases xs with | nil => rfl | cons x l => simp at h1
    subst e1
    obtain ⟨c0, c1⟩ := cells1 h3
    go_wp2
    have hD2 := (Below.heap_setCell V ⟨w.heap.size, 0, none⟩ (.bool false) W1.heap.size (by show W1.heap.size ≠ w.heap.size; omega)).trans hD
    have h4 : ((V.setCell ⟨w.heap.size, 0, none⟩ (.bool false)).putObj W1.heap.size (.deferred none)).heap[w.heap.size]? = some (.cells #[.bool false] 4 (0, 0)) := by
      rw [World.putObj_heap_other (by omega), heap_setCell_same _ _ 0 _ _ _ h3]; simp
    refine ret_ofc' (v := .bool false) hD2 (by simp [results, Try.results78, go_sem, (cells1 h4).1]) ⟨rfl, ?_⟩
    exact (h2.setCell (p := ⟨w.heap.size, 0, none⟩) (Nat.le_refl _) _).trans (belPut _ (by omega))
  case stop =>
    rintro c V hsz ⟨rfl, hne, h2, h3⟩ hD
    refine wpIn_ret ?_
    have h4 : (V.putObj W1.heap.size (.deferred none)).heap[w.heap.size]? = some (.cells #[.bool true] 4 (0, 0)) := by
      rw [World.putObj_heap_other (by omega)]; exact h3
    have e : (!xs.isEmpty) = true := by cases xs with | nil => exact absurd rfl hne | cons x l => rfl
    rw [e]
    refine ret_ofc' (v := .bool true) hD (by simp [results, Try.results78, go_sem, (cells1 h4).1]) ⟨rfl, ?_⟩
    exact h2.trans (belPut _ (by omega))
end Go.Proofs.Ytbjhdfakocfapaa
