/- Package maxmin: Share. -/
import Derived.Test.YtbjhdfakocfapaaMsK
import Derived.Test.YtbjhdfakocfapaaMsL
import Derived.Laws.MakeOwn
namespace Go.Proofs.Ytbjhdfakocfapaa
open Go.RowKit
set_option linter.unusedVariables false
set_option linter.unusedSimpArgs false
attribute [local go_sem] Oper.semAt_some
theorem ratInfo : (Try.prog.info? 35).map (fun i => (i.zero, i.size, i.bytes)) = some (some (.agg #[.int .i64 0, .int .i64 0]), 2, 16) := by kernel_rfl
theorem boolInfo : (Try.prog.info? 4).map (fun i => (i.zero, i.size, i.bytes)) = some (some (.bool false), 1, 1) := by kernel_rfl
theorem made2 (x y : Value) (k : Nat) : madeCells #[x, y] (k * 2) = ((List.replicate k [x, y]).flatten).toArray := by
  apply Array.ext
  · simp [madeCells]
  · intro i h1 h2
    simp only [madeCells, Array.getElem_map, Array.getElem_range]
    have hi : i < k * 2 := by simpa [madeCells] using h1
    have : ∀ (k i : Nat), i < k * 2 → ((List.replicate k [x, y]).flatten)[i]? = some (#[x, y][i % 2]!) := by
      intro k
      induction k with
      | zero => intro i h; omega
      | succ k ih =>
        intro i h
        rw [List.replicate_succ, List.flatten_cons]
        match i with
        | 0 => rfl
        | 1 => rfl
        | i + 2 =>
          have := ih i (by omega)
          simp only [List.cons_append, List.nil_append, List.getElem?_cons_succ, Nat.add_mod_right]
          exact this
    have h3 := this k i hi
    rw [List.getElem?_eq_some_iff] at h3
    obtain ⟨h4, h5⟩ := h3
    simp only [List.getElem_toArray]
    exact h5.symm
theorem qC_rep (k : Nat) : qC (List.replicate k ⟨0, 0⟩) = (List.replicate k [Value.int .i64 0, Value.int .i64 0]).flatten := by
  induction k with
  | zero => rfl
  | succ k ih => simp only [qC, List.replicate_succ, List.flatMap_cons, List.flatten_cons] at ih ⊢; rw [ih]
theorem made1 (z : Value) (k : Nat) : madeCells #[z] k = (List.replicate k z).toArray := by
  apply Array.ext
  · simp [madeCells]
  · intro i h1 h2
    simp [madeCells, Nat.mod_one]
theorem bC_rep (k : Nat) : bC (List.replicate k false) = List.replicate k (Value.bool false) := by simp [bC]
theorem mkQ (k : Nat) (hk : k ≤ 1000) (w : World) : (Instr.makeSlice 26 (.int .i64 k) (.int .i64 k)).run Try.prog w = .ok (.slice (some ⟨w.heap.size, 0, none⟩) k k) (w.alloc (.cells (qC (List.replicate k ⟨0, 0⟩)).toArray 35)) := by
  obtain ⟨ix, hi, hz0, hz1, hz2⟩ := info_parts ratInfo
  have := run_make w 26 35 ix (.agg #[.int .i64 0, .int .i64 0]) Try.underlying26 hi hz0 .i64 .i64 k k (by omega) (by omega) (by rw [hz2]; omega) (by omega)
  rw [this, qC_rep, ← made2]
  simp [hz1, Value.cells]
theorem mkB (k : Nat) (hk : k ≤ 1000) (w : World) : (Instr.makeSlice 52 (.int .i64 k) (.int .i64 k)).run Try.prog w = .ok (.slice (some ⟨w.heap.size, 0, none⟩) k k) (w.alloc (.cells (bC (List.replicate k false)).toArray 4)) := by
  obtain ⟨ix, hi, hz0, hz1, hz2⟩ := info_parts boolInfo
  have := run_make w 52 4 ix (.bool false) Try.underlying52 hi hz0 .i64 .i64 k k (by omega) (by omega) (by rw [hz2]; omega) (by omega)
  rw [this, bC_rep, ← made1]
  simp [hz1, Value.cells]
theorem cells5f {w : World} {b : Nat} {v0 v1 v2 v3 v4 : Value} {T : TypeId} (h : w.heap[b]? = some (.cells #[v0, v1, v2, v3, v4] T (0, 0))) :
    (w.cell? ⟨b, 0, none⟩ = some v0 ∧ w.cell? ⟨b, 1, none⟩ = some v1 ∧ w.cell? ⟨b, 2, none⟩ = some v2 ∧ w.cell? ⟨b, 3, none⟩ = some v3 ∧ w.cell? ⟨b, 4, none⟩ = some v4) ∧
    w.frozen? ⟨b, 0, none⟩ = false ∧ w.frozen? ⟨b, 1, none⟩ = false ∧ w.frozen? ⟨b, 2, none⟩ = false ∧ w.frozen? ⟨b, 3, none⟩ = false ∧ w.frozen? ⟨b, 4, none⟩ = false :=
  ⟨cells5 h, by simp [World.frozen?, h], by simp [World.frozen?, h], by simp [World.frozen?, h], by simp [World.frozen?, h], by simp [World.frozen?, h]⟩
theorem fiSet {w : World} {b : Nat} {v0 v1 v2 v3 v4 x0 x1 x2 x3 x4 : Value} {T : TypeId} (h : w.heap[b]? = some (.cells #[v0, v1, v2, v3, v4] T (0, 0))) :
    (((((w.setCell ⟨b, 0, none⟩ x0).setCell ⟨b, 1, none⟩ x1).setCell ⟨b, 2, none⟩ x2).setCell ⟨b, 3, none⟩ x3).setCell ⟨b, 4, none⟩ x4).heap[b]? = some (.cells #[x0, x1, x2, x3, x4] T (0, 0)) := by
  have h1 : (w.setCell ⟨b, 0, none⟩ x0).heap[b]? = some (.cells #[x0, v1, v2, v3, v4] T (0, 0)) := by rw [heap_setCell_same _ _ 0 _ _ _ h]; simp
  have h2 : ((w.setCell ⟨b, 0, none⟩ x0).setCell ⟨b, 1, none⟩ x1).heap[b]? = some (.cells #[x0, x1, v2, v3, v4] T (0, 0)) := by rw [heap_setCell_same _ _ 1 _ _ _ h1]; simp
  have h3 : (((w.setCell ⟨b, 0, none⟩ x0).setCell ⟨b, 1, none⟩ x1).setCell ⟨b, 2, none⟩ x2).heap[b]? = some (.cells #[x0, x1, x2, v3, v4] T (0, 0)) := by rw [heap_setCell_same _ _ 2 _ _ _ h2]; simp
  have h4 : ((((w.setCell ⟨b, 0, none⟩ x0).setCell ⟨b, 1, none⟩ x1).setCell ⟨b, 2, none⟩ x2).setCell ⟨b, 3, none⟩ x3).heap[b]? = some (.cells #[x0, x1, x2, x3, v4] T (0, 0)) := by rw [heap_setCell_same _ _ 3 _ _ _ h3]; simp
  rw [heap_setCell_same _ _ 4 _ _ _ h4]; simp
theorem far5 {w : World} {b c : Nat} {x0 x1 x2 x3 x4 : Value} {o : Obj} (h : c ≠ b) (H : w.heap[c]? = some o) :
    (((((w.setCell ⟨b, 0, none⟩ x0).setCell ⟨b, 1, none⟩ x1).setCell ⟨b, 2, none⟩ x2).setCell ⟨b, 3, none⟩ x3).setCell ⟨b, 4, none⟩ x4).heap[c]? = some o :=
  (Below.heap_setCell _ _ _ _ h).trans ((Below.heap_setCell _ _ _ _ h).trans ((Below.heap_setCell _ _ _ _ h).trans ((Below.heap_setCell _ _ _ _ h).trans ((Below.heap_setCell _ _ _ _ h).trans H))))
theorem bel5 {B b : Nat} {a w : World} {x0 x1 x2 x3 x4 : Value} (h : Below B a w) (hb : B ≤ b) : Below B a (((((w.setCell ⟨b, 0, none⟩ x0).setCell ⟨b, 1, none⟩ x1).setCell ⟨b, 2, none⟩ x2).setCell ⟨b, 3, none⟩ x3).setCell ⟨b, 4, none⟩ x4) :=
  ((((h.setCell (p := ⟨b, 0, none⟩) hb _).setCell (p := ⟨b, 1, none⟩) hb _).setCell (p := ⟨b, 2, none⟩) hb _).setCell (p := ⟨b, 3, none⟩) hb _).setCell (p := ⟨b, 4, none⟩) hb _
/-- the rates that Share finds -/
def shareM (n : Net) : List Q := (fillM n (n.f.length + 1) (List.replicate n.f.length ⟨0, 0⟩) (List.replicate n.f.length false)).1
/-- what Share leaves: the rates lie in a new block -/
def ShareP (n : Net) (w : World) (e : Ending) (w' : World) : Prop :=
  Below w.heap.size w w' ∧ if validB n = true then (shareM n).length = n.f.length ∧ ∃ R, w.heap.size ≤ R ∧ w'.heap[R]? = some (.cells (qC (shareM n)).toArray 35 (0, 0)) ∧ e = .returned (.tuple #[.slice (some ⟨R, 0, none⟩) n.f.length n.f.length, .int .i64 0])
    else e = .returned (.tuple #[.slice none 0 0, .int .i64 1])
theorem valid_parts {n : Net} (h : validB n = true) : n.c.length ≤ 8 ∧ n.f.length ≤ 8 ∧ n.l.length = n.f.length ∧ (∀ r ∈ n.f, linksB n.c.length r = true) ∧ capsB n.c = true ∧ capsB n.l = true := by
  simp only [validB, sizeB, Bool.and_eq_true, decide_eq_true_eq, List.all_eq_true] at h
  exact ⟨h.1.1.1, h.1.1.2, h.1.2, h.2.1, h.2.2.1, h.2.2.2⟩
theorem links_len {c : Int} {r : List Int} (h : linksB c r = true) : 1 ≤ r.length ∧ r.length ≤ 6 := by
  simp only [linksB, Bool.and_eq_true, decide_eq_true_eq] at h
  exact h.1
set_option maxHeartbeats 8000000 in
set_option maxRecDepth 100000 in
theorem Share_any (n : Net) (a : NetA) (w : World) (hn : NetR w n a) (hs : n.c.length ≤ maxLen ∧ n.f.length ≤ maxLen ∧ n.l.length ≤ maxLen) :
    Calls Try.prog 12 #[nv n a] w (ShareP n w) := by
  obtain ⟨W1, hW1⟩ : ∃ W1, W1 = w.alloc (.cells #[.slice a.ca n.c.length a.cm, .slice a.fa n.f.length a.fm, .slice a.la n.l.length a.lm] 25 (0, 0)) := ⟨_, rfl⟩
  have G1 : Gr w W1 := by rw [hW1]; exact grAlloc _ _
  have B1 : W1.heap[w.heap.size]? = some (.cells #[.slice a.ca n.c.length a.cm, .slice a.fa n.f.length a.fm, .slice a.la n.l.length a.lm] 25 (0, 0)) := by rw [hW1]; exact newBlk _ _ _ rfl
  have z1 : w.heap.size + 1 = W1.heap.size := by rw [hW1]; simp
  obtain ⟨b0, b1, b2⟩ := cells3 B1
  have HV := Lib.hid (Valid13_any n a W1 (hn.gr G1) hs)
  have HN := Lib.hid hn
  have HG := Lib.hid G1
  have HB := Lib.hid B1
  have Z1 := Lib.hid z1
  clear hn G1 B1 hs z1
  rcases hv : validB n with _ | _
  · rw [hv] at HV
    have hSP : ∀ e w', (Below w.heap.size w w' ∧ e = .returned (.tuple #[.slice none 0 0, .int .i64 1])) → ShareP n w e w' := fun e w' h => ⟨h.1, by rw [hv]; simpa using h.2⟩
    clear hv
    refine Calls.mono ?_ hSP
    go_enter Try.func12, Try.ntmps12
    go_upto_region 1 with fail
    rw [← hW1]
    clear hW1
    go_wp2_with (go_at_call 17; refine HV.out.mono ?_; rintro e w2 ⟨rfl, hb2⟩; have hb2 := Lib.hid hb2)
    go_ret2
    exact ⟨Gr.tr HG.out hb2.out, rfl⟩
  · rw [hv] at HV
    obtain ⟨k1, k2, k3, k4, k5, k6⟩ := valid_parts hv
    have hSP : ∀ e w', (Below w.heap.size w w' ∧ (shareM n).length = n.f.length ∧ ∃ R, w.heap.size ≤ R ∧ w'.heap[R]? = some (.cells (qC (shareM n)).toArray 35 (0, 0)) ∧ e = .returned (.tuple #[.slice (some ⟨R, 0, none⟩) n.f.length n.f.length, .int .i64 0])) → ShareP n w e w' := fun e w' h => ⟨h.1, by rw [hv]; simpa using h.2⟩
    have KK := Lib.hid (And.intro k1 (And.intro k2 (And.intro k3 (show ∀ r ∈ n.f, r.length ≤ 1000000 from fun r hr => by have := links_len (k4 r hr); omega))))
    have mk4 := Lib.hid (fun wx => mkQ n.f.length (by omega) wx)
    have mk8 := Lib.hid (fun wx => mkB n.f.length (by omega) wx)
    clear hv k1 k2 k3 k4 k5 k6
    refine Calls.mono ?_ hSP
    go_enter Try.func12, Try.ntmps12
    go_upto_region 1 with fail
    rw [← hW1]
    clear hW1
    go_upto_region 3 with (go_at_call 17; refine HV.out.mono ?_; rintro e w2 ⟨rfl, hb2⟩)
    replace HG := Lib.hid (Gr.tr HG.out hb2)
    replace HB := Lib.hid (grBlk hb2 HB.out)
    have Z2 := Lib.hid (Nat.le_trans (Nat.le_of_eq Z1.out) hb2.size)
    clear b0 b1 b2 HV hb2 Z1 hSP
    clear W1
    generalize w2 = W1 at *
    obtain ⟨b0, b1, b2⟩ := cells3 HB.out
    have Z3 := Z2.out
    clear Z2
    go_cut [4] (fun s4 wx => ∃ F R X : Nat, s4 = .pointer (some ⟨F, 0, none⟩) ∧ F ≠ R ∧ F ≠ X ∧ R ≠ X ∧ Hid (FilR w F R X n a (List.replicate n.f.length ⟨0, 0⟩) (List.replicate n.f.length false) wx))
    case first =>
      refine wp_region_G (S := fun wq => Gr W1 wq) (by kernel_rfl) (grDrew _) (fun hHeld => ?_)
      have hSG : Hid (∀ wp wq : World, Gr W1 wp → Gr wp wq → Gr W1 wq) := Lib.hid (fun _ _ h k => h.tr k)
      have hmv := Lib.hid (fun (wq : World) (hq : Gr W1 wq) => And.intro (grCell hq b0) (And.intro (grCell hq b1) (grCell hq b2)))
      first
       | (refine tk hSG 0 (v := ?_) rfl (by kernel_rfl) (fun _ _ _ h => h) (by rfl) ?_ hHeld ?_; rotate_left; focus (intro w' hSw; obtain ⟨b0, b1, b2⟩ := hmv.out _ hSw; go_simp; (try with_reducible rfl)))
       | refine tn hSG 0 rfl (by kernel_rfl) (fun _ _ _ h => h) (by rfl) hHeld ?_
      (try simp only [zq1, zq2, zq3, Act.put, zq4, zq5, zq6])
      first
       | (refine tk hSG 1 (v := ?_) rfl (by kernel_rfl) (fun _ _ _ h => h) (by rfl) ?_ hHeld ?_; rotate_left; focus (intro w' hSw; obtain ⟨b0, b1, b2⟩ := hmv.out _ hSw; go_simp; (try with_reducible rfl)))
       | refine tn hSG 1 rfl (by kernel_rfl) (fun _ _ _ h => h) (by rfl) hHeld ?_
      (try simp only [zq1, zq2, zq3, Act.put, zq4, zq5, zq6])
      first
       | (refine tk hSG 2 (v := ?_) rfl (by kernel_rfl) (fun _ _ _ h => h) (by rfl) ?_ hHeld ?_; rotate_left; focus (intro w' hSw; obtain ⟨b0, b1, b2⟩ := hmv.out _ hSw; go_simp; (try with_reducible rfl)))
       | refine tn hSG 2 rfl (by kernel_rfl) (fun _ _ _ h => h) (by rfl) hHeld ?_
      (try simp only [zq1, zq2, zq3, Act.put, zq4, zq5, zq6])
      first
       | (refine tk hSG 3 (v := ?_) rfl (by kernel_rfl) (fun _ _ _ h => h) (by rfl) ?_ hHeld ?_; rotate_left; focus (intro w' hSw; obtain ⟨b0, b1, b2⟩ := hmv.out _ hSw; go_simp; (try with_reducible rfl)))
       | refine tn hSG 3 rfl (by kernel_rfl) (fun _ _ _ h => h) (by rfl) hHeld ?_
      (try simp only [zq1, zq2, zq3, Act.put, zq4, zq5, zq6])
      first
       | (refine tk hSG 5 (v := ?_) rfl (by kernel_rfl) (fun _ _ _ h => h) (by rfl) ?_ hHeld ?_; rotate_left; focus (intro w' hSw; obtain ⟨b0, b1, b2⟩ := hmv.out _ hSw; go_simp; (try with_reducible rfl)))
       | refine tn hSG 5 rfl (by kernel_rfl) (fun _ _ _ h => h) (by rfl) hHeld ?_
      (try simp only [zq1, zq2, zq3, Act.put, zq4, zq5, zq6])
      first
       | (refine tk hSG 6 (v := ?_) rfl (by kernel_rfl) (fun _ _ _ h => h) (by rfl) ?_ hHeld ?_; rotate_left; focus (intro w' hSw; obtain ⟨b0, b1, b2⟩ := hmv.out _ hSw; go_simp; (try with_reducible rfl)))
       | refine tn hSG 6 rfl (by kernel_rfl) (fun _ _ _ h => h) (by rfl) hHeld ?_
      (try simp only [zq1, zq2, zq3, Act.put, zq4, zq5, zq6])
      first
       | (refine tk hSG 7 (v := ?_) rfl (by kernel_rfl) (fun _ _ _ h => h) (by rfl) ?_ hHeld ?_; rotate_left; focus (intro w' hSw; obtain ⟨b0, b1, b2⟩ := hmv.out _ hSw; go_simp; (try with_reducible rfl)))
       | refine tn hSG 7 rfl (by kernel_rfl) (fun _ _ _ h => h) (by rfl) hHeld ?_
      (try simp only [zq1, zq2, zq3, Act.put, zq4, zq5, zq6])
      refine wpAnyG_ready (rs := [4, 8, 10]) (by kernel_rfl) (by simp) (AllG.cons rfl (fun v0 hg K hK => ?_) (AllG.cons rfl (fun v0 hg K hK => ?_) (AllG.cons rfl (fun v0 hg K hK => ?_) AllG.nil)))
      · skip
        have hgS := hSG.out _ _ hHeld.out hg
        have z0 : W1.heap.size ≤ v0.heap.size := hgS.size
        go_simp
        rw [mk4.out]
        go_simp
        refine hK.out _ _ (hgS.tr (grAlloc _ _)) (fun hHeld => ?_)
        have Rn := newBlk v0 (.cells (qC (List.replicate n.f.length ⟨0, 0⟩)).toArray 35) _ rfl
        clear hK K hg hgS
        (try simp only [zq1, zq2, zq3, Act.put, zq4, zq5, zq6])
        refine wpAnyG_ready (rs := [8, 10]) (by kernel_rfl) (by simp) (AllG.cons rfl (fun v1 hg K hK => ?_) (AllG.cons rfl (fun v1 hg K hK => ?_) AllG.nil))
        · skip
          have hgS := hSG.out _ _ hHeld.out hg
          have z1 : v0.heap.size + 1 ≤ v1.heap.size := by have := hg.size; simp at this; omega
          have Rnq := mvAlloc (o := (.cells (bC (List.replicate n.f.length false)).toArray 4)) (grBlk hg Rn)
          go_simp
          rw [mk8.out]
          go_simp
          refine hK.out _ _ (hgS.tr (grAlloc _ _)) (fun hHeld => ?_)
          have Xn := newBlk v1 (.cells (bC (List.replicate n.f.length false)).toArray 4) _ rfl
          clear hK K hg hgS Rn
          (try simp only [zq1, zq2, zq3, Act.put, zq4, zq5, zq6])
          first
           | (refine tk hSG 9 (v := ?_) rfl (by kernel_rfl) (fun _ _ _ h => h) (by rfl) ?_ hHeld ?_; rotate_left; focus (intro w' hSw; obtain ⟨b0, b1, b2⟩ := hmv.out _ hSw; go_simp; (try with_reducible rfl)))
           | refine tn hSG 9 rfl (by kernel_rfl) (fun _ _ _ h => h) (by rfl) hHeld ?_
          (try simp only [zq1, zq2, zq3, Act.put, zq4, zq5, zq6])
          refine wpAnyG_ready (rs := [10]) (by kernel_rfl) (by simp) (AllG.cons rfl (fun v2 hg K hK => ?_) AllG.nil)
          · skip
            have hgS := hSG.out _ _ hHeld.out hg
            have z2 : v1.heap.size + 1 ≤ v2.heap.size := by have := hg.size; simp at this; omega
            have Rnqq := mvAlloc (o := (.cells #[.slice none 0 0, .slice none 0 0, .slice none 0 0, .slice none 0 0, .slice none 0 0] 54)) (grBlk hg Rnq)
            have Xnq := mvAlloc (o := (.cells #[.slice none 0 0, .slice none 0 0, .slice none 0 0, .slice none 0 0, .slice none 0 0] 54)) (grBlk hg Xn)
            go_simp
            refine hK.out _ _ (hgS.tr (grAlloc _ _)) (fun hHeld => ?_)
            have Fn := newBlk v2 (.cells #[.slice none 0 0, .slice none 0 0, .slice none 0 0, .slice none 0 0, .slice none 0 0] 54) _ rfl
            clear hK K hg hgS Rnq Xn
            (try simp only [zq1, zq2, zq3, Act.put, zq4, zq5, zq6])
            refine wpAnyG_ready (rs := [11]) (by kernel_rfl) (by simp) (AllG.cons rfl (fun v9 hg K hK => ?_) AllG.nil)
            have hgS := hSG.out _ _ hHeld.out hg
            have A9 := grBlk hg Rnqq
            have B9 := grBlk hg Xnq
            have C9 := grBlk hg Fn
            obtain ⟨⟨d0, d1, d2, d3, d4⟩, e0, e1, e2, e3, e4⟩ := cells5f C9
            go_simp
            refine hK.out _ _ (bel5 hgS (by omega)) (fun hHeld => ?_)
            have C10 := fiSet (x0 := .slice a.ca n.c.length a.cm) (x1 := .slice a.fa n.f.length a.fm) (x2 := .slice a.la n.l.length a.lm) (x3 := .slice (some ⟨v0.heap.size, 0, none⟩) n.f.length n.f.length) (x4 := .slice (some ⟨v1.heap.size, 0, none⟩) n.f.length n.f.length) C9
            have A10 := far5 (b := v2.heap.size) (x0 := .slice a.ca n.c.length a.cm) (x1 := .slice a.fa n.f.length a.fm) (x2 := .slice a.la n.l.length a.lm) (x3 := .slice (some ⟨v0.heap.size, 0, none⟩) n.f.length n.f.length) (x4 := .slice (some ⟨v1.heap.size, 0, none⟩) n.f.length n.f.length) (by omega) A9
            have B10 := far5 (b := v2.heap.size) (x0 := .slice a.ca n.c.length a.cm) (x1 := .slice a.fa n.f.length a.fm) (x2 := .slice a.la n.l.length a.lm) (x3 := .slice (some ⟨v0.heap.size, 0, none⟩) n.f.length n.f.length) (x4 := .slice (some ⟨v1.heap.size, 0, none⟩) n.f.length n.f.length) (by omega) B9
            clear hK K hg d0 d1 d2 d3 d4 e0 e1 e2 e3 e4 hgS A9 B9 C9
            (try simp only [zq1, zq2, zq3, Act.put, zq4, zq5, zq6])
            refine wpAnyG_done (by kernel_rfl) (fun w9 hg => ?_) _
            have hg9 := hSG.out _ _ hHeld.out hg
            have hfil : FilR w v2.heap.size v0.heap.size v1.heap.size n a (List.replicate n.f.length ⟨0, 0⟩) (List.replicate n.f.length false) w9 := ⟨HG.out.tr hg9, by omega, by omega, by omega, HN.out, grBlk hg C10, grBlk hg A10, grBlk hg B10, by simp, by simp⟩
            clear hg A10 B10 C10 hHeld hSG hmv
            go_wp2_with fail
            go_meet
            exact ⟨v2.heap.size, v0.heap.size, v1.heap.size, rfl, by omega, by omega, by omega, Lib.hid hfil⟩
        · skip
          have hgS := hSG.out _ _ hHeld.out hg
          have z1 : v0.heap.size + 1 ≤ v1.heap.size := by have := hg.size; simp at this; omega
          have Rnq := mvAlloc (o := (.cells #[.slice none 0 0, .slice none 0 0, .slice none 0 0, .slice none 0 0, .slice none 0 0] 54)) (grBlk hg Rn)
          go_simp
          refine hK.out _ _ (hgS.tr (grAlloc _ _)) (fun hHeld => ?_)
          have Fn := newBlk v1 (.cells #[.slice none 0 0, .slice none 0 0, .slice none 0 0, .slice none 0 0, .slice none 0 0] 54) _ rfl
          clear hK K hg hgS Rn
          (try simp only [zq1, zq2, zq3, Act.put, zq4, zq5, zq6])
          refine wpAnyG_ready (rs := [8]) (by kernel_rfl) (by simp) (AllG.cons rfl (fun v2 hg K hK => ?_) AllG.nil)
          · skip
            have hgS := hSG.out _ _ hHeld.out hg
            have z2 : v1.heap.size + 1 ≤ v2.heap.size := by have := hg.size; simp at this; omega
            have Rnqq := mvAlloc (o := (.cells (bC (List.replicate n.f.length false)).toArray 4)) (grBlk hg Rnq)
            have Fnq := mvAlloc (o := (.cells (bC (List.replicate n.f.length false)).toArray 4)) (grBlk hg Fn)
            go_simp
            rw [mk8.out]
            go_simp
            refine hK.out _ _ (hgS.tr (grAlloc _ _)) (fun hHeld => ?_)
            have Xn := newBlk v2 (.cells (bC (List.replicate n.f.length false)).toArray 4) _ rfl
            clear hK K hg hgS Rnq Fn
            (try simp only [zq1, zq2, zq3, Act.put, zq4, zq5, zq6])
            first
             | (refine tk hSG 9 (v := ?_) rfl (by kernel_rfl) (fun _ _ _ h => h) (by rfl) ?_ hHeld ?_; rotate_left; focus (intro w' hSw; obtain ⟨b0, b1, b2⟩ := hmv.out _ hSw; go_simp; (try with_reducible rfl)))
             | refine tn hSG 9 rfl (by kernel_rfl) (fun _ _ _ h => h) (by rfl) hHeld ?_
            (try simp only [zq1, zq2, zq3, Act.put, zq4, zq5, zq6])
            refine wpAnyG_ready (rs := [11]) (by kernel_rfl) (by simp) (AllG.cons rfl (fun v9 hg K hK => ?_) AllG.nil)
            have hgS := hSG.out _ _ hHeld.out hg
            have A9 := grBlk hg Rnqq
            have B9 := grBlk hg Xn
            have C9 := grBlk hg Fnq
            obtain ⟨⟨d0, d1, d2, d3, d4⟩, e0, e1, e2, e3, e4⟩ := cells5f C9
            go_simp
            refine hK.out _ _ (bel5 hgS (by omega)) (fun hHeld => ?_)
            have C10 := fiSet (x0 := .slice a.ca n.c.length a.cm) (x1 := .slice a.fa n.f.length a.fm) (x2 := .slice a.la n.l.length a.lm) (x3 := .slice (some ⟨v0.heap.size, 0, none⟩) n.f.length n.f.length) (x4 := .slice (some ⟨v2.heap.size, 0, none⟩) n.f.length n.f.length) C9
            have A10 := far5 (b := v1.heap.size) (x0 := .slice a.ca n.c.length a.cm) (x1 := .slice a.fa n.f.length a.fm) (x2 := .slice a.la n.l.length a.lm) (x3 := .slice (some ⟨v0.heap.size, 0, none⟩) n.f.length n.f.length) (x4 := .slice (some ⟨v2.heap.size, 0, none⟩) n.f.length n.f.length) (by omega) A9
            have B10 := far5 (b := v1.heap.size) (x0 := .slice a.ca n.c.length a.cm) (x1 := .slice a.fa n.f.length a.fm) (x2 := .slice a.la n.l.length a.lm) (x3 := .slice (some ⟨v0.heap.size, 0, none⟩) n.f.length n.f.length) (x4 := .slice (some ⟨v2.heap.size, 0, none⟩) n.f.length n.f.length) (by omega) B9
            clear hK K hg d0 d1 d2 d3 d4 e0 e1 e2 e3 e4 hgS A9 B9 C9
            (try simp only [zq1, zq2, zq3, Act.put, zq4, zq5, zq6])
            refine wpAnyG_done (by kernel_rfl) (fun w9 hg => ?_) _
            have hg9 := hSG.out _ _ hHeld.out hg
            have hfil : FilR w v1.heap.size v0.heap.size v2.heap.size n a (List.replicate n.f.length ⟨0, 0⟩) (List.replicate n.f.length false) w9 := ⟨HG.out.tr hg9, by omega, by omega, by omega, HN.out, grBlk hg C10, grBlk hg A10, grBlk hg B10, by simp, by simp⟩
            clear hg A10 B10 C10 hHeld hSG hmv
            go_wp2_with fail
            go_meet
            exact ⟨v1.heap.size, v0.heap.size, v2.heap.size, rfl, by omega, by omega, by omega, Lib.hid hfil⟩
      · skip
        have hgS := hSG.out _ _ hHeld.out hg
        have z0 : W1.heap.size ≤ v0.heap.size := hgS.size
        go_simp
        rw [mk8.out]
        go_simp
        refine hK.out _ _ (hgS.tr (grAlloc _ _)) (fun hHeld => ?_)
        have Xn := newBlk v0 (.cells (bC (List.replicate n.f.length false)).toArray 4) _ rfl
        clear hK K hg hgS
        (try simp only [zq1, zq2, zq3, Act.put, zq4, zq5, zq6])
        refine wpAnyG_ready (rs := [4, 10]) (by kernel_rfl) (by simp) (AllG.cons rfl (fun v1 hg K hK => ?_) (AllG.cons rfl (fun v1 hg K hK => ?_) AllG.nil))
        · skip
          have hgS := hSG.out _ _ hHeld.out hg
          have z1 : v0.heap.size + 1 ≤ v1.heap.size := by have := hg.size; simp at this; omega
          have Xnq := mvAlloc (o := (.cells (qC (List.replicate n.f.length ⟨0, 0⟩)).toArray 35)) (grBlk hg Xn)
          go_simp
          rw [mk4.out]
          go_simp
          refine hK.out _ _ (hgS.tr (grAlloc _ _)) (fun hHeld => ?_)
          have Rn := newBlk v1 (.cells (qC (List.replicate n.f.length ⟨0, 0⟩)).toArray 35) _ rfl
          clear hK K hg hgS Xn
          (try simp only [zq1, zq2, zq3, Act.put, zq4, zq5, zq6])
          first
           | (refine tk hSG 9 (v := ?_) rfl (by kernel_rfl) (fun _ _ _ h => h) (by rfl) ?_ hHeld ?_; rotate_left; focus (intro w' hSw; obtain ⟨b0, b1, b2⟩ := hmv.out _ hSw; go_simp; (try with_reducible rfl)))
           | refine tn hSG 9 rfl (by kernel_rfl) (fun _ _ _ h => h) (by rfl) hHeld ?_
          (try simp only [zq1, zq2, zq3, Act.put, zq4, zq5, zq6])
          refine wpAnyG_ready (rs := [10]) (by kernel_rfl) (by simp) (AllG.cons rfl (fun v2 hg K hK => ?_) AllG.nil)
          · skip
            have hgS := hSG.out _ _ hHeld.out hg
            have z2 : v1.heap.size + 1 ≤ v2.heap.size := by have := hg.size; simp at this; omega
            have Xnqq := mvAlloc (o := (.cells #[.slice none 0 0, .slice none 0 0, .slice none 0 0, .slice none 0 0, .slice none 0 0] 54)) (grBlk hg Xnq)
            have Rnq := mvAlloc (o := (.cells #[.slice none 0 0, .slice none 0 0, .slice none 0 0, .slice none 0 0, .slice none 0 0] 54)) (grBlk hg Rn)
            go_simp
            refine hK.out _ _ (hgS.tr (grAlloc _ _)) (fun hHeld => ?_)
            have Fn := newBlk v2 (.cells #[.slice none 0 0, .slice none 0 0, .slice none 0 0, .slice none 0 0, .slice none 0 0] 54) _ rfl
            clear hK K hg hgS Xnq Rn
            (try simp only [zq1, zq2, zq3, Act.put, zq4, zq5, zq6])
            refine wpAnyG_ready (rs := [11]) (by kernel_rfl) (by simp) (AllG.cons rfl (fun v9 hg K hK => ?_) AllG.nil)
            have hgS := hSG.out _ _ hHeld.out hg
            have A9 := grBlk hg Rnq
            have B9 := grBlk hg Xnqq
            have C9 := grBlk hg Fn
            obtain ⟨⟨d0, d1, d2, d3, d4⟩, e0, e1, e2, e3, e4⟩ := cells5f C9
            go_simp
            refine hK.out _ _ (bel5 hgS (by omega)) (fun hHeld => ?_)
            have C10 := fiSet (x0 := .slice a.ca n.c.length a.cm) (x1 := .slice a.fa n.f.length a.fm) (x2 := .slice a.la n.l.length a.lm) (x3 := .slice (some ⟨v1.heap.size, 0, none⟩) n.f.length n.f.length) (x4 := .slice (some ⟨v0.heap.size, 0, none⟩) n.f.length n.f.length) C9
            have A10 := far5 (b := v2.heap.size) (x0 := .slice a.ca n.c.length a.cm) (x1 := .slice a.fa n.f.length a.fm) (x2 := .slice a.la n.l.length a.lm) (x3 := .slice (some ⟨v1.heap.size, 0, none⟩) n.f.length n.f.length) (x4 := .slice (some ⟨v0.heap.size, 0, none⟩) n.f.length n.f.length) (by omega) A9
            have B10 := far5 (b := v2.heap.size) (x0 := .slice a.ca n.c.length a.cm) (x1 := .slice a.fa n.f.length a.fm) (x2 := .slice a.la n.l.length a.lm) (x3 := .slice (some ⟨v1.heap.size, 0, none⟩) n.f.length n.f.length) (x4 := .slice (some ⟨v0.heap.size, 0, none⟩) n.f.length n.f.length) (by omega) B9
            clear hK K hg d0 d1 d2 d3 d4 e0 e1 e2 e3 e4 hgS A9 B9 C9
            (try simp only [zq1, zq2, zq3, Act.put, zq4, zq5, zq6])
            refine wpAnyG_done (by kernel_rfl) (fun w9 hg => ?_) _
            have hg9 := hSG.out _ _ hHeld.out hg
            have hfil : FilR w v2.heap.size v1.heap.size v0.heap.size n a (List.replicate n.f.length ⟨0, 0⟩) (List.replicate n.f.length false) w9 := ⟨HG.out.tr hg9, by omega, by omega, by omega, HN.out, grBlk hg C10, grBlk hg A10, grBlk hg B10, by simp, by simp⟩
            clear hg A10 B10 C10 hHeld hSG hmv
            go_wp2_with fail
            go_meet
            exact ⟨v2.heap.size, v1.heap.size, v0.heap.size, rfl, by omega, by omega, by omega, Lib.hid hfil⟩
        · skip
          have hgS := hSG.out _ _ hHeld.out hg
          have z1 : v0.heap.size + 1 ≤ v1.heap.size := by have := hg.size; simp at this; omega
          have Xnq := mvAlloc (o := (.cells #[.slice none 0 0, .slice none 0 0, .slice none 0 0, .slice none 0 0, .slice none 0 0] 54)) (grBlk hg Xn)
          go_simp
          refine hK.out _ _ (hgS.tr (grAlloc _ _)) (fun hHeld => ?_)
          have Fn := newBlk v1 (.cells #[.slice none 0 0, .slice none 0 0, .slice none 0 0, .slice none 0 0, .slice none 0 0] 54) _ rfl
          clear hK K hg hgS Xn
          (try simp only [zq1, zq2, zq3, Act.put, zq4, zq5, zq6])
          refine wpAnyG_ready (rs := [4]) (by kernel_rfl) (by simp) (AllG.cons rfl (fun v2 hg K hK => ?_) AllG.nil)
          · skip
            have hgS := hSG.out _ _ hHeld.out hg
            have z2 : v1.heap.size + 1 ≤ v2.heap.size := by have := hg.size; simp at this; omega
            have Xnqq := mvAlloc (o := (.cells (qC (List.replicate n.f.length ⟨0, 0⟩)).toArray 35)) (grBlk hg Xnq)
            have Fnq := mvAlloc (o := (.cells (qC (List.replicate n.f.length ⟨0, 0⟩)).toArray 35)) (grBlk hg Fn)
            go_simp
            rw [mk4.out]
            go_simp
            refine hK.out _ _ (hgS.tr (grAlloc _ _)) (fun hHeld => ?_)
            have Rn := newBlk v2 (.cells (qC (List.replicate n.f.length ⟨0, 0⟩)).toArray 35) _ rfl
            clear hK K hg hgS Xnq Fn
            (try simp only [zq1, zq2, zq3, Act.put, zq4, zq5, zq6])
            first
             | (refine tk hSG 9 (v := ?_) rfl (by kernel_rfl) (fun _ _ _ h => h) (by rfl) ?_ hHeld ?_; rotate_left; focus (intro w' hSw; obtain ⟨b0, b1, b2⟩ := hmv.out _ hSw; go_simp; (try with_reducible rfl)))
             | refine tn hSG 9 rfl (by kernel_rfl) (fun _ _ _ h => h) (by rfl) hHeld ?_
            (try simp only [zq1, zq2, zq3, Act.put, zq4, zq5, zq6])
            refine wpAnyG_ready (rs := [11]) (by kernel_rfl) (by simp) (AllG.cons rfl (fun v9 hg K hK => ?_) AllG.nil)
            have hgS := hSG.out _ _ hHeld.out hg
            have A9 := grBlk hg Rn
            have B9 := grBlk hg Xnqq
            have C9 := grBlk hg Fnq
            obtain ⟨⟨d0, d1, d2, d3, d4⟩, e0, e1, e2, e3, e4⟩ := cells5f C9
            go_simp
            refine hK.out _ _ (bel5 hgS (by omega)) (fun hHeld => ?_)
            have C10 := fiSet (x0 := .slice a.ca n.c.length a.cm) (x1 := .slice a.fa n.f.length a.fm) (x2 := .slice a.la n.l.length a.lm) (x3 := .slice (some ⟨v2.heap.size, 0, none⟩) n.f.length n.f.length) (x4 := .slice (some ⟨v0.heap.size, 0, none⟩) n.f.length n.f.length) C9
            have A10 := far5 (b := v1.heap.size) (x0 := .slice a.ca n.c.length a.cm) (x1 := .slice a.fa n.f.length a.fm) (x2 := .slice a.la n.l.length a.lm) (x3 := .slice (some ⟨v2.heap.size, 0, none⟩) n.f.length n.f.length) (x4 := .slice (some ⟨v0.heap.size, 0, none⟩) n.f.length n.f.length) (by omega) A9
            have B10 := far5 (b := v1.heap.size) (x0 := .slice a.ca n.c.length a.cm) (x1 := .slice a.fa n.f.length a.fm) (x2 := .slice a.la n.l.length a.lm) (x3 := .slice (some ⟨v2.heap.size, 0, none⟩) n.f.length n.f.length) (x4 := .slice (some ⟨v0.heap.size, 0, none⟩) n.f.length n.f.length) (by omega) B9
            clear hK K hg d0 d1 d2 d3 d4 e0 e1 e2 e3 e4 hgS A9 B9 C9
            (try simp only [zq1, zq2, zq3, Act.put, zq4, zq5, zq6])
            refine wpAnyG_done (by kernel_rfl) (fun w9 hg => ?_) _
            have hg9 := hSG.out _ _ hHeld.out hg
            have hfil : FilR w v1.heap.size v2.heap.size v0.heap.size n a (List.replicate n.f.length ⟨0, 0⟩) (List.replicate n.f.length false) w9 := ⟨HG.out.tr hg9, by omega, by omega, by omega, HN.out, grBlk hg C10, grBlk hg A10, grBlk hg B10, by simp, by simp⟩
            clear hg A10 B10 C10 hHeld hSG hmv
            go_wp2_with fail
            go_meet
            exact ⟨v1.heap.size, v2.heap.size, v0.heap.size, rfl, by omega, by omega, by omega, Lib.hid hfil⟩
      · skip
        have hgS := hSG.out _ _ hHeld.out hg
        have z0 : W1.heap.size ≤ v0.heap.size := hgS.size
        go_simp
        refine hK.out _ _ (hgS.tr (grAlloc _ _)) (fun hHeld => ?_)
        have Fn := newBlk v0 (.cells #[.slice none 0 0, .slice none 0 0, .slice none 0 0, .slice none 0 0, .slice none 0 0] 54) _ rfl
        clear hK K hg hgS
        (try simp only [zq1, zq2, zq3, Act.put, zq4, zq5, zq6])
        refine wpAnyG_ready (rs := [4, 8]) (by kernel_rfl) (by simp) (AllG.cons rfl (fun v1 hg K hK => ?_) (AllG.cons rfl (fun v1 hg K hK => ?_) AllG.nil))
        · skip
          have hgS := hSG.out _ _ hHeld.out hg
          have z1 : v0.heap.size + 1 ≤ v1.heap.size := by have := hg.size; simp at this; omega
          have Fnq := mvAlloc (o := (.cells (qC (List.replicate n.f.length ⟨0, 0⟩)).toArray 35)) (grBlk hg Fn)
          go_simp
          rw [mk4.out]
          go_simp
          refine hK.out _ _ (hgS.tr (grAlloc _ _)) (fun hHeld => ?_)
          have Rn := newBlk v1 (.cells (qC (List.replicate n.f.length ⟨0, 0⟩)).toArray 35) _ rfl
          clear hK K hg hgS Fn
          (try simp only [zq1, zq2, zq3, Act.put, zq4, zq5, zq6])
          refine wpAnyG_ready (rs := [8]) (by kernel_rfl) (by simp) (AllG.cons rfl (fun v2 hg K hK => ?_) AllG.nil)
          · skip
            have hgS := hSG.out _ _ hHeld.out hg
            have z2 : v1.heap.size + 1 ≤ v2.heap.size := by have := hg.size; simp at this; omega
            have Fnqq := mvAlloc (o := (.cells (bC (List.replicate n.f.length false)).toArray 4)) (grBlk hg Fnq)
            have Rnq := mvAlloc (o := (.cells (bC (List.replicate n.f.length false)).toArray 4)) (grBlk hg Rn)
            go_simp
            rw [mk8.out]
            go_simp
            refine hK.out _ _ (hgS.tr (grAlloc _ _)) (fun hHeld => ?_)
            have Xn := newBlk v2 (.cells (bC (List.replicate n.f.length false)).toArray 4) _ rfl
            clear hK K hg hgS Fnq Rn
            (try simp only [zq1, zq2, zq3, Act.put, zq4, zq5, zq6])
            first
             | (refine tk hSG 9 (v := ?_) rfl (by kernel_rfl) (fun _ _ _ h => h) (by rfl) ?_ hHeld ?_; rotate_left; focus (intro w' hSw; obtain ⟨b0, b1, b2⟩ := hmv.out _ hSw; go_simp; (try with_reducible rfl)))
             | refine tn hSG 9 rfl (by kernel_rfl) (fun _ _ _ h => h) (by rfl) hHeld ?_
            (try simp only [zq1, zq2, zq3, Act.put, zq4, zq5, zq6])
            refine wpAnyG_ready (rs := [11]) (by kernel_rfl) (by simp) (AllG.cons rfl (fun v9 hg K hK => ?_) AllG.nil)
            have hgS := hSG.out _ _ hHeld.out hg
            have A9 := grBlk hg Rnq
            have B9 := grBlk hg Xn
            have C9 := grBlk hg Fnqq
            obtain ⟨⟨d0, d1, d2, d3, d4⟩, e0, e1, e2, e3, e4⟩ := cells5f C9
            go_simp
            refine hK.out _ _ (bel5 hgS (by omega)) (fun hHeld => ?_)
            have C10 := fiSet (x0 := .slice a.ca n.c.length a.cm) (x1 := .slice a.fa n.f.length a.fm) (x2 := .slice a.la n.l.length a.lm) (x3 := .slice (some ⟨v1.heap.size, 0, none⟩) n.f.length n.f.length) (x4 := .slice (some ⟨v2.heap.size, 0, none⟩) n.f.length n.f.length) C9
            have A10 := far5 (b := v0.heap.size) (x0 := .slice a.ca n.c.length a.cm) (x1 := .slice a.fa n.f.length a.fm) (x2 := .slice a.la n.l.length a.lm) (x3 := .slice (some ⟨v1.heap.size, 0, none⟩) n.f.length n.f.length) (x4 := .slice (some ⟨v2.heap.size, 0, none⟩) n.f.length n.f.length) (by omega) A9
            have B10 := far5 (b := v0.heap.size) (x0 := .slice a.ca n.c.length a.cm) (x1 := .slice a.fa n.f.length a.fm) (x2 := .slice a.la n.l.length a.lm) (x3 := .slice (some ⟨v1.heap.size, 0, none⟩) n.f.length n.f.length) (x4 := .slice (some ⟨v2.heap.size, 0, none⟩) n.f.length n.f.length) (by omega) B9
            clear hK K hg d0 d1 d2 d3 d4 e0 e1 e2 e3 e4 hgS A9 B9 C9
            (try simp only [zq1, zq2, zq3, Act.put, zq4, zq5, zq6])
            refine wpAnyG_done (by kernel_rfl) (fun w9 hg => ?_) _
            have hg9 := hSG.out _ _ hHeld.out hg
            have hfil : FilR w v0.heap.size v1.heap.size v2.heap.size n a (List.replicate n.f.length ⟨0, 0⟩) (List.replicate n.f.length false) w9 := ⟨HG.out.tr hg9, by omega, by omega, by omega, HN.out, grBlk hg C10, grBlk hg A10, grBlk hg B10, by simp, by simp⟩
            clear hg A10 B10 C10 hHeld hSG hmv
            go_wp2_with fail
            go_meet
            exact ⟨v0.heap.size, v1.heap.size, v2.heap.size, rfl, by omega, by omega, by omega, Lib.hid hfil⟩
        · skip
          have hgS := hSG.out _ _ hHeld.out hg
          have z1 : v0.heap.size + 1 ≤ v1.heap.size := by have := hg.size; simp at this; omega
          have Fnq := mvAlloc (o := (.cells (bC (List.replicate n.f.length false)).toArray 4)) (grBlk hg Fn)
          go_simp
          rw [mk8.out]
          go_simp
          refine hK.out _ _ (hgS.tr (grAlloc _ _)) (fun hHeld => ?_)
          have Xn := newBlk v1 (.cells (bC (List.replicate n.f.length false)).toArray 4) _ rfl
          clear hK K hg hgS Fn
          (try simp only [zq1, zq2, zq3, Act.put, zq4, zq5, zq6])
          refine wpAnyG_ready (rs := [4]) (by kernel_rfl) (by simp) (AllG.cons rfl (fun v2 hg K hK => ?_) AllG.nil)
          · skip
            have hgS := hSG.out _ _ hHeld.out hg
            have z2 : v1.heap.size + 1 ≤ v2.heap.size := by have := hg.size; simp at this; omega
            have Fnqq := mvAlloc (o := (.cells (qC (List.replicate n.f.length ⟨0, 0⟩)).toArray 35)) (grBlk hg Fnq)
            have Xnq := mvAlloc (o := (.cells (qC (List.replicate n.f.length ⟨0, 0⟩)).toArray 35)) (grBlk hg Xn)
            go_simp
            rw [mk4.out]
            go_simp
            refine hK.out _ _ (hgS.tr (grAlloc _ _)) (fun hHeld => ?_)
            have Rn := newBlk v2 (.cells (qC (List.replicate n.f.length ⟨0, 0⟩)).toArray 35) _ rfl
            clear hK K hg hgS Fnq Xn
            (try simp only [zq1, zq2, zq3, Act.put, zq4, zq5, zq6])
            first
             | (refine tk hSG 9 (v := ?_) rfl (by kernel_rfl) (fun _ _ _ h => h) (by rfl) ?_ hHeld ?_; rotate_left; focus (intro w' hSw; obtain ⟨b0, b1, b2⟩ := hmv.out _ hSw; go_simp; (try with_reducible rfl)))
             | refine tn hSG 9 rfl (by kernel_rfl) (fun _ _ _ h => h) (by rfl) hHeld ?_
            (try simp only [zq1, zq2, zq3, Act.put, zq4, zq5, zq6])
            refine wpAnyG_ready (rs := [11]) (by kernel_rfl) (by simp) (AllG.cons rfl (fun v9 hg K hK => ?_) AllG.nil)
            have hgS := hSG.out _ _ hHeld.out hg
            have A9 := grBlk hg Rn
            have B9 := grBlk hg Xnq
            have C9 := grBlk hg Fnqq
            obtain ⟨⟨d0, d1, d2, d3, d4⟩, e0, e1, e2, e3, e4⟩ := cells5f C9
            go_simp
            refine hK.out _ _ (bel5 hgS (by omega)) (fun hHeld => ?_)
            have C10 := fiSet (x0 := .slice a.ca n.c.length a.cm) (x1 := .slice a.fa n.f.length a.fm) (x2 := .slice a.la n.l.length a.lm) (x3 := .slice (some ⟨v2.heap.size, 0, none⟩) n.f.length n.f.length) (x4 := .slice (some ⟨v1.heap.size, 0, none⟩) n.f.length n.f.length) C9
            have A10 := far5 (b := v0.heap.size) (x0 := .slice a.ca n.c.length a.cm) (x1 := .slice a.fa n.f.length a.fm) (x2 := .slice a.la n.l.length a.lm) (x3 := .slice (some ⟨v2.heap.size, 0, none⟩) n.f.length n.f.length) (x4 := .slice (some ⟨v1.heap.size, 0, none⟩) n.f.length n.f.length) (by omega) A9
            have B10 := far5 (b := v0.heap.size) (x0 := .slice a.ca n.c.length a.cm) (x1 := .slice a.fa n.f.length a.fm) (x2 := .slice a.la n.l.length a.lm) (x3 := .slice (some ⟨v2.heap.size, 0, none⟩) n.f.length n.f.length) (x4 := .slice (some ⟨v1.heap.size, 0, none⟩) n.f.length n.f.length) (by omega) B9
            clear hK K hg d0 d1 d2 d3 d4 e0 e1 e2 e3 e4 hgS A9 B9 C9
            (try simp only [zq1, zq2, zq3, Act.put, zq4, zq5, zq6])
            refine wpAnyG_done (by kernel_rfl) (fun w9 hg => ?_) _
            have hg9 := hSG.out _ _ hHeld.out hg
            have hfil : FilR w v0.heap.size v2.heap.size v1.heap.size n a (List.replicate n.f.length ⟨0, 0⟩) (List.replicate n.f.length false) w9 := ⟨HG.out.tr hg9, by omega, by omega, by omega, HN.out, grBlk hg C10, grBlk hg A10, grBlk hg B10, by simp, by simp⟩
            clear hg A10 B10 C10 hHeld hSG hmv
            go_wp2_with fail
            go_meet
            exact ⟨v0.heap.size, v2.heap.size, v1.heap.size, rfl, by omega, by omega, by omega, Lib.hid hfil⟩
    case rest =>
      obtain ⟨F, R, X, rfl, e1, e2, e3, hf⟩ := hcut
      have hu : unfixed (List.replicate n.f.length false) < n.f.length + 1 := by unfold unfixed; simp
      have HF := Lib.hid (fill_any w F R X n a e1 e2 e3 (by have := KK.out; omega) (by have := KK.out; omega) KK.out.2.2.1 KK.out.2.2.2 (n.f.length + 1) _ _ hu wc hf.out)
      clear hu e1 e2 e3 hf b0 b1 b2
      go_wp2_with (go_at_call 29; refine HF.out.mono ?_; rintro e w5 ⟨⟨v, rfl⟩, hf5⟩; obtain ⟨-, -, -, f3, -⟩ := cells5 hf5.fil; have hf5 := Lib.hid hf5)
      go_ret2
      exact ⟨hf5.out.gr, hf5.out.lx, R, hf5.out.hR, hf5.out.rats, rfl⟩
end Go.Proofs.Ytbjhdfakocfapaa
