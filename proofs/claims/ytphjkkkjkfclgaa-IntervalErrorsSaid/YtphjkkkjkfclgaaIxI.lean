/- Contracts of divide and of the functions of package interval. -/
import Derived.Test.YtphjkkkjkfclgaaIxG
import Derived.Test.YtphjkkkjkfclgaaIxH
namespace Go.Proofs.Ytphjkkkjkfclgaa
open Go.RowKit
set_option linter.unusedVariables false
set_option linter.unusedSimpArgs false
theorem vnOf {s : Sp} {x : Int} (h : vB s = true) (hx : x = s.lo ∨ x = s.hi) : vN x = true := by rw [vB_iff] at h; rw [vN_iff]; omega
theorem fitOf {s : Sp} {x : Int} (h : vB s = true) (hx : x = s.lo ∨ x = s.hi) : Fit x := by rw [vB_iff] at h; unfold Fit; omega
theorem three {w w1 : World} {oa ob oc : Obj} (h : Below (((w.alloc oa).alloc ob).alloc oc).heap.size (((w.alloc oa).alloc ob).alloc oc) w1) :
    w1.heap[w.heap.size]? = some oa ∧ w1.heap[w.heap.size + 1]? = some ob ∧ w1.heap[w.heap.size + 1 + 1]? = some oc := by
  have h1 := newBlk w oa w.heap.size rfl
  have h2 := newBlk (w.alloc oa) ob (w.heap.size + 1) (by simp)
  have h3 := newBlk ((w.alloc oa).alloc ob) oc (w.heap.size + 1 + 1) (by simp)
  have h1' := (Below.heap_alloc (w.alloc oa) ob _ (blkLt h1)).trans h1
  exact ⟨moveA h h1', moveA h h2, moveC h h3⟩
theorem nz {b : Sp} {y : Int} (h : zB b = false) (hl : b.lo ≤ b.hi) (hy : y = b.lo ∨ y = b.hi) : y ≠ 0 := by
  have : ¬ (b.lo ≤ 0 ∧ 0 ≤ b.hi) := fun k => by rw [zB_iff.2 k] at h; cases h
  omega
set_option maxHeartbeats 1000000 in
set_option maxRecDepth 100000 in
theorem divideDiv (f : Int → Int → Int) (a b : Sp) (H0 : vB a = true → vB b = true → zB b = false → ∀ x y, (x = a.lo ∨ x = a.hi) → (y = b.lo ∨ y = b.hi) → ∀ w, Calls Try.prog 26 #[.int .i64 x, .int .i64 y] w (SS (.int .i64 (f x y)) w)) (w : World) :
    Calls Try.prog 25 #[sv a, sv b, .func (.func 26) #[] #[]] w (VV (rv (divM f a b)) w) := by
  rcases hv : (vB a && vB b) with _ | _
  · have hm : divM f a b = combM f a b := by unfold divM; rw [hv]; rfl
    have hC := combDiv f a b (fun h1 h2 => by rw [h1, h2] at hv; cases hv)
    rw [hm]
    have hV := Lib.hid (fun n T wx h => hv ▸ areValid_any n a b T wx h)
    clear hm hv H0
    generalize combM f a b = m at *
    obtain ⟨⟨ml, mh⟩, me⟩ := m
    have hC := Lib.hid hC
    go_enter Try.func25, Try.ntmps25
    go_wp2_with (first
      | (go_at_call 30; refine (hV.out _ _ _ (newBlk _ _ _ (by simp))).mono ?_; rintro e w1 ⟨rfl, hb1⟩; obtain ⟨HA, HB, HR⟩ := four hb1; have HA := Lib.hid HA; have HB := Lib.hid HB; have HR := Lib.hid HR; have hl := blkLt HR.out; obtain ⟨⟨a0, a1⟩, -⟩ := cells2 HA.out; obtain ⟨⟨b0, b1⟩, -⟩ := cells2 HB.out; obtain ⟨⟨r0, r1⟩, r2, r3⟩ := cells2 HR.out; have hb1 := Lib.hid hb1)
      | (go_at_call 21; refine (hC.out _).mono ?_; rintro e w2 ⟨rfl, hb2⟩; have HA := Lib.hid (moveC hb2 HA.out); have HB := Lib.hid (moveC hb2 HB.out); have HR := Lib.hid (moveC hb2 HR.out); have hl := blkLt HR.out; obtain ⟨⟨a0, a1⟩, -⟩ := cells2 HA.out; obtain ⟨⟨b0, b1⟩, -⟩ := cells2 HB.out; obtain ⟨⟨r0, r1⟩, r2, r3⟩ := cells2 HR.out; have hb2 := Lib.hid hb2))
    exact bodyPost_ret (v := rv (⟨ml, mh⟩, me)) (by simp [results, Try.results25, go_sem, (res2 HR.out).2.1, (res2 HR.out).2.2]) rfl ⟨rfl, below2 (bCall (bCall (bAlloc (bAlloc (bAlloc (bAlloc (Below.refl _ _))))) hb1.out) hb2.out) (by omega)⟩
  · have hab : vB a = true ∧ vB b = true := by simpa using hv
    rcases hz : zB b with _ | _
    · have hm : divM f a b = combM f a b := by unfold divM; rw [hv, hz]; rfl
      have hC := combDiv f a b (fun h1 h2 => H0 h1 h2 hz)
      rw [hm]
      have hV := Lib.hid (fun n T wx h => hv ▸ areValid_any n a b T wx h)
      have ht : decide (b.lo ≤ 0) = false ∨ (decide (b.lo ≤ 0) = true ∧ decide (0 ≤ b.hi) = false) := by
        have : ¬ (b.lo ≤ 0 ∧ 0 ≤ b.hi) := fun k => by rw [zB_iff.2 k] at hz; cases hz
        by_cases h1 : b.lo ≤ 0
        · right; exact ⟨by simpa using h1, by simp; omega⟩
        · left; simpa using h1
      clear hm hv H0 hab hz
      generalize combM f a b = m at *
      obtain ⟨⟨ml, mh⟩, me⟩ := m
      have hC := Lib.hid hC
      rcases ht with h1 | ⟨h1, h2⟩
      all_goals
        go_enter Try.func25, Try.ntmps25
        go_wp2_with (first
          | (go_at_call 30; refine (hV.out _ _ _ (newBlk _ _ _ (by simp))).mono ?_; rintro e w1 ⟨rfl, hb1⟩; obtain ⟨HA, HB, HR⟩ := four hb1; have HA := Lib.hid HA; have HB := Lib.hid HB; have HR := Lib.hid HR; have hl := blkLt HR.out; obtain ⟨⟨a0, a1⟩, -⟩ := cells2 HA.out; obtain ⟨⟨b0, b1⟩, -⟩ := cells2 HB.out; obtain ⟨⟨r0, r1⟩, r2, r3⟩ := cells2 HR.out; have hb1 := Lib.hid hb1)
          | (go_at_call 21; refine (hC.out _).mono ?_; rintro e w2 ⟨rfl, hb2⟩; have HA := Lib.hid (moveC hb2 HA.out); have HB := Lib.hid (moveC hb2 HB.out); have HR := Lib.hid (moveC hb2 HR.out); have hl := blkLt HR.out; obtain ⟨⟨a0, a1⟩, -⟩ := cells2 HA.out; obtain ⟨⟨b0, b1⟩, -⟩ := cells2 HB.out; obtain ⟨⟨r0, r1⟩, r2, r3⟩ := cells2 HR.out; have hb2 := Lib.hid hb2))
        exact bodyPost_ret (v := rv (⟨ml, mh⟩, me)) (by simp [results, Try.results25, go_sem, (res2 HR.out).2.1, (res2 HR.out).2.2]) rfl ⟨rfl, below2 (bCall (bCall (bAlloc (bAlloc (bAlloc (bAlloc (Below.refl _ _))))) hb1.out) hb2.out) (by omega)⟩
    · have hm : divM f a b = (⟨0, 0⟩, 14) := by unfold divM; rw [hv, hz]; rfl
      rw [hm]
      have hV := Lib.hid (fun n T wx h => hv ▸ areValid_any n a b T wx h)
      have hh := zB_iff.1 hz
      have h1 : decide (b.lo ≤ 0) = true := by simpa using hh.1
      have h2 : decide (0 ≤ b.hi) = true := by simpa using hh.2
      clear hm hv H0 hab hz hh
      go_enter Try.func25, Try.ntmps25
      go_wp2_with (go_at_call 30; refine (hV.out _ _ _ (newBlk _ _ _ (by simp))).mono ?_; rintro e w1 ⟨rfl, hb1⟩; obtain ⟨HA, HB, HR⟩ := four hb1; have HA := Lib.hid HA; have HB := Lib.hid HB; have HR := Lib.hid HR; have hl := blkLt HR.out; obtain ⟨⟨a0, a1⟩, -⟩ := cells2 HA.out; obtain ⟨⟨b0, b1⟩, -⟩ := cells2 HB.out; obtain ⟨⟨r0, r1⟩, r2, r3⟩ := cells2 HR.out; have hb1 := Lib.hid hb1)
      exact bodyPost_ret (v := rv (⟨0, 0⟩, 14)) (by simp [results, Try.results25, go_sem, (res2 HR.out).2.1, (res2 HR.out).2.2]) rfl ⟨rfl, below2 (bCall (bAlloc (bAlloc (bAlloc (bAlloc (Below.refl _ _))))) hb1.out) (by omega)⟩
set_option maxHeartbeats 1000000 in
set_option maxRecDepth 100000 in
theorem divideUp (f : Int → Int → Int) (a b : Sp) (H0 : vB a = true → vB b = true → zB b = false → ∀ x y, (x = a.lo ∨ x = a.hi) → (y = b.lo ∨ y = b.hi) → ∀ w, Calls Try.prog 27 #[.int .i64 x, .int .i64 y] w (SS (.int .i64 (f x y)) w)) (w : World) :
    Calls Try.prog 25 #[sv a, sv b, .func (.func 27) #[] #[]] w (VV (rv (divM f a b)) w) := by
  rcases hv : (vB a && vB b) with _ | _
  · have hm : divM f a b = combM f a b := by unfold divM; rw [hv]; rfl
    have hC := combUp f a b (fun h1 h2 => by rw [h1, h2] at hv; cases hv)
    rw [hm]
    have hV := Lib.hid (fun n T wx h => hv ▸ areValid_any n a b T wx h)
    clear hm hv H0
    generalize combM f a b = m at *
    obtain ⟨⟨ml, mh⟩, me⟩ := m
    have hC := Lib.hid hC
    go_enter Try.func25, Try.ntmps25
    go_wp2_with (first
      | (go_at_call 30; refine (hV.out _ _ _ (newBlk _ _ _ (by simp))).mono ?_; rintro e w1 ⟨rfl, hb1⟩; obtain ⟨HA, HB, HR⟩ := four hb1; have HA := Lib.hid HA; have HB := Lib.hid HB; have HR := Lib.hid HR; have hl := blkLt HR.out; obtain ⟨⟨a0, a1⟩, -⟩ := cells2 HA.out; obtain ⟨⟨b0, b1⟩, -⟩ := cells2 HB.out; obtain ⟨⟨r0, r1⟩, r2, r3⟩ := cells2 HR.out; have hb1 := Lib.hid hb1)
      | (go_at_call 21; refine (hC.out _).mono ?_; rintro e w2 ⟨rfl, hb2⟩; have HA := Lib.hid (moveC hb2 HA.out); have HB := Lib.hid (moveC hb2 HB.out); have HR := Lib.hid (moveC hb2 HR.out); have hl := blkLt HR.out; obtain ⟨⟨a0, a1⟩, -⟩ := cells2 HA.out; obtain ⟨⟨b0, b1⟩, -⟩ := cells2 HB.out; obtain ⟨⟨r0, r1⟩, r2, r3⟩ := cells2 HR.out; have hb2 := Lib.hid hb2))
    exact bodyPost_ret (v := rv (⟨ml, mh⟩, me)) (by simp [results, Try.results25, go_sem, (res2 HR.out).2.1, (res2 HR.out).2.2]) rfl ⟨rfl, below2 (bCall (bCall (bAlloc (bAlloc (bAlloc (bAlloc (Below.refl _ _))))) hb1.out) hb2.out) (by omega)⟩
  · have hab : vB a = true ∧ vB b = true := by simpa using hv
    rcases hz : zB b with _ | _
    · have hm : divM f a b = combM f a b := by unfold divM; rw [hv, hz]; rfl
      have hC := combUp f a b (fun h1 h2 => H0 h1 h2 hz)
      rw [hm]
      have hV := Lib.hid (fun n T wx h => hv ▸ areValid_any n a b T wx h)
      have ht : decide (b.lo ≤ 0) = false ∨ (decide (b.lo ≤ 0) = true ∧ decide (0 ≤ b.hi) = false) := by
        have : ¬ (b.lo ≤ 0 ∧ 0 ≤ b.hi) := fun k => by rw [zB_iff.2 k] at hz; cases hz
        by_cases h1 : b.lo ≤ 0
        · right; exact ⟨by simpa using h1, by simp; omega⟩
        · left; simpa using h1
      clear hm hv H0 hab hz
      generalize combM f a b = m at *
      obtain ⟨⟨ml, mh⟩, me⟩ := m
      have hC := Lib.hid hC
      rcases ht with h1 | ⟨h1, h2⟩
      all_goals
        go_enter Try.func25, Try.ntmps25
        go_wp2_with (first
          | (go_at_call 30; refine (hV.out _ _ _ (newBlk _ _ _ (by simp))).mono ?_; rintro e w1 ⟨rfl, hb1⟩; obtain ⟨HA, HB, HR⟩ := four hb1; have HA := Lib.hid HA; have HB := Lib.hid HB; have HR := Lib.hid HR; have hl := blkLt HR.out; obtain ⟨⟨a0, a1⟩, -⟩ := cells2 HA.out; obtain ⟨⟨b0, b1⟩, -⟩ := cells2 HB.out; obtain ⟨⟨r0, r1⟩, r2, r3⟩ := cells2 HR.out; have hb1 := Lib.hid hb1)
          | (go_at_call 21; refine (hC.out _).mono ?_; rintro e w2 ⟨rfl, hb2⟩; have HA := Lib.hid (moveC hb2 HA.out); have HB := Lib.hid (moveC hb2 HB.out); have HR := Lib.hid (moveC hb2 HR.out); have hl := blkLt HR.out; obtain ⟨⟨a0, a1⟩, -⟩ := cells2 HA.out; obtain ⟨⟨b0, b1⟩, -⟩ := cells2 HB.out; obtain ⟨⟨r0, r1⟩, r2, r3⟩ := cells2 HR.out; have hb2 := Lib.hid hb2))
        exact bodyPost_ret (v := rv (⟨ml, mh⟩, me)) (by simp [results, Try.results25, go_sem, (res2 HR.out).2.1, (res2 HR.out).2.2]) rfl ⟨rfl, below2 (bCall (bCall (bAlloc (bAlloc (bAlloc (bAlloc (Below.refl _ _))))) hb1.out) hb2.out) (by omega)⟩
    · have hm : divM f a b = (⟨0, 0⟩, 14) := by unfold divM; rw [hv, hz]; rfl
      rw [hm]
      have hV := Lib.hid (fun n T wx h => hv ▸ areValid_any n a b T wx h)
      have hh := zB_iff.1 hz
      have h1 : decide (b.lo ≤ 0) = true := by simpa using hh.1
      have h2 : decide (0 ≤ b.hi) = true := by simpa using hh.2
      clear hm hv H0 hab hz hh
      go_enter Try.func25, Try.ntmps25
      go_wp2_with (go_at_call 30; refine (hV.out _ _ _ (newBlk _ _ _ (by simp))).mono ?_; rintro e w1 ⟨rfl, hb1⟩; obtain ⟨HA, HB, HR⟩ := four hb1; have HA := Lib.hid HA; have HB := Lib.hid HB; have HR := Lib.hid HR; have hl := blkLt HR.out; obtain ⟨⟨a0, a1⟩, -⟩ := cells2 HA.out; obtain ⟨⟨b0, b1⟩, -⟩ := cells2 HB.out; obtain ⟨⟨r0, r1⟩, r2, r3⟩ := cells2 HR.out; have hb1 := Lib.hid hb1)
      exact bodyPost_ret (v := rv (⟨0, 0⟩, 14)) (by simp [results, Try.results25, go_sem, (res2 HR.out).2.1, (res2 HR.out).2.2]) rfl ⟨rfl, below2 (bCall (bAlloc (bAlloc (bAlloc (bAlloc (Below.refl _ _))))) hb1.out) (by omega)⟩
set_option maxHeartbeats 1000000 in
set_option maxRecDepth 100000 in
theorem Add_any (a b : Sp) (w : World) : Calls Try.prog 9 #[sv a, sv b] w (VV (rv (addM a b)) w) := by
  have hC := combAdd addF a b (fun ha hb x y hx hy => addL x y (fitOf ha hx) (fitOf hb hy))
  have e : combM addF a b = addM a b := rfl
  rw [e] at hC
  clear e
  generalize addM a b = m at *
  obtain ⟨⟨ml, mh⟩, me⟩ := m
  have hC := Lib.hid hC
  go_enter Try.func9, Try.ntmps9
  go_wp2_with (go_at_call 21; refine (hC.out _).mono ?_; rintro e w1 ⟨rfl, hb1⟩; obtain ⟨HA, HB, HR⟩ := three hb1; have HA := Lib.hid HA; have HB := Lib.hid HB; have HR := Lib.hid HR; have hl := blkLt HR.out; obtain ⟨⟨a0, a1⟩, -⟩ := cells2 HA.out; obtain ⟨⟨b0, b1⟩, -⟩ := cells2 HB.out; obtain ⟨⟨r0, r1⟩, r2, r3⟩ := cells2 HR.out; have hb1 := Lib.hid hb1)
  exact bodyPost_ret (v := rv (⟨ml, mh⟩, me)) (by simp [results, Try.results9, go_sem, (res2 HR.out).2.1, (res2 HR.out).2.2]) rfl ⟨rfl, below2 (bCall (bAlloc (bAlloc (bAlloc (Below.refl _ _)))) hb1.out) (by omega)⟩
set_option maxHeartbeats 1000000 in
set_option maxRecDepth 100000 in
theorem Sub_any (a b : Sp) (w : World) : Calls Try.prog 11 #[sv a, sv b] w (VV (rv (subM a b)) w) := by
  have hC := combSub subF a b (fun ha hb x y hx hy => subL x y (fitOf ha hx) (fitOf hb hy))
  have e : combM subF a b = subM a b := rfl
  rw [e] at hC
  clear e
  generalize subM a b = m at *
  obtain ⟨⟨ml, mh⟩, me⟩ := m
  have hC := Lib.hid hC
  go_enter Try.func11, Try.ntmps11
  go_wp2_with (go_at_call 21; refine (hC.out _).mono ?_; rintro e w1 ⟨rfl, hb1⟩; obtain ⟨HA, HB, HR⟩ := three hb1; have HA := Lib.hid HA; have HB := Lib.hid HB; have HR := Lib.hid HR; have hl := blkLt HR.out; obtain ⟨⟨a0, a1⟩, -⟩ := cells2 HA.out; obtain ⟨⟨b0, b1⟩, -⟩ := cells2 HB.out; obtain ⟨⟨r0, r1⟩, r2, r3⟩ := cells2 HR.out; have hb1 := Lib.hid hb1)
  exact bodyPost_ret (v := rv (⟨ml, mh⟩, me)) (by simp [results, Try.results11, go_sem, (res2 HR.out).2.1, (res2 HR.out).2.2]) rfl ⟨rfl, below2 (bCall (bAlloc (bAlloc (bAlloc (Below.refl _ _)))) hb1.out) (by omega)⟩
set_option maxHeartbeats 1000000 in
set_option maxRecDepth 100000 in
theorem Mul_any (a b : Sp) (w : World) : Calls Try.prog 12 #[sv a, sv b] w (VV (rv (mulM a b)) w) := by
  have hC := combMul mulF a b (fun ha hb x y hx hy => mulL x y (vnOf ha hx) (vnOf hb hy))
  have e : combM mulF a b = mulM a b := rfl
  rw [e] at hC
  clear e
  generalize mulM a b = m at *
  obtain ⟨⟨ml, mh⟩, me⟩ := m
  have hC := Lib.hid hC
  go_enter Try.func12, Try.ntmps12
  go_wp2_with (go_at_call 21; refine (hC.out _).mono ?_; rintro e w1 ⟨rfl, hb1⟩; obtain ⟨HA, HB, HR⟩ := three hb1; have HA := Lib.hid HA; have HB := Lib.hid HB; have HR := Lib.hid HR; have hl := blkLt HR.out; obtain ⟨⟨a0, a1⟩, -⟩ := cells2 HA.out; obtain ⟨⟨b0, b1⟩, -⟩ := cells2 HB.out; obtain ⟨⟨r0, r1⟩, r2, r3⟩ := cells2 HR.out; have hb1 := Lib.hid hb1)
  exact bodyPost_ret (v := rv (⟨ml, mh⟩, me)) (by simp [results, Try.results12, go_sem, (res2 HR.out).2.1, (res2 HR.out).2.2]) rfl ⟨rfl, below2 (bCall (bAlloc (bAlloc (bAlloc (Below.refl _ _)))) hb1.out) (by omega)⟩
set_option maxHeartbeats 1000000 in
set_option maxRecDepth 100000 in
theorem Div_any (a b : Sp) (w : World) : Calls Try.prog 13 #[sv a, sv b] w (VV (rv (dvM a b)) w) := by
  have hC := divideDiv divF a b (fun ha hb hz x y hx hy => divL x y (fitOf ha hx) (fitOf hb hy) (nz hz (by rw [vB_iff] at hb; omega) hy))
  have e : divM divF a b = dvM a b := rfl
  rw [e] at hC
  clear e
  generalize dvM a b = m at *
  obtain ⟨⟨ml, mh⟩, me⟩ := m
  have hC := Lib.hid hC
  go_enter Try.func13, Try.ntmps13
  go_wp2_with (go_at_call 25; refine (hC.out _).mono ?_; rintro e w1 ⟨rfl, hb1⟩; obtain ⟨HA, HB, HR⟩ := three hb1; have HA := Lib.hid HA; have HB := Lib.hid HB; have HR := Lib.hid HR; have hl := blkLt HR.out; obtain ⟨⟨a0, a1⟩, -⟩ := cells2 HA.out; obtain ⟨⟨b0, b1⟩, -⟩ := cells2 HB.out; obtain ⟨⟨r0, r1⟩, r2, r3⟩ := cells2 HR.out; have hb1 := Lib.hid hb1)
  exact bodyPost_ret (v := rv (⟨ml, mh⟩, me)) (by simp [results, Try.results13, go_sem, (res2 HR.out).2.1, (res2 HR.out).2.2]) rfl ⟨rfl, below2 (bCall (bAlloc (bAlloc (bAlloc (Below.refl _ _)))) hb1.out) (by omega)⟩
set_option maxHeartbeats 1000000 in
set_option maxRecDepth 100000 in
theorem Up_any (a b : Sp) (w : World) : Calls Try.prog 14 #[sv a, sv b] w (VV (rv (upM a b)) w) := by
  have hC := divideUp upF a b (fun ha hb hz x y hx hy => upL x y (fitOf ha hx) (fitOf hb hy) (nz hz (by rw [vB_iff] at hb; omega) hy))
  have e : divM upF a b = upM a b := rfl
  rw [e] at hC
  clear e
  generalize upM a b = m at *
  obtain ⟨⟨ml, mh⟩, me⟩ := m
  have hC := Lib.hid hC
  go_enter Try.func14, Try.ntmps14
  go_wp2_with (go_at_call 25; refine (hC.out _).mono ?_; rintro e w1 ⟨rfl, hb1⟩; obtain ⟨HA, HB, HR⟩ := three hb1; have HA := Lib.hid HA; have HB := Lib.hid HB; have HR := Lib.hid HR; have hl := blkLt HR.out; obtain ⟨⟨a0, a1⟩, -⟩ := cells2 HA.out; obtain ⟨⟨b0, b1⟩, -⟩ := cells2 HB.out; obtain ⟨⟨r0, r1⟩, r2, r3⟩ := cells2 HR.out; have hb1 := Lib.hid hb1)
  exact bodyPost_ret (v := rv (⟨ml, mh⟩, me)) (by simp [results, Try.results14, go_sem, (res2 HR.out).2.1, (res2 HR.out).2.2]) rfl ⟨rfl, below2 (bCall (bAlloc (bAlloc (bAlloc (Below.refl _ _)))) hb1.out) (by omega)⟩
set_option maxHeartbeats 1000000 in
set_option maxRecDepth 100000 in
theorem Min_any (a b : Sp) (w : World) : Calls Try.prog 15 #[sv a, sv b] w (VV (rv (minM a b)) w) := by
  have hC := combMin minF a b (fun ha hb x y hx hy => minL x y)
  have e : combM minF a b = minM a b := rfl
  rw [e] at hC
  clear e
  generalize minM a b = m at *
  obtain ⟨⟨ml, mh⟩, me⟩ := m
  have hC := Lib.hid hC
  go_enter Try.func15, Try.ntmps15
  go_wp2_with (go_at_call 21; refine (hC.out _).mono ?_; rintro e w1 ⟨rfl, hb1⟩; obtain ⟨HA, HB, HR⟩ := three hb1; have HA := Lib.hid HA; have HB := Lib.hid HB; have HR := Lib.hid HR; have hl := blkLt HR.out; obtain ⟨⟨a0, a1⟩, -⟩ := cells2 HA.out; obtain ⟨⟨b0, b1⟩, -⟩ := cells2 HB.out; obtain ⟨⟨r0, r1⟩, r2, r3⟩ := cells2 HR.out; have hb1 := Lib.hid hb1)
  exact bodyPost_ret (v := rv (⟨ml, mh⟩, me)) (by simp [results, Try.results15, go_sem, (res2 HR.out).2.1, (res2 HR.out).2.2]) rfl ⟨rfl, below2 (bCall (bAlloc (bAlloc (bAlloc (Below.refl _ _)))) hb1.out) (by omega)⟩
set_option maxHeartbeats 1000000 in
set_option maxRecDepth 100000 in
theorem Max_any (a b : Sp) (w : World) : Calls Try.prog 16 #[sv a, sv b] w (VV (rv (maxM a b)) w) := by
  have hC := combMax maxF a b (fun ha hb x y hx hy => maxL x y)
  have e : combM maxF a b = maxM a b := rfl
  rw [e] at hC
  clear e
  generalize maxM a b = m at *
  obtain ⟨⟨ml, mh⟩, me⟩ := m
  have hC := Lib.hid hC
  go_enter Try.func16, Try.ntmps16
  go_wp2_with (go_at_call 21; refine (hC.out _).mono ?_; rintro e w1 ⟨rfl, hb1⟩; obtain ⟨HA, HB, HR⟩ := three hb1; have HA := Lib.hid HA; have HB := Lib.hid HB; have HR := Lib.hid HR; have hl := blkLt HR.out; obtain ⟨⟨a0, a1⟩, -⟩ := cells2 HA.out; obtain ⟨⟨b0, b1⟩, -⟩ := cells2 HB.out; obtain ⟨⟨r0, r1⟩, r2, r3⟩ := cells2 HR.out; have hb1 := Lib.hid hb1)
  exact bodyPost_ret (v := rv (⟨ml, mh⟩, me)) (by simp [results, Try.results16, go_sem, (res2 HR.out).2.1, (res2 HR.out).2.2]) rfl ⟨rfl, below2 (bCall (bAlloc (bAlloc (bAlloc (Below.refl _ _)))) hb1.out) (by omega)⟩
set_option maxHeartbeats 1000000 in
set_option maxRecDepth 100000 in
theorem Join_any (a b : Sp) (w : World) : Calls Try.prog 17 #[sv a, sv b] w (VV (rv (joinM a b)) w) := by
  rcases hv : (vB a && vB b) with _ | _
  · have hm : joinM a b = (⟨0, 0⟩, 1) := by unfold joinM; rw [hv]; rfl
    rw [hm]
    have hV := Lib.hid (fun n T wx h => hv ▸ areValid_any n a b T wx h)
    clear hm hv
    go_enter Try.func17, Try.ntmps17
    go_wp2_with (go_at_call 30; refine (hV.out _ _ _ (newBlk _ _ _ (by simp))).mono ?_; rintro e w1 ⟨rfl, hb1⟩; obtain ⟨HA, HB, HR⟩ := four hb1; have HA := Lib.hid HA; have HB := Lib.hid HB; have HR := Lib.hid HR; have hl := blkLt HR.out; obtain ⟨⟨a0, a1⟩, -⟩ := cells2 HA.out; obtain ⟨⟨b0, b1⟩, -⟩ := cells2 HB.out; obtain ⟨⟨r0, r1⟩, r2, r3⟩ := cells2 HR.out; have hb1 := Lib.hid hb1)
    exact bodyPost_ret (v := rv (⟨0, 0⟩, 1)) (by simp [results, Try.results17, go_sem, (res2 HR.out).2.1, (res2 HR.out).2.2]) rfl ⟨rfl, below2 (bCall (bAlloc (bAlloc (bAlloc (bAlloc (Below.refl _ _))))) hb1.out) (by omega)⟩
  · have hm : joinM a b = (arM a.lo a.hi b.lo b.hi, 0) := by unfold joinM; rw [hv]; rfl
    rw [hm]
    have hV := Lib.hid (fun n T wx h => hv ▸ areValid_any n a b T wx h)
    have hR := Lib.hid (fun n T wx h => around_any n a.lo a.hi b.lo b.hi wx T h)
    clear hm hv
    generalize arM a.lo a.hi b.lo b.hi = m at *
    obtain ⟨ml, mh⟩ := m
    go_enter Try.func17, Try.ntmps17
    go_wp2_with (first
      | (go_at_call 30; refine (hV.out _ _ _ (newBlk _ _ _ (by simp))).mono ?_; rintro e w1 ⟨rfl, hb1⟩; obtain ⟨HA, HB, HR⟩ := four hb1; have HA := Lib.hid HA; have HB := Lib.hid HB; have HR := Lib.hid HR; have hl := blkLt HR.out; obtain ⟨⟨a0, a1⟩, -⟩ := cells2 HA.out; obtain ⟨⟨b0, b1⟩, -⟩ := cells2 HB.out; obtain ⟨⟨r0, r1⟩, r2, r3⟩ := cells2 HR.out; have hb1 := Lib.hid hb1)
      | (go_at_call 31; refine (hR.out _ _ _ (newBlk _ _ _ (by simp))).mono ?_; rintro e w2 ⟨rfl, hb2⟩; have HA := Lib.hid (moveA hb2 HA.out); have HB := Lib.hid (moveA hb2 HB.out); have HR := Lib.hid (moveA hb2 HR.out); have hl := blkLt HR.out; obtain ⟨⟨a0, a1⟩, -⟩ := cells2 HA.out; obtain ⟨⟨b0, b1⟩, -⟩ := cells2 HB.out; obtain ⟨⟨r0, r1⟩, r2, r3⟩ := cells2 HR.out; have hb2 := Lib.hid hb2))
    exact bodyPost_ret (v := rv (⟨ml, mh⟩, 0)) (by simp [results, Try.results17, go_sem, (res2 HR.out).2.1, (res2 HR.out).2.2]) rfl ⟨rfl, below2 (bCall (bAlloc (bCall (bAlloc (bAlloc (bAlloc (bAlloc (Below.refl _ _))))) hb1.out)) hb2.out) (by omega)⟩
end Go.Proofs.Ytphjkkkjkfclgaa
