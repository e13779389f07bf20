/- Contracts of the reference's functions of layer 6. -/
import Derived.Test.YtiijplgaikdioaaIxI
namespace Go.Proofs.Ytiijplgaikdioaa
open Go.RowKit
set_option linter.unusedVariables false
set_option linter.unusedSimpArgs false
theorem bdrew {X w1 : World} (h : Below X.drew.heap.size X.drew w1) : Below X.heap.size X w1 := ((Below.refl X.heap.size X).drew).trans h
theorem far2 {w : World} {b c i : Nat} {x y : Value} (h : c ≠ b) : ((w.setCell ⟨b, 0, none⟩ x).setCell ⟨b, 1, none⟩ y).cell? ⟨c, i, none⟩ = w.cell? ⟨c, i, none⟩ :=
  World.cell?_of_block (a := ⟨c, i, none⟩) ((heap_setCell_other _ _ _ _ h).trans (heap_setCell_other _ _ _ _ h))
def chM (s : Sp) : Sp × Int := if (vN s.lo && vN s.hi) = true then (s, 0) else (⟨0, 0⟩, 3)
theorem combM_ch {f : Int → Int → Int} {a b : Sp} (h : (vB a && vB b) = true) : combM f a b = chM (arM (f a.lo b.lo) (f a.lo b.hi) (f a.hi b.lo) (f a.hi b.hi)) := by
  have hl := arM_le (f a.lo b.lo) (f a.lo b.hi) (f a.hi b.lo) (f a.hi b.hi)
  unfold combM chM
  rw [if_pos h]
  generalize arM (f a.lo b.lo) (f a.lo b.hi) (f a.hi b.lo) (f a.hi b.hi) = m at *
  have e : vB m = (vN m.lo && vN m.hi) := by rw [Bool.eq_iff_iff, vB_iff]; simp only [Bool.and_eq_true, vN_iff]; omega
  rw [e]
theorem bothB {a b : Sp} (ha : vB a = true) (hb : vB b = true) : (vB a && vB b) = true := by rw [ha, hb]; rfl
theorem add_ch {a b : Sp} (ha : vB a = true) (hb : vB b = true) : addM a b = chM ⟨a.lo + b.lo, a.hi + b.hi⟩ := by
  unfold addM; rw [combM_ch (bothB ha hb)]; rw [vB_iff] at ha hb
  have : arM (addF a.lo b.lo) (addF a.lo b.hi) (addF a.hi b.lo) (addF a.hi b.hi) = ⟨a.lo + b.lo, a.hi + b.hi⟩ := by unfold arM addF; congr 1 <;> omega
  rw [this]
theorem sub_ch {a b : Sp} (ha : vB a = true) (hb : vB b = true) : subM a b = chM ⟨a.lo - b.hi, a.hi - b.lo⟩ := by
  unfold subM; rw [combM_ch (bothB ha hb)]; rw [vB_iff] at ha hb
  have : arM (subF a.lo b.lo) (subF a.lo b.hi) (subF a.hi b.lo) (subF a.hi b.hi) = ⟨a.lo - b.hi, a.hi - b.lo⟩ := by unfold arM subF; congr 1 <;> omega
  rw [this]
theorem mul_ch {a b : Sp} (ha : vB a = true) (hb : vB b = true) : mulM a b = chM (arM (mulF a.lo b.lo) (mulF a.lo b.hi) (mulF a.hi b.lo) (mulF a.hi b.hi)) := by
  unfold mulM; rw [combM_ch (bothB ha hb)]
theorem ch_in {s : Sp} (h0 : vN s.lo = true) (h1 : vN s.hi = true) : chM s = (s, 0) := by unfold chM; rw [h0, h1]; rfl
theorem min_ch {a b : Sp} (ha : vB a = true) (hb : vB b = true) : minM a b = (⟨min a.lo b.lo, min a.hi b.hi⟩, 0) := by
  unfold minM; rw [combM_ch (bothB ha hb)]; rw [vB_iff] at ha hb
  have : arM (minF a.lo b.lo) (minF a.lo b.hi) (minF a.hi b.lo) (minF a.hi b.hi) = ⟨min a.lo b.lo, min a.hi b.hi⟩ := by unfold arM minF; congr 1 <;> omega
  rw [this, ch_in] <;> simp only [vN_iff] <;> omega
theorem max_ch {a b : Sp} (ha : vB a = true) (hb : vB b = true) : maxM a b = (⟨max a.lo b.lo, max a.hi b.hi⟩, 0) := by
  unfold maxM; rw [combM_ch (bothB ha hb)]; rw [vB_iff] at ha hb
  have : arM (maxF a.lo b.lo) (maxF a.lo b.hi) (maxF a.hi b.lo) (maxF a.hi b.hi) = ⟨max a.lo b.lo, max a.hi b.hi⟩ := by unfold arM maxF; congr 1 <;> omega
  rw [this, ch_in] <;> simp only [vN_iff] <;> omega
theorem join_ch {a b : Sp} (ha : vB a = true) (hb : vB b = true) : joinM a b = (⟨min a.lo b.lo, max a.hi b.hi⟩, 0) := by
  unfold joinM; rw [if_pos (bothB ha hb)]; rw [vB_iff] at ha hb
  have : arM a.lo a.hi b.lo b.hi = ⟨min a.lo b.lo, max a.hi b.hi⟩ := by unfold arM; congr 1 <;> omega
  rw [this]
theorem div_z {f : Int → Int → Int} {a b : Sp} (ha : vB a = true) (hb : vB b = true) (hz : zB b = true) : divM f a b = (⟨0, 0⟩, 14) := by unfold divM; rw [ha, hb, hz]; rfl
theorem div_nz {f : Int → Int → Int} {a b : Sp} (hz : zB b = false) : divM f a b = combM f a b := by unfold divM; rw [hz]; simp
theorem arM_ok {p q r s : Int} (h0 : vN p = true) (h1 : vN q = true) (h2 : vN r = true) (h3 : vN s = true) : chM (arM p q r s) = (arM p q r s, 0) := by
  rw [vN_iff] at h0 h1 h2 h3
  rcases arM_lo p q r s with h | h | h | h <;> rcases arM_hi p q r s with k | k | k | k <;> (apply ch_in <;> rw [vN_iff] <;> omega)
theorem dv_ch {a b : Sp} (ha : vB a = true) (hb : vB b = true) (hz : zB b = false) : dvM a b = (arM (divF a.lo b.lo) (divF a.lo b.hi) (divF a.hi b.lo) (divF a.hi b.hi), 0) := by
  have k : ∀ x y, (x = a.lo ∨ x = a.hi) → (y = b.lo ∨ y = b.hi) → vN (divF x y) = true := fun x y hx hy => by
    have h1 := vnOf ha hx
    rw [vN_iff] at h1 ⊢
    exact divF_bd h1 (nz hz (by rw [vB_iff] at hb; omega) hy)
  unfold dvM; rw [div_nz hz, combM_ch (bothB ha hb), arM_ok] <;> apply k <;> simp
theorem up_ch {a b : Sp} (ha : vB a = true) (hb : vB b = true) (hz : zB b = false) : upM a b = (arM (upF a.lo b.lo) (upF a.lo b.hi) (upF a.hi b.lo) (upF a.hi b.hi), 0) := by
  have k : ∀ x y, (x = a.lo ∨ x = a.hi) → (y = b.lo ∨ y = b.hi) → vN (upF x y) = true := fun x y hx hy => by
    have h1 := vnOf ha hx
    rw [vN_iff] at h1 ⊢
    exact upF_bd h1 (nz hz (by rw [vB_iff] at hb; omega) hy)
  unfold upM; rw [div_nz hz, combM_ch (bothB ha hb), arM_ok] <;> apply k <;> simp
theorem bad_m {f : Int → Int → Int} {a b : Sp} (h : (vB a && vB b) = false) : combM f a b = (⟨0, 0⟩, 1) ∧ divM f a b = (⟨0, 0⟩, 1) ∧ joinM a b = (⟨0, 0⟩, 1) := by
  unfold divM combM joinM; rw [h]; simp
set_option maxHeartbeats 1000000 in
set_option maxRecDepth 100000 in
theorem checked_any (s : Sp) (w : World) : Calls Try.prog 39 #[sv s] w (VV (rv (chM s)) w) := by
  have h0 := Lib.hid (Value_any s.lo)
  have h1 := Lib.hid (Value_any s.hi)
  have hm : chM s = if (vN s.lo && vN s.hi) = true then (s, 0) else (⟨0, 0⟩, 3) := rfl
  rw [hm]
  clear hm
  rcases e0 : vN s.lo with _ | _ <;> rcases e1 : vN s.hi with _ | _ <;> rw [e0] at h0 <;> rw [e1] at h1 <;> clear e0 e1
  all_goals
    go_enter Try.func39, Try.ntmps39
    go_wp2_with (first | (go_at_call_of 35 (Value.int .i64 s.lo); refine (h0.out _).mono ?_; rintro e w1 ⟨rfl, rfl⟩) | (go_at_call 35; refine (h1.out _).mono ?_; rintro e w1 ⟨rfl, rfl⟩))
  · exact bodyPost_ret (v := rv (⟨0, 0⟩, 3)) (by simp [results, Try.results39, go_sem]) rfl ⟨rfl, bAlloc (bAlloc (Below.refl _ _))⟩
  · exact bodyPost_ret (v := rv (⟨0, 0⟩, 3)) (by simp [results, Try.results39, go_sem]) rfl ⟨rfl, bAlloc (bAlloc (Below.refl _ _))⟩
  · exact bodyPost_ret (v := rv (⟨0, 0⟩, 3)) (by simp [results, Try.results39, go_sem]) rfl ⟨rfl, bAlloc (bAlloc (Below.refl _ _))⟩
  · exact bodyPost_ret (v := rv (s, 0)) (by simp [results, Try.results39, go_sem]) rfl ⟨rfl, bAlloc (bAlloc (Below.refl _ _))⟩
set_option maxHeartbeats 1000000 in
set_option maxRecDepth 100000 in
theorem Contains_any (s : Sp) (w : World) : Calls Try.prog 45 #[sv s, .int .i64 0] w (BB (zB s) w) := by
  have hb := Lib.hid ((Below.refl w.heap.size w).alloc (Nat.le_refl _) (.cells #[.int .i64 s.lo, .int .i64 s.hi] 23))
  go_enter Try.func45, Try.ntmps45
  go_wp2
  all_goals
    go_ret
    refine ⟨ret_bool ?_, hb.out⟩
    rw [Bool.eq_iff_iff, zB_iff]
    simp [*]
  all_goals omega
set_option maxHeartbeats 1000000 in
set_option maxRecDepth 100000 in
theorem RAdd_any (a b : Sp) (w : World) : Calls Try.prog 12 #[sv a, sv b] w (VV (rv (addM a b)) w) := by
  have hbad : (vB a && vB b) = false → addM a b = (⟨0, 0⟩, 1) := fun h => (bad_m (f := addF) h).1
  have hVa := Lib.hid (RValid_any a)
  have hVb := Lib.hid (RValid_any b)
  rcases ha : vB a with _ | _
  · rw [hbad (by rw [ha]; rfl)]
    rw [ha] at hVa
    clear hbad ha hVb
    go_enter Try.func12, Try.ntmps12
    go_wp2_with (go_at_call_of 28 (Value.agg #[.int .i64 a.lo, .int .i64 a.hi]); refine (hVa.out _).mono ?_; rintro e w1 ⟨rfl, hb1⟩; obtain ⟨HA, HB, HR⟩ := three hb1; have HA := Lib.hid HA; have HB := Lib.hid HB; have HR := Lib.hid HR; have hl := blkLt HR.out; obtain ⟨⟨a0, a1⟩, -⟩ := cells2 HA.out; obtain ⟨⟨b0, b1⟩, -⟩ := cells2 HB.out; obtain ⟨⟨r0, r1⟩, r2, r3⟩ := cells2 HR.out; have hb1 := Lib.hid hb1; have HBW := Lib.hid (bCall (bAlloc (bAlloc (bAlloc (Below.refl _ _)))) hb1.out))
    exact bodyPost_ret (v := rv (⟨0, 0⟩, 1)) (by simp [results, Try.results12, go_sem, (res2 HR.out).2.1, (res2 HR.out).2.2]) rfl ⟨rfl, below2 HBW.out (by omega)⟩
  rcases hb : vB b with _ | _
  · rw [hbad (by rw [ha, hb]; rfl)]
    rw [ha] at hVa
    rw [hb] at hVb
    clear hbad ha hb
    go_enter Try.func12, Try.ntmps12
    go_wp2_with (first
      | (go_at_call_of 28 (Value.agg #[.int .i64 a.lo, .int .i64 a.hi]); refine (hVa.out _).mono ?_; rintro e w1 ⟨rfl, hb1⟩; obtain ⟨HA, HB, HR⟩ := three hb1; have HA := Lib.hid HA; have HB := Lib.hid HB; have HR := Lib.hid HR; have hl := blkLt HR.out; obtain ⟨⟨a0, a1⟩, -⟩ := cells2 HA.out; obtain ⟨⟨b0, b1⟩, -⟩ := cells2 HB.out; obtain ⟨⟨r0, r1⟩, r2, r3⟩ := cells2 HR.out; have hb1 := Lib.hid hb1; have HBW := Lib.hid (bCall (bAlloc (bAlloc (bAlloc (Below.refl _ _)))) hb1.out))
      | (go_at_call 28; refine (hVb.out _).mono ?_; rintro e w2 ⟨rfl, hb2⟩; have HA := Lib.hid (moveC hb2 HA.out); have HB := Lib.hid (moveC hb2 HB.out); have HR := Lib.hid (moveC hb2 HR.out); have hl := blkLt HR.out; obtain ⟨⟨a0, a1⟩, -⟩ := cells2 HA.out; obtain ⟨⟨b0, b1⟩, -⟩ := cells2 HB.out; obtain ⟨⟨r0, r1⟩, r2, r3⟩ := cells2 HR.out; have HBW := Lib.hid (bCall HBW.out hb2); clear hb2))
    exact bodyPost_ret (v := rv (⟨0, 0⟩, 1)) (by simp [results, Try.results12, go_sem, (res2 HR.out).2.1, (res2 HR.out).2.2]) rfl ⟨rfl, below2 HBW.out (by omega)⟩
  rw [ha] at hVa
  rw [hb] at hVb
  clear hbad
  have Ha := vB_iff.1 ha
  have Hb := vB_iff.1 hb
  rw [add_ch ha hb]
  have hC := Lib.hid (checked_any ⟨a.lo + b.lo, a.hi + b.hi⟩)
  have q0 : IntKind.i64.wrap (a.lo + b.lo) = a.lo + b.lo := IntWalk.i64_in _ (by omega)
  have q1 : IntKind.i64.wrap (a.hi + b.hi) = a.hi + b.hi := IntWalk.i64_in _ (by omega)
  clear ha hb Ha Hb
  generalize chM ⟨a.lo + b.lo, a.hi + b.hi⟩ = m at *
  obtain ⟨⟨ml, mh⟩, me⟩ := m
  go_enter Try.func12, Try.ntmps12
  go_wp2_with (first
    | (go_at_call_of 28 (Value.agg #[.int .i64 a.lo, .int .i64 a.hi]); refine (hVa.out _).mono ?_; rintro e w1 ⟨rfl, hb1⟩; obtain ⟨HA, HB, HR⟩ := three hb1; have HA := Lib.hid HA; have HB := Lib.hid HB; have HR := Lib.hid HR; have hl := blkLt HR.out; obtain ⟨⟨a0, a1⟩, -⟩ := cells2 HA.out; obtain ⟨⟨b0, b1⟩, -⟩ := cells2 HB.out; obtain ⟨⟨r0, r1⟩, r2, r3⟩ := cells2 HR.out; have hb1 := Lib.hid hb1; have HBW := Lib.hid (bCall (bAlloc (bAlloc (bAlloc (Below.refl _ _)))) hb1.out))
    | (go_at_call 28; refine (hVb.out _).mono ?_; rintro e w2 ⟨rfl, hb2⟩; have HA := Lib.hid (moveC hb2 HA.out); have HB := Lib.hid (moveC hb2 HB.out); have HR := Lib.hid (moveC hb2 HR.out); have hl := blkLt HR.out; obtain ⟨⟨a0, a1⟩, -⟩ := cells2 HA.out; obtain ⟨⟨b0, b1⟩, -⟩ := cells2 HB.out; obtain ⟨⟨r0, r1⟩, r2, r3⟩ := cells2 HR.out; have HBW := Lib.hid (bCall HBW.out hb2); clear hb2)
    | (go_at_call 39; refine (hC.out _).mono ?_; rintro e w3 ⟨rfl, hb3⟩; have HA := Lib.hid (moveC hb3 HA.out); have HB := Lib.hid (moveC hb3 HB.out); have HR := Lib.hid (moveC hb3 HR.out); have hl := blkLt HR.out; obtain ⟨⟨a0, a1⟩, -⟩ := cells2 HA.out; obtain ⟨⟨b0, b1⟩, -⟩ := cells2 HB.out; obtain ⟨⟨r0, r1⟩, r2, r3⟩ := cells2 HR.out; have HBW := Lib.hid (bCall HBW.out hb3); clear hb3))
  exact bodyPost_ret (v := rv (⟨ml, mh⟩, me)) (by simp [results, Try.results12, go_sem, (res2 HR.out).2.1, (res2 HR.out).2.2]) rfl ⟨rfl, below2 HBW.out (by omega)⟩
set_option maxHeartbeats 1000000 in
set_option maxRecDepth 100000 in
theorem RSub_any (a b : Sp) (w : World) : Calls Try.prog 14 #[sv a, sv b] w (VV (rv (subM a b)) w) := by
  have hbad : (vB a && vB b) = false → subM a b = (⟨0, 0⟩, 1) := fun h => (bad_m (f := subF) h).1
  have hVa := Lib.hid (RValid_any a)
  have hVb := Lib.hid (RValid_any b)
  rcases ha : vB a with _ | _
  · rw [hbad (by rw [ha]; rfl)]
    rw [ha] at hVa
    clear hbad ha hVb
    go_enter Try.func14, Try.ntmps14
    go_wp2_with (go_at_call_of 28 (Value.agg #[.int .i64 a.lo, .int .i64 a.hi]); refine (hVa.out _).mono ?_; rintro e w1 ⟨rfl, hb1⟩; obtain ⟨HA, HB, HR⟩ := three hb1; have HA := Lib.hid HA; have HB := Lib.hid HB; have HR := Lib.hid HR; have hl := blkLt HR.out; obtain ⟨⟨a0, a1⟩, -⟩ := cells2 HA.out; obtain ⟨⟨b0, b1⟩, -⟩ := cells2 HB.out; obtain ⟨⟨r0, r1⟩, r2, r3⟩ := cells2 HR.out; have hb1 := Lib.hid hb1; have HBW := Lib.hid (bCall (bAlloc (bAlloc (bAlloc (Below.refl _ _)))) hb1.out))
    exact bodyPost_ret (v := rv (⟨0, 0⟩, 1)) (by simp [results, Try.results14, go_sem, (res2 HR.out).2.1, (res2 HR.out).2.2]) rfl ⟨rfl, below2 HBW.out (by omega)⟩
  rcases hb : vB b with _ | _
  · rw [hbad (by rw [ha, hb]; rfl)]
    rw [ha] at hVa
    rw [hb] at hVb
    clear hbad ha hb
    go_enter Try.func14, Try.ntmps14
    go_wp2_with (first
      | (go_at_call_of 28 (Value.agg #[.int .i64 a.lo, .int .i64 a.hi]); refine (hVa.out _).mono ?_; rintro e w1 ⟨rfl, hb1⟩; obtain ⟨HA, HB, HR⟩ := three hb1; have HA := Lib.hid HA; have HB := Lib.hid HB; have HR := Lib.hid HR; have hl := blkLt HR.out; obtain ⟨⟨a0, a1⟩, -⟩ := cells2 HA.out; obtain ⟨⟨b0, b1⟩, -⟩ := cells2 HB.out; obtain ⟨⟨r0, r1⟩, r2, r3⟩ := cells2 HR.out; have hb1 := Lib.hid hb1; have HBW := Lib.hid (bCall (bAlloc (bAlloc (bAlloc (Below.refl _ _)))) hb1.out))
      | (go_at_call 28; refine (hVb.out _).mono ?_; rintro e w2 ⟨rfl, hb2⟩; have HA := Lib.hid (moveC hb2 HA.out); have HB := Lib.hid (moveC hb2 HB.out); have HR := Lib.hid (moveC hb2 HR.out); have hl := blkLt HR.out; obtain ⟨⟨a0, a1⟩, -⟩ := cells2 HA.out; obtain ⟨⟨b0, b1⟩, -⟩ := cells2 HB.out; obtain ⟨⟨r0, r1⟩, r2, r3⟩ := cells2 HR.out; have HBW := Lib.hid (bCall HBW.out hb2); clear hb2))
    exact bodyPost_ret (v := rv (⟨0, 0⟩, 1)) (by simp [results, Try.results14, go_sem, (res2 HR.out).2.1, (res2 HR.out).2.2]) rfl ⟨rfl, below2 HBW.out (by omega)⟩
  rw [ha] at hVa
  rw [hb] at hVb
  clear hbad
  have Ha := vB_iff.1 ha
  have Hb := vB_iff.1 hb
  rw [sub_ch ha hb]
  have hC := Lib.hid (checked_any ⟨a.lo - b.hi, a.hi - b.lo⟩)
  have q0 : IntKind.i64.wrap (a.lo - b.hi) = a.lo - b.hi := IntWalk.i64_in _ (by omega)
  have q1 : IntKind.i64.wrap (a.hi - b.lo) = a.hi - b.lo := IntWalk.i64_in _ (by omega)
  clear ha hb Ha Hb
  generalize chM ⟨a.lo - b.hi, a.hi - b.lo⟩ = m at *
  obtain ⟨⟨ml, mh⟩, me⟩ := m
  go_enter Try.func14, Try.ntmps14
  go_wp2_with (first
    | (go_at_call_of 28 (Value.agg #[.int .i64 a.lo, .int .i64 a.hi]); refine (hVa.out _).mono ?_; rintro e w1 ⟨rfl, hb1⟩; obtain ⟨HA, HB, HR⟩ := three hb1; have HA := Lib.hid HA; have HB := Lib.hid HB; have HR := Lib.hid HR; have hl := blkLt HR.out; obtain ⟨⟨a0, a1⟩, -⟩ := cells2 HA.out; obtain ⟨⟨b0, b1⟩, -⟩ := cells2 HB.out; obtain ⟨⟨r0, r1⟩, r2, r3⟩ := cells2 HR.out; have hb1 := Lib.hid hb1; have HBW := Lib.hid (bCall (bAlloc (bAlloc (bAlloc (Below.refl _ _)))) hb1.out))
    | (go_at_call 28; refine (hVb.out _).mono ?_; rintro e w2 ⟨rfl, hb2⟩; have HA := Lib.hid (moveC hb2 HA.out); have HB := Lib.hid (moveC hb2 HB.out); have HR := Lib.hid (moveC hb2 HR.out); have hl := blkLt HR.out; obtain ⟨⟨a0, a1⟩, -⟩ := cells2 HA.out; obtain ⟨⟨b0, b1⟩, -⟩ := cells2 HB.out; obtain ⟨⟨r0, r1⟩, r2, r3⟩ := cells2 HR.out; have HBW := Lib.hid (bCall HBW.out hb2); clear hb2)
    | (go_at_call 39; refine (hC.out _).mono ?_; rintro e w3 ⟨rfl, hb3⟩; have HA := Lib.hid (moveC hb3 HA.out); have HB := Lib.hid (moveC hb3 HB.out); have HR := Lib.hid (moveC hb3 HR.out); have hl := blkLt HR.out; obtain ⟨⟨a0, a1⟩, -⟩ := cells2 HA.out; obtain ⟨⟨b0, b1⟩, -⟩ := cells2 HB.out; obtain ⟨⟨r0, r1⟩, r2, r3⟩ := cells2 HR.out; have HBW := Lib.hid (bCall HBW.out hb3); clear hb3))
  exact bodyPost_ret (v := rv (⟨ml, mh⟩, me)) (by simp [results, Try.results14, go_sem, (res2 HR.out).2.1, (res2 HR.out).2.2]) rfl ⟨rfl, below2 HBW.out (by omega)⟩
set_option maxHeartbeats 1000000 in
set_option maxRecDepth 100000 in
theorem RMul_any (a b : Sp) (w : World) : Calls Try.prog 16 #[sv a, sv b] w (VV (rv (mulM a b)) w) := by
  have hbad : (vB a && vB b) = false → mulM a b = (⟨0, 0⟩, 1) := fun h => (bad_m (f := mulF) h).1
  have hVa := Lib.hid (RValid_any a)
  have hVb := Lib.hid (RValid_any b)
  rcases ha : vB a with _ | _
  · rw [hbad (by rw [ha]; rfl)]
    rw [ha] at hVa
    clear hbad ha hVb
    go_enter Try.func16, Try.ntmps16
    go_wp2_with (go_at_call_of 28 (Value.agg #[.int .i64 a.lo, .int .i64 a.hi]); refine (hVa.out _).mono ?_; rintro e w1 ⟨rfl, hb1⟩; obtain ⟨HA, HB, HR⟩ := three hb1; have HA := Lib.hid HA; have HB := Lib.hid HB; have HR := Lib.hid HR; have hl := blkLt HR.out; obtain ⟨⟨a0, a1⟩, -⟩ := cells2 HA.out; obtain ⟨⟨b0, b1⟩, -⟩ := cells2 HB.out; obtain ⟨⟨r0, r1⟩, r2, r3⟩ := cells2 HR.out; have hb1 := Lib.hid hb1; have HBW := Lib.hid (bCall (bAlloc (bAlloc (bAlloc (Below.refl _ _)))) hb1.out))
    exact bodyPost_ret (v := rv (⟨0, 0⟩, 1)) (by simp [results, Try.results16, go_sem, (res2 HR.out).2.1, (res2 HR.out).2.2]) rfl ⟨rfl, below2 HBW.out (by omega)⟩
  rcases hb : vB b with _ | _
  · rw [hbad (by rw [ha, hb]; rfl)]
    rw [ha] at hVa
    rw [hb] at hVb
    clear hbad ha hb
    go_enter Try.func16, Try.ntmps16
    go_wp2_with (first
      | (go_at_call_of 28 (Value.agg #[.int .i64 a.lo, .int .i64 a.hi]); refine (hVa.out _).mono ?_; rintro e w1 ⟨rfl, hb1⟩; obtain ⟨HA, HB, HR⟩ := three hb1; have HA := Lib.hid HA; have HB := Lib.hid HB; have HR := Lib.hid HR; have hl := blkLt HR.out; obtain ⟨⟨a0, a1⟩, -⟩ := cells2 HA.out; obtain ⟨⟨b0, b1⟩, -⟩ := cells2 HB.out; obtain ⟨⟨r0, r1⟩, r2, r3⟩ := cells2 HR.out; have hb1 := Lib.hid hb1; have HBW := Lib.hid (bCall (bAlloc (bAlloc (bAlloc (Below.refl _ _)))) hb1.out))
      | (go_at_call 28; refine (hVb.out _).mono ?_; rintro e w2 ⟨rfl, hb2⟩; have HA := Lib.hid (moveC hb2 HA.out); have HB := Lib.hid (moveC hb2 HB.out); have HR := Lib.hid (moveC hb2 HR.out); have hl := blkLt HR.out; obtain ⟨⟨a0, a1⟩, -⟩ := cells2 HA.out; obtain ⟨⟨b0, b1⟩, -⟩ := cells2 HB.out; obtain ⟨⟨r0, r1⟩, r2, r3⟩ := cells2 HR.out; have HBW := Lib.hid (bCall HBW.out hb2); clear hb2))
    exact bodyPost_ret (v := rv (⟨0, 0⟩, 1)) (by simp [results, Try.results16, go_sem, (res2 HR.out).2.1, (res2 HR.out).2.2]) rfl ⟨rfl, below2 HBW.out (by omega)⟩
  rw [ha] at hVa
  rw [hb] at hVb
  clear hbad
  have Ha := vB_iff.1 ha
  have Hb := vB_iff.1 hb
  rw [mul_ch ha hb]
  have h0 := Lib.hid (mulR a.lo b.lo (vnOf ha (.inl rfl)) (vnOf hb (.inl rfl)))
  have h1 := Lib.hid (mulR a.lo b.hi (vnOf ha (.inl rfl)) (vnOf hb (.inr rfl)))
  have h2 := Lib.hid (mulR a.hi b.lo (vnOf ha (.inr rfl)) (vnOf hb (.inl rfl)))
  have h3 := Lib.hid (mulR a.hi b.hi (vnOf ha (.inr rfl)) (vnOf hb (.inr rfl)))
  generalize mulF a.lo b.lo = p at *
  generalize mulF a.lo b.hi = q at *
  generalize mulF a.hi b.lo = r at *
  generalize mulF a.hi b.hi = s at *
  have hL := Lib.hid (Least_any p q r s)
  have hC := Lib.hid (checked_any (arM p q r s))
  clear ha hb Ha Hb
  generalize chM (arM p q r s) = m at *
  generalize arM p q r s = am at *
  obtain ⟨⟨ml, mh⟩, me⟩ := m
  go_enter Try.func16, Try.ntmps16
  go_wp2_with (first
    | (go_at_call_of 28 (Value.agg #[.int .i64 a.lo, .int .i64 a.hi]); refine (hVa.out _).mono ?_; rintro e w1 ⟨rfl, hb1⟩; obtain ⟨HA, HB, HR⟩ := three hb1; have HA := Lib.hid HA; have HB := Lib.hid HB; have HR := Lib.hid HR; have hl := blkLt HR.out; obtain ⟨⟨a0, a1⟩, -⟩ := cells2 HA.out; obtain ⟨⟨b0, b1⟩, -⟩ := cells2 HB.out; obtain ⟨⟨r0, r1⟩, r2, r3⟩ := cells2 HR.out; have hb1 := Lib.hid hb1; have HBW := Lib.hid (bCall (bAlloc (bAlloc (bAlloc (Below.refl _ _)))) hb1.out))
    | (go_at_call 28; refine (hVb.out _).mono ?_; rintro e w2 ⟨rfl, hb2⟩; have HA := Lib.hid (moveC hb2 HA.out); have HB := Lib.hid (moveC hb2 HB.out); have HR := Lib.hid (moveC hb2 HR.out); have hl := blkLt HR.out; obtain ⟨⟨a0, a1⟩, -⟩ := cells2 HA.out; obtain ⟨⟨b0, b1⟩, -⟩ := cells2 HB.out; obtain ⟨⟨r0, r1⟩, r2, r3⟩ := cells2 HR.out; have HBW := Lib.hid (bCall HBW.out hb2); clear hb2))
  go_region_held3 (fun w' => w'.cell? ⟨w.heap.size, 0, none⟩ = some (.int .i64 a.lo) ∧ w'.cell? ⟨w.heap.size, 1, none⟩ = some (.int .i64 a.hi) ∧ w'.cell? ⟨w.heap.size + 1, 0, none⟩ = some (.int .i64 b.lo) ∧ w'.cell? ⟨w.heap.size + 1, 1, none⟩ = some (.int .i64 b.hi))
    (first | (with_reducible exact ⟨a0, a1, b0, b1⟩) | (with_reducible exact ⟨(far2 (by omega)).trans a0, (far2 (by omega)).trans a1, (far2 (by omega)).trans b0, (far2 (by omega)).trans b1⟩) | go_keep)
    (first
    | (go_at_call 42; refine (hL.out _).mono ?_; rintro e w3 ⟨rfl, hb3⟩; have hb3 := bdrew hb3; have HA := Lib.hid (moveC hb3 HA.out); have HB := Lib.hid (moveC hb3 HB.out); have HR := Lib.hid (moveC hb3 HR.out); have hl := blkLt HR.out; obtain ⟨⟨a0, a1⟩, -⟩ := cells2 HA.out; obtain ⟨⟨b0, b1⟩, -⟩ := cells2 HB.out; obtain ⟨⟨r0, r1⟩, r2, r3⟩ := cells2 HR.out; have HBW := Lib.hid (bCall HBW.out hb3); clear hb3)
    | (go_at_call 39; refine (hC.out _).mono ?_; rintro e w4 ⟨rfl, hb4⟩; have HA := Lib.hid (moveC hb4 HA.out); have HB := Lib.hid (moveC hb4 HB.out); have HR := Lib.hid (moveC hb4 HR.out); have hl := blkLt HR.out; obtain ⟨⟨a0, a1⟩, -⟩ := cells2 HA.out; obtain ⟨⟨b0, b1⟩, -⟩ := cells2 HB.out; obtain ⟨⟨r0, r1⟩, r2, r3⟩ := cells2 HR.out; have HBW := Lib.hid (bCall HBW.out hb4); clear hb4)
    | (go_at_call_of 36 (Value.int .i64 a.lo); first | ((with_reducible refine (h0.out _).mono ?_); rintro e w5 ⟨rfl, rfl⟩) | ((with_reducible refine (h1.out _).mono ?_); rintro e w5 ⟨rfl, rfl⟩))
    | (go_at_call 36; first | ((with_reducible refine (h2.out _).mono ?_); rintro e w5 ⟨rfl, rfl⟩) | ((with_reducible refine (h3.out _).mono ?_); rintro e w5 ⟨rfl, rfl⟩)))
  all_goals go_wp2
  all_goals exact bodyPost_ret (v := rv (⟨ml, mh⟩, me)) (by simp [results, Try.results16, go_sem, (res2 HR.out).2.1, (res2 HR.out).2.2]) rfl ⟨rfl, below2 HBW.out (by omega)⟩
set_option maxHeartbeats 1000000 in
set_option maxRecDepth 100000 in
theorem RDiv_any (a b : Sp) (w : World) : Calls Try.prog 18 #[sv a, sv b] w (VV (rv (dvM a b)) w) := by
  have hbad : (vB a && vB b) = false → dvM a b = (⟨0, 0⟩, 1) := fun h => (bad_m (f := divF) h).2.1
  have hVa := Lib.hid (RValid_any a)
  have hVb := Lib.hid (RValid_any b)
  rcases ha : vB a with _ | _
  · rw [hbad (by rw [ha]; rfl)]
    rw [ha] at hVa
    clear hbad ha hVb
    go_enter Try.func18, Try.ntmps18
    go_wp2_with (go_at_call_of 28 (Value.agg #[.int .i64 a.lo, .int .i64 a.hi]); refine (hVa.out _).mono ?_; rintro e w1 ⟨rfl, hb1⟩; obtain ⟨HA, HB, HR⟩ := three hb1; have HA := Lib.hid HA; have HB := Lib.hid HB; have HR := Lib.hid HR; have hl := blkLt HR.out; obtain ⟨⟨a0, a1⟩, -⟩ := cells2 HA.out; obtain ⟨⟨b0, b1⟩, -⟩ := cells2 HB.out; obtain ⟨⟨r0, r1⟩, r2, r3⟩ := cells2 HR.out; have hb1 := Lib.hid hb1; have HBW := Lib.hid (bCall (bAlloc (bAlloc (bAlloc (Below.refl _ _)))) hb1.out))
    exact bodyPost_ret (v := rv (⟨0, 0⟩, 1)) (by simp [results, Try.results18, go_sem, (res2 HR.out).2.1, (res2 HR.out).2.2]) rfl ⟨rfl, below2 HBW.out (by omega)⟩
  rcases hb : vB b with _ | _
  · rw [hbad (by rw [ha, hb]; rfl)]
    rw [ha] at hVa
    rw [hb] at hVb
    clear hbad ha hb
    go_enter Try.func18, Try.ntmps18
    go_wp2_with (first
      | (go_at_call_of 28 (Value.agg #[.int .i64 a.lo, .int .i64 a.hi]); refine (hVa.out _).mono ?_; rintro e w1 ⟨rfl, hb1⟩; obtain ⟨HA, HB, HR⟩ := three hb1; have HA := Lib.hid HA; have HB := Lib.hid HB; have HR := Lib.hid HR; have hl := blkLt HR.out; obtain ⟨⟨a0, a1⟩, -⟩ := cells2 HA.out; obtain ⟨⟨b0, b1⟩, -⟩ := cells2 HB.out; obtain ⟨⟨r0, r1⟩, r2, r3⟩ := cells2 HR.out; have hb1 := Lib.hid hb1; have HBW := Lib.hid (bCall (bAlloc (bAlloc (bAlloc (Below.refl _ _)))) hb1.out))
      | (go_at_call 28; refine (hVb.out _).mono ?_; rintro e w2 ⟨rfl, hb2⟩; have HA := Lib.hid (moveC hb2 HA.out); have HB := Lib.hid (moveC hb2 HB.out); have HR := Lib.hid (moveC hb2 HR.out); have hl := blkLt HR.out; obtain ⟨⟨a0, a1⟩, -⟩ := cells2 HA.out; obtain ⟨⟨b0, b1⟩, -⟩ := cells2 HB.out; obtain ⟨⟨r0, r1⟩, r2, r3⟩ := cells2 HR.out; have HBW := Lib.hid (bCall HBW.out hb2); clear hb2))
    exact bodyPost_ret (v := rv (⟨0, 0⟩, 1)) (by simp [results, Try.results18, go_sem, (res2 HR.out).2.1, (res2 HR.out).2.2]) rfl ⟨rfl, below2 HBW.out (by omega)⟩
  rw [ha] at hVa
  rw [hb] at hVb
  clear hbad
  have Ha := vB_iff.1 ha
  have Hb := vB_iff.1 hb
  rcases hz : zB b with _ | _
  · rw [dv_ch ha hb hz]
    have h0 := Lib.hid (downR a.lo b.lo (fitOf ha (.inl rfl)) (fitOf hb (.inl rfl)) (nz hz (by omega) (.inl rfl)))
    have h1 := Lib.hid (downR a.lo b.hi (fitOf ha (.inl rfl)) (fitOf hb (.inr rfl)) (nz hz (by omega) (.inr rfl)))
    have h2 := Lib.hid (downR a.hi b.lo (fitOf ha (.inr rfl)) (fitOf hb (.inl rfl)) (nz hz (by omega) (.inl rfl)))
    have h3 := Lib.hid (downR a.hi b.hi (fitOf ha (.inr rfl)) (fitOf hb (.inr rfl)) (nz hz (by omega) (.inr rfl)))
    generalize divF a.lo b.lo = p at *
    generalize divF a.lo b.hi = q at *
    generalize divF a.hi b.lo = r at *
    generalize divF a.hi b.hi = s at *
    have hL := Lib.hid (Least_any p q r s)
    have hZ := Lib.hid (Contains_any b)
    rw [hz] at hZ
    clear ha hb Ha Hb hz
    generalize arM p q r s = m at *
    obtain ⟨ml, mh⟩ := m
    go_enter Try.func18, Try.ntmps18
    go_wp2_with (first
      | (go_at_call_of 28 (Value.agg #[.int .i64 a.lo, .int .i64 a.hi]); refine (hVa.out _).mono ?_; rintro e w1 ⟨rfl, hb1⟩; obtain ⟨HA, HB, HR⟩ := three hb1; have HA := Lib.hid HA; have HB := Lib.hid HB; have HR := Lib.hid HR; have hl := blkLt HR.out; obtain ⟨⟨a0, a1⟩, -⟩ := cells2 HA.out; obtain ⟨⟨b0, b1⟩, -⟩ := cells2 HB.out; obtain ⟨⟨r0, r1⟩, r2, r3⟩ := cells2 HR.out; have hb1 := Lib.hid hb1; have HBW := Lib.hid (bCall (bAlloc (bAlloc (bAlloc (Below.refl _ _)))) hb1.out))
      | (go_at_call 28; refine (hVb.out _).mono ?_; rintro e w2 ⟨rfl, hb2⟩; have HA := Lib.hid (moveC hb2 HA.out); have HB := Lib.hid (moveC hb2 HB.out); have HR := Lib.hid (moveC hb2 HR.out); have hl := blkLt HR.out; obtain ⟨⟨a0, a1⟩, -⟩ := cells2 HA.out; obtain ⟨⟨b0, b1⟩, -⟩ := cells2 HB.out; obtain ⟨⟨r0, r1⟩, r2, r3⟩ := cells2 HR.out; have HBW := Lib.hid (bCall HBW.out hb2); clear hb2)
      | (go_at_call 45; refine (hZ.out _).mono ?_; rintro e w3 ⟨rfl, hb3⟩; have HA := Lib.hid (moveC hb3 HA.out); have HB := Lib.hid (moveC hb3 HB.out); have HR := Lib.hid (moveC hb3 HR.out); have hl := blkLt HR.out; obtain ⟨⟨a0, a1⟩, -⟩ := cells2 HA.out; obtain ⟨⟨b0, b1⟩, -⟩ := cells2 HB.out; obtain ⟨⟨r0, r1⟩, r2, r3⟩ := cells2 HR.out; have HBW := Lib.hid (bCall HBW.out hb3); clear hb3))
    go_region_held3 (fun w' => w'.cell? ⟨w.heap.size, 0, none⟩ = some (.int .i64 a.lo) ∧ w'.cell? ⟨w.heap.size, 1, none⟩ = some (.int .i64 a.hi) ∧ w'.cell? ⟨w.heap.size + 1, 0, none⟩ = some (.int .i64 b.lo) ∧ w'.cell? ⟨w.heap.size + 1, 1, none⟩ = some (.int .i64 b.hi))
      (first | (with_reducible exact ⟨a0, a1, b0, b1⟩) | (with_reducible exact ⟨(far2 (by omega)).trans a0, (far2 (by omega)).trans a1, (far2 (by omega)).trans b0, (far2 (by omega)).trans b1⟩) | go_keep)
      (first
      | (go_at_call 42; refine (hL.out _).mono ?_; rintro e w4 ⟨rfl, hb4⟩; have hb4 := bdrew hb4; have HA := Lib.hid (moveC hb4 HA.out); have HB := Lib.hid (moveC hb4 HB.out); have HR := Lib.hid (moveC hb4 HR.out); have hl := blkLt HR.out; obtain ⟨⟨a0, a1⟩, -⟩ := cells2 HA.out; obtain ⟨⟨b0, b1⟩, -⟩ := cells2 HB.out; obtain ⟨⟨r0, r1⟩, r2, r3⟩ := cells2 HR.out; have HBW := Lib.hid (bCall HBW.out hb4); clear hb4)
      | (go_at_call_of 46 (Value.int .i64 a.lo); first | ((with_reducible refine (h0.out _).mono ?_); rintro e w5 ⟨rfl, rfl⟩) | ((with_reducible refine (h1.out _).mono ?_); rintro e w5 ⟨rfl, rfl⟩))
      | (go_at_call 46; first | ((with_reducible refine (h2.out _).mono ?_); rintro e w5 ⟨rfl, rfl⟩) | ((with_reducible refine (h3.out _).mono ?_); rintro e w5 ⟨rfl, rfl⟩)))
    all_goals go_wp2
    all_goals exact bodyPost_ret (v := rv (⟨ml, mh⟩, 0)) (by simp [results, Try.results18, go_sem, (res2 HR.out).2.1, (res2 HR.out).2.2]) rfl ⟨rfl, below2 HBW.out (by omega)⟩
  · rw [show dvM a b = (⟨0, 0⟩, 14) from div_z ha hb hz]
    have hZ := Lib.hid (Contains_any b)
    rw [hz] at hZ
    clear ha hb Ha Hb hz
    go_enter Try.func18, Try.ntmps18
    go_wp2_with (first
      | (go_at_call_of 28 (Value.agg #[.int .i64 a.lo, .int .i64 a.hi]); refine (hVa.out _).mono ?_; rintro e w1 ⟨rfl, hb1⟩; obtain ⟨HA, HB, HR⟩ := three hb1; have HA := Lib.hid HA; have HB := Lib.hid HB; have HR := Lib.hid HR; have hl := blkLt HR.out; obtain ⟨⟨a0, a1⟩, -⟩ := cells2 HA.out; obtain ⟨⟨b0, b1⟩, -⟩ := cells2 HB.out; obtain ⟨⟨r0, r1⟩, r2, r3⟩ := cells2 HR.out; have hb1 := Lib.hid hb1; have HBW := Lib.hid (bCall (bAlloc (bAlloc (bAlloc (Below.refl _ _)))) hb1.out))
      | (go_at_call 28; refine (hVb.out _).mono ?_; rintro e w2 ⟨rfl, hb2⟩; have HA := Lib.hid (moveC hb2 HA.out); have HB := Lib.hid (moveC hb2 HB.out); have HR := Lib.hid (moveC hb2 HR.out); have hl := blkLt HR.out; obtain ⟨⟨a0, a1⟩, -⟩ := cells2 HA.out; obtain ⟨⟨b0, b1⟩, -⟩ := cells2 HB.out; obtain ⟨⟨r0, r1⟩, r2, r3⟩ := cells2 HR.out; have HBW := Lib.hid (bCall HBW.out hb2); clear hb2)
      | (go_at_call 45; refine (hZ.out _).mono ?_; rintro e w3 ⟨rfl, hb3⟩; have HA := Lib.hid (moveC hb3 HA.out); have HB := Lib.hid (moveC hb3 HB.out); have HR := Lib.hid (moveC hb3 HR.out); have hl := blkLt HR.out; obtain ⟨⟨a0, a1⟩, -⟩ := cells2 HA.out; obtain ⟨⟨b0, b1⟩, -⟩ := cells2 HB.out; obtain ⟨⟨r0, r1⟩, r2, r3⟩ := cells2 HR.out; have HBW := Lib.hid (bCall HBW.out hb3); clear hb3))
    exact bodyPost_ret (v := rv (⟨0, 0⟩, 14)) (by simp [results, Try.results18, go_sem, (res2 HR.out).2.1, (res2 HR.out).2.2]) rfl ⟨rfl, below2 HBW.out (by omega)⟩
set_option maxHeartbeats 1000000 in
set_option maxRecDepth 100000 in
theorem RUp_any (a b : Sp) (w : World) : Calls Try.prog 20 #[sv a, sv b] w (VV (rv (upM a b)) w) := by
  have hbad : (vB a && vB b) = false → upM a b = (⟨0, 0⟩, 1) := fun h => (bad_m (f := upF) h).2.1
  have hVa := Lib.hid (RValid_any a)
  have hVb := Lib.hid (RValid_any b)
  rcases ha : vB a with _ | _
  · rw [hbad (by rw [ha]; rfl)]
    rw [ha] at hVa
    clear hbad ha hVb
    go_enter Try.func20, Try.ntmps20
    go_wp2_with (go_at_call_of 28 (Value.agg #[.int .i64 a.lo, .int .i64 a.hi]); refine (hVa.out _).mono ?_; rintro e w1 ⟨rfl, hb1⟩; obtain ⟨HA, HB, HR⟩ := three hb1; have HA := Lib.hid HA; have HB := Lib.hid HB; have HR := Lib.hid HR; have hl := blkLt HR.out; obtain ⟨⟨a0, a1⟩, -⟩ := cells2 HA.out; obtain ⟨⟨b0, b1⟩, -⟩ := cells2 HB.out; obtain ⟨⟨r0, r1⟩, r2, r3⟩ := cells2 HR.out; have hb1 := Lib.hid hb1; have HBW := Lib.hid (bCall (bAlloc (bAlloc (bAlloc (Below.refl _ _)))) hb1.out))
    exact bodyPost_ret (v := rv (⟨0, 0⟩, 1)) (by simp [results, Try.results20, go_sem, (res2 HR.out).2.1, (res2 HR.out).2.2]) rfl ⟨rfl, below2 HBW.out (by omega)⟩
  rcases hb : vB b with _ | _
  · rw [hbad (by rw [ha, hb]; rfl)]
    rw [ha] at hVa
    rw [hb] at hVb
    clear hbad ha hb
    go_enter Try.func20, Try.ntmps20
    go_wp2_with (first
      | (go_at_call_of 28 (Value.agg #[.int .i64 a.lo, .int .i64 a.hi]); refine (hVa.out _).mono ?_; rintro e w1 ⟨rfl, hb1⟩; obtain ⟨HA, HB, HR⟩ := three hb1; have HA := Lib.hid HA; have HB := Lib.hid HB; have HR := Lib.hid HR; have hl := blkLt HR.out; obtain ⟨⟨a0, a1⟩, -⟩ := cells2 HA.out; obtain ⟨⟨b0, b1⟩, -⟩ := cells2 HB.out; obtain ⟨⟨r0, r1⟩, r2, r3⟩ := cells2 HR.out; have hb1 := Lib.hid hb1; have HBW := Lib.hid (bCall (bAlloc (bAlloc (bAlloc (Below.refl _ _)))) hb1.out))
      | (go_at_call 28; refine (hVb.out _).mono ?_; rintro e w2 ⟨rfl, hb2⟩; have HA := Lib.hid (moveC hb2 HA.out); have HB := Lib.hid (moveC hb2 HB.out); have HR := Lib.hid (moveC hb2 HR.out); have hl := blkLt HR.out; obtain ⟨⟨a0, a1⟩, -⟩ := cells2 HA.out; obtain ⟨⟨b0, b1⟩, -⟩ := cells2 HB.out; obtain ⟨⟨r0, r1⟩, r2, r3⟩ := cells2 HR.out; have HBW := Lib.hid (bCall HBW.out hb2); clear hb2))
    exact bodyPost_ret (v := rv (⟨0, 0⟩, 1)) (by simp [results, Try.results20, go_sem, (res2 HR.out).2.1, (res2 HR.out).2.2]) rfl ⟨rfl, below2 HBW.out (by omega)⟩
  rw [ha] at hVa
  rw [hb] at hVb
  clear hbad
  have Ha := vB_iff.1 ha
  have Hb := vB_iff.1 hb
  rcases hz : zB b with _ | _
  · rw [up_ch ha hb hz]
    have h0 := Lib.hid (downR (-a.lo) b.lo (by unfold Fit; omega) (fitOf hb (.inl rfl)) (nz hz (by omega) (.inl rfl)))
    have h1 := Lib.hid (downR (-a.lo) b.hi (by unfold Fit; omega) (fitOf hb (.inr rfl)) (nz hz (by omega) (.inr rfl)))
    have h2 := Lib.hid (downR (-a.hi) b.lo (by unfold Fit; omega) (fitOf hb (.inl rfl)) (nz hz (by omega) (.inl rfl)))
    have h3 := Lib.hid (downR (-a.hi) b.hi (by unfold Fit; omega) (fitOf hb (.inr rfl)) (nz hz (by omega) (.inr rfl)))
    have n0 : -1000000000000 ≤ divF (-a.lo) b.lo ∧ divF (-a.lo) b.lo ≤ 1000000000000 := divF_bd (by omega) (nz hz (by omega) (.inl rfl))
    have n1 : -1000000000000 ≤ divF (-a.lo) b.hi ∧ divF (-a.lo) b.hi ≤ 1000000000000 := divF_bd (by omega) (nz hz (by omega) (.inr rfl))
    have n2 : -1000000000000 ≤ divF (-a.hi) b.lo ∧ divF (-a.hi) b.lo ≤ 1000000000000 := divF_bd (by omega) (nz hz (by omega) (.inl rfl))
    have n3 : -1000000000000 ≤ divF (-a.hi) b.hi ∧ divF (-a.hi) b.hi ≤ 1000000000000 := divF_bd (by omega) (nz hz (by omega) (.inr rfl))
    have u0 : upF a.lo b.lo = -divF (-a.lo) b.lo := rfl
    rw [u0]
    clear u0
    have u1 : upF a.lo b.hi = -divF (-a.lo) b.hi := rfl
    rw [u1]
    clear u1
    have u2 : upF a.hi b.lo = -divF (-a.hi) b.lo := rfl
    rw [u2]
    clear u2
    have u3 : upF a.hi b.hi = -divF (-a.hi) b.hi := rfl
    rw [u3]
    clear u3
    generalize divF (-a.lo) b.lo = p at *
    generalize divF (-a.lo) b.hi = q at *
    generalize divF (-a.hi) b.lo = r at *
    generalize divF (-a.hi) b.hi = s at *
    have v0 : IntKind.i64.wrap (-p) = -p := IntWalk.i64_in _ (by omega)
    have v1 : IntKind.i64.wrap (-q) = -q := IntWalk.i64_in _ (by omega)
    have v2 : IntKind.i64.wrap (-r) = -r := IntWalk.i64_in _ (by omega)
    have v3 : IntKind.i64.wrap (-s) = -s := IntWalk.i64_in _ (by omega)
    have q0 : IntKind.i64.wrap (-a.lo) = -a.lo := IntWalk.i64_in _ (by omega)
    have q1 : IntKind.i64.wrap (-a.hi) = -a.hi := IntWalk.i64_in _ (by omega)
    clear n0 n1 n2 n3
    have hL := Lib.hid (Least_any (-p) (-q) (-r) (-s))
    have hZ := Lib.hid (Contains_any b)
    rw [hz] at hZ
    clear ha hb Ha Hb hz
    generalize arM (-p) (-q) (-r) (-s) = m at *
    obtain ⟨ml, mh⟩ := m
    go_enter Try.func20, Try.ntmps20
    go_wp2_with (first
      | (go_at_call_of 28 (Value.agg #[.int .i64 a.lo, .int .i64 a.hi]); refine (hVa.out _).mono ?_; rintro e w1 ⟨rfl, hb1⟩; obtain ⟨HA, HB, HR⟩ := three hb1; have HA := Lib.hid HA; have HB := Lib.hid HB; have HR := Lib.hid HR; have hl := blkLt HR.out; obtain ⟨⟨a0, a1⟩, -⟩ := cells2 HA.out; obtain ⟨⟨b0, b1⟩, -⟩ := cells2 HB.out; obtain ⟨⟨r0, r1⟩, r2, r3⟩ := cells2 HR.out; have hb1 := Lib.hid hb1; have HBW := Lib.hid (bCall (bAlloc (bAlloc (bAlloc (Below.refl _ _)))) hb1.out))
      | (go_at_call 28; refine (hVb.out _).mono ?_; rintro e w2 ⟨rfl, hb2⟩; have HA := Lib.hid (moveC hb2 HA.out); have HB := Lib.hid (moveC hb2 HB.out); have HR := Lib.hid (moveC hb2 HR.out); have hl := blkLt HR.out; obtain ⟨⟨a0, a1⟩, -⟩ := cells2 HA.out; obtain ⟨⟨b0, b1⟩, -⟩ := cells2 HB.out; obtain ⟨⟨r0, r1⟩, r2, r3⟩ := cells2 HR.out; have HBW := Lib.hid (bCall HBW.out hb2); clear hb2)
      | (go_at_call 45; refine (hZ.out _).mono ?_; rintro e w3 ⟨rfl, hb3⟩; have HA := Lib.hid (moveC hb3 HA.out); have HB := Lib.hid (moveC hb3 HB.out); have HR := Lib.hid (moveC hb3 HR.out); have hl := blkLt HR.out; obtain ⟨⟨a0, a1⟩, -⟩ := cells2 HA.out; obtain ⟨⟨b0, b1⟩, -⟩ := cells2 HB.out; obtain ⟨⟨r0, r1⟩, r2, r3⟩ := cells2 HR.out; have HBW := Lib.hid (bCall HBW.out hb3); clear hb3))
    go_region_held3 (fun w' => w'.cell? ⟨w.heap.size, 0, none⟩ = some (.int .i64 a.lo) ∧ w'.cell? ⟨w.heap.size, 1, none⟩ = some (.int .i64 a.hi) ∧ w'.cell? ⟨w.heap.size + 1, 0, none⟩ = some (.int .i64 b.lo) ∧ w'.cell? ⟨w.heap.size + 1, 1, none⟩ = some (.int .i64 b.hi))
      (first | (with_reducible exact ⟨a0, a1, b0, b1⟩) | (with_reducible exact ⟨(far2 (by omega)).trans a0, (far2 (by omega)).trans a1, (far2 (by omega)).trans b0, (far2 (by omega)).trans b1⟩) | go_keep)
      (first
      | (go_at_call 42; refine (hL.out _).mono ?_; rintro e w4 ⟨rfl, hb4⟩; have hb4 := bdrew hb4; have HA := Lib.hid (moveC hb4 HA.out); have HB := Lib.hid (moveC hb4 HB.out); have HR := Lib.hid (moveC hb4 HR.out); have hl := blkLt HR.out; obtain ⟨⟨a0, a1⟩, -⟩ := cells2 HA.out; obtain ⟨⟨b0, b1⟩, -⟩ := cells2 HB.out; obtain ⟨⟨r0, r1⟩, r2, r3⟩ := cells2 HR.out; have HBW := Lib.hid (bCall HBW.out hb4); clear hb4)
      | (go_at_call_of 46 (Value.int .i64 (-a.lo)); first | ((with_reducible refine (h0.out _).mono ?_); rintro e w5 ⟨rfl, rfl⟩) | ((with_reducible refine (h1.out _).mono ?_); rintro e w5 ⟨rfl, rfl⟩))
      | (go_at_call 46; first | ((with_reducible refine (h2.out _).mono ?_); rintro e w5 ⟨rfl, rfl⟩) | ((with_reducible refine (h3.out _).mono ?_); rintro e w5 ⟨rfl, rfl⟩)))
    all_goals go_wp2
    all_goals exact bodyPost_ret (v := rv (⟨ml, mh⟩, 0)) (by simp [results, Try.results20, go_sem, (res2 HR.out).2.1, (res2 HR.out).2.2]) rfl ⟨rfl, below2 HBW.out (by omega)⟩
  · rw [show upM a b = (⟨0, 0⟩, 14) from div_z ha hb hz]
    have hZ := Lib.hid (Contains_any b)
    rw [hz] at hZ
    clear ha hb Ha Hb hz
    go_enter Try.func20, Try.ntmps20
    go_wp2_with (first
      | (go_at_call_of 28 (Value.agg #[.int .i64 a.lo, .int .i64 a.hi]); refine (hVa.out _).mono ?_; rintro e w1 ⟨rfl, hb1⟩; obtain ⟨HA, HB, HR⟩ := three hb1; have HA := Lib.hid HA; have HB := Lib.hid HB; have HR := Lib.hid HR; have hl := blkLt HR.out; obtain ⟨⟨a0, a1⟩, -⟩ := cells2 HA.out; obtain ⟨⟨b0, b1⟩, -⟩ := cells2 HB.out; obtain ⟨⟨r0, r1⟩, r2, r3⟩ := cells2 HR.out; have hb1 := Lib.hid hb1; have HBW := Lib.hid (bCall (bAlloc (bAlloc (bAlloc (Below.refl _ _)))) hb1.out))
      | (go_at_call 28; refine (hVb.out _).mono ?_; rintro e w2 ⟨rfl, hb2⟩; have HA := Lib.hid (moveC hb2 HA.out); have HB := Lib.hid (moveC hb2 HB.out); have HR := Lib.hid (moveC hb2 HR.out); have hl := blkLt HR.out; obtain ⟨⟨a0, a1⟩, -⟩ := cells2 HA.out; obtain ⟨⟨b0, b1⟩, -⟩ := cells2 HB.out; obtain ⟨⟨r0, r1⟩, r2, r3⟩ := cells2 HR.out; have HBW := Lib.hid (bCall HBW.out hb2); clear hb2)
      | (go_at_call 45; refine (hZ.out _).mono ?_; rintro e w3 ⟨rfl, hb3⟩; have HA := Lib.hid (moveC hb3 HA.out); have HB := Lib.hid (moveC hb3 HB.out); have HR := Lib.hid (moveC hb3 HR.out); have hl := blkLt HR.out; obtain ⟨⟨a0, a1⟩, -⟩ := cells2 HA.out; obtain ⟨⟨b0, b1⟩, -⟩ := cells2 HB.out; obtain ⟨⟨r0, r1⟩, r2, r3⟩ := cells2 HR.out; have HBW := Lib.hid (bCall HBW.out hb3); clear hb3))
    exact bodyPost_ret (v := rv (⟨0, 0⟩, 14)) (by simp [results, Try.results20, go_sem, (res2 HR.out).2.1, (res2 HR.out).2.2]) rfl ⟨rfl, below2 HBW.out (by omega)⟩
set_option maxHeartbeats 1000000 in
set_option maxRecDepth 100000 in
theorem RMin_any (a b : Sp) (w : World) : Calls Try.prog 22 #[sv a, sv b] w (VV (rv (minM a b)) w) := by
  have hbad : (vB a && vB b) = false → minM a b = (⟨0, 0⟩, 1) := fun h => (bad_m (f := minF) h).1
  have hVa := Lib.hid (RValid_any a)
  have hVb := Lib.hid (RValid_any b)
  rcases ha : vB a with _ | _
  · rw [hbad (by rw [ha]; rfl)]
    rw [ha] at hVa
    clear hbad ha hVb
    go_enter Try.func22, Try.ntmps22
    go_wp2_with (go_at_call_of 28 (Value.agg #[.int .i64 a.lo, .int .i64 a.hi]); refine (hVa.out _).mono ?_; rintro e w1 ⟨rfl, hb1⟩; obtain ⟨HA, HB, HR⟩ := three hb1; have HA := Lib.hid HA; have HB := Lib.hid HB; have HR := Lib.hid HR; have hl := blkLt HR.out; obtain ⟨⟨a0, a1⟩, -⟩ := cells2 HA.out; obtain ⟨⟨b0, b1⟩, -⟩ := cells2 HB.out; obtain ⟨⟨r0, r1⟩, r2, r3⟩ := cells2 HR.out; have hb1 := Lib.hid hb1; have HBW := Lib.hid (bCall (bAlloc (bAlloc (bAlloc (Below.refl _ _)))) hb1.out))
    exact bodyPost_ret (v := rv (⟨0, 0⟩, 1)) (by simp [results, Try.results22, go_sem, (res2 HR.out).2.1, (res2 HR.out).2.2]) rfl ⟨rfl, below2 HBW.out (by omega)⟩
  rcases hb : vB b with _ | _
  · rw [hbad (by rw [ha, hb]; rfl)]
    rw [ha] at hVa
    rw [hb] at hVb
    clear hbad ha hb
    go_enter Try.func22, Try.ntmps22
    go_wp2_with (first
      | (go_at_call_of 28 (Value.agg #[.int .i64 a.lo, .int .i64 a.hi]); refine (hVa.out _).mono ?_; rintro e w1 ⟨rfl, hb1⟩; obtain ⟨HA, HB, HR⟩ := three hb1; have HA := Lib.hid HA; have HB := Lib.hid HB; have HR := Lib.hid HR; have hl := blkLt HR.out; obtain ⟨⟨a0, a1⟩, -⟩ := cells2 HA.out; obtain ⟨⟨b0, b1⟩, -⟩ := cells2 HB.out; obtain ⟨⟨r0, r1⟩, r2, r3⟩ := cells2 HR.out; have hb1 := Lib.hid hb1; have HBW := Lib.hid (bCall (bAlloc (bAlloc (bAlloc (Below.refl _ _)))) hb1.out))
      | (go_at_call 28; refine (hVb.out _).mono ?_; rintro e w2 ⟨rfl, hb2⟩; have HA := Lib.hid (moveC hb2 HA.out); have HB := Lib.hid (moveC hb2 HB.out); have HR := Lib.hid (moveC hb2 HR.out); have hl := blkLt HR.out; obtain ⟨⟨a0, a1⟩, -⟩ := cells2 HA.out; obtain ⟨⟨b0, b1⟩, -⟩ := cells2 HB.out; obtain ⟨⟨r0, r1⟩, r2, r3⟩ := cells2 HR.out; have HBW := Lib.hid (bCall HBW.out hb2); clear hb2))
    exact bodyPost_ret (v := rv (⟨0, 0⟩, 1)) (by simp [results, Try.results22, go_sem, (res2 HR.out).2.1, (res2 HR.out).2.2]) rfl ⟨rfl, below2 HBW.out (by omega)⟩
  rw [ha] at hVa
  rw [hb] at hVb
  clear hbad
  have Ha := vB_iff.1 ha
  have Hb := vB_iff.1 hb
  rw [min_ch ha hb]
  clear ha hb Ha Hb
  go_enter Try.func22, Try.ntmps22
  go_wp2_with (first
    | (go_at_call_of 28 (Value.agg #[.int .i64 a.lo, .int .i64 a.hi]); refine (hVa.out _).mono ?_; rintro e w1 ⟨rfl, hb1⟩; obtain ⟨HA, HB, HR⟩ := three hb1; have HA := Lib.hid HA; have HB := Lib.hid HB; have HR := Lib.hid HR; have hl := blkLt HR.out; obtain ⟨⟨a0, a1⟩, -⟩ := cells2 HA.out; obtain ⟨⟨b0, b1⟩, -⟩ := cells2 HB.out; obtain ⟨⟨r0, r1⟩, r2, r3⟩ := cells2 HR.out; have hb1 := Lib.hid hb1; have HBW := Lib.hid (bCall (bAlloc (bAlloc (bAlloc (Below.refl _ _)))) hb1.out))
    | (go_at_call 28; refine (hVb.out _).mono ?_; rintro e w2 ⟨rfl, hb2⟩; have HA := Lib.hid (moveC hb2 HA.out); have HB := Lib.hid (moveC hb2 HB.out); have HR := Lib.hid (moveC hb2 HR.out); have hl := blkLt HR.out; obtain ⟨⟨a0, a1⟩, -⟩ := cells2 HA.out; obtain ⟨⟨b0, b1⟩, -⟩ := cells2 HB.out; obtain ⟨⟨r0, r1⟩, r2, r3⟩ := cells2 HR.out; have HBW := Lib.hid (bCall HBW.out hb2); clear hb2))
  all_goals
    refine bodyPost_ret (v := rv (⟨min a.lo b.lo, min a.hi b.hi⟩, 0)) ?_ rfl ⟨rfl, below2 HBW.out (by omega)⟩
    simp [results, Try.results22, go_sem, (res2 HR.out).2.1, (res2 HR.out).2.2]
  all_goals omega
set_option maxHeartbeats 1000000 in
set_option maxRecDepth 100000 in
theorem RMax_any (a b : Sp) (w : World) : Calls Try.prog 24 #[sv a, sv b] w (VV (rv (maxM a b)) w) := by
  have hbad : (vB a && vB b) = false → maxM a b = (⟨0, 0⟩, 1) := fun h => (bad_m (f := maxF) h).1
  have hVa := Lib.hid (RValid_any a)
  have hVb := Lib.hid (RValid_any b)
  rcases ha : vB a with _ | _
  · rw [hbad (by rw [ha]; rfl)]
    rw [ha] at hVa
    clear hbad ha hVb
    go_enter Try.func24, Try.ntmps24
    go_wp2_with (go_at_call_of 28 (Value.agg #[.int .i64 a.lo, .int .i64 a.hi]); refine (hVa.out _).mono ?_; rintro e w1 ⟨rfl, hb1⟩; obtain ⟨HA, HB, HR⟩ := three hb1; have HA := Lib.hid HA; have HB := Lib.hid HB; have HR := Lib.hid HR; have hl := blkLt HR.out; obtain ⟨⟨a0, a1⟩, -⟩ := cells2 HA.out; obtain ⟨⟨b0, b1⟩, -⟩ := cells2 HB.out; obtain ⟨⟨r0, r1⟩, r2, r3⟩ := cells2 HR.out; have hb1 := Lib.hid hb1; have HBW := Lib.hid (bCall (bAlloc (bAlloc (bAlloc (Below.refl _ _)))) hb1.out))
    exact bodyPost_ret (v := rv (⟨0, 0⟩, 1)) (by simp [results, Try.results24, go_sem, (res2 HR.out).2.1, (res2 HR.out).2.2]) rfl ⟨rfl, below2 HBW.out (by omega)⟩
  rcases hb : vB b with _ | _
  · rw [hbad (by rw [ha, hb]; rfl)]
    rw [ha] at hVa
    rw [hb] at hVb
    clear hbad ha hb
    go_enter Try.func24, Try.ntmps24
    go_wp2_with (first
      | (go_at_call_of 28 (Value.agg #[.int .i64 a.lo, .int .i64 a.hi]); refine (hVa.out _).mono ?_; rintro e w1 ⟨rfl, hb1⟩; obtain ⟨HA, HB, HR⟩ := three hb1; have HA := Lib.hid HA; have HB := Lib.hid HB; have HR := Lib.hid HR; have hl := blkLt HR.out; obtain ⟨⟨a0, a1⟩, -⟩ := cells2 HA.out; obtain ⟨⟨b0, b1⟩, -⟩ := cells2 HB.out; obtain ⟨⟨r0, r1⟩, r2, r3⟩ := cells2 HR.out; have hb1 := Lib.hid hb1; have HBW := Lib.hid (bCall (bAlloc (bAlloc (bAlloc (Below.refl _ _)))) hb1.out))
      | (go_at_call 28; refine (hVb.out _).mono ?_; rintro e w2 ⟨rfl, hb2⟩; have HA := Lib.hid (moveC hb2 HA.out); have HB := Lib.hid (moveC hb2 HB.out); have HR := Lib.hid (moveC hb2 HR.out); have hl := blkLt HR.out; obtain ⟨⟨a0, a1⟩, -⟩ := cells2 HA.out; obtain ⟨⟨b0, b1⟩, -⟩ := cells2 HB.out; obtain ⟨⟨r0, r1⟩, r2, r3⟩ := cells2 HR.out; have HBW := Lib.hid (bCall HBW.out hb2); clear hb2))
    exact bodyPost_ret (v := rv (⟨0, 0⟩, 1)) (by simp [results, Try.results24, go_sem, (res2 HR.out).2.1, (res2 HR.out).2.2]) rfl ⟨rfl, below2 HBW.out (by omega)⟩
  rw [ha] at hVa
  rw [hb] at hVb
  clear hbad
  have Ha := vB_iff.1 ha
  have Hb := vB_iff.1 hb
  rw [max_ch ha hb]
  clear ha hb Ha Hb
  go_enter Try.func24, Try.ntmps24
  go_wp2_with (first
    | (go_at_call_of 28 (Value.agg #[.int .i64 a.lo, .int .i64 a.hi]); refine (hVa.out _).mono ?_; rintro e w1 ⟨rfl, hb1⟩; obtain ⟨HA, HB, HR⟩ := three hb1; have HA := Lib.hid HA; have HB := Lib.hid HB; have HR := Lib.hid HR; have hl := blkLt HR.out; obtain ⟨⟨a0, a1⟩, -⟩ := cells2 HA.out; obtain ⟨⟨b0, b1⟩, -⟩ := cells2 HB.out; obtain ⟨⟨r0, r1⟩, r2, r3⟩ := cells2 HR.out; have hb1 := Lib.hid hb1; have HBW := Lib.hid (bCall (bAlloc (bAlloc (bAlloc (Below.refl _ _)))) hb1.out))
    | (go_at_call 28; refine (hVb.out _).mono ?_; rintro e w2 ⟨rfl, hb2⟩; have HA := Lib.hid (moveC hb2 HA.out); have HB := Lib.hid (moveC hb2 HB.out); have HR := Lib.hid (moveC hb2 HR.out); have hl := blkLt HR.out; obtain ⟨⟨a0, a1⟩, -⟩ := cells2 HA.out; obtain ⟨⟨b0, b1⟩, -⟩ := cells2 HB.out; obtain ⟨⟨r0, r1⟩, r2, r3⟩ := cells2 HR.out; have HBW := Lib.hid (bCall HBW.out hb2); clear hb2))
  all_goals
    refine bodyPost_ret (v := rv (⟨max a.lo b.lo, max a.hi b.hi⟩, 0)) ?_ rfl ⟨rfl, below2 HBW.out (by omega)⟩
    simp [results, Try.results24, go_sem, (res2 HR.out).2.1, (res2 HR.out).2.2]
  all_goals omega
set_option maxHeartbeats 1000000 in
set_option maxRecDepth 100000 in
theorem RJoin_any (a b : Sp) (w : World) : Calls Try.prog 26 #[sv a, sv b] w (VV (rv (joinM a b)) w) := by
  have hbad : (vB a && vB b) = false → joinM a b = (⟨0, 0⟩, 1) := fun h => (bad_m (f := addF) h).2.2
  have hVa := Lib.hid (RValid_any a)
  have hVb := Lib.hid (RValid_any b)
  rcases ha : vB a with _ | _
  · rw [hbad (by rw [ha]; rfl)]
    rw [ha] at hVa
    clear hbad ha hVb
    go_enter Try.func26, Try.ntmps26
    go_wp2_with (go_at_call_of 28 (Value.agg #[.int .i64 a.lo, .int .i64 a.hi]); refine (hVa.out _).mono ?_; rintro e w1 ⟨rfl, hb1⟩; obtain ⟨HA, HB, HR⟩ := three hb1; have HA := Lib.hid HA; have HB := Lib.hid HB; have HR := Lib.hid HR; have hl := blkLt HR.out; obtain ⟨⟨a0, a1⟩, -⟩ := cells2 HA.out; obtain ⟨⟨b0, b1⟩, -⟩ := cells2 HB.out; obtain ⟨⟨r0, r1⟩, r2, r3⟩ := cells2 HR.out; have hb1 := Lib.hid hb1; have HBW := Lib.hid (bCall (bAlloc (bAlloc (bAlloc (Below.refl _ _)))) hb1.out))
    exact bodyPost_ret (v := rv (⟨0, 0⟩, 1)) (by simp [results, Try.results26, go_sem, (res2 HR.out).2.1, (res2 HR.out).2.2]) rfl ⟨rfl, below2 HBW.out (by omega)⟩
  rcases hb : vB b with _ | _
  · rw [hbad (by rw [ha, hb]; rfl)]
    rw [ha] at hVa
    rw [hb] at hVb
    clear hbad ha hb
    go_enter Try.func26, Try.ntmps26
    go_wp2_with (first
      | (go_at_call_of 28 (Value.agg #[.int .i64 a.lo, .int .i64 a.hi]); refine (hVa.out _).mono ?_; rintro e w1 ⟨rfl, hb1⟩; obtain ⟨HA, HB, HR⟩ := three hb1; have HA := Lib.hid HA; have HB := Lib.hid HB; have HR := Lib.hid HR; have hl := blkLt HR.out; obtain ⟨⟨a0, a1⟩, -⟩ := cells2 HA.out; obtain ⟨⟨b0, b1⟩, -⟩ := cells2 HB.out; obtain ⟨⟨r0, r1⟩, r2, r3⟩ := cells2 HR.out; have hb1 := Lib.hid hb1; have HBW := Lib.hid (bCall (bAlloc (bAlloc (bAlloc (Below.refl _ _)))) hb1.out))
      | (go_at_call 28; refine (hVb.out _).mono ?_; rintro e w2 ⟨rfl, hb2⟩; have HA := Lib.hid (moveC hb2 HA.out); have HB := Lib.hid (moveC hb2 HB.out); have HR := Lib.hid (moveC hb2 HR.out); have hl := blkLt HR.out; obtain ⟨⟨a0, a1⟩, -⟩ := cells2 HA.out; obtain ⟨⟨b0, b1⟩, -⟩ := cells2 HB.out; obtain ⟨⟨r0, r1⟩, r2, r3⟩ := cells2 HR.out; have HBW := Lib.hid (bCall HBW.out hb2); clear hb2))
    exact bodyPost_ret (v := rv (⟨0, 0⟩, 1)) (by simp [results, Try.results26, go_sem, (res2 HR.out).2.1, (res2 HR.out).2.2]) rfl ⟨rfl, below2 HBW.out (by omega)⟩
  rw [ha] at hVa
  rw [hb] at hVb
  clear hbad
  have Ha := vB_iff.1 ha
  have Hb := vB_iff.1 hb
  rw [join_ch ha hb]
  clear ha hb Ha Hb
  go_enter Try.func26, Try.ntmps26
  go_wp2_with (first
    | (go_at_call_of 28 (Value.agg #[.int .i64 a.lo, .int .i64 a.hi]); refine (hVa.out _).mono ?_; rintro e w1 ⟨rfl, hb1⟩; obtain ⟨HA, HB, HR⟩ := three hb1; have HA := Lib.hid HA; have HB := Lib.hid HB; have HR := Lib.hid HR; have hl := blkLt HR.out; obtain ⟨⟨a0, a1⟩, -⟩ := cells2 HA.out; obtain ⟨⟨b0, b1⟩, -⟩ := cells2 HB.out; obtain ⟨⟨r0, r1⟩, r2, r3⟩ := cells2 HR.out; have hb1 := Lib.hid hb1; have HBW := Lib.hid (bCall (bAlloc (bAlloc (bAlloc (Below.refl _ _)))) hb1.out))
    | (go_at_call 28; refine (hVb.out _).mono ?_; rintro e w2 ⟨rfl, hb2⟩; have HA := Lib.hid (moveC hb2 HA.out); have HB := Lib.hid (moveC hb2 HB.out); have HR := Lib.hid (moveC hb2 HR.out); have hl := blkLt HR.out; obtain ⟨⟨a0, a1⟩, -⟩ := cells2 HA.out; obtain ⟨⟨b0, b1⟩, -⟩ := cells2 HB.out; obtain ⟨⟨r0, r1⟩, r2, r3⟩ := cells2 HR.out; have HBW := Lib.hid (bCall HBW.out hb2); clear hb2))
  all_goals
    refine bodyPost_ret (v := rv (⟨min a.lo b.lo, max a.hi b.hi⟩, 0)) ?_ rfl ⟨rfl, below2 HBW.out (by omega)⟩
    simp [results, Try.results26, go_sem, (res2 HR.out).2.1, (res2 HR.out).2.2]
  all_goals omega
end Go.Proofs.Ytiijplgaikdioaa
