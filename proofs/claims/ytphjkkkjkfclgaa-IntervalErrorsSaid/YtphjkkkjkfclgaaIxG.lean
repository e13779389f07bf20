/- combine: one copy for each operation. -/
import Derived.Test.YtphjkkkjkfclgaaIxE
import Derived.Test.YtphjkkkjkfclgaaIxF
import Derived.StillTailTactics
namespace Go.Proofs.Ytphjkkkjkfclgaa
open Go.RowKit
set_option linter.unusedVariables false
set_option linter.unusedSimpArgs false
set_option maxHeartbeats 1000000 in
set_option maxRecDepth 100000 in
theorem combAdd (f : Int → Int → Int) (a b : Sp) (H0 : vB a = true → vB b = true → ∀ x y, (x = a.lo ∨ x = a.hi) → (y = b.lo ∨ y = b.hi) → ∀ w, Calls Try.prog 22 #[.int .i64 x, .int .i64 y] w (SS (.int .i64 (f x y)) w)) (w : World) :
    Calls Try.prog 21 #[sv a, sv b, .func (.func 22) #[] #[]] w (VV (rv (combM f a b)) w) := by
  rcases hv : (vB a && vB b) with _ | _
  · have hm : combM f a b = (⟨0, 0⟩, 1) := by unfold combM; rw [hv]; rfl
    rw [hm]
    have hV := Lib.hid (fun n T wx h => hv ▸ areValid_any n a b T wx h)
    clear hm hv H0
    go_enter Try.func21, Try.ntmps21
    go_wp2_with (go_at_call 30; refine (hV.out _ _ _ (newBlk _ _ _ (by simp))).mono ?_; rintro e w1 ⟨rfl, hb1⟩; obtain ⟨HA, HB, HR⟩ := four hb1; have HA := Lib.hid HA; have HB := Lib.hid HB; have HR := Lib.hid HR; obtain ⟨⟨a0, a1⟩, -⟩ := cells2 HA.out; obtain ⟨⟨b0, b1⟩, -⟩ := cells2 HB.out; obtain ⟨⟨r0, r1⟩, r2, r3⟩ := cells2 HR.out; have hl := blkLt HR.out; have hb1 := Lib.hid hb1)
    exact bodyPost_ret (v := rv (⟨0, 0⟩, 1)) (by simp [results, Try.results21, go_sem, (res2 HR.out).2.1, (res2 HR.out).2.2]) rfl ⟨rfl, below2 (bCall (bAlloc (bAlloc (bAlloc (bAlloc (Below.refl _ _))))) hb1.out) (by omega)⟩
  · have hab : vB a = true ∧ vB b = true := by simpa using hv
    have hE0 := endsAdd f a b (H0 hab.1 hab.2)
    have hm : combM f a b = (if vB (arM (f a.lo b.lo) (f a.lo b.hi) (f a.hi b.lo) (f a.hi b.hi)) = true then (arM (f a.lo b.lo) (f a.lo b.hi) (f a.hi b.lo) (f a.hi b.hi), 0) else (⟨0, 0⟩, 3)) := by unfold combM; rw [if_pos hv]
    rw [hm]
    have hV := Lib.hid (fun n T wx h => hv ▸ areValid_any n a b T wx h)
    clear hm hv H0 hab
    generalize f a.lo b.lo = p at *
    generalize f a.lo b.hi = q at *
    generalize f a.hi b.lo = r at *
    generalize f a.hi b.hi = s at *
    have hE := Lib.hid hE0
    clear hE0
    have hR := Lib.hid (fun n T wx h => around_any n p q r s wx T h)
    generalize arM p q r s = m at *
    have hm := Lib.hid (Valid_any m)
    rcases hvm : vB m with _ | _ <;> rw [hvm] at hm <;> clear hvm
    all_goals
      go_enter Try.func21, Try.ntmps21
      go_wp2_with (first
        | (go_at_call 30; refine (hV.out _ _ _ (newBlk _ _ _ (by simp))).mono ?_; rintro e w1 ⟨rfl, hb1⟩; obtain ⟨HA, HB, HR⟩ := four hb1; have HA := Lib.hid HA; have HB := Lib.hid HB; have HR := Lib.hid HR; obtain ⟨⟨a0, a1⟩, -⟩ := cells2 HA.out; obtain ⟨⟨b0, b1⟩, -⟩ := cells2 HB.out; obtain ⟨⟨r0, r1⟩, r2, r3⟩ := cells2 HR.out; have hl := blkLt HR.out; have hb1 := Lib.hid hb1)
        | (go_at_call 33; refine (hE.out _).mono ?_; rintro e w2 ⟨rfl, hb2⟩; have HA := Lib.hid (moveC hb2 HA.out); have HB := Lib.hid (moveC hb2 HB.out); have HR := Lib.hid (moveC hb2 HR.out); obtain ⟨⟨a0, a1⟩, -⟩ := cells2 HA.out; obtain ⟨⟨b0, b1⟩, -⟩ := cells2 HB.out; obtain ⟨⟨r0, r1⟩, r2, r3⟩ := cells2 HR.out; have hl := blkLt HR.out; have hb2 := Lib.hid hb2)
        | (go_at_call 31; refine (hR.out _ _ _ (newBlk _ _ _ (by simp))).mono ?_; rintro e w3 ⟨rfl, hb3⟩; have HA := Lib.hid (moveA hb3 HA.out); have HB := Lib.hid (moveA hb3 HB.out); have HR := Lib.hid (moveA hb3 HR.out); obtain ⟨⟨a0, a1⟩, -⟩ := cells2 HA.out; obtain ⟨⟨b0, b1⟩, -⟩ := cells2 HB.out; obtain ⟨⟨r0, r1⟩, r2, r3⟩ := cells2 HR.out; have hl := blkLt HR.out; have hb3 := Lib.hid hb3)
        | (go_at_call 20; refine (hm.out _).mono ?_; rintro e w4 ⟨rfl, hb4⟩; have HM := moveC hb4 (newBlk w3 (.cells #[.int .i64 m.lo, .int .i64 m.hi] 23) _ rfl); obtain ⟨⟨m0, m1⟩, -⟩ := cells2 HM; have HA := Lib.hid (moveA hb4 HA.out); have HB := Lib.hid (moveA hb4 HB.out); have HR := Lib.hid (moveA hb4 HR.out); obtain ⟨⟨a0, a1⟩, -⟩ := cells2 HA.out; obtain ⟨⟨b0, b1⟩, -⟩ := cells2 HB.out; obtain ⟨⟨r0, r1⟩, r2, r3⟩ := cells2 HR.out; have hl := blkLt HR.out; have hb4 := Lib.hid hb4))
    · exact bodyPost_ret (v := rv (⟨0, 0⟩, 3)) (by simp [results, Try.results21, go_sem, (res2 HR.out).2.1, (res2 HR.out).2.2]) rfl ⟨rfl, below2 (bCall (bAlloc (bCall (bAlloc (bCall (bCall (bAlloc (bAlloc (bAlloc (bAlloc (Below.refl _ _))))) hb1.out) hb2.out)) hb3.out)) hb4.out) (by omega)⟩
    · exact bodyPost_ret (v := rv (m, 0)) (by simp [results, Try.results21, go_sem, (res2 HR.out).2.1, (res2 HR.out).2.2]) rfl ⟨rfl, below2 (bCall (bAlloc (bCall (bAlloc (bCall (bCall (bAlloc (bAlloc (bAlloc (bAlloc (Below.refl _ _))))) hb1.out) hb2.out)) hb3.out)) hb4.out) (by omega)⟩
set_option maxHeartbeats 1000000 in
set_option maxRecDepth 100000 in
theorem combSub (f : Int → Int → Int) (a b : Sp) (H0 : vB a = true → vB b = true → ∀ x y, (x = a.lo ∨ x = a.hi) → (y = b.lo ∨ y = b.hi) → ∀ w, Calls Try.prog 23 #[.int .i64 x, .int .i64 y] w (SS (.int .i64 (f x y)) w)) (w : World) :
    Calls Try.prog 21 #[sv a, sv b, .func (.func 23) #[] #[]] w (VV (rv (combM f a b)) w) := by
  rcases hv : (vB a && vB b) with _ | _
  · have hm : combM f a b = (⟨0, 0⟩, 1) := by unfold combM; rw [hv]; rfl
    rw [hm]
    have hV := Lib.hid (fun n T wx h => hv ▸ areValid_any n a b T wx h)
    clear hm hv H0
    go_enter Try.func21, Try.ntmps21
    go_wp2_with (go_at_call 30; refine (hV.out _ _ _ (newBlk _ _ _ (by simp))).mono ?_; rintro e w1 ⟨rfl, hb1⟩; obtain ⟨HA, HB, HR⟩ := four hb1; have HA := Lib.hid HA; have HB := Lib.hid HB; have HR := Lib.hid HR; obtain ⟨⟨a0, a1⟩, -⟩ := cells2 HA.out; obtain ⟨⟨b0, b1⟩, -⟩ := cells2 HB.out; obtain ⟨⟨r0, r1⟩, r2, r3⟩ := cells2 HR.out; have hl := blkLt HR.out; have hb1 := Lib.hid hb1)
    exact bodyPost_ret (v := rv (⟨0, 0⟩, 1)) (by simp [results, Try.results21, go_sem, (res2 HR.out).2.1, (res2 HR.out).2.2]) rfl ⟨rfl, below2 (bCall (bAlloc (bAlloc (bAlloc (bAlloc (Below.refl _ _))))) hb1.out) (by omega)⟩
  · have hab : vB a = true ∧ vB b = true := by simpa using hv
    have hE0 := endsSub f a b (H0 hab.1 hab.2)
    have hm : combM f a b = (if vB (arM (f a.lo b.lo) (f a.lo b.hi) (f a.hi b.lo) (f a.hi b.hi)) = true then (arM (f a.lo b.lo) (f a.lo b.hi) (f a.hi b.lo) (f a.hi b.hi), 0) else (⟨0, 0⟩, 3)) := by unfold combM; rw [if_pos hv]
    rw [hm]
    have hV := Lib.hid (fun n T wx h => hv ▸ areValid_any n a b T wx h)
    clear hm hv H0 hab
    generalize f a.lo b.lo = p at *
    generalize f a.lo b.hi = q at *
    generalize f a.hi b.lo = r at *
    generalize f a.hi b.hi = s at *
    have hE := Lib.hid hE0
    clear hE0
    have hR := Lib.hid (fun n T wx h => around_any n p q r s wx T h)
    generalize arM p q r s = m at *
    have hm := Lib.hid (Valid_any m)
    rcases hvm : vB m with _ | _ <;> rw [hvm] at hm <;> clear hvm
    all_goals
      go_enter Try.func21, Try.ntmps21
      go_wp2_with (first
        | (go_at_call 30; refine (hV.out _ _ _ (newBlk _ _ _ (by simp))).mono ?_; rintro e w1 ⟨rfl, hb1⟩; obtain ⟨HA, HB, HR⟩ := four hb1; have HA := Lib.hid HA; have HB := Lib.hid HB; have HR := Lib.hid HR; obtain ⟨⟨a0, a1⟩, -⟩ := cells2 HA.out; obtain ⟨⟨b0, b1⟩, -⟩ := cells2 HB.out; obtain ⟨⟨r0, r1⟩, r2, r3⟩ := cells2 HR.out; have hl := blkLt HR.out; have hb1 := Lib.hid hb1)
        | (go_at_call 33; refine (hE.out _).mono ?_; rintro e w2 ⟨rfl, hb2⟩; have HA := Lib.hid (moveC hb2 HA.out); have HB := Lib.hid (moveC hb2 HB.out); have HR := Lib.hid (moveC hb2 HR.out); obtain ⟨⟨a0, a1⟩, -⟩ := cells2 HA.out; obtain ⟨⟨b0, b1⟩, -⟩ := cells2 HB.out; obtain ⟨⟨r0, r1⟩, r2, r3⟩ := cells2 HR.out; have hl := blkLt HR.out; have hb2 := Lib.hid hb2)
        | (go_at_call 31; refine (hR.out _ _ _ (newBlk _ _ _ (by simp))).mono ?_; rintro e w3 ⟨rfl, hb3⟩; have HA := Lib.hid (moveA hb3 HA.out); have HB := Lib.hid (moveA hb3 HB.out); have HR := Lib.hid (moveA hb3 HR.out); obtain ⟨⟨a0, a1⟩, -⟩ := cells2 HA.out; obtain ⟨⟨b0, b1⟩, -⟩ := cells2 HB.out; obtain ⟨⟨r0, r1⟩, r2, r3⟩ := cells2 HR.out; have hl := blkLt HR.out; have hb3 := Lib.hid hb3)
        | (go_at_call 20; refine (hm.out _).mono ?_; rintro e w4 ⟨rfl, hb4⟩; have HM := moveC hb4 (newBlk w3 (.cells #[.int .i64 m.lo, .int .i64 m.hi] 23) _ rfl); obtain ⟨⟨m0, m1⟩, -⟩ := cells2 HM; have HA := Lib.hid (moveA hb4 HA.out); have HB := Lib.hid (moveA hb4 HB.out); have HR := Lib.hid (moveA hb4 HR.out); obtain ⟨⟨a0, a1⟩, -⟩ := cells2 HA.out; obtain ⟨⟨b0, b1⟩, -⟩ := cells2 HB.out; obtain ⟨⟨r0, r1⟩, r2, r3⟩ := cells2 HR.out; have hl := blkLt HR.out; have hb4 := Lib.hid hb4))
    · exact bodyPost_ret (v := rv (⟨0, 0⟩, 3)) (by simp [results, Try.results21, go_sem, (res2 HR.out).2.1, (res2 HR.out).2.2]) rfl ⟨rfl, below2 (bCall (bAlloc (bCall (bAlloc (bCall (bCall (bAlloc (bAlloc (bAlloc (bAlloc (Below.refl _ _))))) hb1.out) hb2.out)) hb3.out)) hb4.out) (by omega)⟩
    · exact bodyPost_ret (v := rv (m, 0)) (by simp [results, Try.results21, go_sem, (res2 HR.out).2.1, (res2 HR.out).2.2]) rfl ⟨rfl, below2 (bCall (bAlloc (bCall (bAlloc (bCall (bCall (bAlloc (bAlloc (bAlloc (bAlloc (Below.refl _ _))))) hb1.out) hb2.out)) hb3.out)) hb4.out) (by omega)⟩
set_option maxHeartbeats 1000000 in
set_option maxRecDepth 100000 in
theorem combMul (f : Int → Int → Int) (a b : Sp) (H0 : vB a = true → vB b = true → ∀ x y, (x = a.lo ∨ x = a.hi) → (y = b.lo ∨ y = b.hi) → ∀ w, Calls Try.prog 24 #[.int .i64 x, .int .i64 y] w (SS (.int .i64 (f x y)) w)) (w : World) :
    Calls Try.prog 21 #[sv a, sv b, .func (.func 24) #[] #[]] w (VV (rv (combM f a b)) w) := by
  rcases hv : (vB a && vB b) with _ | _
  · have hm : combM f a b = (⟨0, 0⟩, 1) := by unfold combM; rw [hv]; rfl
    rw [hm]
    have hV := Lib.hid (fun n T wx h => hv ▸ areValid_any n a b T wx h)
    clear hm hv H0
    go_enter Try.func21, Try.ntmps21
    go_wp2_with (go_at_call 30; refine (hV.out _ _ _ (newBlk _ _ _ (by simp))).mono ?_; rintro e w1 ⟨rfl, hb1⟩; obtain ⟨HA, HB, HR⟩ := four hb1; have HA := Lib.hid HA; have HB := Lib.hid HB; have HR := Lib.hid HR; obtain ⟨⟨a0, a1⟩, -⟩ := cells2 HA.out; obtain ⟨⟨b0, b1⟩, -⟩ := cells2 HB.out; obtain ⟨⟨r0, r1⟩, r2, r3⟩ := cells2 HR.out; have hl := blkLt HR.out; have hb1 := Lib.hid hb1)
    exact bodyPost_ret (v := rv (⟨0, 0⟩, 1)) (by simp [results, Try.results21, go_sem, (res2 HR.out).2.1, (res2 HR.out).2.2]) rfl ⟨rfl, below2 (bCall (bAlloc (bAlloc (bAlloc (bAlloc (Below.refl _ _))))) hb1.out) (by omega)⟩
  · have hab : vB a = true ∧ vB b = true := by simpa using hv
    have hE0 := endsMul f a b (H0 hab.1 hab.2)
    have hm : combM f a b = (if vB (arM (f a.lo b.lo) (f a.lo b.hi) (f a.hi b.lo) (f a.hi b.hi)) = true then (arM (f a.lo b.lo) (f a.lo b.hi) (f a.hi b.lo) (f a.hi b.hi), 0) else (⟨0, 0⟩, 3)) := by unfold combM; rw [if_pos hv]
    rw [hm]
    have hV := Lib.hid (fun n T wx h => hv ▸ areValid_any n a b T wx h)
    clear hm hv H0 hab
    generalize f a.lo b.lo = p at *
    generalize f a.lo b.hi = q at *
    generalize f a.hi b.lo = r at *
    generalize f a.hi b.hi = s at *
    have hE := Lib.hid hE0
    clear hE0
    have hR := Lib.hid (fun n T wx h => around_any n p q r s wx T h)
    generalize arM p q r s = m at *
    have hm := Lib.hid (Valid_any m)
    rcases hvm : vB m with _ | _ <;> rw [hvm] at hm <;> clear hvm
    all_goals
      go_enter Try.func21, Try.ntmps21
      go_wp2_with (first
        | (go_at_call 30; refine (hV.out _ _ _ (newBlk _ _ _ (by simp))).mono ?_; rintro e w1 ⟨rfl, hb1⟩; obtain ⟨HA, HB, HR⟩ := four hb1; have HA := Lib.hid HA; have HB := Lib.hid HB; have HR := Lib.hid HR; obtain ⟨⟨a0, a1⟩, -⟩ := cells2 HA.out; obtain ⟨⟨b0, b1⟩, -⟩ := cells2 HB.out; obtain ⟨⟨r0, r1⟩, r2, r3⟩ := cells2 HR.out; have hl := blkLt HR.out; have hb1 := Lib.hid hb1)
        | (go_at_call 33; refine (hE.out _).mono ?_; rintro e w2 ⟨rfl, hb2⟩; have HA := Lib.hid (moveC hb2 HA.out); have HB := Lib.hid (moveC hb2 HB.out); have HR := Lib.hid (moveC hb2 HR.out); obtain ⟨⟨a0, a1⟩, -⟩ := cells2 HA.out; obtain ⟨⟨b0, b1⟩, -⟩ := cells2 HB.out; obtain ⟨⟨r0, r1⟩, r2, r3⟩ := cells2 HR.out; have hl := blkLt HR.out; have hb2 := Lib.hid hb2)
        | (go_at_call 31; refine (hR.out _ _ _ (newBlk _ _ _ (by simp))).mono ?_; rintro e w3 ⟨rfl, hb3⟩; have HA := Lib.hid (moveA hb3 HA.out); have HB := Lib.hid (moveA hb3 HB.out); have HR := Lib.hid (moveA hb3 HR.out); obtain ⟨⟨a0, a1⟩, -⟩ := cells2 HA.out; obtain ⟨⟨b0, b1⟩, -⟩ := cells2 HB.out; obtain ⟨⟨r0, r1⟩, r2, r3⟩ := cells2 HR.out; have hl := blkLt HR.out; have hb3 := Lib.hid hb3)
        | (go_at_call 20; refine (hm.out _).mono ?_; rintro e w4 ⟨rfl, hb4⟩; have HM := moveC hb4 (newBlk w3 (.cells #[.int .i64 m.lo, .int .i64 m.hi] 23) _ rfl); obtain ⟨⟨m0, m1⟩, -⟩ := cells2 HM; have HA := Lib.hid (moveA hb4 HA.out); have HB := Lib.hid (moveA hb4 HB.out); have HR := Lib.hid (moveA hb4 HR.out); obtain ⟨⟨a0, a1⟩, -⟩ := cells2 HA.out; obtain ⟨⟨b0, b1⟩, -⟩ := cells2 HB.out; obtain ⟨⟨r0, r1⟩, r2, r3⟩ := cells2 HR.out; have hl := blkLt HR.out; have hb4 := Lib.hid hb4))
    · exact bodyPost_ret (v := rv (⟨0, 0⟩, 3)) (by simp [results, Try.results21, go_sem, (res2 HR.out).2.1, (res2 HR.out).2.2]) rfl ⟨rfl, below2 (bCall (bAlloc (bCall (bAlloc (bCall (bCall (bAlloc (bAlloc (bAlloc (bAlloc (Below.refl _ _))))) hb1.out) hb2.out)) hb3.out)) hb4.out) (by omega)⟩
    · exact bodyPost_ret (v := rv (m, 0)) (by simp [results, Try.results21, go_sem, (res2 HR.out).2.1, (res2 HR.out).2.2]) rfl ⟨rfl, below2 (bCall (bAlloc (bCall (bAlloc (bCall (bCall (bAlloc (bAlloc (bAlloc (bAlloc (Below.refl _ _))))) hb1.out) hb2.out)) hb3.out)) hb4.out) (by omega)⟩
end Go.Proofs.Ytphjkkkjkfclgaa
