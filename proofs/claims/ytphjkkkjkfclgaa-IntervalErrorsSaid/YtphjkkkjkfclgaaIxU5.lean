/- Law package 06: IntervalErrors. -/
import Derived.Test.YtphjkkkjkfclgaaIxU10
import Derived.Test.YtphjkkkjkfclgaaIxU11
import Derived.Test.YtphjkkkjkfclgaaIxU12
import Derived.Test.YtphjkkkjkfclgaaIxU13
import Derived.Test.YtphjkkkjkfclgaaIxU14
import Derived.Test.YtphjkkkjkfclgaaIxU15
import Derived.Test.YtphjkkkjkfclgaaIxU16
import Derived.Test.YtphjkkkjkfclgaaIxU17
import Derived.Test.YtphjkkkjkfclgaaIxU18
import Derived.Test.YtphjkkkjkfclgaaIxU19
import Derived.Test.YtphjkkkjkfclgaaIxU20
import Derived.Test.YtphjkkkjkfclgaaIxU21
import Derived.Test.YtphjkkkjkfclgaaIxU22
import Derived.Test.YtphjkkkjkfclgaaIxU23
import Derived.Test.YtphjkkkjkfclgaaIxU24
import Derived.Test.YtphjkkkjkfclgaaIxU25
namespace Go.Proofs.Ytphjkkkjkfclgaa
open Go.RowKit
set_option linter.unusedVariables false
set_option linter.unusedSimpArgs false
theorem errors_any (a b : Sp) (w : World) : Calls Try.prog 4 #[sv a, sv b] w (BB true w) := by
  have Z : (vB a && vB b) = false → ∀ w, (Calls Try.prog 9 #[sv a, sv b] w (VV (.tuple #[sv ⟨0, 0⟩, .int .i64 1]) w)) ∧ (Calls Try.prog 11 #[sv a, sv b] w (VV (.tuple #[sv ⟨0, 0⟩, .int .i64 1]) w)) ∧ (Calls Try.prog 12 #[sv a, sv b] w (VV (.tuple #[sv ⟨0, 0⟩, .int .i64 1]) w)) ∧ (Calls Try.prog 13 #[sv a, sv b] w (VV (.tuple #[sv ⟨0, 0⟩, .int .i64 1]) w)) ∧ (Calls Try.prog 17 #[sv a, sv b] w (VV (.tuple #[sv ⟨0, 0⟩, .int .i64 1]) w)) := by
    intro h w
    have k1 : addM a b = (⟨0, 0⟩, 1) := (bad_m h).1
    have k2 : subM a b = (⟨0, 0⟩, 1) := (bad_m h).1
    have k3 : mulM a b = (⟨0, 0⟩, 1) := (bad_m h).1
    have k4 : dvM a b = (⟨0, 0⟩, 1) := (bad_m h).2.1
    have k5 : joinM a b = (⟨0, 0⟩, 1) := (bad_m (f := addF) h).2.2
    have h1 := Add_any a b w
    have h2 := Sub_any a b w
    have h3 := Mul_any a b w
    have h4 := Div_any a b w
    have h5 := Join_any a b w
    rw [k1] at h1; rw [k2] at h2; rw [k3] at h3; rw [k4] at h4; rw [k5] at h5
    exact ⟨h1, h2, h3, h4, h5⟩
  rcases ha : vB a with _ | _
  · have hz := Z (by rw [ha]; rfl)
    exact errors_bad1 a b (fun w => by have := RValid_any a w; rw [ha] at this; exact this) trivial (fun w => (hz w).1) (fun w => (hz w).2.1) (fun w => (hz w).2.2.1) (fun w => (hz w).2.2.2.1) (fun w => (hz w).2.2.2.2) w
  · rcases hb : vB b with _ | _
    · have hz := Z (by rw [ha, hb]; rfl)
      exact errors_bad2 a b (fun w => by have := RValid_any a w; rw [ha] at this; exact this) (fun w => by have := RValid_any b w; rw [hb] at this; exact this) (fun w => (hz w).1) (fun w => (hz w).2.1) (fun w => (hz w).2.2.1) (fun w => (hz w).2.2.2.1) (fun w => (hz w).2.2.2.2) w
    · have Ha := vB_iff.1 ha
      have Hb := vB_iff.1 hb
      have hJ : ∀ w, Calls Try.prog 17 #[sv a, sv b] w (VV (.tuple #[sv (joinM a b).1, .int .i64 0]) w) := fun w => by
        have h := Join_any a b w
        rw [show rv (joinM a b) = .tuple #[sv (joinM a b).1, .int .i64 0] by rw [join_ch ha hb]] at h
        exact h
      rcases add_er ha hb with hp | hp <;> rcases mul_er ha hb with hr | hr <;> rcases sub_er ha hb with hq | hq <;> rcases dv_er ha hb with hz | hz
      · exact errors_ok_tttt a b (addM a b).1 (subM a b).1 (mulM a b).1 (dvM a b).1 (joinM a b).1 (addM a b).2 (subM a b).2 (mulM a b).2 (dvM a b).2 _ _ _ _ _ _ _ _ _ _ _ _
          (fun w => by have := RValid_any a w; rw [ha] at this; exact this) (fun w => by have := RValid_any b w; rw [hb] at this; exact this)
          (Add_any a b) (Sub_any a b) (Mul_any a b) (Div_any a b) hJ
          (IntWalk.i64_in _ (by omega)) (IntWalk.i64_in _ (by omega)) (IntWalk.i64_in _ (by omega)) (IntWalk.i64_in _ (by omega))
          (Value_any _) (Value_any _) (Value_any _) (Value_any _) (Value_any _) (Value_any _) (Value_any _) (Value_any _)
          (mulR a.lo b.lo (vnOf ha (.inl rfl)) (vnOf hb (.inl rfl))) (mulR a.lo b.hi (vnOf ha (.inl rfl)) (vnOf hb (.inr rfl))) (mulR a.hi b.lo (vnOf ha (.inr rfl)) (vnOf hb (.inl rfl))) (mulR a.hi b.hi (vnOf ha (.inr rfl)) (vnOf hb (.inr rfl)))
          hp hq hr hz w
      · exact errors_ok_tttf a b (addM a b).1 (subM a b).1 (mulM a b).1 (dvM a b).1 (joinM a b).1 (addM a b).2 (subM a b).2 (mulM a b).2 (dvM a b).2 _ _ _ _ _ _ _ _ _ _ _ _
          (fun w => by have := RValid_any a w; rw [ha] at this; exact this) (fun w => by have := RValid_any b w; rw [hb] at this; exact this)
          (Add_any a b) (Sub_any a b) (Mul_any a b) (Div_any a b) hJ
          (IntWalk.i64_in _ (by omega)) (IntWalk.i64_in _ (by omega)) (IntWalk.i64_in _ (by omega)) (IntWalk.i64_in _ (by omega))
          (Value_any _) (Value_any _) (Value_any _) (Value_any _) (Value_any _) (Value_any _) (Value_any _) (Value_any _)
          (mulR a.lo b.lo (vnOf ha (.inl rfl)) (vnOf hb (.inl rfl))) (mulR a.lo b.hi (vnOf ha (.inl rfl)) (vnOf hb (.inr rfl))) (mulR a.hi b.lo (vnOf ha (.inr rfl)) (vnOf hb (.inl rfl))) (mulR a.hi b.hi (vnOf ha (.inr rfl)) (vnOf hb (.inr rfl)))
          hp hq hr hz w
      · exact errors_ok_ttft a b (addM a b).1 (subM a b).1 (mulM a b).1 (dvM a b).1 (joinM a b).1 (addM a b).2 (subM a b).2 (mulM a b).2 (dvM a b).2 _ _ _ _ _ _ _ _ _ _ _ _
          (fun w => by have := RValid_any a w; rw [ha] at this; exact this) (fun w => by have := RValid_any b w; rw [hb] at this; exact this)
          (Add_any a b) (Sub_any a b) (Mul_any a b) (Div_any a b) hJ
          (IntWalk.i64_in _ (by omega)) (IntWalk.i64_in _ (by omega)) (IntWalk.i64_in _ (by omega)) (IntWalk.i64_in _ (by omega))
          (Value_any _) (Value_any _) (Value_any _) (Value_any _) (Value_any _) (Value_any _) (Value_any _) (Value_any _)
          (mulR a.lo b.lo (vnOf ha (.inl rfl)) (vnOf hb (.inl rfl))) (mulR a.lo b.hi (vnOf ha (.inl rfl)) (vnOf hb (.inr rfl))) (mulR a.hi b.lo (vnOf ha (.inr rfl)) (vnOf hb (.inl rfl))) (mulR a.hi b.hi (vnOf ha (.inr rfl)) (vnOf hb (.inr rfl)))
          hp hq hr hz w
      · exact errors_ok_ttff a b (addM a b).1 (subM a b).1 (mulM a b).1 (dvM a b).1 (joinM a b).1 (addM a b).2 (subM a b).2 (mulM a b).2 (dvM a b).2 _ _ _ _ _ _ _ _ _ _ _ _
          (fun w => by have := RValid_any a w; rw [ha] at this; exact this) (fun w => by have := RValid_any b w; rw [hb] at this; exact this)
          (Add_any a b) (Sub_any a b) (Mul_any a b) (Div_any a b) hJ
          (IntWalk.i64_in _ (by omega)) (IntWalk.i64_in _ (by omega)) (IntWalk.i64_in _ (by omega)) (IntWalk.i64_in _ (by omega))
          (Value_any _) (Value_any _) (Value_any _) (Value_any _) (Value_any _) (Value_any _) (Value_any _) (Value_any _)
          (mulR a.lo b.lo (vnOf ha (.inl rfl)) (vnOf hb (.inl rfl))) (mulR a.lo b.hi (vnOf ha (.inl rfl)) (vnOf hb (.inr rfl))) (mulR a.hi b.lo (vnOf ha (.inr rfl)) (vnOf hb (.inl rfl))) (mulR a.hi b.hi (vnOf ha (.inr rfl)) (vnOf hb (.inr rfl)))
          hp hq hr hz w
      · exact errors_ok_tftt a b (addM a b).1 (subM a b).1 (mulM a b).1 (dvM a b).1 (joinM a b).1 (addM a b).2 (subM a b).2 (mulM a b).2 (dvM a b).2 _ _ _ _ _ _ _ _ _ _ _ _
          (fun w => by have := RValid_any a w; rw [ha] at this; exact this) (fun w => by have := RValid_any b w; rw [hb] at this; exact this)
          (Add_any a b) (Sub_any a b) (Mul_any a b) (Div_any a b) hJ
          (IntWalk.i64_in _ (by omega)) (IntWalk.i64_in _ (by omega)) (IntWalk.i64_in _ (by omega)) (IntWalk.i64_in _ (by omega))
          (Value_any _) (Value_any _) (Value_any _) (Value_any _) (Value_any _) (Value_any _) (Value_any _) (Value_any _)
          (mulR a.lo b.lo (vnOf ha (.inl rfl)) (vnOf hb (.inl rfl))) (mulR a.lo b.hi (vnOf ha (.inl rfl)) (vnOf hb (.inr rfl))) (mulR a.hi b.lo (vnOf ha (.inr rfl)) (vnOf hb (.inl rfl))) (mulR a.hi b.hi (vnOf ha (.inr rfl)) (vnOf hb (.inr rfl)))
          hp hq hr hz w
      · exact errors_ok_tftf a b (addM a b).1 (subM a b).1 (mulM a b).1 (dvM a b).1 (joinM a b).1 (addM a b).2 (subM a b).2 (mulM a b).2 (dvM a b).2 _ _ _ _ _ _ _ _ _ _ _ _
          (fun w => by have := RValid_any a w; rw [ha] at this; exact this) (fun w => by have := RValid_any b w; rw [hb] at this; exact this)
          (Add_any a b) (Sub_any a b) (Mul_any a b) (Div_any a b) hJ
          (IntWalk.i64_in _ (by omega)) (IntWalk.i64_in _ (by omega)) (IntWalk.i64_in _ (by omega)) (IntWalk.i64_in _ (by omega))
          (Value_any _) (Value_any _) (Value_any _) (Value_any _) (Value_any _) (Value_any _) (Value_any _) (Value_any _)
          (mulR a.lo b.lo (vnOf ha (.inl rfl)) (vnOf hb (.inl rfl))) (mulR a.lo b.hi (vnOf ha (.inl rfl)) (vnOf hb (.inr rfl))) (mulR a.hi b.lo (vnOf ha (.inr rfl)) (vnOf hb (.inl rfl))) (mulR a.hi b.hi (vnOf ha (.inr rfl)) (vnOf hb (.inr rfl)))
          hp hq hr hz w
      · exact errors_ok_tfft a b (addM a b).1 (subM a b).1 (mulM a b).1 (dvM a b).1 (joinM a b).1 (addM a b).2 (subM a b).2 (mulM a b).2 (dvM a b).2 _ _ _ _ _ _ _ _ _ _ _ _
          (fun w => by have := RValid_any a w; rw [ha] at this; exact this) (fun w => by have := RValid_any b w; rw [hb] at this; exact this)
          (Add_any a b) (Sub_any a b) (Mul_any a b) (Div_any a b) hJ
          (IntWalk.i64_in _ (by omega)) (IntWalk.i64_in _ (by omega)) (IntWalk.i64_in _ (by omega)) (IntWalk.i64_in _ (by omega))
          (Value_any _) (Value_any _) (Value_any _) (Value_any _) (Value_any _) (Value_any _) (Value_any _) (Value_any _)
          (mulR a.lo b.lo (vnOf ha (.inl rfl)) (vnOf hb (.inl rfl))) (mulR a.lo b.hi (vnOf ha (.inl rfl)) (vnOf hb (.inr rfl))) (mulR a.hi b.lo (vnOf ha (.inr rfl)) (vnOf hb (.inl rfl))) (mulR a.hi b.hi (vnOf ha (.inr rfl)) (vnOf hb (.inr rfl)))
          hp hq hr hz w
      · exact errors_ok_tfff a b (addM a b).1 (subM a b).1 (mulM a b).1 (dvM a b).1 (joinM a b).1 (addM a b).2 (subM a b).2 (mulM a b).2 (dvM a b).2 _ _ _ _ _ _ _ _ _ _ _ _
          (fun w => by have := RValid_any a w; rw [ha] at this; exact this) (fun w => by have := RValid_any b w; rw [hb] at this; exact this)
          (Add_any a b) (Sub_any a b) (Mul_any a b) (Div_any a b) hJ
          (IntWalk.i64_in _ (by omega)) (IntWalk.i64_in _ (by omega)) (IntWalk.i64_in _ (by omega)) (IntWalk.i64_in _ (by omega))
          (Value_any _) (Value_any _) (Value_any _) (Value_any _) (Value_any _) (Value_any _) (Value_any _) (Value_any _)
          (mulR a.lo b.lo (vnOf ha (.inl rfl)) (vnOf hb (.inl rfl))) (mulR a.lo b.hi (vnOf ha (.inl rfl)) (vnOf hb (.inr rfl))) (mulR a.hi b.lo (vnOf ha (.inr rfl)) (vnOf hb (.inl rfl))) (mulR a.hi b.hi (vnOf ha (.inr rfl)) (vnOf hb (.inr rfl)))
          hp hq hr hz w
      · exact errors_ok_fttt a b (addM a b).1 (subM a b).1 (mulM a b).1 (dvM a b).1 (joinM a b).1 (addM a b).2 (subM a b).2 (mulM a b).2 (dvM a b).2 _ _ _ _ _ _ _ _ _ _ _ _
          (fun w => by have := RValid_any a w; rw [ha] at this; exact this) (fun w => by have := RValid_any b w; rw [hb] at this; exact this)
          (Add_any a b) (Sub_any a b) (Mul_any a b) (Div_any a b) hJ
          (IntWalk.i64_in _ (by omega)) (IntWalk.i64_in _ (by omega)) (IntWalk.i64_in _ (by omega)) (IntWalk.i64_in _ (by omega))
          (Value_any _) (Value_any _) (Value_any _) (Value_any _) (Value_any _) (Value_any _) (Value_any _) (Value_any _)
          (mulR a.lo b.lo (vnOf ha (.inl rfl)) (vnOf hb (.inl rfl))) (mulR a.lo b.hi (vnOf ha (.inl rfl)) (vnOf hb (.inr rfl))) (mulR a.hi b.lo (vnOf ha (.inr rfl)) (vnOf hb (.inl rfl))) (mulR a.hi b.hi (vnOf ha (.inr rfl)) (vnOf hb (.inr rfl)))
          hp hq hr hz w
      · exact errors_ok_fttf a b (addM a b).1 (subM a b).1 (mulM a b).1 (dvM a b).1 (joinM a b).1 (addM a b).2 (subM a b).2 (mulM a b).2 (dvM a b).2 _ _ _ _ _ _ _ _ _ _ _ _
          (fun w => by have := RValid_any a w; rw [ha] at this; exact this) (fun w => by have := RValid_any b w; rw [hb] at this; exact this)
          (Add_any a b) (Sub_any a b) (Mul_any a b) (Div_any a b) hJ
          (IntWalk.i64_in _ (by omega)) (IntWalk.i64_in _ (by omega)) (IntWalk.i64_in _ (by omega)) (IntWalk.i64_in _ (by omega))
          (Value_any _) (Value_any _) (Value_any _) (Value_any _) (Value_any _) (Value_any _) (Value_any _) (Value_any _)
          (mulR a.lo b.lo (vnOf ha (.inl rfl)) (vnOf hb (.inl rfl))) (mulR a.lo b.hi (vnOf ha (.inl rfl)) (vnOf hb (.inr rfl))) (mulR a.hi b.lo (vnOf ha (.inr rfl)) (vnOf hb (.inl rfl))) (mulR a.hi b.hi (vnOf ha (.inr rfl)) (vnOf hb (.inr rfl)))
          hp hq hr hz w
      · exact errors_ok_ftft a b (addM a b).1 (subM a b).1 (mulM a b).1 (dvM a b).1 (joinM a b).1 (addM a b).2 (subM a b).2 (mulM a b).2 (dvM a b).2 _ _ _ _ _ _ _ _ _ _ _ _
          (fun w => by have := RValid_any a w; rw [ha] at this; exact this) (fun w => by have := RValid_any b w; rw [hb] at this; exact this)
          (Add_any a b) (Sub_any a b) (Mul_any a b) (Div_any a b) hJ
          (IntWalk.i64_in _ (by omega)) (IntWalk.i64_in _ (by omega)) (IntWalk.i64_in _ (by omega)) (IntWalk.i64_in _ (by omega))
          (Value_any _) (Value_any _) (Value_any _) (Value_any _) (Value_any _) (Value_any _) (Value_any _) (Value_any _)
          (mulR a.lo b.lo (vnOf ha (.inl rfl)) (vnOf hb (.inl rfl))) (mulR a.lo b.hi (vnOf ha (.inl rfl)) (vnOf hb (.inr rfl))) (mulR a.hi b.lo (vnOf ha (.inr rfl)) (vnOf hb (.inl rfl))) (mulR a.hi b.hi (vnOf ha (.inr rfl)) (vnOf hb (.inr rfl)))
          hp hq hr hz w
      · exact errors_ok_ftff a b (addM a b).1 (subM a b).1 (mulM a b).1 (dvM a b).1 (joinM a b).1 (addM a b).2 (subM a b).2 (mulM a b).2 (dvM a b).2 _ _ _ _ _ _ _ _ _ _ _ _
          (fun w => by have := RValid_any a w; rw [ha] at this; exact this) (fun w => by have := RValid_any b w; rw [hb] at this; exact this)
          (Add_any a b) (Sub_any a b) (Mul_any a b) (Div_any a b) hJ
          (IntWalk.i64_in _ (by omega)) (IntWalk.i64_in _ (by omega)) (IntWalk.i64_in _ (by omega)) (IntWalk.i64_in _ (by omega))
          (Value_any _) (Value_any _) (Value_any _) (Value_any _) (Value_any _) (Value_any _) (Value_any _) (Value_any _)
          (mulR a.lo b.lo (vnOf ha (.inl rfl)) (vnOf hb (.inl rfl))) (mulR a.lo b.hi (vnOf ha (.inl rfl)) (vnOf hb (.inr rfl))) (mulR a.hi b.lo (vnOf ha (.inr rfl)) (vnOf hb (.inl rfl))) (mulR a.hi b.hi (vnOf ha (.inr rfl)) (vnOf hb (.inr rfl)))
          hp hq hr hz w
      · exact errors_ok_fftt a b (addM a b).1 (subM a b).1 (mulM a b).1 (dvM a b).1 (joinM a b).1 (addM a b).2 (subM a b).2 (mulM a b).2 (dvM a b).2 _ _ _ _ _ _ _ _ _ _ _ _
          (fun w => by have := RValid_any a w; rw [ha] at this; exact this) (fun w => by have := RValid_any b w; rw [hb] at this; exact this)
          (Add_any a b) (Sub_any a b) (Mul_any a b) (Div_any a b) hJ
          (IntWalk.i64_in _ (by omega)) (IntWalk.i64_in _ (by omega)) (IntWalk.i64_in _ (by omega)) (IntWalk.i64_in _ (by omega))
          (Value_any _) (Value_any _) (Value_any _) (Value_any _) (Value_any _) (Value_any _) (Value_any _) (Value_any _)
          (mulR a.lo b.lo (vnOf ha (.inl rfl)) (vnOf hb (.inl rfl))) (mulR a.lo b.hi (vnOf ha (.inl rfl)) (vnOf hb (.inr rfl))) (mulR a.hi b.lo (vnOf ha (.inr rfl)) (vnOf hb (.inl rfl))) (mulR a.hi b.hi (vnOf ha (.inr rfl)) (vnOf hb (.inr rfl)))
          hp hq hr hz w
      · exact errors_ok_fftf a b (addM a b).1 (subM a b).1 (mulM a b).1 (dvM a b).1 (joinM a b).1 (addM a b).2 (subM a b).2 (mulM a b).2 (dvM a b).2 _ _ _ _ _ _ _ _ _ _ _ _
          (fun w => by have := RValid_any a w; rw [ha] at this; exact this) (fun w => by have := RValid_any b w; rw [hb] at this; exact this)
          (Add_any a b) (Sub_any a b) (Mul_any a b) (Div_any a b) hJ
          (IntWalk.i64_in _ (by omega)) (IntWalk.i64_in _ (by omega)) (IntWalk.i64_in _ (by omega)) (IntWalk.i64_in _ (by omega))
          (Value_any _) (Value_any _) (Value_any _) (Value_any _) (Value_any _) (Value_any _) (Value_any _) (Value_any _)
          (mulR a.lo b.lo (vnOf ha (.inl rfl)) (vnOf hb (.inl rfl))) (mulR a.lo b.hi (vnOf ha (.inl rfl)) (vnOf hb (.inr rfl))) (mulR a.hi b.lo (vnOf ha (.inr rfl)) (vnOf hb (.inl rfl))) (mulR a.hi b.hi (vnOf ha (.inr rfl)) (vnOf hb (.inr rfl)))
          hp hq hr hz w
      · exact errors_ok_ffft a b (addM a b).1 (subM a b).1 (mulM a b).1 (dvM a b).1 (joinM a b).1 (addM a b).2 (subM a b).2 (mulM a b).2 (dvM a b).2 _ _ _ _ _ _ _ _ _ _ _ _
          (fun w => by have := RValid_any a w; rw [ha] at this; exact this) (fun w => by have := RValid_any b w; rw [hb] at this; exact this)
          (Add_any a b) (Sub_any a b) (Mul_any a b) (Div_any a b) hJ
          (IntWalk.i64_in _ (by omega)) (IntWalk.i64_in _ (by omega)) (IntWalk.i64_in _ (by omega)) (IntWalk.i64_in _ (by omega))
          (Value_any _) (Value_any _) (Value_any _) (Value_any _) (Value_any _) (Value_any _) (Value_any _) (Value_any _)
          (mulR a.lo b.lo (vnOf ha (.inl rfl)) (vnOf hb (.inl rfl))) (mulR a.lo b.hi (vnOf ha (.inl rfl)) (vnOf hb (.inr rfl))) (mulR a.hi b.lo (vnOf ha (.inr rfl)) (vnOf hb (.inl rfl))) (mulR a.hi b.hi (vnOf ha (.inr rfl)) (vnOf hb (.inr rfl)))
          hp hq hr hz w
      · exact errors_ok_ffff a b (addM a b).1 (subM a b).1 (mulM a b).1 (dvM a b).1 (joinM a b).1 (addM a b).2 (subM a b).2 (mulM a b).2 (dvM a b).2 _ _ _ _ _ _ _ _ _ _ _ _
          (fun w => by have := RValid_any a w; rw [ha] at this; exact this) (fun w => by have := RValid_any b w; rw [hb] at this; exact this)
          (Add_any a b) (Sub_any a b) (Mul_any a b) (Div_any a b) hJ
          (IntWalk.i64_in _ (by omega)) (IntWalk.i64_in _ (by omega)) (IntWalk.i64_in _ (by omega)) (IntWalk.i64_in _ (by omega))
          (Value_any _) (Value_any _) (Value_any _) (Value_any _) (Value_any _) (Value_any _) (Value_any _) (Value_any _)
          (mulR a.lo b.lo (vnOf ha (.inl rfl)) (vnOf hb (.inl rfl))) (mulR a.lo b.hi (vnOf ha (.inl rfl)) (vnOf hb (.inr rfl))) (mulR a.hi b.lo (vnOf ha (.inr rfl)) (vnOf hb (.inl rfl))) (mulR a.hi b.hi (vnOf ha (.inr rfl)) (vnOf hb (.inr rfl)))
          hp hq hr hz w
end Go.Proofs.Ytphjkkkjkfclgaa
