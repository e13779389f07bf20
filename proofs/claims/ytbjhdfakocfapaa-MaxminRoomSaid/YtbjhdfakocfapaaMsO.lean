/- Package maxmin: the rates that the model of Share finds are the max-min fair ones; their denominators. No code. -/
import Derived.Test.YtbjhdfakocfapaaMsN
import Derived.Test.YtbjhdfakocfapaaMmD
namespace Go.Proofs.Ytbjhdfakocfapaa
set_option linter.unusedVariables false
set_option linter.unusedSimpArgs false
open MM
/-- the network over rational numbers -/
def netT (n : Net) : Nt := ⟨n.f.length, n.c.length, fun i l => onF n.f (l : Int) i, fun l => (num n.c l : Rat), fun i => (num n.l i : Rat)⟩
def ratT (xs : List Q) (i : Nat) : Rat := val (rat xs i)
theorem capsB_num {l : List Int} (h : capsB l = true) (i : Nat) : 0 ≤ num l i ∧ num l i ≤ 1000 := by
  unfold num
  cases e : l[i]? with
  | none => simp
  | some x =>
    have hx : x ∈ l := List.mem_of_getElem? e
    have := List.all_eq_true.1 h x hx
    simp only [capB, Bool.and_eq_true, decide_eq_true_eq] at this
    simpa using this
theorem qB_one {k : Int} (h0 : 0 ≤ k) (h1 : k ≤ 1000) : qB ⟨k, 1⟩ = true := by
  rw [qB_iff]
  refine ⟨by simp only; omega, ?_⟩
  unfold gc
  simp
theorem val_one (k : Int) : val ⟨k, 1⟩ = (k : Rat) := by unfold val; simp; grind
theorem le_cast {a b : Int} : (a : Rat) ≤ (b : Rat) ↔ a ≤ b := by
  constructor
  · intro h
    refine Classical.byContradiction fun hc => ?_
    have : (b : Rat) < (a : Rat) := Rat.intCast_lt_intCast.2 (by omega)
    grind
  · intro h
    rcases Int.lt_or_eq_of_le h with h | h
    · have : (a : Rat) < (b : Rat) := Rat.intCast_lt_intCast.2 h
      grind
    · rw [h]; exact Rat.le_refl
theorem hasQ_of {D : Nat} {r : Rat} (h1 : 1 ≤ D) (h2 : D ≤ 1000000) (hi : IsInt ((D : Rat) * r)) (h3 : 0 ≤ r) (h4 : r ≤ 1000) : HasQ r := by
  obtain ⟨z, hz⟩ := hi
  have hD : (0 : Rat) ≤ (D : Rat) := by
    have : ((0 : Int) : Rat) ≤ ((D : Int) : Rat) := le_cast.2 (by omega)
    rw [Rat.intCast_natCast] at this
    simpa using this
  have hz0 : ((0 : Int) : Rat) ≤ (z : Rat) := by
    rw [← hz]
    have := Rat.mul_le_mul_of_nonneg_left h3 hD
    simp only [Rat.mul_zero] at this
    simpa using this
  have hz1 : (z : Rat) ≤ ((1000 * D : Int) : Rat) := by
    rw [← hz]
    have := Rat.mul_le_mul_of_nonneg_left h4 hD
    rw [Rat.intCast_mul, Rat.intCast_natCast]
    have e : ((1000 : Int) : Rat) = 1000 := rfl
    rw [e]
    grind
  have a1 := le_cast.1 hz0
  have a2 := le_cast.1 hz1
  refine ⟨D, z, by omega, by omega, by omega, by omega, ?_⟩
  rw [Rat.intCast_natCast]
  exact hz
theorem sumN_mono {f : Nat → Rat} (h : ∀ i, 0 ≤ f i) : ∀ {p N : Nat}, p ≤ N → sumN p f ≤ sumN N f := by
  intro p N hp
  induction N with
  | zero => obtain rfl : p = 0 := by omega
            exact Rat.le_refl
  | succ N ih =>
    by_cases e : p = N + 1
    · subst e; exact Rat.le_refl
    · have h1 := ih (by omega)
      have h2 := h N
      simp only [sumN]
      grind
theorem sumN_nn {f : Nat → Rat} (h : ∀ i, 0 ≤ f i) (p : Nat) : 0 ≤ sumN p f := sumN_mono h (Nat.zero_le p)
/-- what holds between two rounds -/
structure Good (n : Net) (u : Rat) (D : Nat) (xs : List Q) (fx : List Bool) : Prop where
  inv : Inv (netT n) u (fxd fx) (ratT xs)
  den : Den (netT n) D (fxd fx) (ratT xs)
  ok : ∀ i, i < n.f.length → fxd fx i = true → qB (rat xs i) = true
  lx : xs.length = n.f.length
  lf : fx.length = n.f.length
def stK (n : Net) (xs : List Q) (fx : List Bool) (l p : Nat) : Q × Int := (sel (onF n.f (l : Int)) p).foldl (lvStep xs fx) (⟨num n.c l, 1⟩, 0)
theorem stK_succ (n : Net) (xs : List Q) (fx : List Bool) (l p : Nat) : stK n xs fx l (p + 1) = if onF n.f (l : Int) p = true then lvStep xs fx (stK n xs fx l p) p else stK n xs fx l p := by
  unfold stK
  rw [sel_succ]
  split
  · rw [List.foldl_append]; rfl
  · rw [List.append_nil]
theorem stK_all (n : Net) (xs : List Q) (fx : List Bool) (l : Nat) : lvK n xs fx l (onL n.f (l : Int)).length = stK n xs fx l n.f.length := by
  unfold lvK stK onL
  rw [List.take_length]
def ff (n : Net) (xs : List Q) (fx : List Bool) (l i : Nat) : Rat := if onF n.f (l : Int) i = true then (if fxd fx i = true then ratT xs i else 0) else 0
theorem level_run {n : Net} {u : Rat} {D : Nat} {xs : List Q} {fx : List Bool} (hg : Good n u D xs fx) (hc : capsB n.c = true) (hN : n.f.length ≤ 8) {l : Nat} (hl : l < n.c.length) :
    ∀ p, p ≤ n.f.length → qB (stK n xs fx l p).1 = true ∧ val (stK n xs fx l p).1 = (num n.c l : Rat) - sumN p (ff n xs fx l) ∧ (stK n xs fx l p).2 = (cf p (fun i => onF n.f (l : Int) i && !fxd fx i) : Int) := by
  have hcap := capsB_num hc l
  have hnn : ∀ i, i < n.f.length → 0 ≤ ff n xs fx l i := fun i hi => by
    unfold ff
    split
    · split
      · exact (hg.inv.fix i hi (by assumption)).1
      · exact Rat.le_refl
    · exact Rat.le_refl
  have hfl : sumN n.f.length (ff n xs fx l) ≤ (num n.c l : Rat) := by
    have h1 := hg.inv.room l hl
    have h2 := many_nn (netT n) (fxd fx) l
    have h3 := Rat.mul_le_mul_of_nonneg_left h2 hg.inv.u0
    have h4 : fload (netT n) (fxd fx) (ratT xs) l = sumN n.f.length (ff n xs fx l) := rfl
    rw [h4] at h1
    have h5 : (netT n).cap l = (num n.c l : Rat) := rfl
    rw [h5] at h1
    simp only [Rat.mul_zero] at h3
    grind
  have hpart : ∀ p, p ≤ n.f.length → 0 ≤ sumN p (ff n xs fx l) ∧ sumN p (ff n xs fx l) ≤ (num n.c l : Rat) := by
    intro p hp
    have e : ∀ q, q ≤ n.f.length → sumN q (ff n xs fx l) = sumN q (fun i => if i < n.f.length then ff n xs fx l i else 0) := fun q hq => sumN_congr fun i hi => by rw [if_pos (by omega)]
    have hn2 : ∀ i, 0 ≤ (if i < n.f.length then ff n xs fx l i else 0) := fun i => by split; exact hnn i (by assumption); exact Rat.le_refl
    refine ⟨by rw [e p hp]; exact sumN_nn hn2 p, ?_⟩
    refine Rat.le_trans ?_ hfl
    rw [e p hp, e _ (Nat.le_refl _)]
    exact sumN_mono hn2 hp
  have hint : ∀ p, p ≤ n.f.length → IsInt ((D : Rat) * ((num n.c l : Rat) - sumN p (ff n xs fx l))) := by
    intro p hp
    have e : (D : Rat) * ((num n.c l : Rat) - sumN p (ff n xs fx l)) = (D : Rat) * (num n.c l : Rat) - (D : Rat) * sumN p (ff n xs fx l) := by grind
    rw [e]
    refine isInt_sub (isInt_mul (isInt_nat _) ⟨_, rfl⟩) ?_
    rw [← sumN_mul]
    refine isInt_sum fun i hi => ?_
    unfold ff
    split
    · split
      · exact hg.den.int i (show i < n.f.length by omega) (by assumption)
      · rw [Rat.mul_zero]; exact isInt_zero
    · rw [Rat.mul_zero]; exact isInt_zero
  have hD18 : D ≤ 18 := Nat.le_trans hg.den.le (pf_18 _)
  have hhas : ∀ p, p ≤ n.f.length → HasQ ((num n.c l : Rat) - sumN p (ff n xs fx l)) := by
    intro p hp
    have h1 := hpart p hp
    have h2 : (num n.c l : Rat) ≤ ((1000 : Int) : Rat) := le_cast.2 hcap.2
    have h3 : ((1000 : Int) : Rat) = 1000 := rfl
    rw [h3] at h2
    exact hasQ_of hg.den.pos (by omega) (hint p hp) (by grind) (by grind)
  intro p
  induction p with
  | zero =>
    intro _
    refine ⟨qB_one hcap.1 hcap.2, ?_, rfl⟩
    show val ⟨num n.c l, 1⟩ = _
    rw [val_one]
    simp only [sumN]
    grind
  | succ p ih =>
    intro hp
    obtain ⟨i1, i2, i3⟩ := ih (by omega)
    rw [stK_succ]
    by_cases ho : onF n.f (l : Int) p = true
    · rw [if_pos ho]
      unfold lvStep
      by_cases hf : fxd fx p = true
      · rw [if_pos hf]
        have hq := hg.ok p (by omega) hf
        have e1 : ff n xs fx l p = val (rat xs p) := by unfold ff; rw [if_pos ho, if_pos hf]; rfl
        have e2 : val (stK n xs fx l p).1 - val (rat xs p) = (num n.c l : Rat) - sumN (p + 1) (ff n xs fx l) := by
          rw [i2, ← e1]; simp only [sumN]; grind
        obtain ⟨-, s1, s2⟩ := sub_has i1 hq (by rw [e2]; exact hhas (p + 1) hp)
        refine ⟨s1, by rw [s2, e2], ?_⟩
        simp only [cf]
        rw [i3, if_neg (by simp [hf])]
        simp
      · rw [if_neg hf]
        have hf' : fxd fx p = false := by simpa using hf
        have e1 : ff n xs fx l p = 0 := by unfold ff; rw [if_pos ho, if_neg hf]
        refine ⟨i1, ?_, ?_⟩
        · simp only [sumN]; rw [e1]; show val (stK n xs fx l p).1 = _; rw [i2]; grind
        · simp only [cf]
          rw [if_pos (by simp [ho, hf'])]
          show (stK n xs fx l p).2 + 1 = _
          rw [i3]; omega
    · rw [if_neg ho]
      have ho' : onF n.f (l : Int) p = false := by simpa using ho
      have e1 : ff n xs fx l p = 0 := by unfold ff; rw [if_neg ho]
      refine ⟨i1, ?_, ?_⟩
      · simp only [sumN]; rw [e1, i2]; grind
      · simp only [cf]
        rw [if_neg (by simp [ho']), i3]
        simp
end Go.Proofs.Ytbjhdfakocfapaa
