/- Ratios (RaA) as rational numbers: when an operation has a result; the order; flows and links the other way round. No code. -/
import Derived.Test.YtbjhdfakocfapaaRaA
import Derived.Test.YtbjhdfakocfapaaMmA
namespace Go.Proofs.Ytbjhdfakocfapaa
set_option linter.unusedVariables false
set_option linter.unusedSimpArgs false
namespace MM
/-- the sum in the opposite order -/
theorem sumN_head (n : Nat) (f : Nat → Rat) : sumN (n + 1) f = f 0 + sumN n (fun i => f (i + 1)) := by
  induction n with
  | zero => simp only [sumN]; grind
  | succ n ih => rw [sumN, ih, sumN]; grind
theorem sumN_rev (n : Nat) (f : Nat → Rat) : sumN n f = sumN n (fun i => f (n - 1 - i)) := by
  induction n generalizing f with
  | zero => rfl
  | succ n ih =>
    rw [sumN_head n f, sumN, ih (fun i => f (i + 1))]
    have e : sumN n (fun i => f (n - 1 - i + 1)) = sumN n (fun i => f (n + 1 - 1 - i)) := sumN_congr fun i hi => by congr 1; omega
    rw [e]
    simp only [Nat.add_sub_cancel, Nat.sub_self]
    grind
/-- flows and links numbered the other way round -/
def rev (T : Nt) : Nt := ⟨T.N, T.L, fun i l => T.on (T.N - 1 - i) (T.L - 1 - l), fun l => T.cap (T.L - 1 - l), fun i => T.lm (T.N - 1 - i)⟩
theorem load_rev (T : Nt) (x : Nat → Rat) (l : Nat) : load (rev T) (fun i => x (T.N - 1 - i)) l = load T x (T.L - 1 - l) := by
  unfold load rev
  exact (sumN_rev T.N (fun i => if T.on i (T.L - 1 - l) = true then x i else 0)).symm
theorem fair_rev {T : Nt} {x : Nat → Rat} (hx : Fair T x) : Fair (rev T) (fun i => x (T.N - 1 - i)) := by
  refine ⟨⟨fun i hi => hx.1.1 (T.N - 1 - i) (by have : i < T.N := hi; omega), fun l hl => ?_⟩, fun i hi => ?_⟩
  · rw [load_rev]; exact hx.1.2 _ (by have : l < T.L := hl; omega)
  · have hi' : i < T.N := hi
    rcases hx.2 (T.N - 1 - i) (by omega) with h | ⟨l, hl, ho, hf, hj⟩
    · exact .inl h
    · refine .inr ⟨T.L - 1 - l, by show T.L - 1 - l < T.L; omega, ?_, ?_, fun j hj1 hj2 => hj _ (by have : j < T.N := hj1; omega) ?_⟩
      · show T.on (T.N - 1 - i) (T.L - 1 - (T.L - 1 - l)) = true
        rw [show T.L - 1 - (T.L - 1 - l) = l by omega]; exact ho
      · rw [load_rev, show T.L - 1 - (T.L - 1 - l) = l by omega, hf]
        show T.cap l = T.cap (T.L - 1 - (T.L - 1 - l))
        rw [show T.L - 1 - (T.L - 1 - l) = l by omega]
      · have : T.on (T.N - 1 - j) (T.L - 1 - (T.L - 1 - l)) = true := hj2
        rw [show T.L - 1 - (T.L - 1 - l) = l by omega] at this; exact this
end MM
/-- the value of a ratio -/
def val (q : Q) : Rat := (q.n : Rat) / (q.d : Rat)
theorem cast_ne {z : Int} (h : z ≠ 0) : (z : Rat) ≠ 0 := fun e => h (Rat.intCast_inj.1 (by rw [e]; rfl))
theorem div_eq_iff' {a b c d : Int} (hb : b ≠ 0) (hd : d ≠ 0) : (a : Rat) / b = (c : Rat) / d ↔ a * d = c * b := by
  have hb' := cast_ne hb
  have hd' := cast_ne hd
  rw [← Rat.intCast_inj, Rat.intCast_mul, Rat.intCast_mul]
  constructor
  · intro h
    have h1 : (a : Rat) / b * b = a := by grind
    have h2 : (c : Rat) / d * d = c := by grind
    have : (a : Rat) / b * b * d = (c : Rat) / d * d * b := by rw [h]; grind
    rw [h1, h2] at this; exact this
  · intro h; grind
theorem val_inj {p q : Q} (hp : qB p = true) (hq : qB q = true) (h : val p = val q) : p = q := by
  have e := (div_eq_iff' (qB_d hp) (qB_d hq)).1 h
  have h1 := qB_iff.1 hp
  have h2 := qB_iff.1 hq
  exact one_low h1.1.1 h2.1.1 h1.2 h2.2 e
theorem red_val {n d : Int} (h : d ≠ 0) {r : Q} : redM n d = (r, 0) ↔ qB r = true ∧ val r = (n : Rat) / d := by
  rw [red_iff h]
  constructor
  · rintro ⟨h1, h2⟩
    exact ⟨h1, (div_eq_iff' (qB_d h1) h).2 h2⟩
  · rintro ⟨h1, h2⟩
    exact ⟨h1, (div_eq_iff' (qB_d h1) h).1 h2⟩
/-- a number that has a ratio: over D whole, and not too great -/
def HasQ (r : Rat) : Prop := ∃ (D z : Int), 1 ≤ D ∧ D ≤ 1000000000 ∧ -1000000000 ≤ z ∧ z ≤ 1000000000 ∧ (D : Rat) * r = z
theorem red_has {n d : Int} (h : d ≠ 0) (hr : HasQ ((n : Rat) / d)) : redM n d = ((redM n d).1, 0) ∧ qB (redM n d).1 = true ∧ val (redM n d).1 = (n : Rat) / d := by
  obtain ⟨D, z, h1, h2, h3, h4, he⟩ := hr
  have hD : D ≠ 0 := by omega
  have e : (n : Rat) / d = (z : Rat) / D := by
    have := cast_ne hD
    rw [← he]; grind
  have e2 := (div_eq_iff' h hD).1 e
  have e3 : redM n d = redM z D := red_same h hD e2
  have e4 := pair_eta (red_small (n := z) hD ⟨h3, h4⟩ ⟨by omega, h2⟩)
  have e5 : redM n d = ((redM n d).1, 0) := by rw [e3]; exact e4
  exact ⟨e5, (red_val h).1 e5⟩
theorem add_has {a b : Q} (ha : qB a = true) (hb : qB b = true) (h : HasQ (val a + val b)) : addM a b = ((addM a b).1, 0) ∧ qB (addM a b).1 = true ∧ val (addM a b).1 = val a + val b := by
  have e : ((a.n * b.d + b.n * a.d : Int) : Rat) / ((a.d * b.d : Int) : Rat) = val a + val b := by
    have h1 := cast_ne (qB_d ha)
    have h2 := cast_ne (qB_d hb)
    unfold val
    rw [Rat.intCast_add, Rat.intCast_mul, Rat.intCast_mul, Rat.intCast_mul]
    grind
  unfold addM
  rw [if_pos (vvB_iff.2 ⟨ha, hb⟩), ← e]
  rw [← e] at h
  exact red_has (mul_ne (qB_d ha) (qB_d hb)) h
theorem sub_has {a b : Q} (ha : qB a = true) (hb : qB b = true) (h : HasQ (val a - val b)) : subM a b = ((subM a b).1, 0) ∧ qB (subM a b).1 = true ∧ val (subM a b).1 = val a - val b := by
  have e : ((a.n * b.d - b.n * a.d : Int) : Rat) / ((a.d * b.d : Int) : Rat) = val a - val b := by
    have h1 := cast_ne (qB_d ha)
    have h2 := cast_ne (qB_d hb)
    unfold val
    rw [Rat.intCast_sub, Rat.intCast_mul, Rat.intCast_mul, Rat.intCast_mul]
    grind
  unfold subM
  rw [if_pos (vvB_iff.2 ⟨ha, hb⟩), ← e]
  rw [← e] at h
  exact red_has (mul_ne (qB_d ha) (qB_d hb)) h
theorem div_has {a b : Q} (ha : qB a = true) (hb : qB b = true) (h0 : b.n ≠ 0) (h : HasQ (val a / val b)) : divM a b = ((divM a b).1, 0) ∧ qB (divM a b).1 = true ∧ val (divM a b).1 = val a / val b := by
  have e : ((a.n * b.d : Int) : Rat) / ((a.d * b.n : Int) : Rat) = val a / val b := by
    have h1 := cast_ne (qB_d ha)
    have h2 := cast_ne (qB_d hb)
    have h3 := cast_ne h0
    unfold val
    rw [Rat.intCast_mul, Rat.intCast_mul]
    grind
  unfold divM
  rw [if_pos (vvB_iff.2 ⟨ha, hb⟩), ← e]
  rw [← e] at h
  exact red_has (mul_ne (qB_d ha) h0) h
/-- the converse: a sum without an error is exact -/
theorem add_val {a b s : Q} (h : addM a b = (s, 0)) : qB s = true ∧ val s = val a + val b := by
  obtain ⟨va, vb, vs, e⟩ := add_ok.1 h
  refine ⟨vs, ?_⟩
  have h1 := cast_ne (qB_d va)
  have h2 := cast_ne (qB_d vb)
  have h3 := (div_eq_iff' (qB_d vs) (mul_ne (qB_d va) (qB_d vb))).2 e
  unfold val
  rw [h3, Rat.intCast_add, Rat.intCast_mul, Rat.intCast_mul, Rat.intCast_mul]
  grind
theorem val_lt {a b : Q} (ha : qB a = true) (hb : qB b = true) : val a < val b ↔ a.n * b.d < b.n * a.d := by
  have h1 : (0 : Rat) < (a.d : Rat) := Rat.intCast_pos.2 (qB_p ha)
  have h2 : (0 : Rat) < (b.d : Rat) := Rat.intCast_pos.2 (qB_p hb)
  have e1 : val a * (a.d * b.d) = (a.n : Rat) * b.d := by unfold val; grind
  have e2 : val b * (a.d * b.d) = (b.n : Rat) * a.d := by unfold val; grind
  have h3 : (0 : Rat) < (a.d : Rat) * b.d := Rat.mul_pos h1 h2
  rw [← Rat.intCast_lt_intCast, Rat.intCast_mul, Rat.intCast_mul, ← e1, ← e2]
  constructor
  · intro h; exact Rat.mul_lt_mul_of_pos_right h h3
  · intro h
    refine Classical.byContradiction fun hc => ?_
    have := Rat.mul_le_mul_of_nonneg_right (show val b ≤ val a by grind) (Rat.le_of_lt h3)
    grind
theorem cmp_val {a b : Q} (ha : qB a = true) (hb : qB b = true) : (0 < (cmpM a b).1 ↔ val b < val a) ∧ ((cmpM a b).1 < 0 ↔ val a < val b) ∧ (cmpM a b).2 = 0 := by
  rw [cmp_v ha hb]
  refine ⟨?_, ?_, rfl⟩
  · rw [val_lt hb ha]; exact sg_pos _ _
  · rw [val_lt ha hb]; exact sg_lt _ _
end Go.Proofs.Ytbjhdfakocfapaa
