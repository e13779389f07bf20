/- Mathematics of the laws on max-min fairness: possible numbers over a denominator are feasible; nobody can have more. No code. -/
import Derived.Test.YtbjhdfakocfapaaMuC
namespace Go.Proofs.Ytbjhdfakocfapaa
set_option linter.unusedVariables false
set_option linter.unusedSimpArgs false
open MM
theorem sI_cast (n : Nat) (f : Nat → Int) : ((sI n f : Int) : Rat) = sumN n (fun i => ((f i : Int) : Rat)) := by
  induction n with
  | zero => rfl
  | succ n ih => rw [sI, Rat.intCast_add, ih, sumN]
/-- the rates of numbers over d -/
def over (ys : List Int) (d : Int) (i : Nat) : Rat := (num ys i : Rat) / (d : Rat)
theorem d_pos {d : Int} (h : 1 ≤ d) : (0 : Rat) < (d : Rat) := Rat.intCast_pos.2 (by omega)
theorem over_mul {ys : List Int} {d : Int} (h : 1 ≤ d) (i : Nat) : over ys d i * (d : Rat) = (num ys i : Rat) := by
  have := d_pos h
  unfold over
  grind
theorem le_of_mul {a b c : Rat} (hc : 0 < c) (h : a * c ≤ b * c) : a ≤ b := by
  refine Classical.byContradiction fun hn => ?_
  have := Rat.mul_lt_mul_of_pos_right (show b < a by grind) hc
  grind
theorem load_over {n : Net} {ys : List Int} {d : Int} (h : 1 ≤ d) (l : Nat) : MM.load (netT n) (over ys d) l * (d : Rat) = ((sI n.f.length (onS n ys l) : Int) : Rat) := by
  rw [sI_cast]
  show sumN n.f.length _ * (d : Rat) = _
  have e : sumN n.f.length (fun i => ((onS n ys l i : Int) : Rat)) = sumN n.f.length (fun i => (d : Rat) * (if (netT n).on i l = true then over ys d i else 0)) := by
    refine sumN_congr fun i hi => ?_
    have h1 := over_mul (ys := ys) h i
    unfold onS
    rw [netT_on]
    split
    · rw [← h1]; grind
    · rw [Rat.mul_zero]; rfl
  rw [e, sumN_mul]
  show _ = (d : Rat) * sumN n.f.length _
  grind
theorem poss_feas {n : Net} {d : Int} {ys : List Int} (hv : validB n = true) (hd : 1 ≤ d) (h : Poss n d ys) : MM.Feas (netT n) (over ys d) := by
  obtain ⟨k1, k2, k3, k4, k5, k6⟩ := valid_parts hv
  have hp := d_pos hd
  refine ⟨fun i hi => ⟨?_, fun h0 => ?_⟩, fun l hl => ?_⟩
  · refine le_of_mul hp ?_
    rw [over_mul hd, Rat.zero_mul]
    exact le_cast.2 (h.nn i).1
  · refine le_of_mul hp ?_
    rw [over_mul hd]
    have := le_cast.2 (h.lim i ((lim_iff k6 i).1 h0))
    rw [Rat.intCast_mul] at this
    exact this
  · refine le_of_mul hp ?_
    rw [load_over hd]
    have := le_cast.2 (h.cap l hl)
    rw [Rat.intCast_mul] at this
    exact this
/-- a ratio against a number over d -/
def cpd (q : Q) (y d : Int) : Int := q.n * d - y * q.d
theorem cpd_lt {q : Q} {ys : List Int} {i : Nat} {d : Int} (hq : qB q = true) (hd : 1 ≤ d) : cpd q (num ys i) d < 0 ↔ val q < over ys d i := by
  have h1 := d_pos hd
  have h2 : (0 : Rat) < (q.d : Rat) := Rat.intCast_pos.2 (qB_p hq)
  have h3 := Rat.mul_pos h1 h2
  have e1 : val q * (d * q.d) = (q.n : Rat) * d := by unfold val; grind
  have e2 : over ys d i * (d * q.d) = (num ys i : Rat) * q.d := by have := over_mul (ys := ys) hd i; rw [← this]; grind
  have e3 : cpd q (num ys i) d < 0 ↔ q.n * d < num ys i * q.d := by unfold cpd; omega
  rw [e3, ← Rat.intCast_lt_intCast, Rat.intCast_mul, Rat.intCast_mul, ← e1, ← e2]
  constructor
  · intro h
    refine Classical.byContradiction fun hc => ?_
    have := Rat.mul_le_mul_of_nonneg_right (show over ys d i ≤ val q by grind) (Rat.le_of_lt h3)
    grind
  · intro h
    exact Rat.mul_lt_mul_of_pos_right h h3
theorem cpd_gt {q : Q} {ys : List Int} {i : Nat} {d : Int} (hq : qB q = true) (hd : 1 ≤ d) : 0 < cpd q (num ys i) d ↔ over ys d i < val q := by
  have h1 := d_pos hd
  have h2 : (0 : Rat) < (q.d : Rat) := Rat.intCast_pos.2 (qB_p hq)
  have h3 := Rat.mul_pos h1 h2
  have e1 : val q * (d * q.d) = (q.n : Rat) * d := by unfold val; grind
  have e2 : over ys d i * (d * q.d) = (num ys i : Rat) * q.d := by have := over_mul (ys := ys) hd i; rw [← this]; grind
  have e3 : 0 < cpd q (num ys i) d ↔ num ys i * q.d < q.n * d := by unfold cpd; omega
  rw [e3, ← Rat.intCast_lt_intCast, Rat.intCast_mul, Rat.intCast_mul, ← e1, ← e2]
  constructor
  · intro h
    refine Classical.byContradiction fun hc => ?_
    have := Rat.mul_le_mul_of_nonneg_right (show val q ≤ over ys d i by grind) (Rat.le_of_lt h3)
    grind
  · intro h
    exact Rat.mul_lt_mul_of_pos_right h h3
theorem cpd_bounds {q : Q} {y d : Int} (hq : qB q = true) (hd : 1 ≤ d ∧ d ≤ 60) (hy : 0 ≤ y ∧ y ≤ 1000 * d) : (-1000000000000000 ≤ q.n * d ∧ q.n * d ≤ 1000000000000000) ∧ (-1000000000000000 ≤ y * q.d ∧ y * q.d ≤ 1000000000000000) := by
  have h1 := (qB_iff.1 hq).1
  have a1 : q.n * d ≤ 1000000000 * d := Int.mul_le_mul_of_nonneg_right h1.2.2.2 (by omega)
  have a2 : -1000000000 * d ≤ q.n * d := Int.mul_le_mul_of_nonneg_right h1.2.2.1 (by omega)
  have b1 : y * q.d ≤ 60000 * q.d := Int.mul_le_mul_of_nonneg_right (show y ≤ 60000 by omega) (by omega)
  have b2 : 0 ≤ y * q.d := Int.mul_nonneg hy.1 (by omega)
  omega
/-- does some flow that has at most the rate of flow i get less by the numbers (of the first k flows) -/
def found (xs : List Q) (ys : List Int) (d : Int) (i k : Nat) : Bool := (List.range k).any (fun j => decide ((cmpM (rat xs j) (rat xs i)).1 ≤ 0) && decide (0 < cpd (rat xs j) (num ys j) d))
theorem found_succ (xs : List Q) (ys : List Int) (d : Int) (i k : Nat) : found xs ys d i (k + 1) = (found xs ys d i k || (decide ((cmpM (rat xs k) (rat xs i)).1 ≤ 0) && decide (0 < cpd (rat xs k) (num ys k) d))) := by
  unfold found
  rw [List.range_succ, List.any_append]
  simp
theorem nomore_found {n : Net} {d : Int} {ys : List Int} (hv : validB n = true) (hd : 1 ≤ d) (h : Poss n d ys) {i : Nat} (hi : i < n.f.length) (hlt : cpd (rat (shareM n) i) (num ys i) d < 0) : found (shareM n) ys d i n.f.length = true := by
  obtain ⟨hf, hl, hq, -⟩ := share_fair hv
  obtain ⟨k, hk, h1, h2⟩ := no_more (hf.2 i hi) (poss_feas hv hd h) hi ((cpd_lt (hq i hi) hd).1 hlt)
  unfold found
  rw [List.any_eq_true]
  refine ⟨k, List.mem_range.2 hk, ?_⟩
  rw [Bool.and_eq_true, decide_eq_true_eq, decide_eq_true_eq]
  refine ⟨?_, (cpd_gt (hq k hk) hd).2 h2⟩
  refine Classical.byContradiction fun hc => ?_
  have h4 : ratT (shareM n) i < ratT (shareM n) k := (cmp_val (hq k hk) (hq i hi)).1.1 (by omega)
  grind
end Go.Proofs.Ytbjhdfakocfapaa
