/- Mathematics of the laws on max-min fairness: Check accepts just what Share returns; denominators. No code. -/
import Derived.Test.YtbjhdfakocfapaaMsP
import Derived.Test.YtbjhdfakocfapaaMtD
namespace Go.Proofs.Ytbjhdfakocfapaa
set_option linter.unusedVariables false
set_option linter.unusedSimpArgs false
open MM
def ldP (n : Net) (xs : List Q) (l p : Nat) : Option Q := (sel (onF n.f (l : Int)) p).foldl (ldStep xs) (some ⟨0, 1⟩)
theorem ldP_all (n : Net) (xs : List Q) (l : Nat) : loadM n xs (l : Int) = ldP n xs l n.f.length := rfl
def lfl (n : Net) (xs : List Q) (l i : Nat) : Rat := if onF n.f (l : Int) i = true then ratT xs i else 0
theorem load_eq (n : Net) (xs : List Q) (l : Nat) : MM.load (netT n) (ratT xs) l = sumN n.f.length (lfl n xs l) := rfl
theorem lfl_on {n : Net} {xs : List Q} {l i : Nat} (h : onF n.f (l : Int) i = true) : lfl n xs l i = ratT xs i := if_pos h
theorem lfl_off {n : Net} {xs : List Q} {l i : Nat} (h : ¬ onF n.f (l : Int) i = true) : lfl n xs l i = 0 := if_neg h
theorem ldP_succ (n : Net) (xs : List Q) (l p : Nat) : ldP n xs l (p + 1) = if onF n.f (l : Int) p = true then ldStep xs (ldP n xs l p) p else ldP n xs l p := by
  unfold ldP
  rw [sel_succ]
  split
  · rw [List.foldl_append]; rfl
  · rw [List.append_nil]
theorem val_zero1 : val ⟨0, 1⟩ = 0 := by rw [val_one]; rfl
theorem ldP_val {n : Net} {xs : List Q} {l : Nat} : ∀ p q, ldP n xs l p = some q → qB q = true ∧ val q = sumN p (lfl n xs l) := by
  intro p
  induction p with
  | zero =>
    intro q h
    obtain rfl : (⟨0, 1⟩ : Q) = q := by simpa [ldP, sel] using h
    exact ⟨qB_one (by decide) (by decide), val_zero1⟩
  | succ p ih =>
    intro q h
    rw [ldP_succ] at h
    by_cases ho : onF n.f (l : Int) p = true
    · rw [if_pos ho] at h
      cases e : ldP n xs l p with
      | none => rw [e] at h; cases h
      | some s =>
        rw [e] at h
        obtain ⟨i1, i2⟩ := ih s e
        simp only [ldStep] at h
        split at h
        · rename_i he
          have hq : (addM s (rat xs p)).1 = q := by simpa using h
          have := add_val (a := s) (b := rat xs p) (s := q) (by rw [← hq]; exact Prod.ext rfl he)
          refine ⟨this.1, ?_⟩
          rw [this.2, i2]
          simp only [sumN]
          rw [lfl_on ho]
          rfl
        · cases h
    · rw [if_neg ho] at h
      obtain ⟨i1, i2⟩ := ih q h
      refine ⟨i1, ?_⟩
      rw [i2]
      simp only [sumN]
      rw [lfl_off ho]
      grind
theorem ldP_has {n : Net} {xs : List Q} {l D : Nat} (hD1 : 1 ≤ D) (hD : D ≤ 1000000) (hq : ∀ i, i < n.f.length → qB (rat xs i) = true) (hi : ∀ i, i < n.f.length → IsInt ((D : Rat) * ratT xs i))
    (h0 : ∀ i, i < n.f.length → 0 ≤ ratT xs i) (hl : sumN n.f.length (lfl n xs l) ≤ 1000) : ∀ p, p ≤ n.f.length → ∃ q, ldP n xs l p = some q := by
  have hpart : ∀ p, p ≤ n.f.length → 0 ≤ sumN p (lfl n xs l) ∧ sumN p (lfl n xs l) ≤ 1000 := by
    intro p hp
    have e : ∀ q, q ≤ n.f.length → sumN q (lfl n xs l) = sumN q (fun i => if i < n.f.length then lfl n xs l i else 0) := fun q hq => sumN_congr fun i hi => by rw [if_pos (by omega)]
    have hn2 : ∀ i, 0 ≤ (if i < n.f.length then lfl n xs l i else 0) := fun i => by
      split
      · unfold lfl
        split
        · exact h0 i (by assumption)
        · exact Rat.le_refl
      · exact Rat.le_refl
    refine ⟨by rw [e p hp]; exact sumN_nn hn2 p, ?_⟩
    refine Rat.le_trans ?_ hl
    rw [e p hp, e _ (Nat.le_refl _)]
    exact sumN_mono hn2 hp
  have hint : ∀ p, p ≤ n.f.length → IsInt ((D : Rat) * sumN p (lfl n xs l)) := by
    intro p hp
    rw [← sumN_mul]
    refine isInt_sum fun i hi2 => ?_
    unfold lfl
    split
    · exact hi i (by omega)
    · rw [Rat.mul_zero]; exact isInt_zero
  intro p
  induction p with
  | zero => intro _; exact ⟨_, rfl⟩
  | succ p ih =>
    intro hp
    obtain ⟨q, hq1⟩ := ih (by omega)
    rw [ldP_succ]
    by_cases ho : onF n.f (l : Int) p = true
    · rw [if_pos ho, hq1]
      obtain ⟨i1, i2⟩ := ldP_val p q hq1
      have hs : val q + val (rat xs p) = sumN (p + 1) (lfl n xs l) := by
        rw [i2]
        simp only [sumN]
        rw [lfl_on ho]
        rfl
      have := add_has i1 (hq p (by omega)) (by rw [hs]; exact hasQ_of hD1 hD (hint (p + 1) hp) (hpart (p + 1) hp).1 (hpart (p + 1) hp).2)
      refine ⟨(addM q (rat xs p)).1, ?_⟩
      simp only [ldStep]
      rw [if_pos (by rw [this.1])]
    · rw [if_neg ho]; exact ⟨q, hq1⟩
theorem more_iff {s t : Q} (hs : qB s = true) (ht : qB t = true) : moreB s t = true ↔ val t < val s := by
  unfold moreB
  rw [decide_eq_true_eq]
  exact (cmp_val hs ht).1
theorem val_nn {q : Q} (h : qB q = true) : 0 ≤ q.n ↔ 0 ≤ val q := by
  have h1 := val_lt h (qB_one (k := 0) (by decide) (by decide))
  rw [val_zero1] at h1
  simp only [Int.mul_one, Int.zero_mul] at h1
  constructor
  · intro h2
    refine Classical.byContradiction fun hc => ?_
    have := h1.1 (by grind)
    omega
  · intro h2
    refine Classical.byContradiction fun hc => ?_
    have := h1.2 (by omega)
    grind
structure Rates (n : Net) (xs : List Q) : Prop where
  len : xs.length = n.f.length
  q : ∀ i, i < n.f.length → qB (rat xs i) = true
  nn : ∀ i, i < n.f.length → 0 ≤ ratT xs i
theorem rat_mem {xs : List Q} {i : Nat} (h : i < xs.length) : rat xs i ∈ xs := by
  have e : rat xs i = xs[i] := by simp [rat, h]
  rw [e]; exact List.getElem_mem h
theorem rates_iff {n : Net} {xs : List Q} : ratesB n xs = true ↔ Rates n xs := by
  simp only [ratesB, Bool.and_eq_true, decide_eq_true_eq, List.all_eq_true, rateB]
  constructor
  · rintro ⟨h1, h2⟩
    exact ⟨h1, fun i hi => (h2 _ (rat_mem (by omega))).1, fun i hi => (val_nn (h2 _ (rat_mem (by omega))).1).1 (h2 _ (rat_mem (by omega))).2⟩
  · intro h
    refine ⟨h.len, fun q hq => ?_⟩
    obtain ⟨i, hi, rfl⟩ := List.getElem_of_mem hq
    have e : xs[i] = rat xs i := by simp [rat, hi]
    rw [e]
    have hi2 : i < n.f.length := by rw [← h.len]; exact hi
    exact ⟨h.q i hi2, (val_nn (h.q i hi2)).2 (h.nn i hi2)⟩
theorem netT_on (n : Net) (i l : Nat) : (netT n).on i l = onF n.f (l : Int) i := rfl
theorem on_row {n : Net} {i : Nat} {l : Int} : onF n.f l i = true ↔ l ∈ n.f[i]?.getD [] := by
  unfold onF
  rw [List.contains_iff_mem]
theorem row_in {n : Net} {i : Nat} {l : Int} (h : l ∈ n.f[i]?.getD []) : i < n.f.length ∧ n.f[i]?.getD [] ∈ n.f := by
  by_cases hi : i < n.f.length
  · exact ⟨hi, row_mem hi⟩
  · rw [List.getElem?_eq_none (by omega)] at h; cases h
theorem lim_iff {n : Net} (hl : capsB n.l = true) (i : Nat) : (netT n).lm i ≠ 0 ↔ 0 < num n.l i := by
  constructor
  · exact num_pos_of hl
  · intro h e
    have e2 : (num n.l i : Rat) = ((0 : Int) : Rat) := e
    have := Rat.intCast_inj.1 e2
    omega
theorem check_fair {n : Net} {xs : List Q} (hv : validB n = true) (hr : ratesB n xs = true) (h1 : ipM n xs = true) (h2 : saM n xs = true) : MM.Fair (netT n) (ratT xs) := by
  obtain ⟨k1, k2, k3, k4, k5, k6⟩ := valid_parts hv
  have R := rates_iff.1 hr
  have hld : ∀ l, l < n.c.length → ∃ q, loadM n xs (l : Int) = some q ∧ qB q = true ∧ val q = MM.load (netT n) (ratT xs) l ∧ val q ≤ (num n.c l : Rat) := by
    intro l hl
    simp only [ipM, Bool.and_eq_true, List.all_eq_true, List.mem_range] at h1
    have := h1.1 l hl
    unfold ipL at this
    cases e : loadM n xs (l : Int) with
    | none => rw [e] at this; cases this
    | some q =>
      rw [e] at this
      obtain ⟨i1, i2⟩ := ldP_val _ q e
      refine ⟨q, rfl, i1, i2, ?_⟩
      have hc := capsB_num k5 l
      have hm := more_iff i1 (qB_one hc.1 hc.2)
      rw [val_one] at hm
      refine Classical.byContradiction fun hcc => ?_
      have := hm.2 (by grind)
      simp_all
  refine ⟨⟨fun i hi => ⟨R.nn i hi, fun h0 => ?_⟩, fun l hl => ?_⟩, fun i hi => ?_⟩
  · simp only [ipM, Bool.and_eq_true, List.all_eq_true, List.mem_range] at h1
    have hi' : i < n.f.length := hi
    have := h1.2 i (by omega)
    have hp := (lim_iff k6 i).1 h0
    unfold ipF at this
    have hc := capsB_num k6 i
    have hm := more_iff (R.q i hi) (qB_one hc.1 hc.2)
    rw [val_one] at hm
    refine Classical.byContradiction fun hcc => ?_
    have h3 := hm.2 (by have : ¬ ratT xs i ≤ (num n.l i : Rat) := hcc; unfold ratT at this; grind)
    rw [h3] at this
    simp [hp] at this
  · obtain ⟨q, -, -, e2, e3⟩ := hld l hl
    rw [← e2]; exact e3
  · simp only [saM, List.all_eq_true, List.mem_range] at h2
    have hi' : i < n.f.length := hi
    have := h2 i (by omega)
    unfold saB at this
    rw [Bool.or_eq_true] at this
    rcases this with h | h
    · rw [Bool.and_eq_true, decide_eq_true_eq] at h
      unfold limEq at h
      refine .inl ⟨(lim_iff k6 i).2 h.1, ?_⟩
      show val (rat xs i) = (num n.l i : Rat)
      rw [qEq_iff.1 h.2, val_one]
    · unfold hsM at h
      rw [List.any_eq_true] at h
      obtain ⟨l, hl1, hl2⟩ := h
      obtain ⟨-, hrow⟩ := row_in hl1
      obtain ⟨b1, b2⟩ := valid_links hv _ hrow l hl1
      obtain ⟨k, rfl⟩ : ∃ k : Nat, l = (k : Int) := ⟨l.toNat, by omega⟩
      have hk : k < n.c.length := by omega
      unfold stB at hl2
      rw [Bool.and_eq_true, Int.toNat_natCast] at hl2
      obtain ⟨q, e1, e2, e3, e4⟩ := hld k hk
      refine .inr ⟨k, hk, on_row.2 hl1, ?_, fun j hj ho => ?_⟩
      · have h3 := hl2.1
        unfold fullM at h3
        rw [e1] at h3
        have h4 := qEq_iff.1 h3
        rw [← e3]
        show val q = (num n.c k : Rat)
        rw [show q = ⟨num n.c k, 1⟩ from h4, val_one]
      · have h3 := hl2.2
        unfold grM at h3
        rw [List.all_eq_true] at h3
        have h4 := h3 j (sel_mem.2 ⟨hj, ho⟩)
        simp only [Bool.not_eq_true', decide_eq_false_iff_not] at h4
        have h5 := (cmp_val (R.q j hj) (R.q i hi)).1
        refine Classical.byContradiction fun hcc => h4 (h5.2 ?_)
        have : ¬ val (rat xs j) ≤ val (rat xs i) := hcc
        grind
theorem fair_check {n : Net} {xs : List Q} {D : Nat} (hv : validB n = true) (R : Rates n xs) (hD1 : 1 ≤ D) (hD : D ≤ 1000000) (hi : ∀ i, i < n.f.length → IsInt ((D : Rat) * ratT xs i))
    (hf : MM.Fair (netT n) (ratT xs)) : ipM n xs = true ∧ saM n xs = true := by
  obtain ⟨k1, k2, k3, k4, k5, k6⟩ := valid_parts hv
  have hld : ∀ l, l < n.c.length → ∃ q, loadM n xs (l : Int) = some q ∧ qB q = true ∧ val q = MM.load (netT n) (ratT xs) l := by
    intro l hl
    have h1 : MM.load (netT n) (ratT xs) l ≤ (num n.c l : Rat) := hf.1.2 l hl
    rw [load_eq] at h1
    have h2 : (num n.c l : Rat) ≤ ((1000 : Int) : Rat) := le_cast.2 (capsB_num k5 l).2
    have h3 : ((1000 : Int) : Rat) = 1000 := rfl
    rw [h3] at h2
    obtain ⟨q, hq⟩ := ldP_has (l := l) hD1 hD R.q hi R.nn (Rat.le_trans h1 h2) n.f.length (Nat.le_refl _)
    exact ⟨q, hq, ldP_val _ q hq⟩
  constructor
  · simp only [ipM, Bool.and_eq_true, List.all_eq_true, List.mem_range]
    refine ⟨fun l hl => ?_, fun i hi2 => ?_⟩
    · obtain ⟨q, e1, e2, e3⟩ := hld l hl
      unfold ipL
      rw [e1]
      have hc := capsB_num k5 l
      have hm := more_iff e2 (qB_one hc.1 hc.2)
      rw [val_one] at hm
      have h1 : MM.load (netT n) (ratT xs) l ≤ (num n.c l : Rat) := hf.1.2 l hl
      rw [← e3] at h1
      cases hb : moreB q ⟨num n.c l, 1⟩ with
      | false => simp [hb]
      | true => have := hm.1 hb; grind
    · have hi3 : i < n.f.length := by omega
      unfold ipF
      cases hb : moreB (rat xs i) ⟨num n.l i, 1⟩ with
      | false => simp
      | true =>
        have hc := capsB_num k6 i
        have hm := more_iff (R.q i hi3) (qB_one hc.1 hc.2)
        rw [val_one] at hm
        have h1 := hm.1 hb
        have h2 : ¬ 0 < num n.l i := fun hp => by
          have h3 : ratT xs i ≤ (num n.l i : Rat) := (hf.1.1 i hi3).2 ((lim_iff k6 i).2 hp)
          unfold ratT at h3
          grind
        simp [h2]
  · simp only [saM, List.all_eq_true, List.mem_range]
    intro i hi2
    have hi3 : i < n.f.length := by omega
    unfold saB
    rw [Bool.or_eq_true]
    rcases hf.2 i hi3 with ⟨h1, h2⟩ | ⟨l, hl, ho, hfull, hj⟩
    · refine .inl ?_
      have hc := capsB_num k6 i
      rw [Bool.and_eq_true, decide_eq_true_eq]
      refine ⟨(lim_iff k6 i).1 h1, ?_⟩
      unfold limEq
      refine qEq_iff.2 (val_inj (R.q i hi3) (qB_one hc.1 hc.2) ?_)
      rw [val_one]
      exact h2
    · refine .inr ?_
      unfold hsM
      rw [List.any_eq_true]
      refine ⟨(l : Int), on_row.1 ho, ?_⟩
      unfold stB
      rw [Bool.and_eq_true, Int.toNat_natCast]
      obtain ⟨q, e1, e2, e3⟩ := hld l hl
      have hc := capsB_num k5 l
      constructor
      · unfold fullM
        rw [e1]
        refine qEq_iff.2 (val_inj e2 (qB_one hc.1 hc.2) ?_)
        rw [val_one]
        show val q = _
        rw [e3]
        exact hfull
      · unfold grM
        rw [List.all_eq_true]
        intro j hj2
        obtain ⟨hj3, hj4⟩ := sel_mem.1 hj2
        have h5 := (cmp_val (R.q j hj3) (R.q i hi3)).1
        have h6 : val (rat xs j) ≤ val (rat xs i) := hj j hj3 hj4
        simp only [Bool.not_eq_true', decide_eq_false_iff_not]
        intro hc2
        have := h5.1 hc2
        grind
theorem share_rates {n : Net} (hv : validB n = true) : Rates n (shareM n) := by
  obtain ⟨h1, h2, h3, -⟩ := share_fair hv
  exact ⟨h2, h3, fun i hi => (h1.1.1 i hi).1⟩
theorem list_rat {xs ys : List Q} (hl : xs.length = ys.length) (h : ∀ i, i < xs.length → rat xs i = rat ys i) : xs = ys := by
  refine List.ext_getElem hl fun i h1 h2 => ?_
  have := h i h1
  simpa [rat, h1, h2] using this
/-- Check accepts what Share returns -/
theorem check_share {n : Net} (hv : validB n = true) : checkM n (shareM n) = true := by
  obtain ⟨h1, h2, h3, D, h4, h5, h6⟩ := share_fair hv
  have R := share_rates hv
  obtain ⟨a, b⟩ := fair_check hv R h4 (by omega) h6 h1
  unfold checkM
  rw [hv, rates_iff.2 R, a, b]
  rfl
/-- and nothing else -/
theorem check_only {n : Net} (hv : validB n = true) (xs : List Q) : checkM n xs = sameB xs (shareM n) := by
  unfold sameB
  by_cases e : xs = shareM n
  · rw [e, check_share hv, decide_eq_true rfl]
  · rw [decide_eq_false e]
    cases hc : checkM n xs with
    | false => rfl
    | true =>
      exfalso
      apply e
      unfold checkM at hc
      simp only [Bool.and_eq_true] at hc
      obtain ⟨-, c1, c2, c3⟩ := hc
      have R := rates_iff.1 c1
      have hf := check_fair hv c1 c2 c3
      have hs := share_rates hv
      refine list_rat (by rw [R.len, hs.len]) fun i hi => ?_
      have hi2 : i < n.f.length := by rw [← R.len]; exact hi
      exact val_inj (R.q i hi2) (hs.q i hi2) (unique hf (share_fair hv).1 i hi2)
/-- denominators -/
theorem den_le {q : Q} {D : Nat} (hq : qB q = true) (hD : 1 ≤ D) (h : IsInt ((D : Rat) * val q)) : 1 ≤ q.d ∧ q.d ≤ D := by
  obtain ⟨⟨h1, -, -, -⟩, hg⟩ := qB_iff.1 hq
  refine ⟨h1, ?_⟩
  obtain ⟨z, hz⟩ := h
  have hd := cast_ne (qB_d hq)
  have e : ((D * q.n : Int) : Rat) = ((z * q.d : Int) : Rat) := by
    rw [Rat.intCast_mul, Rat.intCast_mul, Rat.intCast_natCast, ← hz]
    unfold val
    grind
  have e2 : (D : Int) * q.n = z * q.d := Rat.intCast_inj.1 e
  have h3 : q.d ∣ (D : Int) * q.n := ⟨z, by rw [e2, Int.mul_comm]⟩
  have hg2 : Nat.Coprime q.d.natAbs q.n.natAbs := by
    unfold gc at hg
    have : Int.gcd q.n q.d = 1 := by omega
    rw [Int.gcd_comm] at this
    exact this
  have h5 := Int.natAbs_dvd_natAbs.2 h3
  rw [Int.natAbs_mul] at h5
  have h4 : q.d ∣ (D : Int) := Int.natAbs_dvd_natAbs.1 (Nat.Coprime.dvd_of_dvd_mul_right hg2 h5)
  exact Int.le_of_dvd (by omega) h4
theorem share_den {n : Net} (hv : validB n = true) : ∀ q ∈ shareM n, 1 ≤ q.d ∧ q.d ≤ 18 := by
  obtain ⟨h1, h2, h3, D, h4, h5, h6⟩ := share_fair hv
  intro q hq
  obtain ⟨i, hi, rfl⟩ := List.getElem_of_mem hq
  have e : (shareM n)[i] = rat (shareM n) i := by simp [rat, hi]
  rw [e]
  have := den_le (h3 i (by omega)) h4 (h6 i (by omega))
  omega
end Go.Proofs.Ytbjhdfakocfapaa
