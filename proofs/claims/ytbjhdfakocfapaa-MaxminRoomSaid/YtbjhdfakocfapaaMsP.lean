/- Package maxmin: each round of the model is one of the water filling; Share's rates are the max-min fair ones. No code. -/
import Derived.Test.YtbjhdfakocfapaaMsO
namespace Go.Proofs.Ytbjhdfakocfapaa
set_option linter.unusedVariables false
set_option linter.unusedSimpArgs false
open MM
theorem hasLink_iff {n : Net} {fx : List Bool} {l : Nat} : hasLink n fx l = true ↔ ∃ i, i < n.f.length ∧ onF n.f (l : Int) i = true ∧ fxd fx i = false := by
  unfold hasLink
  cases e : unfL n fx l with
  | nil =>
    simp only [List.isEmpty_nil, Bool.not_true, Bool.false_eq_true, false_iff]
    rintro ⟨i, h1, h2, h3⟩
    have : i ∈ unfL n fx l := sel_mem.2 ⟨h1, by unfold unf; rw [h2, h3]; rfl⟩
    rw [e] at this; cases this
  | cons i t =>
    simp only [List.isEmpty_cons, Bool.not_false, true_iff]
    have : i ∈ unfL n fx l := by rw [e]; simp
    obtain ⟨h1, h2⟩ := sel_mem.1 this
    simp only [unf, Bool.and_eq_true, Bool.not_eq_true'] at h2
    exact ⟨i, h1, h2.1, h2.2⟩
theorem many_int (n : Net) (fx : List Bool) (l : Nat) : many (netT n) (fxd fx) l = ((cf n.f.length (fun i => onF n.f (l : Int) i && !fxd fx i) : Nat) : Rat) := many_cf (netT n) (fxd fx) l
/-- the level of a link -/
theorem lev_link {n : Net} {u : Rat} {D : Nat} {xs : List Q} {fx : List Bool} (hg : Good n u D xs fx) (hc : capsB n.c = true) (hN : n.f.length ≤ 8) {l : Nat} (hl : l < n.c.length) (hh : hasLink n fx l = true) :
    qB (lev n xs fx (.link l)) = true ∧ val (lev n xs fx (.link l)) * many (netT n) (fxd fx) l = (netT n).cap l - fload (netT n) (fxd fx) (ratT xs) l := by
  obtain ⟨r1, r2, r3⟩ := level_run hg hc hN hl n.f.length (Nat.le_refl _)
  obtain ⟨i, hi, ho, hf⟩ := hasLink_iff.1 hh
  have hm1 : 1 ≤ cf n.f.length (fun i => onF n.f (l : Int) i && !fxd fx i) := cf_pos ⟨i, hi, by rw [ho, hf]; rfl⟩
  have hm2 := cf_le n.f.length (fun i => onF n.f (l : Int) i && !fxd fx i)
  have hmi := many_int n fx l
  generalize hm : cf n.f.length (fun i => onF n.f (l : Int) i && !fxd fx i) = m at *
  have e0 : lev n xs fx (.link l) = (divM (stK n xs fx l n.f.length).1 ⟨(stK n xs fx l n.f.length).2, 1⟩).1 := by
    show (divM (lvK n xs fx l (onL n.f (l : Int)).length).1 ⟨(lvK n xs fx l (onL n.f (l : Int)).length).2, 1⟩).1 = _
    rw [stK_all]
  rw [e0, r3]
  have hq1 : qB ⟨(m : Int), 1⟩ = true := qB_one (by omega) (by omega)
  have hv1 : val ⟨(m : Int), 1⟩ = (m : Rat) := by rw [val_one, Rat.intCast_natCast]
  have hmp : (0 : Rat) < (m : Rat) := by
    have : ((0 : Int) : Rat) < ((m : Int) : Rat) := Rat.intCast_lt_intCast.2 (by omega)
    rw [Rat.intCast_natCast] at this
    simpa using this
  have hfl : sumN n.f.length (ff n xs fx l) = fload (netT n) (fxd fx) (ratT xs) l := rfl
  have hcp : (netT n).cap l = (num n.c l : Rat) := rfl
  rw [hfl] at r2
  rw [hmi, hcp]
  have hcap := capsB_num hc l
  have hroom := hg.inv.room l hl
  have hnn : 0 ≤ fload (netT n) (fxd fx) (ratT xs) l := by
    refine Rat.le_trans Rat.le_refl ?_
    have h := sumN_le (n := n.f.length) (f := fun _ => 0) (g := fun i => if (netT n).on i l = true then (if fxd fx i = true then ratT xs i else 0) else 0) (fun i hi => by
      split
      · split
        · exact (hg.inv.fix i hi (by assumption)).1
        · exact Rat.le_refl
      · exact Rat.le_refl)
    rw [sumN_zero (fun _ _ => rfl)] at h
    exact h
  have hD18 : D ≤ 18 := Nat.le_trans hg.den.le (pf_18 _)
  generalize hR : (num n.c l : Rat) - fload (netT n) (fxd fx) (ratT xs) l = r at *
  have hr0 : 0 ≤ r := by
    have h2 := many_nn (netT n) (fxd fx) l
    have h3 := Rat.mul_le_mul_of_nonneg_left h2 hg.inv.u0
    rw [hcp] at hroom
    simp only [Rat.mul_zero] at h3
    grind
  have hr1 : r ≤ 1000 := by
    have h2 : (num n.c l : Rat) ≤ ((1000 : Int) : Rat) := le_cast.2 hcap.2
    have h3 : ((1000 : Int) : Rat) = 1000 := rfl
    rw [h3] at h2
    grind
  have hint : IsInt ((D : Rat) * r) := by
    have e : (D : Rat) * r = (D : Rat) * (num n.c l : Rat) - (D : Rat) * fload (netT n) (fxd fx) (ratT xs) l := by rw [← hR]; grind
    rw [e]
    exact isInt_sub (isInt_mul (isInt_nat _) ⟨_, rfl⟩) (den_fload hg.den l)
  have hdiv : r / (m : Rat) * (m : Rat) = r := by grind
  have hq0 : 0 ≤ r / (m : Rat) := by
    refine Classical.byContradiction fun hcn => ?_
    have h1 : r / (m : Rat) < 0 := by grind
    have h2 := Rat.mul_lt_mul_of_pos_right h1 hmp
    grind
  have hm1' : (1 : Rat) ≤ (m : Rat) := by
    have : ((1 : Int) : Rat) ≤ ((m : Int) : Rat) := le_cast.2 (by omega)
    rw [Rat.intCast_natCast] at this
    exact this
  have hq2 : r / (m : Rat) ≤ 1000 := by
    have h1 := Rat.mul_le_mul_of_nonneg_left hm1' hq0
    grind
  have hint2 : IsInt (((D * m : Nat) : Rat) * (r / (m : Rat))) := by
    have e : ((D * m : Nat) : Rat) * (r / (m : Rat)) = (D : Rat) * r := by rw [Rat.natCast_mul]; grind
    rw [e]; exact hint
  have hDm : D * m ≤ 1000000 := by
    have := Nat.mul_le_mul hD18 (show m ≤ 8 by omega)
    omega
  have hpos : 1 ≤ D * m := Nat.mul_le_mul hg.den.pos hm1
  obtain ⟨-, d1, d2⟩ := div_has r1 hq1 (show (m : Int) ≠ 0 by omega) (by rw [r2, hv1]; exact hasQ_of hpos hDm hint2 hq0 hq2)
  refine ⟨d1, ?_⟩
  rw [d2, r2, hv1]
  exact hdiv
theorem lev_lim {n : Net} (xs : List Q) (fx : List Bool) (hl : capsB n.l = true) (i : Nat) : qB (lev n xs fx (.lim i)) = true ∧ val (lev n xs fx (.lim i)) = (netT n).lm i := by
  have h := capsB_num hl i
  exact ⟨qB_one h.1 h.2, val_one _⟩
theorem lev_ok {n : Net} {u : Rat} {D : Nat} {xs : List Q} {fx : List Bool} (hg : Good n u D xs fx) (hc : capsB n.c = true) (hl : capsB n.l = true) (hN : n.f.length ≤ 8) {s : Sp} (hs : s ∈ stopsL n fx) : qB (lev n xs fx s) = true := by
  unfold stopsL at hs
  rcases List.mem_append.1 hs with h | h
  · obtain ⟨l, hl', rfl⟩ := List.mem_map.1 h
    exact (lev_link hg hc hN (sel_mem.1 hl').1 (sel_mem.1 hl').2).1
  · obtain ⟨i, hi, rfl⟩ := List.mem_map.1 h
    exact (lev_lim xs fx hl i).1
/-- the first of the least ones is a least one -/
theorem leastM_min {lv : Sp → Q} {ss : List Sp} (hq : ∀ s ∈ ss, qB (lv s) = true) {b : Sp} (hb : leastM lv ss = some b) : ∀ s ∈ ss, val (lv b) ≤ val (lv s) := by
  have key : ∀ k, k ≤ ss.length → ∀ b, bestK lv ss k = some b → ∀ s ∈ ss.take k, val (lv b) ≤ val (lv s) := by
    intro k
    induction k with
    | zero => intro _ b hb s hs; simp at hs
    | succ k ih =>
      intro hk b hb s hs
      rw [bestK_succ lv ss (by omega)] at hb
      rw [List.take_add_one, List.getElem?_eq_getElem (by omega)] at hs
      have hqk := hq ss[k] (List.getElem_mem _)
      unfold better at hb
      cases hbk : bestK lv ss k with
      | none =>
        rw [hbk] at hb
        have e : ss[k] = b := by simpa using hb
        subst e
        have h0 : k = 0 := by
          cases k with
          | zero => rfl
          | succ k =>
            rw [bestK_succ lv ss (by omega)] at hbk
            unfold better at hbk
            split at hbk
            · cases hbk
            · split at hbk <;> cases hbk
        subst h0
        simp at hs
        subst hs
        exact Rat.le_refl
      | some t =>
        rw [hbk] at hb
        have ht := hq t (bestK_mem lv ss k (by omega) t hbk)
        have hcmp := (cmp_val hqk ht).2.1
        have hih := ih (by omega) t hbk
        simp only at hb
        rcases List.mem_append.1 hs with hs | hs
        · have h1 := hih s hs
          split at hb
          · have e : ss[k] = b := by simpa using hb
            subst e
            have := hcmp.1 (by assumption)
            grind
          · have e : t = b := by simpa using hb
            subst e
            exact h1
        · have e2 : s = ss[k] := by simpa using hs
          subst e2
          split at hb
          · have e : ss[k] = b := by simpa using hb
            subst e
            exact Rat.le_refl
          · rename_i hnot
            have e : t = b := by simpa using hb
            subst e
            refine Classical.byContradiction fun hc => hnot (hcmp.2 (by grind))
  intro s hs
  rw [← bestK_all] at hb
  exact key ss.length (Nat.le_refl _) b hb s (by rw [List.take_length]; exact hs)
theorem num_pos_of {n : Net} (hl : capsB n.l = true) {i : Nat} (h : (netT n).lm i ≠ 0) : 0 < num n.l i := by
  have h1 := (capsB_num hl i).1
  refine Classical.byContradiction fun hc => h ?_
  have e : num n.l i = 0 := by omega
  show (num n.l i : Rat) = 0
  rw [e]; rfl
/-- a round -/
theorem round_ok {n : Net} {u : Rat} {D : Nat} {xs : List Q} {fx : List Bool} (hg : Good n u D xs fx) (hv : validB n = true) {s : Sp} (hs : leastM (lev n xs fx) (stopsL n fx) = some s) :
    qB (lev n xs fx s) = true ∧ Rnd (netT n) (fxd fx) (ratT xs) (val (lev n xs fx s)) (fun i => decide (i ∈ stopped n fx s)) := by
  obtain ⟨k1, k2, k3, k4, k5, k6⟩ := valid_parts hv
  have hm := leastM_mem hs
  have hq : ∀ t ∈ stopsL n fx, qB (lev n xs fx t) = true := fun t ht => lev_ok hg k5 k6 k2 ht
  have hmin := leastM_min hq hs
  obtain ⟨o1, o2, o3⟩ := stop_ok hg.lf k3 hm
  refine ⟨hq s hm, ⟨fun i hi hS => o2 i (by simpa using hS), ?_, fun l hl hmn => ?_, fun j hj hf h0 => ?_, fun i hi hS => ?_⟩⟩
  · cases e : stopped n fx s with
    | nil => exact absurd e o3
    | cons i t => exact ⟨i, by have := o1 i (by rw [e]; simp); rw [hg.lf] at this; exact this, by simp⟩
  · have hh : hasLink n fx l = true := by
      refine hasLink_iff.2 (Classical.byContradiction fun hc => hmn ?_)
      refine sumN_zero fun i hi => ?_
      split
      · split
        · rfl
        · exact absurd ⟨i, hi, by assumption, by simp_all⟩ hc
      · rfl
    have hmem : Sp.link l ∈ stopsL n fx := List.mem_append_left _ (List.mem_map.2 ⟨l, sel_mem.2 ⟨hl, hh⟩, rfl⟩)
    have h1 := hmin _ hmem
    have h2 := (lev_link hg k5 k2 hl hh).2
    have h3 := Rat.mul_le_mul_of_nonneg_right h1 (many_nn (netT n) (fxd fx) l)
    rw [h2] at h3
    exact h3
  · have hp := num_pos_of k6 h0
    have hmem : Sp.lim j ∈ stopsL n fx := List.mem_append_right _ (List.mem_map.2 ⟨j, sel_mem.2 ⟨by rw [k3]; exact hj, by unfold hasLim; rw [hf, decide_eq_true hp]; rfl⟩, rfl⟩)
    have h1 := hmin _ hmem
    rw [(lev_lim xs fx k6 j).2] at h1
    exact h1
  · have hS' : i ∈ stopped n fx s := by simpa using hS
    unfold stopsL at hm
    rcases List.mem_append.1 hm with h | h
    · obtain ⟨l, hl', rfl⟩ := List.mem_map.1 h
      have hh := (sel_mem.1 hl').2
      have hll := (sel_mem.1 hl').1
      have h2 := (sel_mem.1 (show i ∈ sel (unf n fx l) n.f.length from hS')).2
      simp only [unf, Bool.and_eq_true, Bool.not_eq_true'] at h2
      refine .inr ⟨l, hll, h2.1, (lev_link hg k5 k2 hll hh).2, fun j hj ho hf => ?_⟩
      have hu : unf n fx l j = true := by
        have ho' : onF n.f (l : Int) j = true := ho
        unfold unf
        rw [ho', hf]
        rfl
      have : j ∈ stopped n fx (.link l) := sel_mem.2 ⟨hj, hu⟩
      simpa using this
    · obtain ⟨j, hj, rfl⟩ := List.mem_map.1 h
      have h2 := (sel_mem.1 hj).2
      simp only [hasLim, Bool.and_eq_true, Bool.not_eq_true', decide_eq_true_eq] at h2
      have e : stopped n fx (.lim j) = [j] := by show (if fxd fx j = true then [] else [j]) = [j]; rw [if_neg (by rw [h2.2]; decide)]
      rw [e] at hS'
      have eij : i = j := by simpa using hS'
      subst eij
      refine .inl ⟨fun e0 => ?_, (lev_lim xs fx k6 i).2⟩
      have e1 : (num n.l i : Rat) = ((0 : Int) : Rat) := e0
      have := Rat.intCast_inj.1 e1
      omega
theorem fxd_set {n : Net} {fx : List Bool} {S : List Nat} (hl : fx.length = n.f.length) : ∀ i, i < n.f.length → fxd (setB fx S) i = nfx (fxd fx) (fun i => decide (i ∈ S)) i := by
  intro i hi
  unfold nfx fxd
  rw [setB_get]
  by_cases h : i ∈ S
  · rw [if_pos ⟨h, by omega⟩]; simp [h]
  · rw [if_neg (fun hc => h hc.1)]; simp [h]
theorem rat_set {n : Net} {xs : List Q} {S : List Nat} {v : Q} (hl : xs.length = n.f.length) : ∀ i, i < n.f.length → rat (setQ xs S v) i = if i ∈ S then v else rat xs i := by
  intro i hi
  unfold rat
  rw [setQ_get]
  by_cases h : i ∈ S
  · rw [if_pos ⟨h, by omega⟩, if_pos h]; rfl
  · rw [if_neg (fun hc => h hc.1), if_neg h]
theorem inv_congr {T : Nt} {u : Rat} {fx fx' : Nat → Bool} {x x' : Nat → Rat} (hf : ∀ i, i < T.N → fx i = fx' i) (hx : ∀ i, i < T.N → x i = x' i) (h : Inv T u fx x) : Inv T u fx' x' := by
  have hfl : ∀ l, fload T fx' x' l = fload T fx x l := fun l => sumN_congr fun i hi => by rw [hf i hi, hx i hi]
  have hmn : ∀ l, many T fx' l = many T fx l := fun l => sumN_congr fun i hi => by rw [hf i hi]
  refine ⟨h.u0, fun i hi hfi => ?_, fun l hl => by rw [hfl, hmn]; exact h.room l hl, fun j hj hfj => h.lim j hj (by rw [hf j hj]; exact hfj)⟩
  obtain ⟨a1, a2, a3, a4⟩ := h.fix i hi (by rw [hf i hi]; exact hfi)
  rw [← hx i hi]
  refine ⟨a1, a2, a3, ?_⟩
  rcases a4 with ⟨b1, b2⟩ | ⟨l, hl, ho, hc, hj⟩
  · exact .inl ⟨b1, by rw [← hx i hi]; exact b2⟩
  · refine .inr ⟨l, hl, ho, by rw [hfl]; exact hc, fun j hj1 hj2 => ?_⟩
    have := hj j hj1 hj2
    rw [← hf j hj1, ← hx j hj1, ← hx i hi]
    exact this
theorem cf_congr {n : Nat} {f g : Nat → Bool} (h : ∀ i, i < n → f i = g i) : cf n f = cf n g := by
  induction n with
  | zero => rfl
  | succ n ih => simp only [cf]; rw [ih (fun i hi => h i (by omega)), h n (by omega)]
theorem den_congr {T : Nt} {D : Nat} {fx fx' : Nat → Bool} {x x' : Nat → Rat} (hf : ∀ i, i < T.N → fx i = fx' i) (hx : ∀ i, i < T.N → x i = x' i) (h : Den T D fx x) : Den T D fx' x' :=
  ⟨h.pos, by rw [← cf_congr hf]; exact h.le, fun i hi hfi => by rw [← hx i hi]; exact h.int i hi (by rw [hf i hi]; exact hfi)⟩
theorem good_step {n : Net} {u : Rat} {D : Nat} {xs : List Q} {fx : List Bool} (hg : Good n u D xs fx) (hv : validB n = true) {s : Sp} (hs : leastM (lev n xs fx) (stopsL n fx) = some s) :
    ∃ u' D', Good n u' D' (setQ xs (stopped n fx s) (lev n xs fx s)) (setB fx (stopped n fx s)) := by
  obtain ⟨k1, k2, k3, k4, k5, k6⟩ := valid_parts hv
  obtain ⟨hq, hR⟩ := round_ok hg hv hs
  have hI := inv_step hg.inv hR
  obtain ⟨D2, hD⟩ := den_step (T := netT n) k2 (fun l _ => ⟨_, rfl⟩) (fun i _ => ⟨_, rfl⟩) hg.den hR
  have hx : ∀ i, i < (netT n).N → nx (ratT xs) (fun i => decide (i ∈ stopped n fx s)) (val (lev n xs fx s)) i = ratT (setQ xs (stopped n fx s) (lev n xs fx s)) i := by
    intro i hi
    unfold ratT nx
    rw [rat_set hg.lx i hi]
    by_cases h : i ∈ stopped n fx s <;> simp [h]
  refine ⟨_, D2, ⟨inv_congr (fun i hi => (fxd_set hg.lf i hi).symm) hx hI, den_congr (fun i hi => (fxd_set hg.lf i hi).symm) hx hD, fun i hi hf => ?_, by rw [setQ_len]; exact hg.lx, by rw [setB_len]; exact hg.lf⟩⟩
  rw [rat_set hg.lx i hi]
  split
  · exact hq
  · rw [fxd_set hg.lf i hi] at hf
    unfold nfx at hf
    refine hg.ok i hi ?_
    simpa [*] using hf
theorem stops_none {n : Net} (hv : validB n = true) {fx : List Bool} {lv : Sp → Q} (h : leastM lv (stopsL n fx) = none) : ∀ i, i < n.f.length → fxd fx i = true := by
  obtain ⟨k1, k2, k3, k4, k5, k6⟩ := valid_parts hv
  intro i hi
  refine Classical.byContradiction fun hc => ?_
  have hf : fxd fx i = false := by simpa using hc
  have hne : stopsL n fx ≠ [] := by
    have hr := k4 n.f[i] (List.getElem_mem hi)
    have hlen := (links_len hr).1
    obtain ⟨l, hl⟩ : ∃ l, l ∈ n.f[i] := List.exists_mem_of_length_pos hlen
    have hb : ∀ (r : List Int) (m : Int), 0 ≤ m → linkB n.c.length r m = true → ∀ l ∈ r, 0 ≤ l ∧ l < n.c.length := by
      intro r
      induction r with
      | nil => intro m _ _ l hl; cases hl
      | cons x r ih =>
        intro m hm h l hl
        rw [linkB] at h
        split at h
        · cases h
        · rename_i hx
          rcases List.mem_cons.1 hl with rfl | hl
          · omega
          · exact ih (x + 1) (by omega) h l hl
    have hlb : linkB n.c.length n.f[i] 0 = true := by
      unfold linksB at hr
      simp only [Bool.and_eq_true] at hr
      exact hr.2
    obtain ⟨b1, b2⟩ := hb _ 0 (by omega) hlb l hl
    obtain ⟨q, rfl⟩ : ∃ q : Nat, l = q := ⟨l.toNat, by omega⟩
    have hh : hasLink n fx q = true := hasLink_iff.2 ⟨i, hi, by unfold onF; rw [List.getElem?_eq_getElem hi]; simpa using hl, hf⟩
    intro e
    have : Sp.link q ∈ stopsL n fx := List.mem_append_left _ (List.mem_map.2 ⟨q, sel_mem.2 ⟨by omega, hh⟩, rfl⟩)
    rw [e] at this; cases this
  cases e : stopsL n fx with
  | nil => exact hne e
  | cons s t =>
    rw [e] at h
    have key : ∀ (t : List Sp) (b : Sp), t.foldl (better lv) (some b) ≠ none := by
      intro t
      induction t with
      | nil => intro b h; cases h
      | cons x t ih =>
        intro b
        rw [List.foldl_cons]
        unfold better
        simp only
        split <;> exact ih _
    exact key t s h
theorem fill_good {n : Net} (hv : validB n = true) : ∀ (g : Nat) (xs : List Q) (fx : List Bool) (u : Rat) (D : Nat), Good n u D xs fx → unfixed fx < g →
    ∃ u' D', Good n u' D' (fillM n g xs fx).1 (fillM n g xs fx).2 ∧ ∀ i, i < n.f.length → fxd (fillM n g xs fx).2 i = true := by
  obtain ⟨k1, k2, k3, k4, k5, k6⟩ := valid_parts hv
  intro g
  induction g with
  | zero => intro xs fx u D _ h; omega
  | succ g ih =>
    intro xs fx u D hg hu
    rw [fillM]
    cases hs : leastM (lev n xs fx) (stopsL n fx) with
    | none => exact ⟨u, D, hg, stops_none hv hs⟩
    | some s =>
      obtain ⟨u', D', hg'⟩ := good_step hg hv hs
      obtain ⟨o1, o2, o3⟩ := stop_ok hg.lf k3 (leastM_mem hs)
      exact ih _ _ u' D' hg' (by have := unfixed_lt o1 o2 o3; omega)
/-- Share's rates -/
theorem share_fair {n : Net} (hv : validB n = true) : MM.Fair (netT n) (ratT (shareM n)) ∧ (shareM n).length = n.f.length ∧ (∀ i, i < n.f.length → qB (rat (shareM n) i) = true) ∧ ∃ D : Nat, 1 ≤ D ∧ D ≤ 18 ∧ ∀ i, i < n.f.length → IsInt ((D : Rat) * ratT (shareM n) i) := by
  obtain ⟨k1, k2, k3, k4, k5, k6⟩ := valid_parts hv
  have hf0 : ∀ i, fxd (List.replicate n.f.length false) i = false := by
    intro i
    unfold fxd
    rw [List.getElem?_replicate]
    split <;> rfl
  have h0 : Good n 0 1 (List.replicate n.f.length ⟨0, 0⟩) (List.replicate n.f.length false) := by
    refine ⟨?_, ?_, fun i hi h => ?_, by simp, by simp⟩
    · refine inv_congr (fx := fun _ => false) (fun i _ => (hf0 i).symm) (fun _ _ => rfl) (inv_start (fun l _ => ?_) (fun i _ => ?_) _)
      · have := le_cast.2 (capsB_num k5 l).1
        exact this
      · have := le_cast.2 (capsB_num k6 i).1
        exact this
    · exact den_congr (fx := fun _ => false) (fun i _ => (hf0 i).symm) (fun _ _ => rfl) (den_start _ _)
    · rw [hf0] at h; cases h
  obtain ⟨u, D, hg, hall⟩ := fill_good hv (n.f.length + 1) _ _ 0 1 h0 (by unfold unfixed; simp)
  exact ⟨inv_end hg.inv hall, hg.lx, fun i hi => hg.ok i hi (hall i hi), D, hg.den.pos, Nat.le_trans hg.den.le (pf_18 _), fun i hi => hg.den.int i hi (hall i hi)⟩
end Go.Proofs.Ytbjhdfakocfapaa
