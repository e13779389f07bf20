/- Max-min fair rates, over rational numbers: nobody can have more, uniqueness, scale, room, order; what holds after each round of the water filling; denominators. No code. -/
import Derived.WalkKit
namespace Go.Proofs.Ytbjhdfakocfapaa
set_option linter.unusedVariables false
set_option linter.unusedSimpArgs false
namespace MM
def sumN : Nat → (Nat → Rat) → Rat
  | 0, _ => 0
  | n + 1, f => sumN n f + f n
theorem sumN_congr {n : Nat} {f g : Nat → Rat} (h : ∀ i, i < n → f i = g i) : sumN n f = sumN n g := by
  induction n with
  | zero => rfl
  | succ n ih => rw [sumN, sumN, ih (fun i hi => h i (by omega)), h n (by omega)]
theorem sumN_le {n : Nat} {f g : Nat → Rat} (h : ∀ i, i < n → f i ≤ g i) : sumN n f ≤ sumN n g := by
  induction n with
  | zero => exact Rat.le_refl
  | succ n ih => have h1 := ih (fun i hi => h i (by omega)); have h2 := h n (by omega); simp only [sumN]; grind
theorem sumN_lt {n i : Nat} {f g : Nat → Rat} (h : ∀ i, i < n → f i ≤ g i) (hi : i < n) (hl : f i < g i) : sumN n f < sumN n g := by
  induction n with
  | zero => omega
  | succ n ih =>
    simp only [sumN]
    by_cases e : i = n
    · subst e
      have h1 := sumN_le (n := i) (f := f) (g := g) (fun j hj => h j (by omega))
      grind
    · have h1 := ih (fun j hj => h j (by omega)) (by omega)
      have h2 := h n (by omega)
      grind
theorem sumN_add (n : Nat) (f g : Nat → Rat) : sumN n (fun i => f i + g i) = sumN n f + sumN n g := by
  induction n with
  | zero => show (0 : Rat) = 0 + 0; grind
  | succ n ih => simp only [sumN, ih]; grind
theorem sumN_mul (n : Nat) (c : Rat) (f : Nat → Rat) : sumN n (fun i => c * f i) = c * sumN n f := by
  induction n with
  | zero => simp [sumN]
  | succ n ih => simp only [sumN, ih]; grind
theorem sumN_zero {n : Nat} {f : Nat → Rat} (h : ∀ i, i < n → f i = 0) : sumN n f = 0 := by
  induction n with
  | zero => rfl
  | succ n ih => rw [sumN, ih (fun i hi => h i (by omega)), h n (by omega)]; grind
/-- if the sum of f is not less, and f is less somewhere, it is greater somewhere -/
theorem sumN_swap {n i : Nat} {f g : Nat → Rat} (h : sumN n g ≤ sumN n f) (hi : i < n) (hl : f i < g i) : ∃ k, k < n ∧ g k < f k := by
  refine Classical.byContradiction fun hc => ?_
  have : sumN n f < sumN n g := sumN_lt (fun j hj => by
    refine Classical.byContradiction fun hh => hc ⟨j, hj, by grind⟩) hi hl
  grind
theorem argmin {n : Nat} (P : Nat → Prop) (f : Nat → Rat) (h : ∃ i, i < n ∧ P i) : ∃ i, i < n ∧ P i ∧ ∀ j, j < n → P j → f i ≤ f j := by
  induction n with
  | zero => obtain ⟨i, hi, _⟩ := h; omega
  | succ n ih =>
    by_cases hq : ∃ i, i < n ∧ P i
    · obtain ⟨i, hi, hp, hm⟩ := ih hq
      by_cases hn : P n ∧ f n < f i
      · refine ⟨n, by omega, hn.1, fun j hj hpj => ?_⟩
        by_cases e : j = n
        · subst e; exact Rat.le_refl
        · have := hm j (by omega) hpj; have := hn.2; grind
      · refine ⟨i, by omega, hp, fun j hj hpj => ?_⟩
        by_cases e : j = n
        · subst e
          refine Classical.byContradiction fun hc => hn ⟨hpj, by grind⟩
        · exact hm j (by omega) hpj
    · obtain ⟨i, hi, hp⟩ := h
      have e : i = n := by
        refine Classical.byContradiction fun hc => hq ⟨i, by omega, hp⟩
      subst e
      refine ⟨i, by omega, hp, fun j hj hpj => ?_⟩
      by_cases e : j = i
      · subst e; exact Rat.le_refl
      · exact absurd ⟨j, by omega, hpj⟩ hq
/-- a network: flows, links, which flow has which link, caps, limits (0: none) -/
structure Nt where
  N : Nat
  L : Nat
  on : Nat → Nat → Bool
  cap : Nat → Rat
  lm : Nat → Rat
def load (T : Nt) (x : Nat → Rat) (l : Nat) : Rat := sumN T.N (fun i => if T.on i l = true then x i else 0)
def Feas (T : Nt) (x : Nat → Rat) : Prop := (∀ i, i < T.N → 0 ≤ x i ∧ (T.lm i ≠ 0 → x i ≤ T.lm i)) ∧ ∀ l, l < T.L → load T x l ≤ T.cap l
def Bott (T : Nt) (x : Nat → Rat) (i : Nat) : Prop :=
  (T.lm i ≠ 0 ∧ x i = T.lm i) ∨ ∃ l, l < T.L ∧ T.on i l = true ∧ load T x l = T.cap l ∧ ∀ j, j < T.N → T.on j l = true → x j ≤ x i
def Fair (T : Nt) (x : Nat → Rat) : Prop := Feas T x ∧ ∀ i, i < T.N → Bott T x i
/-- nobody can have more -/
theorem no_more {T : Nt} {x y : Nat → Rat} {i : Nat} (hb : Bott T x i) (hy : Feas T y) (hi : i < T.N) (h : x i < y i) : ∃ k, k < T.N ∧ x k ≤ x i ∧ y k < x k := by
  rcases hb with ⟨h1, h2⟩ | ⟨l, hl, ho, hf, hj⟩
  · have := (hy.1 i hi).2 h1; grind
  · have h1 := hy.2 l hl
    obtain ⟨k, hk, hlt⟩ := sumN_swap (n := T.N) (i := i) (f := fun i => if T.on i l = true then x i else 0) (g := fun i => if T.on i l = true then y i else 0) (by unfold load at h1 hf; rw [hf]; exact h1) hi (by simp only [ho, if_true]; exact h)
    try simp only at hlt
    by_cases hk2 : T.on k l = true
    · simp only [hk2, if_true] at hlt
      exact ⟨k, hk, hj k hk hk2, hlt⟩
    · simp only [hk2, if_false] at hlt
      exact absurd hlt (by simp)
theorem unique {T : Nt} {x y : Nat → Rat} (hx : Fair T x) (hy : Fair T y) : ∀ i, i < T.N → x i = y i := by
  intro i0 hi0
  refine Classical.byContradiction fun hne => ?_
  obtain ⟨i, hi, hp, hm⟩ := argmin (n := T.N) (fun j => x j ≠ y j) (fun j => if x j ≤ y j then x j else y j) ⟨i0, hi0, hne⟩
  by_cases h : x i < y i
  · obtain ⟨k, hk, h1, h2⟩ := no_more (hx.2 i hi) hy.1 hi h
    have := hm k hk (by grind)
    try simp only at this
    rw [if_pos (by grind), if_neg (by grind)] at this
    grind
  · have h' : y i < x i := by grind
    obtain ⟨k, hk, h1, h2⟩ := no_more (hy.2 i hi) hx.1 hi h'
    have := hm k hk (by grind)
    try simp only at this
    rw [if_neg (by grind), if_pos (by grind)] at this
    grind
/-- how many are at most v -/
def cnt (n : Nat) (x : Nat → Rat) (v : Rat) : Nat := match n with | 0 => 0 | n + 1 => cnt n x v + (if x n ≤ v then 1 else 0)
theorem cnt_le {n : Nat} {x y : Nat → Rat} {v : Rat} (h : ∀ i, i < n → x i ≤ v → y i ≤ v) : cnt n x v ≤ cnt n y v := by
  induction n with
  | zero => exact Nat.le_refl _
  | succ n ih =>
    have h1 := ih (fun i hi => h i (by omega))
    have h2 := h n (by omega)
    simp only [cnt]
    split
    · rw [if_pos (h2 (by assumption))]; omega
    · omega
theorem cnt_lt {n k : Nat} {x y : Nat → Rat} {v : Rat} (h : ∀ i, i < n → x i ≤ v → y i ≤ v) (hk : k < n) (h1 : ¬ x k ≤ v) (h2 : y k ≤ v) : cnt n x v < cnt n y v := by
  induction n with
  | zero => omega
  | succ n ih =>
    simp only [cnt]
    by_cases e : k = n
    · subst e
      have := cnt_le (n := k) (x := x) (y := y) (v := v) (fun i hi => h i (by omega))
      rw [if_neg h1, if_pos h2]; omega
    · have := ih (fun i hi => h i (by omega)) (by omega)
      have h3 := h n (by omega)
      split
      · rw [if_pos (h3 (by assumption))]; omega
      · omega
/-- of all possible rates the fair ones are the greatest, in increasing order -/
theorem fair_cnt {T : Nt} {x y : Nat → Rat} (hx : Fair T x) (hy : Feas T y) {t : Rat} (h : cnt T.N y t < cnt T.N x t) : ∃ v, v ≤ t ∧ cnt T.N x v < cnt T.N y v := by
  have hj : ∃ j, j < T.N ∧ x j ≤ t ∧ ¬ y j ≤ t := by
    refine Classical.byContradiction fun hc => ?_
    have : cnt T.N x t ≤ cnt T.N y t := cnt_le (fun i hi h1 => Classical.byContradiction fun h2 => hc ⟨i, hi, h1, h2⟩)
    omega
  obtain ⟨j, hj, h1, h2⟩ := hj
  obtain ⟨k0, hk0, h3, h4⟩ := no_more (hx.2 j hj) hy hj (by grind)
  obtain ⟨k, hk, ⟨hp1, hp2⟩, hm⟩ := argmin (n := T.N) (fun k => y k < x k ∧ x k ≤ t) y ⟨k0, hk0, h4, by grind⟩
  refine ⟨y k, by grind, cnt_lt (k := k) (fun m hm1 hm2 => ?_) hk (by grind) Rat.le_refl⟩
  refine Classical.byContradiction fun hc => ?_
  obtain ⟨k', hk', h5, h6⟩ := no_more (hx.2 m hm1) hy hm1 (by grind)
  have := hm k' hk' ⟨h6, by grind⟩
  grind
/-- the least one -/
theorem fair_least {T : Nt} {x y : Nat → Rat} (hx : Fair T x) (hy : Feas T y) {v : Rat} (h : ∀ i, i < T.N → v ≤ y i) : ∀ i, i < T.N → v ≤ x i := by
  intro i hi
  refine Classical.byContradiction fun hc => ?_
  obtain ⟨k, hk, h1, h2⟩ := no_more (hx.2 i hi) hy hi (by have := h i hi; grind)
  have := h k hk
  grind
theorem load_mul (T : Nt) (c : Rat) (x : Nat → Rat) (l : Nat) : load T (fun i => c * x i) l = c * load T x l := by
  unfold load
  rw [← sumN_mul]
  refine sumN_congr fun i _ => ?_
  split <;> grind
theorem fair_scale {T : Nt} {x : Nat → Rat} (hx : Fair T x) {c : Rat} (hc : 0 < c) : Fair { T with cap := fun l => c * T.cap l, lm := fun i => c * T.lm i } (fun i => c * x i) := by
  have hm : ∀ a b : Rat, a ≤ b → c * a ≤ c * b := fun a b h => Rat.mul_le_mul_of_nonneg_left h (by grind)
  have hz : ∀ a : Rat, c * a ≠ 0 → a ≠ 0 := fun a h e => h (by rw [e]; grind)
  have hz2 : ∀ a : Rat, a ≠ 0 → c * a ≠ 0 := fun a h e => by
    rcases Rat.mul_eq_zero.1 e with q | q
    · grind
    · exact h q
  refine ⟨⟨fun i hi => ⟨?_, fun h => hm _ _ ((hx.1.1 i hi).2 (hz _ h))⟩, fun l hl => ?_⟩, fun i hi => ?_⟩
  · have := hm 0 (x i) (hx.1.1 i hi).1; grind
  · have e := load_mul T c x l
    have := hm _ _ (hx.1.2 l hl)
    show load T _ l ≤ c * T.cap l
    rw [e]; exact this
  · rcases hx.2 i hi with ⟨h1, h2⟩ | ⟨l, hl, ho, hf, hj⟩
    · exact .inl ⟨hz2 _ h1, by show c * x i = c * T.lm i; rw [h2]⟩
    · refine .inr ⟨l, hl, ho, ?_, fun j hj1 hj2 => hm _ _ (hj j hj1 hj2)⟩
      show load T _ l = c * T.cap l
      rw [load_mul, hf]
/-- more room on links that are not full changes nothing -/
theorem fair_room {T : Nt} {x : Nat → Rat} (hx : Fair T x) {cap2 : Nat → Rat} (hc : ∀ l, l < T.L → T.cap l ≤ cap2 l) (hf : ∀ l, l < T.L → load T x l = T.cap l → cap2 l = T.cap l) : Fair { T with cap := cap2 } x := by
  refine ⟨⟨hx.1.1, fun l hl => ?_⟩, fun i hi => ?_⟩
  · have h1 : load T x l ≤ T.cap l := hx.1.2 l hl
    have h2 := hc l hl
    show load T x l ≤ cap2 l
    grind
  · rcases hx.2 i hi with h | ⟨l, hl, ho, hfl, hj⟩
    · exact .inl h
    · exact .inr ⟨l, hl, ho, by show load T x l = cap2 l; rw [hf l hl hfl]; exact hfl, hj⟩
theorem feas_room {T : Nt} {x : Nat → Rat} (hx : Feas T x) {cap2 : Nat → Rat} (hc : ∀ l, l < T.L → T.cap l ≤ cap2 l) : Feas { T with cap := cap2 } x :=
  ⟨hx.1, fun l hl => by have h1 : load T x l ≤ T.cap l := hx.2 l hl; have h2 := hc l hl; show load T x l ≤ cap2 l; grind⟩
end MM
namespace MM
/-- the sum of the fixed rates on a link, and the number of its flows that are not fixed -/
def fload (T : Nt) (fx : Nat → Bool) (x : Nat → Rat) (l : Nat) : Rat := sumN T.N (fun i => if T.on i l = true then (if fx i = true then x i else 0) else 0)
def many (T : Nt) (fx : Nat → Bool) (l : Nat) : Rat := sumN T.N (fun i => if T.on i l = true then (if fx i = true then 0 else 1) else 0)
def BottF (T : Nt) (fx : Nat → Bool) (x : Nat → Rat) (i : Nat) : Prop :=
  (T.lm i ≠ 0 ∧ x i = T.lm i) ∨ ∃ l, l < T.L ∧ T.on i l = true ∧ fload T fx x l = T.cap l ∧ ∀ j, j < T.N → T.on j l = true → fx j = true ∧ x j ≤ x i
/-- what holds after each round, u being the last level -/
structure Inv (T : Nt) (u : Rat) (fx : Nat → Bool) (x : Nat → Rat) : Prop where
  u0 : 0 ≤ u
  fix : ∀ i, i < T.N → fx i = true → 0 ≤ x i ∧ x i ≤ u ∧ (T.lm i ≠ 0 → x i ≤ T.lm i) ∧ BottF T fx x i
  room : ∀ l, l < T.L → fload T fx x l + u * many T fx l ≤ T.cap l
  lim : ∀ j, j < T.N → fx j = false → T.lm j ≠ 0 → u ≤ T.lm j
theorem inv_start {T : Nt} (hc : ∀ l, l < T.L → 0 ≤ T.cap l) (hl : ∀ i, i < T.N → 0 ≤ T.lm i) (x : Nat → Rat) : Inv T 0 (fun _ => false) x := by
  refine ⟨Rat.le_refl, fun i _ h => by simp at h, fun l hll => ?_, fun j hj _ _ => hl j hj⟩
  have e : fload T (fun _ => false) x l = 0 := sumN_zero fun i _ => by simp
  rw [e]
  have := hc l hll
  grind
/-- a round: the flows of S get the level v -/
structure Rnd (T : Nt) (fx : Nat → Bool) (x : Nat → Rat) (v : Rat) (S : Nat → Bool) : Prop where
  new : ∀ i, i < T.N → S i = true → fx i = false
  some : ∃ i, i < T.N ∧ S i = true
  lv : ∀ l, l < T.L → many T fx l ≠ 0 → v * many T fx l ≤ T.cap l - fload T fx x l
  ll : ∀ j, j < T.N → fx j = false → T.lm j ≠ 0 → v ≤ T.lm j
  why : ∀ i, i < T.N → S i = true → (T.lm i ≠ 0 ∧ v = T.lm i) ∨ ∃ l, l < T.L ∧ T.on i l = true ∧ v * many T fx l = T.cap l - fload T fx x l ∧ ∀ j, j < T.N → T.on j l = true → fx j = false → S j = true
theorem many_nn (T : Nt) (fx : Nat → Bool) (l : Nat) : 0 ≤ many T fx l := by
  have h := sumN_le (n := T.N) (f := fun _ => 0) (g := fun i => if T.on i l = true then (if fx i = true then 0 else 1) else 0) (fun i _ => by split <;> (try split) <;> grind)
  rw [sumN_zero (fun _ _ => rfl)] at h
  exact h
theorem many_pos {T : Nt} {fx : Nat → Bool} {l i : Nat} (hi : i < T.N) (ho : T.on i l = true) (hf : fx i = false) : 0 < many T fx l := by
  have h := sumN_lt (n := T.N) (i := i) (f := fun _ => 0) (g := fun i => if T.on i l = true then (if fx i = true then 0 else 1) else 0) (fun i _ => by split <;> (try split) <;> grind) hi (by simp [ho, hf]; exact (by decide : (0 : Rat) < 1))
  rw [sumN_zero (fun _ _ => rfl)] at h
  exact h
def nfx (fx S : Nat → Bool) : Nat → Bool := fun i => fx i || S i
def nx (x : Nat → Rat) (S : Nat → Bool) (v : Rat) : Nat → Rat := fun i => if S i = true then v else x i
/-- how many of a link get the level -/
def gets (T : Nt) (S : Nat → Bool) (l : Nat) : Rat := sumN T.N (fun i => if T.on i l = true then (if S i = true then 1 else 0) else 0)
theorem fload_new {T : Nt} {fx S : Nat → Bool} {x : Nat → Rat} {v : Rat} (hn : ∀ i, i < T.N → S i = true → fx i = false) (l : Nat) :
    fload T (nfx fx S) (nx x S v) l = fload T fx x l + v * gets T S l := by
  unfold fload gets
  rw [← sumN_mul, ← sumN_add]
  refine sumN_congr fun i hi => ?_
  have h := hn i hi
  unfold nfx nx
  rcases hS : S i <;> rcases hf : fx i <;> simp_all <;> (try split) <;> grind
theorem many_new {T : Nt} {fx S : Nat → Bool} (hn : ∀ i, i < T.N → S i = true → fx i = false) (l : Nat) : many T fx l = many T (nfx fx S) l + gets T S l := by
  unfold many gets
  rw [← sumN_add]
  refine sumN_congr fun i hi => ?_
  have h := hn i hi
  unfold nfx
  rcases hS : S i <;> rcases hf : fx i <;> simp_all <;> (try split) <;> grind
theorem gets_none {T : Nt} {S : Nat → Bool} {l : Nat} (h : ∀ j, j < T.N → T.on j l = true → S j = false) : gets T S l = 0 := by
  refine sumN_zero fun i hi => ?_
  have := h i hi
  split
  · rw [if_neg (by simp [this (by assumption)])]
  · rfl
theorem gets_all {T : Nt} {fx S : Nat → Bool} {l : Nat} (hn : ∀ i, i < T.N → S i = true → fx i = false) (h : ∀ j, j < T.N → T.on j l = true → fx j = false → S j = true) : gets T S l = many T fx l := by
  refine sumN_congr fun i hi => ?_
  have h1 := h i hi
  have h2 := hn i hi
  split
  · rename_i ho
    rcases hf : fx i with _ | _
    · rw [if_pos (h1 ho hf)]; simp
    · rw [if_neg (fun hS => by rw [h2 hS] at hf; cases hf)]; simp
  · rfl
theorem rnd_up {T : Nt} {u v : Rat} {fx S : Nat → Bool} {x : Nat → Rat} (hI : Inv T u fx x) (hR : Rnd T fx x v S) : u ≤ v := by
  obtain ⟨i, hi, hS⟩ := hR.some
  have hf := hR.new i hi hS
  rcases hR.why i hi hS with ⟨h1, h2⟩ | ⟨l, hl, ho, h1, -⟩
  · rw [h2]; exact hI.lim i hi hf h1
  · have h2 := hI.room l hl
    have h3 := many_pos hi ho hf
    have h4 : u * many T fx l ≤ v * many T fx l := by grind
    refine Classical.byContradiction fun hc => ?_
    have h5 : v * many T fx l < u * many T fx l := Rat.mul_lt_mul_of_pos_right (by grind) h3
    grind
theorem inv_step {T : Nt} {u v : Rat} {fx S : Nat → Bool} {x : Nat → Rat} (hI : Inv T u fx x) (hR : Rnd T fx x v S) : Inv T v (nfx fx S) (nx x S v) := by
  have hu := rnd_up hI hR
  have old : ∀ j, j < T.N → fx j = true → nx x S v j = x j := fun j hj hf => by
    unfold nx; rw [if_neg]; intro hS; rw [hR.new j hj hS] at hf; cases hf
  refine ⟨Rat.le_trans hI.u0 hu, fun i hi hf => ?_, fun l hl => ?_, fun j hj hf h0 => ?_⟩
  · by_cases hS : S i = true
    · have e : nx x S v i = v := by unfold nx; rw [if_pos hS]
      have hf0 := hR.new i hi hS
      rw [e]
      refine ⟨Rat.le_trans hI.u0 hu, Rat.le_refl, fun h => hR.ll i hi hf0 h, ?_⟩
      rcases hR.why i hi hS with ⟨h1, h2⟩ | ⟨l, hl, ho, h1, h2⟩
      · exact .inl ⟨h1, by rw [e]; exact h2⟩
      · refine .inr ⟨l, hl, ho, ?_, fun j hj hoj => ?_⟩
        · rw [fload_new hR.new, gets_all hR.new h2]; grind
        · rw [e]
          by_cases hfj : fx j = true
          · refine ⟨by unfold nfx; simp [hfj], ?_⟩
            rw [old j hj hfj]
            exact Rat.le_trans (hI.fix j hj hfj).2.1 hu
          · have hSj := h2 j hj hoj (by simpa using hfj)
            exact ⟨by unfold nfx; simp [hSj], by unfold nx; rw [if_pos hSj]; exact Rat.le_refl⟩
    · have hf0 : fx i = true := by unfold nfx at hf; simpa [hS] using hf
      obtain ⟨k1, k2, k3, k4⟩ := hI.fix i hi hf0
      have e := old i hi hf0
      rw [e]
      refine ⟨k1, Rat.le_trans k2 hu, k3, ?_⟩
      rcases k4 with ⟨h1, h2⟩ | ⟨l, hl, ho, h1, h2⟩
      · exact .inl ⟨h1, by rw [e]; exact h2⟩
      · refine .inr ⟨l, hl, ho, ?_, fun j hj hoj => ?_⟩
        · rw [fload_new hR.new, gets_none (fun j hj hoj => by
            rcases hS : S j with _ | _
            · rfl
            · have := hR.new j hj hS; rw [(h2 j hj hoj).1] at this; cases this)]
          grind
        · have := h2 j hj hoj
          rw [e, old j hj this.1]
          exact ⟨by unfold nfx; simp [this.1], this.2⟩
  · rw [fload_new hR.new]
    have h1 := many_new hR.new l
    have h2 := hI.room l hl
    have h3 : v * many T fx l = v * many T (nfx fx S) l + v * gets T S l := by rw [h1]; grind
    by_cases h0 : many T fx l = 0
    · rw [h0] at h2 h3; grind
    · have := hR.lv l hl h0; grind
  · have : fx j = false := by unfold nfx at hf; rcases h : fx j <;> simp_all
    exact hR.ll j hj this h0
/-- when all flows are fixed, the rates are the fair ones -/
theorem inv_end {T : Nt} {u : Rat} {fx : Nat → Bool} {x : Nat → Rat} (hI : Inv T u fx x) (h : ∀ i, i < T.N → fx i = true) : Fair T x := by
  have e : ∀ l, fload T fx x l = load T x l := fun l => sumN_congr fun i hi => by rw [h i hi]; simp
  have m : ∀ l, many T fx l = 0 := fun l => sumN_zero fun i hi => by rw [h i hi]; simp
  refine ⟨⟨fun i hi => ?_, fun l hl => ?_⟩, fun i hi => ?_⟩
  · have := hI.fix i hi (h i hi); exact ⟨this.1, this.2.2.1⟩
  · have := hI.room l hl; rw [e, m] at this; grind
  · rcases (hI.fix i hi (h i hi)).2.2.2 with h1 | ⟨l, hl, ho, hf, hj⟩
    · exact .inl h1
    · exact .inr ⟨l, hl, ho, by rw [← e]; exact hf, fun j hj1 hj2 => (hj j hj1 hj2).2⟩
end MM
namespace MM
/-- the greatest product of numbers with this sum -/
def pf : Nat → Nat
  | 0 => 1 | 1 => 1 | 2 => 2 | 3 => 3 | 4 => 4 | 5 => 6 | 6 => 9 | 7 => 12 | _ => 18
theorem pf_mul : ∀ n m k, 1 ≤ m → m ≤ k → n + k ≤ 8 → pf n * m ≤ pf (n + k) := by
  have h : ∀ n : Fin 9, ∀ m : Fin 9, ∀ k : Fin 9, 1 ≤ m.val → m.val ≤ k.val → n.val + k.val ≤ 8 → pf n.val * m.val ≤ pf (n.val + k.val) := by decide
  intro n m k h1 h2 h3
  exact h ⟨n, by omega⟩ ⟨m, by omega⟩ ⟨k, by omega⟩ h1 h2 h3
theorem pf_mono : ∀ n k, n + k ≤ 8 → pf n ≤ pf (n + k) := by
  have h : ∀ n : Fin 9, ∀ k : Fin 9, n.val + k.val ≤ 8 → pf n.val ≤ pf (n.val + k.val) := by decide
  intro n k h3
  exact h ⟨n, by omega⟩ ⟨k, by omega⟩ h3
theorem pf_18 (n : Nat) : pf n ≤ 18 := by unfold pf; split <;> omega
theorem pf_pos (n : Nat) : 1 ≤ pf n := by unfold pf; split <;> omega
def IsInt (r : Rat) : Prop := ∃ z : Int, r = (z : Rat)
theorem isInt_add {a b : Rat} (ha : IsInt a) (hb : IsInt b) : IsInt (a + b) := by
  obtain ⟨x, rfl⟩ := ha; obtain ⟨y, rfl⟩ := hb; exact ⟨x + y, by rw [Rat.intCast_add]⟩
theorem isInt_sub {a b : Rat} (ha : IsInt a) (hb : IsInt b) : IsInt (a - b) := by
  obtain ⟨x, rfl⟩ := ha; obtain ⟨y, rfl⟩ := hb; exact ⟨x - y, by rw [Rat.intCast_sub]⟩
theorem isInt_mul {a b : Rat} (ha : IsInt a) (hb : IsInt b) : IsInt (a * b) := by
  obtain ⟨x, rfl⟩ := ha; obtain ⟨y, rfl⟩ := hb; exact ⟨x * y, by rw [Rat.intCast_mul]⟩
theorem isInt_nat (n : Nat) : IsInt (n : Rat) := ⟨n, by first | rfl | exact (Rat.intCast_natCast n).symm⟩
theorem isInt_zero : IsInt 0 := ⟨0, by simp⟩
theorem isInt_sum {n : Nat} {f : Nat → Rat} (h : ∀ i, i < n → IsInt (f i)) : IsInt (sumN n f) := by
  induction n with
  | zero => exact isInt_zero
  | succ n ih => exact isInt_add (ih fun i hi => h i (by omega)) (h n (by omega))
/-- how many are fixed -/
def cf (n : Nat) (fx : Nat → Bool) : Nat := match n with | 0 => 0 | n + 1 => cf n fx + (if fx n = true then 1 else 0)
theorem cf_le (n : Nat) (fx : Nat → Bool) : cf n fx ≤ n := by
  induction n with
  | zero => exact Nat.le_refl _
  | succ n ih => simp only [cf]; split <;> omega
theorem cf_new {n : Nat} {fx S : Nat → Bool} (hn : ∀ i, i < n → S i = true → fx i = false) : cf n (nfx fx S) = cf n fx + cf n S := by
  induction n with
  | zero => rfl
  | succ n ih =>
    have h1 := ih fun i hi => hn i (by omega)
    have h2 := hn n (by omega)
    simp only [cf, h1]
    unfold nfx
    rcases hS : S n <;> rcases hf : fx n <;> simp_all <;> omega
theorem cf_mono {n : Nat} {f g : Nat → Bool} (h : ∀ i, i < n → f i = true → g i = true) : cf n f ≤ cf n g := by
  induction n with
  | zero => exact Nat.le_refl _
  | succ n ih =>
    have h1 := ih fun i hi => h i (by omega)
    have h2 := h n (by omega)
    simp only [cf]
    split
    · rw [if_pos (h2 (by assumption))]; omega
    · omega
theorem cf_pos {n : Nat} {f : Nat → Bool} (h : ∃ i, i < n ∧ f i = true) : 1 ≤ cf n f := by
  obtain ⟨i, hi, hf⟩ := h
  induction n with
  | zero => omega
  | succ n ih =>
    simp only [cf]
    by_cases e : i = n
    · subst e; rw [if_pos hf]; omega
    · have := ih (by omega); omega
theorem cf_all {n : Nat} {f : Nat → Bool} (h : cf n f = n) : ∀ i, i < n → f i = true := by
  induction n with
  | zero => intro i hi; omega
  | succ n ih =>
    simp only [cf] at h
    have := cf_le n f
    by_cases hf : f n = true
    · rw [if_pos hf] at h
      intro i hi
      by_cases e : i = n
      · subst e; exact hf
      · exact ih (by omega) i (by omega)
    · rw [if_neg hf] at h; omega
theorem many_cf (T : Nt) (fx : Nat → Bool) (l : Nat) : many T fx l = ((cf T.N (fun i => T.on i l && !fx i) : Nat) : Rat) := by
  unfold many
  generalize T.N = n
  induction n with
  | zero => simp [sumN, cf]
  | succ n ih =>
    simp only [sumN, cf, ih]
    by_cases ho : T.on n l = true <;> by_cases hf : fx n = true <;> simp [ho, hf] <;> grind
/-- the rates are whole numbers over D -/
structure Den (T : Nt) (D : Nat) (fx : Nat → Bool) (x : Nat → Rat) : Prop where
  pos : 1 ≤ D
  le : D ≤ pf (cf T.N fx)
  int : ∀ i, i < T.N → fx i = true → IsInt ((D : Rat) * x i)
theorem den_start (T : Nt) (x : Nat → Rat) : Den T 1 (fun _ => false) x := ⟨Nat.le_refl _, pf_pos _, fun i _ h => by simp at h⟩
theorem den_fload {T : Nt} {D : Nat} {fx : Nat → Bool} {x : Nat → Rat} (h : Den T D fx x) (l : Nat) : IsInt ((D : Rat) * fload T fx x l) := by
  unfold fload
  rw [← sumN_mul]
  refine isInt_sum fun i hi => ?_
  split
  · split
    · exact h.int i hi (by assumption)
    · rw [Rat.mul_zero]; exact isInt_zero
  · rw [Rat.mul_zero]; exact isInt_zero
theorem den_step {T : Nt} {D : Nat} {fx S : Nat → Bool} {x : Nat → Rat} {v : Rat} (hN : T.N ≤ 8) (hc : ∀ l, l < T.L → IsInt (T.cap l)) (hm : ∀ i, i < T.N → IsInt (T.lm i)) (h : Den T D fx x) (hR : Rnd T fx x v S) :
    ∃ D2, Den T D2 (nfx fx S) (nx x S v) := by
  obtain ⟨i, hi, hS⟩ := hR.some
  have hf := hR.new i hi hS
  have hle := cf_le T.N (nfx fx S)
  rw [cf_new hR.new] at hle
  have hS1 := cf_pos hR.some
  have key : ∀ m : Nat, 1 ≤ m → m ≤ cf T.N S → IsInt (((D * m : Nat) : Rat) * v) → Den T (D * m) (nfx fx S) (nx x S v) := by
    intro m h1 h2 h3
    refine ⟨Nat.mul_le_mul h.pos h1, ?_, fun j hj hfj => ?_⟩
    · rw [cf_new hR.new]
      exact Nat.le_trans (Nat.mul_le_mul_right _ h.le) (pf_mul _ _ _ h1 h2 (by omega))
    · unfold nx
      split
      · exact h3
      · rename_i hSj
        have hf0 : fx j = true := by unfold nfx at hfj; simpa [hSj] using hfj
        have e : ((D * m : Nat) : Rat) * x j = (m : Rat) * ((D : Rat) * x j) := by rw [Rat.natCast_mul]; grind
        rw [e]
        exact isInt_mul (isInt_nat _) (h.int j hj hf0)
  rcases hR.why i hi hS with ⟨h1, h2⟩ | ⟨l, hl, ho, h1, h2⟩
  · refine ⟨D * 1, key 1 (Nat.le_refl _) hS1 ?_⟩
    rw [h2]
    exact isInt_mul (isInt_nat _) (hm i hi)
  · refine ⟨_, key (cf T.N (fun i => T.on i l && !fx i)) ?_ ?_ ?_⟩
    · exact cf_pos ⟨i, hi, by simp [ho, hf]⟩
    · refine cf_mono fun j hj hh => ?_
      simp only [Bool.and_eq_true, Bool.not_eq_true'] at hh
      exact h2 j hj hh.1 hh.2
    · rw [many_cf] at h1
      have e : ((D * cf T.N (fun i => T.on i l && !fx i) : Nat) : Rat) * v = (D : Rat) * T.cap l - (D : Rat) * fload T fx x l := by
        rw [Rat.natCast_mul]
        generalize ((cf T.N (fun i => T.on i l && !fx i) : Nat) : Rat) = m at *
        have : (D : Rat) * (v * m) = (D : Rat) * (T.cap l - fload T fx x l) := by rw [h1]
        grind
      rw [e]
      exact isInt_sub (isInt_mul (isInt_nat _) (hc l hl)) (den_fload h l)
end MM
end Go.Proofs.Ytbjhdfakocfapaa
