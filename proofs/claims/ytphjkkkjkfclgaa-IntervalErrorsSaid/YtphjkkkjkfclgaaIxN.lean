/- Law package 06: the mathematics of the laws. -/
import Derived.Test.YtphjkkkjkfclgaaIxP
namespace Go.Proofs.Ytphjkkkjkfclgaa
set_option linter.unusedVariables false
set_option linter.unusedSimpArgs false
def ends4 (f : Int → Int → Int) (a b : Sp) : Sp := arM (f a.lo b.lo) (f a.lo b.hi) (f a.hi b.lo) (f a.hi b.hi)
theorem combM_v {f : Int → Int → Int} {a b : Sp} (ha : vB a = true) (hb : vB b = true) : combM f a b = if vB (ends4 f a b) = true then (ends4 f a b, 0) else (⟨0, 0⟩, 3) := by
  unfold combM ends4; rw [if_pos (bothB ha hb)]
theorem combM_ok {f : Int → Int → Int} {a b : Sp} (ha : vB a = true) (hb : vB b = true) (h : (combM f a b).2 = 0) : combM f a b = (ends4 f a b, 0) ∧ vB (ends4 f a b) = true := by
  rw [combM_v ha hb] at h ⊢
  by_cases hv : vB (ends4 f a b) = true
  · rw [if_pos hv]; exact ⟨rfl, hv⟩
  · rw [if_neg hv] at h; cases h
/-- the part of an interval -/
def Part (c a : Sp) : Prop := a.lo ≤ c.lo ∧ c.lo ≤ c.hi ∧ c.hi ≤ a.hi
def InS (n : Int) (a : Sp) : Prop := a.lo ≤ n ∧ n ≤ a.hi
theorem mul_ends {a b : Sp} (h : vB (ends4 mulF a b) = true) : ends4 mulF a b = ends4 (fun x y => x * y) a b := by
  unfold ends4 at h ⊢
  rw [vB_arM] at h
  simp only [Bool.and_eq_true] at h
  obtain ⟨⟨⟨h0, h1⟩, h2⟩, h3⟩ := h
  rw [mulF_eq h0, mulF_eq h1, mulF_eq h2, mulF_eq h3]
theorem in_comb {f g : Int → Int → Int} {P Q : Int → Prop} (hm : Mono g P Q) {a b : Sp} {x y : Int} (hg : vB (ends4 f a b) = true → ends4 f a b = ends4 g a b) (hP : ∀ n, InS n a → P n) (hQ : ∀ n, InS n b → Q n)
    (ha : vB a = true) (hb : vB b = true) (hx : InS x a) (hy : InS y b) (h : (combM f a b).2 = 0) : InS (g x y) (combM f a b).1 := by
  obtain ⟨e, hv⟩ := combM_ok ha hb h
  rw [e]
  show InS (g x y) (ends4 f a b)
  rw [hg hv]
  exact hm.between (fun n h1 h2 => hP n ⟨h1, h2⟩) (fun n h1 h2 => hQ n ⟨h1, h2⟩) hx hy
theorem add_in {a b : Sp} {x y : Int} (ha : vB a = true) (hb : vB b = true) (hx : InS x a) (hy : InS y b) (h : (addM a b).2 = 0) : InS (x + y) (addM a b).1 :=
  in_comb (f := addF) (g := addF) add_mono (fun _ => rfl) (fun _ _ => trivial) (fun _ _ => trivial) ha hb hx hy h
theorem sub_in {a b : Sp} {x y : Int} (ha : vB a = true) (hb : vB b = true) (hx : InS x a) (hy : InS y b) (h : (subM a b).2 = 0) : InS (x - y) (subM a b).1 :=
  in_comb (f := subF) (g := subF) sub_mono (fun _ => rfl) (fun _ _ => trivial) (fun _ _ => trivial) ha hb hx hy h
theorem mul_in {a b : Sp} {x y : Int} (ha : vB a = true) (hb : vB b = true) (hx : InS x a) (hy : InS y b) (h : (mulM a b).2 = 0) : InS (x * y) (mulM a b).1 :=
  in_comb (f := mulF) (g := fun x y => x * y) mul_mono mul_ends (fun _ _ => trivial) (fun _ _ => trivial) ha hb hx hy h
theorem mul_bd {a b : Sp} {x y : Int} (ha : vB a = true) (hb : vB b = true) (hx : InS x a) (hy : InS y b) (h : (mulM a b).2 = 0) : -1000000000000 ≤ x * y ∧ x * y ≤ 1000000000000 := by
  have h1 := mul_in ha hb hx hy h
  obtain ⟨e, hv⟩ := combM_ok (f := mulF) ha hb h
  have e' : mulM a b = (ends4 mulF a b, 0) := e
  rw [e'] at h1
  rw [vB_iff] at hv
  unfold InS at h1; simp only at h1; omega
theorem min_in {a b : Sp} {x y : Int} (ha : vB a = true) (hb : vB b = true) (hx : InS x a) (hy : InS y b) : (minM a b).2 = 0 ∧ InS (min x y) (minM a b).1 := by
  rw [min_ch ha hb]; refine ⟨rfl, ?_⟩; unfold InS at *; simp only; omega
theorem max_in {a b : Sp} {x y : Int} (ha : vB a = true) (hb : vB b = true) (hx : InS x a) (hy : InS y b) : (maxM a b).2 = 0 ∧ InS (max x y) (maxM a b).1 := by
  rw [max_ch ha hb]; refine ⟨rfl, ?_⟩; unfold InS at *; simp only; omega
theorem join_in {a b : Sp} {x y : Int} (ha : vB a = true) (hb : vB b = true) (hx : InS x a) (hy : InS y b) : (joinM a b).2 = 0 ∧ InS x (joinM a b).1 ∧ InS y (joinM a b).1 := by
  rw [join_ch ha hb]; refine ⟨rfl, ?_⟩; unfold InS at *; simp only; omega
theorem div_ok {f : Int → Int → Int} {a b : Sp} (h : divM f a b = (ends4 f a b, 0)) : (divM f a b).2 = 0 ∧ (divM f a b).1 = ends4 f a b := by rw [h]; exact ⟨rfl, rfl⟩
/-- of what sign the divisors are -/
theorem signs {b : Sp} (hz : zB b = false) : (∀ n, InS n b → 0 < n) ∨ (∀ n, InS n b → n < 0) := by
  have : ¬ (b.lo ≤ 0 ∧ 0 ≤ b.hi) := fun k => by rw [zB_iff.2 k] at hz; cases hz
  rcases Int.lt_or_le 0 b.lo with h | h
  · exact .inl fun n hn => by unfold InS at hn; omega
  · exact .inr fun n hn => by unfold InS at hn; omega
theorem between_div {f : Int → Int → Int} (hp : Mono f All (fun y => 0 < y)) (hn : Mono f All (fun y => y < 0)) {a b : Sp} {x y : Int} (hz : zB b = false) (hx : InS x a) (hy : InS y b) : InS (f x y) (ends4 f a b) := by
  rcases signs hz with h | h
  · exact hp.between (fun _ _ _ => trivial) (fun n h1 h2 => h n ⟨h1, h2⟩) hx hy
  · exact hn.between (fun _ _ _ => trivial) (fun n h1 h2 => h n ⟨h1, h2⟩) hx hy
theorem dv_in {a b : Sp} {x y : Int} (ha : vB a = true) (hb : vB b = true) (hz : zB b = false) (hx : InS x a) (hy : InS y b) : (dvM a b).2 = 0 ∧ InS (divF x y) (dvM a b).1 := by
  have e : dvM a b = (ends4 divF a b, 0) := dv_ch ha hb hz
  rw [e]
  exact ⟨rfl, between_div div_pos_mono div_neg_mono hz hx hy⟩
theorem up_in {a b : Sp} {x y : Int} (ha : vB a = true) (hb : vB b = true) (hz : zB b = false) (hx : InS x a) (hy : InS y b) : (upM a b).2 = 0 ∧ InS (upF x y) (upM a b).1 := by
  have e : upM a b = (ends4 upF a b, 0) := up_ch ha hb hz
  rw [e]
  exact ⟨rfl, between_div (up_of_div div_pos_mono) (up_of_div div_neg_mono) hz hx hy⟩
theorem pick_in {a : Sp} {m : Int} (ha : vB a = true) (hm : 0 ≤ m) : InS (pickM a m) a := pickM_in (vB_iff.1 ha).2.1 hm

/-! narrower -/
theorem ends_part {f : Int → Int → Int} {a b c d : Sp} (hc : Part c a) (hd : Part d b) (h : ∀ x y, InS x a → InS y b → InS (f x y) (ends4 f a b)) : Part (ends4 f c d) (ends4 f a b) := by
  have cl : InS c.lo a := by unfold Part at hc; unfold InS; omega
  have ch : InS c.hi a := by unfold Part at hc; unfold InS; omega
  have dl : InS d.lo b := by unfold Part at hd; unfold InS; omega
  have dh : InS d.hi b := by unfold Part at hd; unfold InS; omega
  have h0 := h _ _ cl dl
  have h1 := h _ _ cl dh
  have h2 := h _ _ ch dl
  have h3 := h _ _ ch dh
  have hl := arM_le (f c.lo d.lo) (f c.lo d.hi) (f c.hi d.lo) (f c.hi d.hi)
  have a0 := arM_lo (f c.lo d.lo) (f c.lo d.hi) (f c.hi d.lo) (f c.hi d.hi)
  have a1 := arM_hi (f c.lo d.lo) (f c.lo d.hi) (f c.hi d.lo) (f c.hi d.hi)
  unfold InS at h0 h1 h2 h3
  refine ⟨?_, hl, ?_⟩ <;> unfold ends4 at * <;> omega
theorem part_v {c a : Sp} (h : Part c a) (ha : vB a = true) : vB c = true := by rw [vB_iff] at *; unfold Part at h; omega
theorem wi_comb {f : Int → Int → Int} {a b c d : Sp} (ha : vB a = true) (hb : vB b = true) (hc : Part c a) (hd : Part d b) (h : vB (ends4 f a b) = true → Part (ends4 f c d) (ends4 f a b)) :
    wiB (combM f c d).1 (combM f c d).2 (combM f a b).1 (combM f a b).2 = true := by
  rw [wiB_iff]
  by_cases he : (combM f a b).2 = 0
  · right
    obtain ⟨e, hv⟩ := combM_ok ha hb he
    have hp := h hv
    have hw := part_v hp hv
    rw [e, combM_v (part_v hc ha) (part_v hd hb), if_pos hw]
    exact ⟨rfl, hp.1, hp.2.2⟩
  · exact .inl he
theorem add_wi {a b c d : Sp} (ha : vB a = true) (hb : vB b = true) (hc : Part c a) (hd : Part d b) : wiB (addM c d).1 (addM c d).2 (addM a b).1 (addM a b).2 = true :=
  wi_comb ha hb hc hd fun _ => ends_part hc hd fun x y hx hy => add_mono.between (fun _ _ _ => trivial) (fun _ _ _ => trivial) hx hy
theorem sub_wi {a b c d : Sp} (ha : vB a = true) (hb : vB b = true) (hc : Part c a) (hd : Part d b) : wiB (subM c d).1 (subM c d).2 (subM a b).1 (subM a b).2 = true :=
  wi_comb ha hb hc hd fun _ => ends_part hc hd fun x y hx hy => sub_mono.between (fun _ _ _ => trivial) (fun _ _ _ => trivial) hx hy
theorem min_wi {a b c d : Sp} (ha : vB a = true) (hb : vB b = true) (hc : Part c a) (hd : Part d b) : wiB (minM c d).1 (minM c d).2 (minM a b).1 (minM a b).2 = true :=
  wi_comb ha hb hc hd fun _ => ends_part hc hd fun x y hx hy => min_mono.between (fun _ _ _ => trivial) (fun _ _ _ => trivial) hx hy
theorem max_wi {a b c d : Sp} (ha : vB a = true) (hb : vB b = true) (hc : Part c a) (hd : Part d b) : wiB (maxM c d).1 (maxM c d).2 (maxM a b).1 (maxM a b).2 = true :=
  wi_comb ha hb hc hd fun _ => ends_part hc hd fun x y hx hy => max_mono.between (fun _ _ _ => trivial) (fun _ _ _ => trivial) hx hy
theorem mul_wi {a b c d : Sp} (ha : vB a = true) (hb : vB b = true) (hc : Part c a) (hd : Part d b) : wiB (mulM c d).1 (mulM c d).2 (mulM a b).1 (mulM a b).2 = true :=
  wi_comb ha hb hc hd fun hv => by
    have e := mul_ends hv
    have hp : Part (ends4 (fun x y => x * y) c d) (ends4 (fun x y => x * y) a b) := ends_part hc hd fun x y hx hy => mul_mono.between (fun _ _ _ => trivial) (fun _ _ _ => trivial) hx hy
    have hw : vB (ends4 (fun x y => x * y) c d) = true := part_v hp (by rw [← e]; exact hv)
    have e2 : ends4 mulF c d = ends4 (fun x y => x * y) c d := by
      have k : ∀ x y, vN (x * y) = true → mulF x y = x * y := fun x y h => by
        rcases mulF_val x y with h1 | h1
        · exact h1.2
        · rw [h1.1] at h; cases h
      unfold ends4 at hw ⊢
      rw [vB_arM] at hw
      simp only [Bool.and_eq_true] at hw
      obtain ⟨⟨⟨h0, h1⟩, h2⟩, h3⟩ := hw
      rw [k _ _ h0, k _ _ h1, k _ _ h2, k _ _ h3]
    rw [e, e2]
    exact hp
theorem z_part {d b : Sp} (hd : Part d b) (h : zB b = false) : zB d = false := by
  rcases hz : zB d with _ | _
  · rfl
  · have hh := zB_iff.1 hz
    have : zB b = true := zB_iff.2 (by unfold Part at hd; omega)
    rw [this] at h; cases h
theorem div_wi {f : Int → Int → Int} {a b c d : Sp} (hp : Mono f All (fun y => 0 < y)) (hn : Mono f All (fun y => y < 0)) (ha : vB a = true) (hb : vB b = true) (hc : Part c a) (hd : Part d b) :
    wiB (divM f c d).1 (divM f c d).2 (divM f a b).1 (divM f a b).2 = true := by
  rcases hz : zB b with _ | _
  · rw [div_nz hz, div_nz (z_part hd hz)]
    exact wi_comb ha hb hc hd fun _ => ends_part hc hd fun x y hx hy => between_div hp hn hz hx hy
  · rw [wiB_iff]; left; rw [div_z ha hb hz]; decide
theorem join_wi {a b c d : Sp} (ha : vB a = true) (hb : vB b = true) (hc : Part c a) (hd : Part d b) : wiB (joinM c d).1 (joinM c d).2 (joinM a b).1 (joinM a b).2 = true := by
  rw [join_ch ha hb, join_ch (part_v hc ha) (part_v hd hb), wiB_iff]
  right; refine ⟨rfl, ?_⟩; unfold Part at *; simp only; omega
theorem pick_part {a : Sp} {m n : Int} (ha : vB a = true) (hm : 0 ≤ m) (hn : 0 ≤ n) : Part ⟨min (pickM a m) (pickM a n), max (pickM a m) (pickM a n)⟩ a := by
  have h1 := pick_in ha hm
  have h2 := pick_in ha hn
  unfold InS at h1 h2; unfold Part; simp only; omega

/-! the other sign -/
theorem turn_v {a : Sp} (h : vB a = true) : vB (turnM a) = true := by rw [vB_iff] at *; unfold turnM; simp only; omega
theorem up_turn {a b : Sp} (ha : vB a = true) (hb : vB b = true) : (upM a b).2 = (dvM (turnM a) b).2 ∧ vB (dvM (turnM a) b).1 = true ∧ ((upM a b).2 = 0 → (upM a b).1 = turnM (dvM (turnM a) b).1) := by
  rcases hz : zB b with _ | _
  · rw [up_ch ha hb hz, dv_ch (turn_v ha) hb hz]
    refine ⟨rfl, ?_, fun _ => ?_⟩
    · show vB (arM _ _ _ _) = true
      rw [vB_arM]
      have k : ∀ x y, (x = (turnM a).lo ∨ x = (turnM a).hi) → (y = b.lo ∨ y = b.hi) → vN (divF x y) = true := fun x y hx hy => by
        have h1 := vnOf (turn_v ha) hx
        rw [vN_iff] at h1 ⊢
        exact divF_bd h1 (nz hz (by rw [vB_iff] at hb; omega) hy)
      rw [k _ _ (.inl rfl) (.inl rfl), k _ _ (.inl rfl) (.inr rfl), k _ _ (.inr rfl) (.inl rfl), k _ _ (.inr rfl) (.inr rfl)]; rfl
    · have e : ∀ x y, upF x y = -(divF (-x) y) := fun _ _ => rfl
      rw [e, e, e, e]
      show arM _ _ _ _ = turnM (arM (divF (-a.hi) b.lo) (divF (-a.hi) b.hi) (divF (-a.lo) b.lo) (divF (-a.lo) b.hi))
      generalize divF (-a.hi) b.lo = p
      generalize divF (-a.hi) b.hi = q
      generalize divF (-a.lo) b.lo = r
      generalize divF (-a.lo) b.hi = s
      unfold turnM arM; congr 1 <;> simp only <;> omega
  · have e1 : upM a b = (⟨0, 0⟩, 14) := div_z ha hb hz
    have e2 : dvM (turnM a) b = (⟨0, 0⟩, 14) := div_z (turn_v ha) hb hz
    rw [e1, e2]
    exact ⟨rfl, by decide, fun h => by cases h⟩
theorem max_turn {a b : Sp} (ha : vB a = true) (hb : vB b = true) : (maxM a b).2 = 0 ∧ (minM (turnM a) (turnM b)).2 = 0 ∧ vB (minM (turnM a) (turnM b)).1 = true ∧ (maxM a b).1 = turnM (minM (turnM a) (turnM b)).1 := by
  rw [max_ch ha hb, min_ch (turn_v ha) (turn_v hb)]
  rw [vB_iff] at ha hb
  refine ⟨rfl, rfl, ?_, ?_⟩
  · rw [vB_iff]; unfold turnM; simp only; omega
  · show (⟨max a.lo b.lo, max a.hi b.hi⟩ : Sp) = ⟨-(min (-a.lo) (-b.lo)), -(min (-a.hi) (-b.hi))⟩
    congr 1 <;> omega
theorem sub_turn {a b : Sp} (ha : vB a = true) (hb : vB b = true) : subM a b = addM a (turnM b) := by
  rw [sub_ch ha hb, add_ch ha (turn_v hb)]; unfold turnM; congr 1

/-! exchanged -/
theorem comb_sym {f : Int → Int → Int} (h : ∀ x y, f x y = f y x) (a b : Sp) : combM f a b = combM f b a := by
  have e : arM (f a.lo b.lo) (f a.lo b.hi) (f a.hi b.lo) (f a.hi b.hi) = arM (f b.lo a.lo) (f b.lo a.hi) (f b.hi a.lo) (f b.hi a.hi) := by
    rw [h b.lo a.lo, h b.lo a.hi, h b.hi a.lo, h b.hi a.hi]; unfold arM; congr 1 <;> omega
  unfold combM
  rw [e, Bool.and_comm]
theorem mulF_sym (x y : Int) : mulF x y = mulF y x := by
  rcases mulF_val x y with h | h <;> rcases mulF_val y x with k | k
  · rw [h.2, k.2, Int.mul_comm]
  · rw [Int.mul_comm, k.1] at h; cases h.1
  · rw [Int.mul_comm, h.1] at k; cases k.1
  · rw [h.2, k.2]
theorem add_sym (a b : Sp) : addM b a = addM a b := comb_sym (fun x y => by unfold addF; omega) b a
theorem mul_sym (a b : Sp) : mulM b a = mulM a b := comb_sym mulF_sym b a
theorem min_sym (a b : Sp) : minM b a = minM a b := comb_sym (fun x y => by unfold minF; omega) b a
theorem max_sym (a b : Sp) : maxM b a = maxM a b := comb_sym (fun x y => by unfold maxF; omega) b a
theorem join_sym (a b : Sp) : joinM b a = joinM a b := by
  have e : arM b.lo b.hi a.lo a.hi = arM a.lo a.hi b.lo b.hi := by unfold arM; congr 1 <;> omega
  unfold joinM; rw [e, Bool.and_comm]
theorem join_part {c a : Sp} (ha : vB a = true) (h : Part c a) : joinM a c = (a, 0) := by
  rw [join_ch ha (part_v h ha)]
  have e : (⟨min a.lo c.lo, max a.hi c.hi⟩ : Sp) = a := by obtain ⟨l, g⟩ := a; unfold Part at h; simp only at *; congr 1 <;> omega
  rw [e]
end Go.Proofs.Ytphjkkkjkfclgaa
