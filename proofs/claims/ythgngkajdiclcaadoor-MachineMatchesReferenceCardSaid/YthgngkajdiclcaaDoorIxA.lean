/- The mathematics of intervals, and the models of the functions of package interval. -/
import Derived.WalkKit
namespace Go.Proofs.YthgngkajdiclcaaDoor
set_option linter.unusedVariables false
set_option linter.unusedSimpArgs false

/-- an interval -/
structure Sp where
  lo : Int
  hi : Int
/-- a number that is a value -/
def vN (n : Int) : Bool := decide (-1000000000000 ≤ n) && decide (n ≤ 1000000000000)
theorem vN_iff {n : Int} : vN n = true ↔ -1000000000000 ≤ n ∧ n ≤ 1000000000000 := by simp [vN]
/-- an interval that is valid -/
def vB (s : Sp) : Bool := decide (-1000000000000 ≤ s.lo) && (decide (s.lo ≤ s.hi) && decide (s.hi ≤ 1000000000000))
theorem vB_iff {s : Sp} : vB s = true ↔ -1000000000000 ≤ s.lo ∧ s.lo ≤ s.hi ∧ s.hi ≤ 1000000000000 := by simp [vB]
/-- the least interval round four numbers -/
def arM (p q r s : Int) : Sp := ⟨min (min (min p q) r) s, max (max (max p q) r) s⟩
def combM (f : Int → Int → Int) (a b : Sp) : Sp × Int :=
  if (vB a && vB b) = true then (if vB (arM (f a.lo b.lo) (f a.lo b.hi) (f a.hi b.lo) (f a.hi b.hi)) = true then (arM (f a.lo b.lo) (f a.lo b.hi) (f a.hi b.lo) (f a.hi b.hi), 0) else (⟨0, 0⟩, 3)) else (⟨0, 0⟩, 1)
/-- contains 0 -/
def zB (b : Sp) : Bool := decide (b.lo ≤ 0) && decide (0 ≤ b.hi)
theorem zB_iff {s : Sp} : zB s = true ↔ s.lo ≤ 0 ∧ 0 ≤ s.hi := by simp [zB]
def divM (f : Int → Int → Int) (a b : Sp) : Sp × Int := if (vB a && vB b && zB b) = true then (⟨0, 0⟩, 14) else combM f a b
def joinM (a b : Sp) : Sp × Int := if (vB a && vB b) = true then (arM a.lo a.hi b.lo b.hi, 0) else (⟨0, 0⟩, 1)
def addF (x y : Int) : Int := x + y
def subF (x y : Int) : Int := x - y
def absF (x : Int) : Int := max x (-x)
def mulF (x y : Int) : Int := if x ≠ 0 ∧ 1000000000000 / absF x < absF y then 1000000000001 else x * y
def divF (x y : Int) : Int := x.fdiv y
def upF (x y : Int) : Int := -((-x).fdiv y)
def minF (x y : Int) : Int := min x y
def maxF (x y : Int) : Int := max x y
def addM := combM addF
def subM := combM subF
def mulM := combM mulF
def dvM := divM divF
def upM := divM upF
def minM := combM minF
def maxM := combM maxF

theorem absF_nonneg (x : Int) : 0 ≤ absF x := by unfold absF; omega
theorem absF_pos {x : Int} (h : x ≠ 0) : 1 ≤ absF x := by unfold absF; omega
theorem absF_mul (x y : Int) : absF (x * y) = absF x * absF y := by
  unfold absF
  rcases Int.le_total 0 x with hx | hx <;> rcases Int.le_total 0 y with hy | hy
  · have := Int.mul_nonneg hx hy
    rw [Int.max_eq_left (by omega), Int.max_eq_left (by omega), Int.max_eq_left (by omega)]
  · have := Int.mul_nonneg hx (show 0 ≤ -y by omega)
    rw [Int.mul_neg] at this
    rw [Int.max_eq_right (by omega), Int.max_eq_left (by omega), Int.max_eq_right (by omega), Int.mul_neg]
  · have := Int.mul_nonneg (show 0 ≤ -x by omega) hy
    rw [Int.neg_mul] at this
    rw [Int.max_eq_right (by omega), Int.max_eq_right (by omega), Int.max_eq_left (by omega), Int.neg_mul]
  · have := Int.mul_nonneg (show 0 ≤ -x by omega) (show 0 ≤ -y by omega)
    rw [Int.neg_mul_neg] at this
    rw [Int.max_eq_left (by omega), Int.max_eq_right (by omega), Int.max_eq_right (by omega), Int.neg_mul_neg]
/-- the product is a value, and then it is what is returned, or it is none, and then neither is what is returned -/
theorem mulF_val (x y : Int) : (vN (x * y) = true ∧ mulF x y = x * y) ∨ (vN (x * y) = false ∧ mulF x y = 1000000000001) := by
  have e : vN (x * y) = true ↔ absF x * absF y ≤ 1000000000000 := by rw [vN_iff, ← absF_mul]; unfold absF; omega
  by_cases hx : x = 0
  · subst hx
    left
    refine ⟨by simp [vN], ?_⟩
    unfold mulF; rw [if_neg (by simp)]
  · have h1 := absF_pos hx
    have h2 := absF_nonneg y
    have k : 1000000000000 / absF x < absF y ↔ ¬ absF x * absF y ≤ 1000000000000 := by
      rw [Int.ediv_lt_iff_lt_mul (by omega), Int.mul_comm (absF y)]; omega
    by_cases hv : vN (x * y) = true
    · left
      exact ⟨hv, by unfold mulF; rw [if_neg]; rintro ⟨-, h⟩; exact k.1 h (e.1 hv)⟩
    · right
      exact ⟨by simpa using hv, by unfold mulF; rw [if_pos]; exact ⟨hx, k.2 (fun h => hv (e.2 h))⟩⟩
theorem mul_ok {x y : Int} (h0 : x ≠ 0) (h : ¬ 1000000000000 / absF x < absF y) : vN (x * y) = true := by
  have h1 := absF_pos h0
  rw [Int.ediv_lt_iff_lt_mul (by omega), Int.mul_comm (absF y), ← absF_mul] at h
  rw [vN_iff]; unfold absF at h; omega
theorem mulF_eq {x y : Int} (h : vN (mulF x y) = true) : mulF x y = x * y := by
  rcases mulF_val x y with ⟨_, h2⟩ | ⟨_, h2⟩
  · exact h2
  · rw [h2] at h; simp [vN] at h
theorem arM_in {p q r s n : Int} : n = p ∨ n = q ∨ n = r ∨ n = s → (arM p q r s).lo ≤ n ∧ n ≤ (arM p q r s).hi := by
  unfold arM; simp only; omega
theorem arM_lo (p q r s : Int) : (arM p q r s).lo = p ∨ (arM p q r s).lo = q ∨ (arM p q r s).lo = r ∨ (arM p q r s).lo = s := by
  unfold arM; simp only; omega
theorem arM_hi (p q r s : Int) : (arM p q r s).hi = p ∨ (arM p q r s).hi = q ∨ (arM p q r s).hi = r ∨ (arM p q r s).hi = s := by
  unfold arM; simp only; omega
theorem arM_le (p q r s : Int) : (arM p q r s).lo ≤ (arM p q r s).hi := by unfold arM; simp only; omega
theorem vB_arM {p q r s : Int} : vB (arM p q r s) = (vN p && vN q && vN r && vN s) := by
  rw [Bool.eq_iff_iff, vB_iff]
  simp only [Bool.and_eq_true, vN_iff]
  unfold arM; simp only; omega
/-- an operation on the numbers of some set that, with either number fixed, never falls or never rises -/
def Mono (f : Int → Int → Int) (P Q : Int → Prop) : Prop :=
  (∀ y, Q y → (∀ x x', P x → P x' → x ≤ x' → f x y ≤ f x' y) ∨ (∀ x x', P x → P x' → x ≤ x' → f x' y ≤ f x y)) ∧
  (∀ x, P x → (∀ y y', Q y → Q y' → y ≤ y' → f x y ≤ f x y') ∨ (∀ y y', Q y → Q y' → y ≤ y' → f x y' ≤ f x y))
/-- its results lie between those for the ends -/
theorem Mono.between {f : Int → Int → Int} {P Q : Int → Prop} (h : Mono f P Q) {a b : Sp} {x y : Int} (hP : ∀ n, a.lo ≤ n → n ≤ a.hi → P n) (hQ : ∀ n, b.lo ≤ n → n ≤ b.hi → Q n)
    (hx : a.lo ≤ x ∧ x ≤ a.hi) (hy : b.lo ≤ y ∧ y ≤ b.hi) :
    (arM (f a.lo b.lo) (f a.lo b.hi) (f a.hi b.lo) (f a.hi b.hi)).lo ≤ f x y ∧ f x y ≤ (arM (f a.lo b.lo) (f a.lo b.hi) (f a.hi b.lo) (f a.hi b.hi)).hi := by
  have pl := hP a.lo (Int.le_refl _) (by omega)
  have ph := hP a.hi (by omega) (Int.le_refl _)
  have px := hP x hx.1 hx.2
  have ql := hQ b.lo (Int.le_refl _) (by omega)
  have qh := hQ b.hi (by omega) (Int.le_refl _)
  have qy := hQ y hy.1 hy.2
  have k1 : (f a.lo y ≤ f x y ∧ f x y ≤ f a.hi y) ∨ (f a.hi y ≤ f x y ∧ f x y ≤ f a.lo y) := by
    rcases h.1 y qy with g | g
    · exact .inl ⟨g _ _ pl px hx.1, g _ _ px ph hx.2⟩
    · exact .inr ⟨g _ _ px ph hx.2, g _ _ pl px hx.1⟩
  have k2 : ∀ c, P c → (f c b.lo ≤ f c y ∧ f c y ≤ f c b.hi) ∨ (f c b.hi ≤ f c y ∧ f c y ≤ f c b.lo) := by
    intro c hc
    rcases h.2 c hc with g | g
    · exact .inl ⟨g _ _ ql qy hy.1, g _ _ qy qh hy.2⟩
    · exact .inr ⟨g _ _ qy qh hy.2, g _ _ ql qy hy.1⟩
  have k3 := k2 _ pl
  have k4 := k2 _ ph
  unfold arM; simp only; omega
def All (_ : Int) : Prop := True
theorem add_mono : Mono addF All All := ⟨fun y _ => .inl fun x x' _ _ h => by unfold addF; omega, fun x _ => .inl fun y y' _ _ h => by unfold addF; omega⟩
theorem sub_mono : Mono subF All All := ⟨fun y _ => .inl fun x x' _ _ h => by unfold subF; omega, fun x _ => .inr fun y y' _ _ h => by unfold subF; omega⟩
theorem min_mono : Mono minF All All := ⟨fun y _ => .inl fun x x' _ _ h => by unfold minF; omega, fun x _ => .inl fun y y' _ _ h => by unfold minF; omega⟩
theorem max_mono : Mono maxF All All := ⟨fun y _ => .inl fun x x' _ _ h => by unfold maxF; omega, fun x _ => .inl fun y y' _ _ h => by unfold maxF; omega⟩
theorem mul_mono : Mono (fun x y => x * y) All All := by
  refine ⟨fun y _ => ?_, fun x _ => ?_⟩
  · rcases Int.le_total 0 y with h | h
    · exact .inl fun x x' _ _ hx => Int.mul_le_mul_of_nonneg_right hx h
    · exact .inr fun x x' _ _ hx => Int.mul_le_mul_of_nonpos_right hx h
  · rcases Int.le_total 0 x with h | h
    · exact .inl fun y y' _ _ hy => Int.mul_le_mul_of_nonneg_left hy h
    · exact .inr fun y y' _ _ hy => Int.mul_le_mul_of_nonpos_left h hy
theorem fdiv_pos (x : Int) {y : Int} (h : 0 < y) : x.fdiv y = x / y := Int.fdiv_eq_ediv_of_nonneg x (by omega)
theorem fdiv_negneg (x y : Int) : (-x).fdiv (-y) = x.fdiv y := by simp
theorem fdiv_neg_eq (x : Int) {y : Int} (h : y < 0) : x.fdiv y = (-x) / (-y) := by rw [← fdiv_negneg, fdiv_pos _ (by omega)]
theorem ediv_anti {x y y' : Int} (h : 0 < y) (hy : y ≤ y') : (0 ≤ x → x / y' ≤ x / y) ∧ (x ≤ 0 → x / y ≤ x / y') := by
  refine ⟨fun hx => ?_, fun hx => ?_⟩
  · rw [Int.le_ediv_iff_mul_le h]
    have h1 := Int.ediv_mul_le x (show y' ≠ 0 by omega)
    have h2 : 0 ≤ x / y' := Int.ediv_nonneg hx (by omega)
    have := Int.mul_le_mul_of_nonneg_left hy h2
    omega
  · rw [Int.le_ediv_iff_mul_le (by omega)]
    have h1 := Int.ediv_mul_le x (show y ≠ 0 by omega)
    have h2 : x / y ≤ 0 := by have := (Int.ediv_lt_iff_lt_mul (a := x) (b := 1) (c := y) h).2 (by omega); omega
    have := Int.mul_le_mul_of_nonpos_left h2 hy
    omega
theorem div_pos_mono : Mono divF All (fun y => 0 < y) := by
  refine ⟨fun y hy => .inl fun x x' _ _ h => ?_, fun x _ => ?_⟩
  · unfold divF; rw [fdiv_pos _ hy, fdiv_pos _ hy]; exact Int.ediv_le_ediv hy h
  · rcases Int.le_total 0 x with h | h
    · exact .inr fun y y' hy hy' hl => by unfold divF; rw [fdiv_pos _ hy, fdiv_pos _ hy']; exact (ediv_anti hy hl).1 h
    · exact .inl fun y y' hy hy' hl => by unfold divF; rw [fdiv_pos _ hy, fdiv_pos _ hy']; exact (ediv_anti hy hl).2 h
theorem div_neg_mono : Mono divF All (fun y => y < 0) := by
  refine ⟨fun y hy => .inr fun x x' _ _ h => ?_, fun x _ => ?_⟩
  · unfold divF; rw [fdiv_neg_eq _ hy, fdiv_neg_eq _ hy]; exact Int.ediv_le_ediv (by omega) (by omega)
  · rcases Int.le_total 0 x with h | h
    · exact .inr fun y y' hy hy' hl => by unfold divF; rw [fdiv_neg_eq _ hy, fdiv_neg_eq _ hy']; exact (ediv_anti (x := -x) (y := -y') (y' := -y) (by omega) (by omega)).2 (by omega)
    · exact .inl fun y y' hy hy' hl => by unfold divF; rw [fdiv_neg_eq _ hy, fdiv_neg_eq _ hy']; exact (ediv_anti (x := -x) (y := -y') (y' := -y) (by omega) (by omega)).1 (by omega)
theorem up_of_div {Q : Int → Prop} (h : Mono divF All Q) : Mono upF All Q := by
  refine ⟨fun y hy => ?_, fun x _ => ?_⟩
  · rcases h.1 y hy with g | g
    · exact .inl fun x x' _ _ hl => by have := g (-x') (-x) trivial trivial (by omega); unfold divF at this; unfold upF; omega
    · exact .inr fun x x' _ _ hl => by have := g (-x') (-x) trivial trivial (by omega); unfold divF at this; unfold upF; omega
  · rcases h.2 (-x) trivial with g | g
    · exact .inr fun y y' hy hy' hl => by have := g y y' hy hy' hl; unfold divF at this; unfold upF; omega
    · exact .inl fun y y' hy hy' hl => by have := g y y' hy hy' hl; unfold divF at this; unfold upF; omega
theorem divF_bd {x y : Int} (hx : -1000000000000 ≤ x ∧ x ≤ 1000000000000) (hy : y ≠ 0) : -1000000000000 ≤ divF x y ∧ divF x y ≤ 1000000000000 := by
  have key : ∀ x y : Int, (-1000000000000 ≤ x ∧ x ≤ 1000000000000) → 0 < y → -1000000000000 ≤ x / y ∧ x / y ≤ 1000000000000 := by
    intro x y hx hy
    refine ⟨(Int.le_ediv_iff_mul_le hy).2 ?_, ?_⟩
    · have : 1000000000000 * 1 ≤ 1000000000000 * y := Int.mul_le_mul_of_nonneg_left (by omega) (by omega)
      omega
    · have : x / y < 1000000000001 := (Int.ediv_lt_iff_lt_mul hy).2 (by
        have : 1000000000001 * 1 ≤ 1000000000001 * y := Int.mul_le_mul_of_nonneg_left (by omega) (by omega)
        omega)
      omega
  unfold divF
  rcases Int.lt_or_gt_of_ne hy with h | h
  · rw [fdiv_neg_eq _ h]; exact key _ _ (by omega) (by omega)
  · rw [fdiv_pos _ h]; exact key _ _ hx h
theorem upF_bd {x y : Int} (hx : -1000000000000 ≤ x ∧ x ≤ 1000000000000) (hy : y ≠ 0) : -1000000000000 ≤ upF x y ∧ upF x y ≤ 1000000000000 := by
  have := divF_bd (x := -x) (by omega) hy
  unfold divF at this
  unfold upF; omega
theorem tdiv_bd (x y : Int) : (0 ≤ x.tdiv y ∧ x.tdiv y ≤ absF x) ∨ (x.tdiv y ≤ 0 ∧ - absF x ≤ x.tdiv y) := by
  have h : (x.tdiv y).natAbs ≤ x.natAbs := by rw [Int.natAbs_tdiv]; exact Nat.div_le_self _ _
  unfold absF; omega
theorem floor_eq (x y : Int) (hy : y ≠ 0) : x.fdiv y = if x.tmod y ≠ 0 ∧ ((decide (x < 0) == decide (y < 0)) = false) then x.tdiv y - 1 else x.tdiv y := by
  rw [Int.fdiv_eq_tdiv]
  have h := @Int.dvd_iff_tmod_eq_zero y x
  by_cases hd : y ∣ x
  · rw [if_pos hd, if_neg (by simp [h.1 hd])]; omega
  · have ht : x.tmod y ≠ 0 := fun e => hd (h.2 e)
    rw [if_neg hd]
    rcases Int.lt_or_gt_of_ne hy with hy' | hy'
    · have s : y.sign = -1 := Int.sign_eq_neg_one_of_neg hy'
      by_cases hx : 0 ≤ x
      · rw [if_pos hx, if_neg (by omega), if_pos ⟨ht, by simp; omega⟩]
      · rw [if_neg hx, if_neg (by omega), if_neg (by simp; omega), s]; omega
    · have s : y.sign = 1 := Int.sign_eq_one_of_pos hy'
      by_cases hx : 0 ≤ x
      · rw [if_pos hx, if_pos (by omega), if_neg (by simp; omega)]; omega
      · rw [if_neg hx, if_pos (by omega), if_pos ⟨ht, by simp; omega⟩, s]
/-- the law's own -/
theorem floor_eq2 (x y : Int) (hy : y ≠ 0) : x.fdiv y = if (x < x.tdiv y * y ∧ 0 < y) ∨ (x.tdiv y * y < x ∧ y < 0) then x.tdiv y - 1 else x.tdiv y := by
  have e := Int.tdiv_mul_add_tmod x y
  rw [floor_eq x y hy]
  have hc : (x.tmod y ≠ 0 ∧ ((decide (x < 0) == decide (y < 0)) = false)) ↔ ((x < x.tdiv y * y ∧ 0 < y) ∨ (x.tdiv y * y < x ∧ y < 0)) := by
    have h1 : 0 ≤ x → 0 ≤ x.tmod y := fun h => Int.tmod_nonneg y h
    have h2 : x ≤ 0 → x.tmod y ≤ 0 := fun h => by
      have := Int.tmod_nonneg y (show 0 ≤ -x by omega)
      rw [Int.neg_tmod] at this; omega
    have hb : (decide (x < 0) == decide (y < 0)) = false ↔ ¬ (x < 0 ↔ y < 0) := by
      by_cases a : x < 0 <;> by_cases b : y < 0 <;> simp [a, b]
    rw [hb]
    omega
  by_cases c : (x < x.tdiv y * y ∧ 0 < y) ∨ (x.tdiv y * y < x ∧ y < 0)
  · rw [if_pos (hc.2 c), if_pos c]
  · rw [if_neg (fun h => c (hc.1 h)), if_neg c]
end Go.Proofs.YthgngkajdiclcaaDoor
