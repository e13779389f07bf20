/- The mathematics of ratios, and the models of the functions of package ratio. -/
import Derived.WalkKit
namespace Go.Proofs.Ytbjhdfakocfapaa
set_option linter.unusedVariables false
set_option linter.unusedSimpArgs false
/-- a ratio -/
structure Q where
  n : Int
  d : Int
deriving DecidableEq
def gc (x y : Int) : Int := (Int.gcd x y : Int)
/-- in the range -/
def rB (q : Q) : Bool := decide (1 ≤ q.d) && decide (q.d ≤ 1000000000) && decide (-1000000000 ≤ q.n) && decide (q.n ≤ 1000000000)
theorem rB_iff {q : Q} : rB q = true ↔ 1 ≤ q.d ∧ q.d ≤ 1000000000 ∧ -1000000000 ≤ q.n ∧ q.n ≤ 1000000000 := by simp [rB, and_assoc]
/-- valid -/
def qB (q : Q) : Bool := rB q && decide (gc q.n q.d = 1)
theorem qB_iff {q : Q} : qB q = true ↔ (1 ≤ q.d ∧ q.d ≤ 1000000000 ∧ -1000000000 ≤ q.n ∧ q.n ≤ 1000000000) ∧ gc q.n q.d = 1 := by simp [qB, rB_iff]
/-- lowest terms; d not 0 -/
def lowM (n d : Int) : Q := if d < 0 then ⟨(-n) / gc n d, (-d) / gc n d⟩ else ⟨n / gc n d, d / gc n d⟩
/-- the ratio of a quotient -/
def redM (n d : Int) : Q × Int := if d = 0 then (⟨0, 0⟩, 14) else if rB (lowM n d) = true then (lowM n d, 0) else (⟨0, 0⟩, 3)
theorem gc_pos {n d : Int} (h : d ≠ 0) : 1 ≤ gc n d := by
  have : 0 < Int.gcd n d := Int.gcd_pos_of_ne_zero_right n h
  unfold gc; omega
theorem gc_dl (n d : Int) : gc n d ∣ n := Int.gcd_dvd_left n d
theorem gc_dr (n d : Int) : gc n d ∣ d := Int.gcd_dvd_right n d
theorem low_of {n d : Int} (h : d ≠ 0) : 1 ≤ (lowM n d).d ∧ gc (lowM n d).n (lowM n d).d = 1 ∧ (lowM n d).n * d = n * (lowM n d).d := by
  have hg := gc_pos (n := n) h
  obtain ⟨u, hu⟩ := gc_dl n d
  obtain ⟨v, hv⟩ := gc_dr n d
  have h1 : n / gc n d = u := Int.ediv_eq_of_eq_mul_right (by omega) hu
  have h2 : d / gc n d = v := Int.ediv_eq_of_eq_mul_right (by omega) hv
  have h3 : (-n) / gc n d = -u := Int.ediv_eq_of_eq_mul_right (by omega) (by rw [Int.mul_neg, ← hu])
  have h4 : (-d) / gc n d = -v := Int.ediv_eq_of_eq_mul_right (by omega) (by rw [Int.mul_neg, ← hv])
  have huv : Int.gcd u v = 1 := by
    have := Int.gcd_ediv_gcd_ediv_gcd (i := n) (j := d) (by unfold gc at hg; omega)
    have e1 : n / (Int.gcd n d : Int) = u := h1
    have e2 : d / (Int.gcd n d : Int) = v := h2
    rw [e1, e2] at this; exact this
  have e : u * d = n * v := by
    generalize gc n d = g at *
    rw [hu, hv]; grind
  have hvn : v = 0 → d = 0 := by intro z; rw [hv, z]; simp
  unfold lowM
  split
  · rename_i hd
    simp only [h3, h4]
    refine ⟨?_, ?_, by rw [Int.neg_mul, Int.mul_neg, e]⟩
    · have : v < 0 := by
        rcases Int.lt_or_le v 0 with q | q
        · exact q
        · have := Int.mul_nonneg (show 0 ≤ gc n d by omega) q; omega
      omega
    · unfold gc; simp [huv]
  · rename_i hd
    simp only [h1, h2]
    refine ⟨?_, by unfold gc; simp [huv], e⟩
    have : 0 < v := by
      rcases Int.lt_or_le 0 v with q | q
      · exact q
      · have := Int.mul_nonneg (show 0 ≤ gc n d by omega) (show 0 ≤ -v by omega); rw [Int.mul_neg] at this; omega
    omega
theorem dvd_cop {k m n : Int} (g : Int.gcd k m = 1) (h : k ∣ m * n) : k ∣ n := by
  have h1 : k.natAbs ∣ m.natAbs * n.natAbs := by rw [← Int.natAbs_mul]; exact Int.natAbs_dvd_natAbs.2 h
  exact Int.natAbs_dvd_natAbs.1 (Nat.Coprime.dvd_of_dvd_mul_left g h1)
theorem one_low {p q : Q} (hp : 1 ≤ p.d) (hq : 1 ≤ q.d) (gp : gc p.n p.d = 1) (gq : gc q.n q.d = 1) (e : p.n * q.d = q.n * p.d) : p = q := by
  have gp' : Int.gcd p.d p.n = 1 := by unfold gc at gp; rw [Int.gcd_comm]; omega
  have gq' : Int.gcd q.d q.n = 1 := by unfold gc at gq; rw [Int.gcd_comm]; omega
  have d1 : p.d ∣ q.d := dvd_cop gp' (by rw [e]; exact Int.dvd_mul_left _ _)
  have d2 : q.d ∣ p.d := dvd_cop gq' (by rw [← e]; exact Int.dvd_mul_left _ _)
  have ed : p.d = q.d := Int.dvd_antisymm (by omega) (by omega) d1 d2
  have en : p.n = q.n := by
    rw [ed] at e
    exact Int.eq_of_mul_eq_mul_right (by omega) e
  cases p; cases q; simp_all
theorem red_iff {n d : Int} (h : d ≠ 0) {r : Q} : redM n d = (r, 0) ↔ qB r = true ∧ r.n * d = n * r.d := by
  obtain ⟨l1, l2, l3⟩ := low_of (n := n) h
  unfold redM
  rw [if_neg h]
  constructor
  · split
    · rename_i hb
      rintro hh
      obtain rfl : lowM n d = r := congrArg Prod.fst hh
      exact ⟨by rw [qB_iff]; exact ⟨rB_iff.1 hb, l2⟩, l3⟩
    · intro hh
      exact absurd (congrArg Prod.snd hh) (show ¬ (3 : Int) = 0 by decide)
  · rintro ⟨hq, he⟩
    have hq' := qB_iff.1 hq
    have : lowM n d = r := by
      refine one_low l1 hq'.1.1 l2 hq'.2 ?_
      refine Int.eq_of_mul_eq_mul_right h ?_
      grind
    subst this
    rw [if_pos (rB_iff.2 hq'.1)]
theorem red_err {n d : Int} (h : d ≠ 0) : redM n d = ((redM n d).1, 0) ∨ redM n d = (⟨0, 0⟩, 3) := by
  unfold redM
  rw [if_neg h]
  split
  · left; rfl
  · right; rfl
/-- only the value matters -/
theorem red_same {n d n' d' : Int} (h : d ≠ 0) (h' : d' ≠ 0) (e : n * d' = n' * d) : redM n d = redM n' d' := by
  have key : ∀ {n d n' d' : Int}, d ≠ 0 → d' ≠ 0 → n * d' = n' * d → ∀ r, redM n d = (r, 0) → redM n' d' = (r, 0) := by
    intro n d n' d' h h' e r hr
    rw [red_iff h] at hr
    rw [red_iff h']
    refine ⟨hr.1, Int.eq_of_mul_eq_mul_right h ?_⟩
    have := hr.2
    grind
  rcases red_err (n := n) h with a | a
  · rw [a]; exact (key h h' e _ a).symm
  · rcases red_err (n := n') h' with b | b
    · rw [b]; exact key h' h e.symm _ b
    · rw [a, b]
/-- small numbers have a ratio -/
theorem red_small {n d : Int} (h : d ≠ 0) (hn : -1000000000 ≤ n ∧ n ≤ 1000000000) (hd : -1000000000 ≤ d ∧ d ≤ 1000000000) : (redM n d).2 = 0 := by
  have hg := gc_pos (n := n) h
  obtain ⟨l1, -, -⟩ := low_of (n := n) h
  obtain ⟨u, hu⟩ := gc_dl n d
  obtain ⟨v, hv⟩ := gc_dr n d
  have h1 : n / gc n d = u := Int.ediv_eq_of_eq_mul_right (by omega) hu
  have h2 : d / gc n d = v := Int.ediv_eq_of_eq_mul_right (by omega) hv
  have h3 : (-n) / gc n d = -u := Int.ediv_eq_of_eq_mul_right (by omega) (by rw [Int.mul_neg, ← hu])
  have h4 : (-d) / gc n d = -v := Int.ediv_eq_of_eq_mul_right (by omega) (by rw [Int.mul_neg, ← hv])
  have mag : ∀ {g x y : Int}, 1 ≤ g → x = g * y → -1000000000 ≤ x ∧ x ≤ 1000000000 → -1000000000 ≤ y ∧ y ≤ 1000000000 := by
    intro g x y hg hx hb
    constructor
    · rcases Int.lt_or_le y (-1000000000) with q | q
      · have := Int.mul_le_mul_of_nonpos_right hg (show y ≤ 0 by omega); omega
      · exact q
    · rcases Int.lt_or_le 1000000000 y with q | q
      · have := Int.mul_le_mul_of_nonneg_right hg (show 0 ≤ y by omega); omega
      · exact q
  have bu := mag hg hu hn
  have bv := mag hg hv hd
  unfold redM
  rw [if_neg h, if_pos]
  rw [rB_iff]
  unfold lowM at l1 ⊢
  split at l1 <;> rename_i hh
  · rw [if_pos hh]; simp only [h3, h4] at l1 ⊢; omega
  · rw [if_neg hh]; simp only [h1, h2] at l1 ⊢; omega
def vvB (a b : Q) : Bool := qB a && qB b
def addM (a b : Q) : Q × Int := if vvB a b = true then redM (a.n * b.d + b.n * a.d) (a.d * b.d) else (⟨0, 0⟩, 1)
def subM (a b : Q) : Q × Int := if vvB a b = true then redM (a.n * b.d - b.n * a.d) (a.d * b.d) else (⟨0, 0⟩, 1)
def mulM (a b : Q) : Q × Int := if vvB a b = true then redM (a.n * b.n) (a.d * b.d) else (⟨0, 0⟩, 1)
def divM (a b : Q) : Q × Int := if vvB a b = true then redM (a.n * b.d) (a.d * b.n) else (⟨0, 0⟩, 1)
def sgM (x y : Int) : Int := if x < y then -1 else if y < x then 1 else 0
def cmpM (a b : Q) : Int × Int := if vvB a b = true then (sgM (a.n * b.d) (b.n * a.d), 0) else (0, 1)
/-- a value -/
def vaB (n : Int) : Bool := decide (-1000000000000 ≤ n) && decide (n ≤ 1000000000000)
theorem vaB_iff {n : Int} : vaB n = true ↔ -1000000000000 ≤ n ∧ n ≤ 1000000000000 := by simp [vaB]
def newM (n d : Int) : Q × Int := if (vaB n && vaB d) = true then redM n d else (⟨0, 0⟩, 1)

theorem vvB_iff {a b : Q} : vvB a b = true ↔ qB a = true ∧ qB b = true := by simp [vvB]
theorem vvB_comm (a b : Q) : vvB a b = vvB b a := by unfold vvB; rw [Bool.and_comm]
theorem qB_d {a : Q} (h : qB a = true) : a.d ≠ 0 := by have := (qB_iff.1 h).1; omega
theorem qB_p {a : Q} (h : qB a = true) : 0 < a.d := by have := (qB_iff.1 h).1; omega
theorem mul_ne {x y : Int} (hx : x ≠ 0) (hy : y ≠ 0) : x * y ≠ 0 := Int.mul_ne_zero hx hy
theorem add_comm' (a b : Q) : addM a b = addM b a := by
  unfold addM; rw [vvB_comm b a, Int.mul_comm b.d a.d, Int.add_comm (b.n * a.d)]
theorem mul_comm' (a b : Q) : mulM a b = mulM b a := by
  unfold mulM; rw [vvB_comm b a, Int.mul_comm b.d a.d, Int.mul_comm b.n a.n]
/-- what a sum without an error is -/
theorem add_ok {a b s : Q} : addM a b = (s, 0) ↔ qB a = true ∧ qB b = true ∧ qB s = true ∧ s.n * (a.d * b.d) = (a.n * b.d + b.n * a.d) * s.d := by
  unfold addM
  by_cases h : vvB a b = true
  · rw [if_pos h]
    rw [vvB_iff] at h
    rw [red_iff (mul_ne (qB_d h.1) (qB_d h.2))]
    simp [h]
  · rw [if_neg h]
    rw [vvB_iff] at h
    constructor
    · intro hh; exact absurd (congrArg Prod.snd hh) (show ¬ (1 : Int) = 0 by decide)
    · intro hh; exact absurd ⟨hh.1, hh.2.1⟩ h
theorem sub_ok {a b s : Q} : subM a b = (s, 0) ↔ qB a = true ∧ qB b = true ∧ qB s = true ∧ s.n * (a.d * b.d) = (a.n * b.d - b.n * a.d) * s.d := by
  unfold subM
  by_cases h : vvB a b = true
  · rw [if_pos h]
    rw [vvB_iff] at h
    rw [red_iff (mul_ne (qB_d h.1) (qB_d h.2))]
    simp [h]
  · rw [if_neg h]
    rw [vvB_iff] at h
    constructor
    · intro hh; exact absurd (congrArg Prod.snd hh) (show ¬ (1 : Int) = 0 by decide)
    · intro hh; exact absurd ⟨hh.1, hh.2.1⟩ h
theorem mul_ok {a b s : Q} : mulM a b = (s, 0) ↔ qB a = true ∧ qB b = true ∧ qB s = true ∧ s.n * (a.d * b.d) = (a.n * b.n) * s.d := by
  unfold mulM
  by_cases h : vvB a b = true
  · rw [if_pos h]
    rw [vvB_iff] at h
    rw [red_iff (mul_ne (qB_d h.1) (qB_d h.2))]
    simp [h]
  · rw [if_neg h]
    rw [vvB_iff] at h
    constructor
    · intro hh; exact absurd (congrArg Prod.snd hh) (show ¬ (1 : Int) = 0 by decide)
    · intro hh; exact absurd ⟨hh.1, hh.2.1⟩ h
theorem div_ok {a b s : Q} (hb : b.n ≠ 0) : divM a b = (s, 0) ↔ qB a = true ∧ qB b = true ∧ qB s = true ∧ s.n * (a.d * b.n) = (a.n * b.d) * s.d := by
  unfold divM
  by_cases h : vvB a b = true
  · rw [if_pos h]
    rw [vvB_iff] at h
    rw [red_iff (mul_ne (qB_d h.1) hb)]
    simp [h]
  · rw [if_neg h]
    rw [vvB_iff] at h
    constructor
    · intro hh; exact absurd (congrArg Prod.snd hh) (show ¬ (1 : Int) = 0 by decide)
    · intro hh; exact absurd ⟨hh.1, hh.2.1⟩ h
theorem div_0 {a b : Q} (ha : qB a = true) (hb : qB b = true) (h : b.n = 0) : divM a b = (⟨0, 0⟩, 14) := by
  unfold divM; rw [if_pos (vvB_iff.2 ⟨ha, hb⟩), h, Int.mul_zero]; unfold redM; rw [if_pos rfl]
theorem pair_eta {p : Q × Int} (h : p.2 = 0) : p = (p.1, 0) := by obtain ⟨a, b⟩ := p; simp_all
theorem mulb {x y c e : Int} (hx : -c ≤ x ∧ x ≤ c) (hy : -e ≤ y ∧ y ≤ e) : -(c * e) ≤ x * y ∧ x * y ≤ c * e := by
  have h1 := Int.mul_nonneg (show 0 ≤ c - x by omega) (show 0 ≤ e - y by omega)
  have h2 := Int.mul_nonneg (show 0 ≤ c + x by omega) (show 0 ≤ e + y by omega)
  have h3 := Int.mul_nonneg (show 0 ≤ c - x by omega) (show 0 ≤ e + y by omega)
  have h4 := Int.mul_nonneg (show 0 ≤ c + x by omega) (show 0 ≤ e - y by omega)
  constructor <;> grind
/-- numbers of at most k -/
def smB (k : Int) (q : Q) : Prop := -k ≤ q.n ∧ q.n ≤ k ∧ q.d ≤ k
theorem dbd {k : Int} {q : Q} (h : qB q = true) (s : smB k q) : -k ≤ q.d ∧ q.d ≤ k := by have := qB_p h; unfold smB at s; omega
theorem add_sm {a b : Q} (k : Int) (hk : k * k + k * k ≤ 1000000000) (ha : qB a = true) (hb : qB b = true) (sa : smB k a) (sb : smB k b) : addM a b = ((addM a b).1, 0) := by
  apply pair_eta
  unfold addM
  rw [if_pos (vvB_iff.2 ⟨ha, hb⟩)]
  have h1 := mulb (x := a.n) (y := b.d) ⟨sa.1, sa.2.1⟩ (dbd hb sb)
  have h2 := mulb (x := b.n) (y := a.d) ⟨sb.1, sb.2.1⟩ (dbd ha sa)
  have h3 := mulb (dbd ha sa) (dbd hb sb)
  generalize k * k = kk at *
  exact red_small (mul_ne (qB_d ha) (qB_d hb)) (by omega) (by omega)
theorem sub_sm {a b : Q} (k : Int) (hk : k * k + k * k ≤ 1000000000) (ha : qB a = true) (hb : qB b = true) (sa : smB k a) (sb : smB k b) : subM a b = ((subM a b).1, 0) := by
  apply pair_eta
  unfold subM
  rw [if_pos (vvB_iff.2 ⟨ha, hb⟩)]
  have h1 := mulb (x := a.n) (y := b.d) ⟨sa.1, sa.2.1⟩ (dbd hb sb)
  have h2 := mulb (x := b.n) (y := a.d) ⟨sb.1, sb.2.1⟩ (dbd ha sa)
  have h3 := mulb (dbd ha sa) (dbd hb sb)
  generalize k * k = kk at *
  exact red_small (mul_ne (qB_d ha) (qB_d hb)) (by omega) (by omega)
theorem mul_sm {a b : Q} (k : Int) (hk : k * k + k * k ≤ 1000000000) (ha : qB a = true) (hb : qB b = true) (sa : smB k a) (sb : smB k b) : mulM a b = ((mulM a b).1, 0) := by
  apply pair_eta
  unfold mulM
  rw [if_pos (vvB_iff.2 ⟨ha, hb⟩)]
  have h1 := mulb (x := a.n) (y := b.n) ⟨sa.1, sa.2.1⟩ ⟨sb.1, sb.2.1⟩
  have h3 := mulb (dbd ha sa) (dbd hb sb)
  generalize k * k = kk at *
  exact red_small (mul_ne (qB_d ha) (qB_d hb)) (by omega) (by omega)
theorem div_sm {a b : Q} (k : Int) (hk : k * k + k * k ≤ 1000000000) (ha : qB a = true) (hb : qB b = true) (sa : smB k a) (sb : smB k b) (h0 : b.n ≠ 0) : divM a b = ((divM a b).1, 0) := by
  apply pair_eta
  unfold divM
  rw [if_pos (vvB_iff.2 ⟨ha, hb⟩)]
  have h1 := mulb (x := a.n) (y := b.d) ⟨sa.1, sa.2.1⟩ (dbd hb sb)
  have h3 := mulb (dbd ha sa) (x := a.d) (y := b.n) ⟨sb.1, sb.2.1⟩
  generalize k * k = kk at *
  exact red_small (mul_ne (qB_d ha) h0) (by omega) (by omega)
/-- three in another order -/
theorem add_assoc' {a b c s y : Q} (hs : addM a b = (s, 0)) (hc : qB c = true) (hy : addM b c = (y, 0)) : addM s c = addM a y := by
  obtain ⟨va, vb, vs, es⟩ := add_ok.1 hs
  obtain ⟨-, -, vy, ey⟩ := add_ok.1 hy
  unfold addM
  rw [if_pos (vvB_iff.2 ⟨vs, hc⟩), if_pos (vvB_iff.2 ⟨va, vy⟩)]
  refine red_same (mul_ne (qB_d vs) (qB_d hc)) (mul_ne (qB_d va) (qB_d vy)) (Int.eq_of_mul_eq_mul_right (qB_d vb) ?_)
  obtain ⟨an, ad⟩ := a; obtain ⟨bn, bd⟩ := b; obtain ⟨cn, cd⟩ := c; obtain ⟨sn, sd⟩ := s; obtain ⟨yn, yd⟩ := y
  simp only at es ey ⊢
  have e1 : (sn * cd + cn * sd) * (ad * yd) * bd = (sn * (ad * bd)) * cd * yd + cn * sd * ad * yd * bd := by grind
  have e2 : (an * yd + yn * ad) * (sd * cd) * bd = an * yd * sd * cd * bd + (yn * (bd * cd)) * ad * sd := by grind
  rw [e1, e2, es, ey]; grind
theorem mul_assoc' {a b c s y : Q} (hs : mulM a b = (s, 0)) (hc : qB c = true) (hy : mulM b c = (y, 0)) : mulM s c = mulM a y := by
  obtain ⟨va, vb, vs, es⟩ := mul_ok.1 hs
  obtain ⟨-, -, vy, ey⟩ := mul_ok.1 hy
  unfold mulM
  rw [if_pos (vvB_iff.2 ⟨vs, hc⟩), if_pos (vvB_iff.2 ⟨va, vy⟩)]
  refine red_same (mul_ne (qB_d vs) (qB_d hc)) (mul_ne (qB_d va) (qB_d vy)) (Int.eq_of_mul_eq_mul_right (qB_d vb) ?_)
  obtain ⟨an, ad⟩ := a; obtain ⟨bn, bd⟩ := b; obtain ⟨cn, cd⟩ := c; obtain ⟨sn, sd⟩ := s; obtain ⟨yn, yd⟩ := y
  simp only at es ey ⊢
  have e1 : (sn * cn) * (ad * yd) * bd = (sn * (ad * bd)) * cn * yd := by grind
  have e2 : (an * yn) * (sd * cd) * bd = (yn * (bd * cd)) * an * sd := by grind
  rw [e1, e2, es, ey]; grind
/-- products distribute -/
theorem dist' {a b c s w x : Q} (hs : addM a b = (s, 0)) (hw : mulM a c = (w, 0)) (hx : mulM b c = (x, 0)) : mulM s c = addM w x := by
  obtain ⟨va, vb, vs, es⟩ := add_ok.1 hs
  obtain ⟨-, vc, vw, ew⟩ := mul_ok.1 hw
  obtain ⟨-, -, vx, ex⟩ := mul_ok.1 hx
  unfold addM mulM
  rw [if_pos (vvB_iff.2 ⟨vs, vc⟩), if_pos (vvB_iff.2 ⟨vw, vx⟩)]
  refine red_same (mul_ne (qB_d vs) (qB_d vc)) (mul_ne (qB_d vw) (qB_d vx)) (Int.eq_of_mul_eq_mul_right (mul_ne (qB_d va) (qB_d vb)) ?_)
  obtain ⟨an, ad⟩ := a; obtain ⟨bn, bd⟩ := b; obtain ⟨cn, cd⟩ := c; obtain ⟨sn, sd⟩ := s; obtain ⟨wn, wd⟩ := w; obtain ⟨xn, xd⟩ := x
  simp only at es ew ex vc ⊢
  have hcd := qB_d vc
  simp only at hcd
  refine Int.eq_of_mul_eq_mul_right hcd ?_
  have e1 : sn * cn * (wd * xd) * (ad * bd) * cd = (sn * (ad * bd)) * (cn * wd * xd * cd) := by grind
  have e2 : (wn * xd + xn * wd) * (sd * cd) * (ad * bd) * cd = (wn * (ad * cd)) * (xd * sd * cd * bd) + (xn * (bd * cd)) * (wd * sd * cd * ad) := by grind
  rw [e1, e2, es, ew, ex]; grind
theorem sub_inv {a b s : Q} (hs : addM a b = (s, 0)) : subM s b = (a, 0) ∧ subM s a = (b, 0) := by
  obtain ⟨va, vb, vs, es⟩ := add_ok.1 hs
  constructor
  · rw [sub_ok]
    refine ⟨vs, vb, va, ?_⟩
    grind
  · rw [sub_ok]
    refine ⟨vs, va, vb, ?_⟩
    grind
theorem div_inv {a b p : Q} (hs : mulM a b = (p, 0)) : (b.n ≠ 0 → divM p b = (a, 0)) ∧ (a.n ≠ 0 → divM p a = (b, 0)) := by
  obtain ⟨va, vb, vs, es⟩ := mul_ok.1 hs
  constructor
  · intro h; rw [div_ok h]
    refine ⟨vs, vb, va, ?_⟩
    grind
  · intro h; rw [div_ok h]
    refine ⟨vs, va, vb, ?_⟩
    grind
theorem sg_neg (x y : Int) : sgM x y = -sgM y x := by unfold sgM; split <;> split <;> omega
theorem sg_0 (x y : Int) : sgM x y = 0 ↔ x = y := by unfold sgM; split <;> (try split) <;> omega
theorem sg_pos (x y : Int) : 0 < sgM x y ↔ y < x := by unfold sgM; split <;> (try split) <;> omega
theorem sg_lt (x y : Int) : sgM x y < 0 ↔ x < y := by unfold sgM; split <;> (try split) <;> omega
theorem sg_rg (x y : Int) : -1 ≤ sgM x y ∧ sgM x y ≤ 1 := by unfold sgM; split <;> (try split) <;> omega
theorem cmp_v {a b : Q} (ha : qB a = true) (hb : qB b = true) : cmpM a b = (sgM (a.n * b.d) (b.n * a.d), 0) := by
  unfold cmpM; rw [if_pos (vvB_iff.2 ⟨ha, hb⟩)]
theorem cmp_eq {a b : Q} (ha : qB a = true) (hb : qB b = true) : sgM (a.n * b.d) (b.n * a.d) = 0 ↔ a = b := by
  rw [sg_0]
  have h1 := qB_iff.1 ha
  have h2 := qB_iff.1 hb
  constructor
  · intro e; exact one_low h1.1.1 h2.1.1 h1.2 h2.2 e
  · rintro rfl; rfl
theorem cmp_tr {a b c : Q} (ha : qB a = true) (hb : qB b = true) (hc : qB c = true) : 0 < sgM (a.n * b.d) (b.n * a.d) ∨ 0 < sgM (b.n * c.d) (c.n * b.d) ∨ sgM (a.n * c.d) (c.n * a.d) ≤ 0 := by
  rw [sg_pos, sg_pos]
  have pa := qB_p ha
  have pb := qB_p hb
  have pc := qB_p hc
  by_cases h1 : b.n * a.d < a.n * b.d
  · exact .inl h1
  by_cases h2 : c.n * b.d < b.n * c.d
  · exact .inr (.inl h2)
  refine .inr (.inr ?_)
  have : ¬ c.n * a.d < a.n * c.d := by
    intro h3
    have k1 := Int.mul_le_mul_of_nonneg_right (show a.n * b.d ≤ b.n * a.d by omega) (show 0 ≤ c.d by omega)
    have k2 := Int.mul_le_mul_of_nonneg_right (show b.n * c.d ≤ c.n * b.d by omega) (show 0 ≤ a.d by omega)
    have k3 := Int.mul_lt_mul_of_pos_right h3 pb
    have e1 : b.n * a.d * c.d = b.n * c.d * a.d := by grind
    have e2 : a.n * b.d * c.d = a.n * c.d * b.d := by grind
    have e3 : c.n * b.d * a.d = c.n * a.d * b.d := by grind
    omega
  have := sg_pos (a.n * c.d) (c.n * a.d)
  omega
theorem pos_of_mul {x y : Int} (hy : 0 < y) : (0 < x * y ↔ 0 < x) ∧ (x * y < 0 ↔ x < 0) := by
  rcases Int.lt_trichotomy x 0 with h | h | h
  · have := Int.mul_lt_mul_of_pos_right h hy
    simp only [Int.zero_mul] at this
    omega
  · subst h; simp
  · have := Int.mul_lt_mul_of_pos_right h hy
    simp only [Int.zero_mul] at this
    omega
theorem sub_sg {a b d : Q} (h : subM a b = (d, 0)) : (0 < d.n ↔ 0 < sgM (a.n * b.d) (b.n * a.d)) ∧ (d.n < 0 ↔ sgM (a.n * b.d) (b.n * a.d) < 0) := by
  obtain ⟨va, vb, vd, e⟩ := sub_ok.1 h
  rw [sg_pos, sg_lt]
  have p1 := pos_of_mul (x := d.n) (Int.mul_pos (qB_p va) (qB_p vb))
  have p2 := pos_of_mul (x := a.n * b.d - b.n * a.d) (qB_p vd)
  rw [e] at p1
  omega
theorem sg_scale {x y u v k : Int} (hk : 0 < k) (h : x * k - y * k = u - v) : sgM x y = sgM u v := by
  have p := pos_of_mul (x := x - y) hk
  rw [Int.sub_mul] at p
  unfold sgM
  split <;> split <;> (try split) <;> omega
theorem add_cmp {a b c s t : Q} (h1 : addM a c = (s, 0)) (h2 : addM b c = (t, 0)) : cmpM s t = (sgM (a.n * b.d) (b.n * a.d), 0) := by
  obtain ⟨va, vc, vs, es⟩ := add_ok.1 h1
  obtain ⟨vb, -, vt, et⟩ := add_ok.1 h2
  rw [cmp_v vs vt]
  have hk := Int.mul_pos (qB_p va) (Int.mul_pos (qB_p vb) (qB_p vc))
  have hl := Int.mul_pos (qB_p vs) (Int.mul_pos (qB_p vt) (qB_p vc))
  rw [sg_scale (x := s.n * t.d) (y := t.n * s.d) (u := a.n * b.d * (s.d * (t.d * c.d))) (v := b.n * a.d * (s.d * (t.d * c.d))) hk ?_]
  · rw [← sg_scale (x := a.n * b.d) (y := b.n * a.d) hl rfl]
  · obtain ⟨an, ad⟩ := a; obtain ⟨bn, bd⟩ := b; obtain ⟨cn, cd⟩ := c; obtain ⟨sn, sd⟩ := s; obtain ⟨tn, td⟩ := t
    simp only at es et ⊢
    have e1 : sn * td * (ad * (bd * cd)) = (sn * (ad * cd)) * (td * bd) := by grind
    have e2 : tn * sd * (ad * (bd * cd)) = (tn * (bd * cd)) * (sd * ad) := by grind
    rw [e1, e2, es, et]; grind
theorem new_low {n d k : Int} (hn : -1000000 ≤ n ∧ n ≤ 1000000) (hd : -1000000 ≤ d ∧ d ≤ 1000000) (hk : -1000000 ≤ k ∧ k ≤ 1000000) (h0 : k ≠ 0) (hd0 : d ≠ 0) :
    newM n d = ((newM n d).1, 0) ∧ newM (n * k) (d * k) = newM n d ∧ qB (newM n d).1 = true ∧ (newM n d).1.n * d = (newM n d).1.d * n := by
  have b1 := mulb hn hk
  have b2 := mulb hd hk
  have v : ∀ {x : Int}, -1000000000000 ≤ x ∧ x ≤ 1000000000000 → vaB x = true := fun h => vaB_iff.2 h
  unfold newM
  rw [if_pos (by simp [v (x := n) (by omega), v (x := d) (by omega)]), if_pos (by simp [v (x := n * k) (by omega), v (x := d * k) (by omega)])]
  have e := pair_eta (red_small (n := n) hd0 (by omega) (by omega))
  have f := (red_iff hd0).1 e
  exact ⟨e, red_same (mul_ne hd0 h0) hd0 (by grind), f.1, by rw [f.2, Int.mul_comm]⟩
theorem new_0 {n : Int} (hn : -1000000000000 ≤ n ∧ n ≤ 1000000000000) : newM n 0 = (⟨0, 0⟩, 14) := by
  unfold newM
  rw [if_pos (by rw [vaB_iff.2 hn]; decide)]; unfold redM; rw [if_pos rfl]
/-- out of the range, in lowest terms -/
def outB (n d : Int) : Bool := decide (1000000000 < (max n (-n)) / (max 1 (gc (max n (-n)) d))) || decide (1000000000 < d / max 1 (gc (max n (-n)) d))
theorem gc_abs (n d : Int) : gc (max n (-n)) d = gc n d := by
  unfold gc
  rcases Int.le_total 0 n with h | h
  · rw [Int.max_eq_left (by omega)]
  · rw [Int.max_eq_right (by omega)]; simp
theorem out_red {n d : Int} (h : 0 < d) : (redM n d).2 = if outB n d = true then 3 else 0 := by
  have hg := gc_pos (n := n) (show d ≠ 0 by omega)
  obtain ⟨u, hu⟩ := gc_dl n d
  obtain ⟨l1, l2, l3⟩ := low_of (n := n) (show d ≠ 0 by omega)
  have h1 : n / gc n d = u := Int.ediv_eq_of_eq_mul_right (by omega) hu
  have h3 : (-n) / gc n d = -u := Int.ediv_eq_of_eq_mul_right (by omega) (by rw [Int.mul_neg, ← hu])
  have key : outB n d = !rB (lowM n d) := by
    unfold outB
    rw [gc_abs, Int.max_eq_right hg]
    have hl : lowM n d = ⟨n / gc n d, d / gc n d⟩ := by unfold lowM; rw [if_neg (by omega)]
    have e : max n (-n) / gc n d = max u (-u) := by
      rcases Int.le_total 0 n with q | q
      · rw [Int.max_eq_left (by omega), h1]
        have : 0 ≤ u := by rw [← h1]; exact Int.ediv_nonneg q (by omega)
        omega
      · rw [Int.max_eq_right (by omega), h3]
        have : 0 ≤ -u := by rw [← h3]; exact Int.ediv_nonneg (by omega) (by omega)
        omega
    rw [e]
    rw [hl] at l1 ⊢
    rw [h1] at l1 ⊢
    simp only at l1
    generalize d / gc n d = v at *
    rw [Bool.eq_iff_iff, Bool.not_eq_true', ← Bool.not_eq_true, rB_iff]
    simp
    omega
  unfold redM
  rw [if_neg (by omega), key]
  rcases rB (lowM n d) <;> simp
end Go.Proofs.Ytbjhdfakocfapaa
