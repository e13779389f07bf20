/- Contracts of the reference's functions of layer 6. -/
import Derived.Test.YtphjkkkjkfclgaaIxI
namespace Go.Proofs.Ytphjkkkjkfclgaa
open Go.RowKit
set_option linter.unusedVariables false
set_option linter.unusedSimpArgs false
theorem bdrew {X w1 : World} (h : Below X.drew.heap.size X.drew w1) : Below X.heap.size X w1 := ((Below.refl X.heap.size X).drew).trans h
theorem far2 {w : World} {b c i : Nat} {x y : Value} (h : c ≠ b) : ((w.setCell ⟨b, 0, none⟩ x).setCell ⟨b, 1, none⟩ y).cell? ⟨c, i, none⟩ = w.cell? ⟨c, i, none⟩ :=
  World.cell?_of_block (a := ⟨c, i, none⟩) ((heap_setCell_other _ _ _ _ h).trans (heap_setCell_other _ _ _ _ h))
def chM (s : Sp) : Sp × Int := if (vN s.lo && vN s.hi) = true then (s, 0) else (⟨0, 0⟩, 3)
theorem combM_ch {f : Int → Int → Int} {a b : Sp} (h : (vB a && vB b) = true) : combM f a b = chM (arM (f a.lo b.lo) (f a.lo b.hi) (f a.hi b.lo) (f a.hi b.hi)) := by
  have hl := arM_le (f a.lo b.lo) (f a.lo b.hi) (f a.hi b.lo) (f a.hi b.hi)
  unfold combM chM
  rw [if_pos h]
  generalize arM (f a.lo b.lo) (f a.lo b.hi) (f a.hi b.lo) (f a.hi b.hi) = m at *
  have e : vB m = (vN m.lo && vN m.hi) := by rw [Bool.eq_iff_iff, vB_iff]; simp only [Bool.and_eq_true, vN_iff]; omega
  rw [e]
theorem bothB {a b : Sp} (ha : vB a = true) (hb : vB b = true) : (vB a && vB b) = true := by rw [ha, hb]; rfl
theorem add_ch {a b : Sp} (ha : vB a = true) (hb : vB b = true) : addM a b = chM ⟨a.lo + b.lo, a.hi + b.hi⟩ := by
  unfold addM; rw [combM_ch (bothB ha hb)]; rw [vB_iff] at ha hb
  have : arM (addF a.lo b.lo) (addF a.lo b.hi) (addF a.hi b.lo) (addF a.hi b.hi) = ⟨a.lo + b.lo, a.hi + b.hi⟩ := by unfold arM addF; congr 1 <;> omega
  rw [this]
theorem sub_ch {a b : Sp} (ha : vB a = true) (hb : vB b = true) : subM a b = chM ⟨a.lo - b.hi, a.hi - b.lo⟩ := by
  unfold subM; rw [combM_ch (bothB ha hb)]; rw [vB_iff] at ha hb
  have : arM (subF a.lo b.lo) (subF a.lo b.hi) (subF a.hi b.lo) (subF a.hi b.hi) = ⟨a.lo - b.hi, a.hi - b.lo⟩ := by unfold arM subF; congr 1 <;> omega
  rw [this]
theorem mul_ch {a b : Sp} (ha : vB a = true) (hb : vB b = true) : mulM a b = chM (arM (mulF a.lo b.lo) (mulF a.lo b.hi) (mulF a.hi b.lo) (mulF a.hi b.hi)) := by
  unfold mulM; rw [combM_ch (bothB ha hb)]
theorem ch_in {s : Sp} (h0 : vN s.lo = true) (h1 : vN s.hi = true) : chM s = (s, 0) := by unfold chM; rw [h0, h1]; rfl
theorem min_ch {a b : Sp} (ha : vB a = true) (hb : vB b = true) : minM a b = (⟨min a.lo b.lo, min a.hi b.hi⟩, 0) := by
  unfold minM; rw [combM_ch (bothB ha hb)]; rw [vB_iff] at ha hb
  have : arM (minF a.lo b.lo) (minF a.lo b.hi) (minF a.hi b.lo) (minF a.hi b.hi) = ⟨min a.lo b.lo, min a.hi b.hi⟩ := by unfold arM minF; congr 1 <;> omega
  rw [this, ch_in] <;> simp only [vN_iff] <;> omega
theorem max_ch {a b : Sp} (ha : vB a = true) (hb : vB b = true) : maxM a b = (⟨max a.lo b.lo, max a.hi b.hi⟩, 0) := by
  unfold maxM; rw [combM_ch (bothB ha hb)]; rw [vB_iff] at ha hb
  have : arM (maxF a.lo b.lo) (maxF a.lo b.hi) (maxF a.hi b.lo) (maxF a.hi b.hi) = ⟨max a.lo b.lo, max a.hi b.hi⟩ := by unfold arM maxF; congr 1 <;> omega
  rw [this, ch_in] <;> simp only [vN_iff] <;> omega
theorem join_ch {a b : Sp} (ha : vB a = true) (hb : vB b = true) : joinM a b = (⟨min a.lo b.lo, max a.hi b.hi⟩, 0) := by
  unfold joinM; rw [if_pos (bothB ha hb)]; rw [vB_iff] at ha hb
  have : arM a.lo a.hi b.lo b.hi = ⟨min a.lo b.lo, max a.hi b.hi⟩ := by unfold arM; congr 1 <;> omega
  rw [this]
theorem div_z {f : Int → Int → Int} {a b : Sp} (ha : vB a = true) (hb : vB b = true) (hz : zB b = true) : divM f a b = (⟨0, 0⟩, 14) := by unfold divM; rw [ha, hb, hz]; rfl
theorem div_nz {f : Int → Int → Int} {a b : Sp} (hz : zB b = false) : divM f a b = combM f a b := by unfold divM; rw [hz]; simp
theorem arM_ok {p q r s : Int} (h0 : vN p = true) (h1 : vN q = true) (h2 : vN r = true) (h3 : vN s = true) : chM (arM p q r s) = (arM p q r s, 0) := by
  rw [vN_iff] at h0 h1 h2 h3
  rcases arM_lo p q r s with h | h | h | h <;> rcases arM_hi p q r s with k | k | k | k <;> (apply ch_in <;> rw [vN_iff] <;> omega)
theorem dv_ch {a b : Sp} (ha : vB a = true) (hb : vB b = true) (hz : zB b = false) : dvM a b = (arM (divF a.lo b.lo) (divF a.lo b.hi) (divF a.hi b.lo) (divF a.hi b.hi), 0) := by
  have k : ∀ x y, (x = a.lo ∨ x = a.hi) → (y = b.lo ∨ y = b.hi) → vN (divF x y) = true := fun x y hx hy => by
    have h1 := vnOf ha hx
    rw [vN_iff] at h1 ⊢
    exact divF_bd h1 (nz hz (by rw [vB_iff] at hb; omega) hy)
  unfold dvM; rw [div_nz hz, combM_ch (bothB ha hb), arM_ok] <;> apply k <;> simp
theorem up_ch {a b : Sp} (ha : vB a = true) (hb : vB b = true) (hz : zB b = false) : upM a b = (arM (upF a.lo b.lo) (upF a.lo b.hi) (upF a.hi b.lo) (upF a.hi b.hi), 0) := by
  have k : ∀ x y, (x = a.lo ∨ x = a.hi) → (y = b.lo ∨ y = b.hi) → vN (upF x y) = true := fun x y hx hy => by
    have h1 := vnOf ha hx
    rw [vN_iff] at h1 ⊢
    exact upF_bd h1 (nz hz (by rw [vB_iff] at hb; omega) hy)
  unfold upM; rw [div_nz hz, combM_ch (bothB ha hb), arM_ok] <;> apply k <;> simp
theorem bad_m {f : Int → Int → Int} {a b : Sp} (h : (vB a && vB b) = false) : combM f a b = (⟨0, 0⟩, 1) ∧ divM f a b = (⟨0, 0⟩, 1) ∧ joinM a b = (⟨0, 0⟩, 1) := by
  unfold divM combM joinM; rw [h]; simp
end Go.Proofs.Ytphjkkkjkfclgaa
