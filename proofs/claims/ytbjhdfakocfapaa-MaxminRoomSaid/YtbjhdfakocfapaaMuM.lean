/- Law package 13: mathematics of MaxminRoom: a greater cap. No code. -/
import Derived.Test.YtbjhdfakocfapaaMuC
namespace Go.Proofs.Ytbjhdfakocfapaa
set_option linter.unusedVariables false
set_option linter.unusedSimpArgs false
open MM
def wideNet (n : Net) (l : Nat) (v : Int) : Net := ⟨n.c.set l v, n.f, n.l⟩
theorem wide_valid {n : Net} {l : Nat} {v : Int} (hv : validB n = true) (h0 : 0 ≤ v) (h1 : v ≤ 1000) : validB (wideNet n l v) = true := by
  obtain ⟨k1, k2, k3, k4, k5, k6⟩ := valid_parts hv
  simp only [validB, sizeB, Bool.and_eq_true, decide_eq_true_eq, List.all_eq_true]
  have e1 : (wideNet n l v).c.length = n.c.length := by unfold wideNet; simp
  rw [e1]
  refine ⟨⟨⟨k1, k2⟩, k3⟩, k4, ?_, k6⟩
  unfold capsB wideNet
  rw [List.all_eq_true]
  intro x hx
  rcases List.mem_or_eq_of_mem_set hx with h | h
  · exact List.all_eq_true.1 k5 x h
  · subst h
    simp [capB, h0, h1]
theorem netT_wide (n : Net) (l : Nat) (v : Int) : netT (wideNet n l v) = { netT n with cap := fun k => (num (n.c.set l v) k : Rat) } := by
  unfold netT wideNet
  simp only [List.length_set]
theorem wide_cap {n : Net} {l : Nat} {v : Int} (hl : l < n.c.length) (h : num n.c l ≤ v) : ∀ k, k < (netT n).L → (netT n).cap k ≤ (fun k => (num (n.c.set l v) k : Rat)) k := by
  intro k hk
  show (num n.c k : Rat) ≤ (num (n.c.set l v) k : Rat)
  rw [num_set v k hl]
  split
  · rename_i e; rw [e]; exact le_cast.2 h
  · exact Rat.le_refl
/-- what is at most each rate before, is so behind -/
theorem wide_least {n : Net} {l : Nat} {v : Int} (hv : validB n = true) (hl : l < n.c.length) (h : num n.c l ≤ v) (h1 : v ≤ 1000) {a : Rat} (ha : ∀ i, i < n.f.length → a ≤ ratT (shareM n) i) :
    ∀ i, i < n.f.length → a ≤ ratT (shareM (wideNet n l v)) i := by
  have hc := (capsB_num (valid_parts hv).2.2.2.2.1 l).1
  obtain ⟨f1, -⟩ := share_fair hv
  obtain ⟨f2, -⟩ := share_fair (wide_valid (l := l) hv (show 0 ≤ v by omega) h1)
  rw [netT_wide] at f2
  exact fair_least f2 (feas_room f1.1 (wide_cap hl h)) ha
theorem wide_same {n : Net} {l : Nat} {v : Int} (hv : validB n = true) (hl : l < n.c.length) (h : num n.c l ≤ v) (h1 : v ≤ 1000) (hr : MM.load (netT n) (ratT (shareM n)) l < (num n.c l : Rat)) :
    shareM n = shareM (wideNet n l v) := by
  have hc := (capsB_num (valid_parts hv).2.2.2.2.1 l).1
  have hw := wide_valid (l := l) hv (show 0 ≤ v by omega) h1
  obtain ⟨f1, l1, q1, -⟩ := share_fair hv
  obtain ⟨f2, l2, q2, -⟩ := share_fair hw
  have f3 : MM.Fair (netT (wideNet n l v)) (ratT (shareM n)) := by
    rw [netT_wide]
    refine fair_room f1 (wide_cap hl h) (fun k hk e => ?_)
    show (num (n.c.set l v) k : Rat) = (num n.c k : Rat)
    rw [num_set v k hl]
    split
    · rename_i e2
      subst e2
      have e3 : MM.load (netT n) (ratT (shareM n)) k = (num n.c k : Rat) := e
      rw [e3] at hr
      grind
    · rfl
  refine list_rat (by rw [l1, l2]; rfl) fun i hi => ?_
  have hi2 : i < n.f.length := by rw [← l1]; exact hi
  exact val_inj (q1 i hi2) (q2 i hi2) (unique f3 f2 i hi2)
/-- the sum of the rates on a link -/
theorem share_load {n : Net} (hv : validB n = true) {l : Nat} (hl : l < n.c.length) : ∃ q, loadM n (shareM n) (l : Int) = some q ∧ qB q = true ∧ val q = MM.load (netT n) (ratT (shareM n)) l := by
  obtain ⟨f1, l1, q1, D, d1, d2, d3⟩ := share_fair hv
  have R := share_rates hv
  have hc := capsB_num (valid_parts hv).2.2.2.2.1 l
  have h1 : MM.load (netT n) (ratT (shareM n)) l ≤ (num n.c l : Rat) := f1.1.2 l hl
  rw [load_eq] at h1
  have h2 : (num n.c l : Rat) ≤ ((1000 : Int) : Rat) := le_cast.2 hc.2
  have h3 : ((1000 : Int) : Rat) = 1000 := rfl
  rw [h3] at h2
  obtain ⟨q, hq⟩ := ldP_has (l := l) d1 (by omega) R.q d3 R.nn (Rat.le_trans h1 h2) n.f.length (Nat.le_refl _)
  exact ⟨q, hq, ldP_val _ q hq⟩
theorem room_iff {q : Q} {c : Int} (hq : qB q = true) (hc : 0 ≤ c ∧ c ≤ 1000) : q.n < c * q.d ↔ val q < (c : Rat) := by
  have h := val_lt hq (qB_one hc.1 hc.2)
  rw [val_one] at h
  simp only [Int.mul_one] at h
  exact h.symm
end Go.Proofs.Ytbjhdfakocfapaa
