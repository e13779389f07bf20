/- Law package 13: mathematics of MaxminOrder: the network numbered the other way round. No code. -/
import Derived.Test.YtbjhdfakocfapaaMuC
namespace Go.Proofs.Ytbjhdfakocfapaa
set_option linter.unusedVariables false
set_option linter.unusedSimpArgs false
open MM
theorem MM.load_congr {T U : Nt} {x : Nat → Rat} (hN : U.N = T.N) {l : Nat} (ho : ∀ i, i < T.N → U.on i l = T.on i l) : MM.load U x l = MM.load T x l := by
  unfold MM.load
  rw [hN]
  exact sumN_congr fun i hi => by rw [ho i hi]
theorem MM.fair_congr {T U : Nt} {x : Nat → Rat} (hN : U.N = T.N) (hL : U.L = T.L) (ho : ∀ i l, i < T.N → l < T.L → U.on i l = T.on i l) (hc : ∀ l, l < T.L → U.cap l = T.cap l) (hm : ∀ i, i < T.N → U.lm i = T.lm i) (h : MM.Fair T x) : MM.Fair U x := by
  have hl : ∀ l, l < T.L → MM.load U x l = MM.load T x l := fun l hl => MM.load_congr hN (fun i hi => ho i l hi hl)
  refine ⟨⟨fun i hi => ?_, fun l hlt => ?_⟩, fun i hi => ?_⟩
  · rw [hN] at hi
    rw [hm i hi]
    exact h.1.1 i hi
  · rw [hL] at hlt
    rw [hl l hlt, hc l hlt]
    exact h.1.2 l hlt
  · rw [hN] at hi
    rcases h.2 i hi with h1 | ⟨l, h1, h2, h3, h4⟩
    · exact .inl (by rw [hm i hi]; exact h1)
    · refine .inr ⟨l, by rw [hL]; exact h1, by rw [ho i l hi h1]; exact h2, by rw [hl l h1, hc l h1]; exact h3, fun j hj hoj => ?_⟩
      rw [hN] at hj
      rw [ho j l hj h1] at hoj
      exact h4 j hj hoj
def mir (c : Int) (l : Int) : Int := c - 1 - l
def revRow (c : Int) (r : List Int) : List Int := (r.map (mir c)).reverse
def revNet (n : Net) : Net := ⟨n.c.reverse, (n.f.map (revRow n.c.length)).reverse, n.l.reverse⟩
theorem num_rev (l : List Int) {i : Nat} (h : i < l.length) : num l.reverse i = num l (l.length - 1 - i) := by
  unfold num
  rw [List.getElem?_reverse h]
theorem link_of {c : Int} : ∀ {r : List Int} {m : Int}, (∀ x ∈ r, m ≤ x ∧ x < c) → r.Pairwise (· < ·) → linkB c r m = true := by
  intro r
  induction r with
  | nil => intro m _ _; rfl
  | cons y r ih =>
    intro m h1 h2
    have hy := h1 y (List.mem_cons_self ..)
    rw [linkB, if_neg (by omega)]
    refine ih (fun x hx => ?_) (List.pairwise_cons.1 h2).2
    have := (List.pairwise_cons.1 h2).1 x hx
    have := h1 x (List.mem_cons_of_mem _ hx)
    omega
theorem rev_links {c : Int} {r : List Int} (h : linksB c r = true) : linksB c (revRow c r) = true := by
  have hlen := links_len h
  simp only [linksB, Bool.and_eq_true, decide_eq_true_eq] at h
  have hb := link_ge h.2
  have hp := link_pair h.2
  unfold linksB
  simp only [Bool.and_eq_true, decide_eq_true_eq]
  refine ⟨by unfold revRow; simp; omega, link_of (fun x hx => ?_) ?_⟩
  · unfold revRow at hx
    rw [List.mem_reverse, List.mem_map] at hx
    obtain ⟨y, hy, rfl⟩ := hx
    have := hb y hy
    unfold mir
    omega
  · unfold revRow
    rw [List.pairwise_reverse, List.pairwise_map]
    exact hp.imp (fun {a b} hab => by unfold mir; omega)
theorem rev_caps {l : List Int} (h : capsB l = true) : capsB l.reverse = true := by
  unfold capsB at h ⊢
  rw [List.all_reverse]
  exact h
theorem rev_valid {n : Net} (hv : validB n = true) : validB (revNet n) = true := by
  obtain ⟨k1, k2, k3, k4, k5, k6⟩ := valid_parts hv
  have e1 : (revNet n).c.length = n.c.length := by unfold revNet; simp
  simp only [validB, sizeB, Bool.and_eq_true, decide_eq_true_eq, List.all_eq_true]
  rw [e1]
  refine ⟨⟨⟨k1, by unfold revNet; simp; exact k2⟩, by unfold revNet; simp; exact k3⟩, fun r hr => ?_, rev_caps k5, rev_caps k6⟩
  unfold revNet at hr
  simp only [List.mem_reverse, List.mem_map] at hr
  obtain ⟨r', h1, rfl⟩ := hr
  exact rev_links (k4 r' h1)
theorem rev_on {n : Net} {i l : Nat} (hi : i < n.f.length) (hl : l < n.c.length) : onF (revNet n).f (l : Int) i = onF n.f ((n.c.length - 1 - l : Nat) : Int) (n.f.length - 1 - i) := by
  have h1 : (revNet n).f[i]?.getD [] = revRow n.c.length (n.f[n.f.length - 1 - i]?.getD []) := by
    unfold revNet
    simp only
    rw [List.getElem?_reverse (by simpa using hi), List.getElem?_map, List.length_map]
    rw [List.getElem?_eq_getElem (show n.f.length - 1 - i < n.f.length by omega)]
    rfl
  rw [Bool.eq_iff_iff, on_row, on_row, h1]
  unfold revRow
  rw [List.mem_reverse, List.mem_map]
  constructor
  · rintro ⟨x, hx, e⟩
    unfold mir at e
    have : x = ((n.c.length - 1 - l : Nat) : Int) := by omega
    rw [← this]; exact hx
  · intro h
    exact ⟨_, h, by unfold mir; omega⟩
theorem rev_rat {n : Net} (hv : validB n = true) {i : Nat} (hi : i < n.f.length) : rat (shareM n) i = rat (shareM (revNet n)) (n.f.length - 1 - i) := by
  obtain ⟨k1, k2, k3, k4, k5, k6⟩ := valid_parts hv
  obtain ⟨f1, l1, q1, -⟩ := share_fair hv
  obtain ⟨f2, l2, q2, -⟩ := share_fair (rev_valid hv)
  have eF : (revNet n).f.length = n.f.length := by unfold revNet; simp
  have hN : (netT (revNet n)).N = (rev (netT n)).N := eF
  have hL : (netT (revNet n)).L = (rev (netT n)).L := by show (revNet n).c.length = n.c.length; unfold revNet; simp
  have h3 : MM.Fair (netT (revNet n)) (fun i => ratT (shareM n) ((netT n).N - 1 - i)) := by
    refine MM.fair_congr hN hL (fun i l hi hl => ?_) (fun l hl => ?_) (fun i hi => ?_) (fair_rev f1)
    · exact rev_on hi hl
    · show ((num n.c.reverse l : Int) : Rat) = ((num n.c (n.c.length - 1 - l) : Int) : Rat)
      rw [num_rev _ hl]
    · show ((num n.l.reverse i : Int) : Rat) = ((num n.l (n.f.length - 1 - i) : Int) : Rat)
      have hi2 : i < n.l.length := by rw [k3]; exact hi
      rw [num_rev _ hi2, k3]
  have hj : n.f.length - 1 - i < (netT (revNet n)).N := by show _ < (revNet n).f.length; rw [eF]; omega
  have h4 : ratT (shareM (revNet n)) (n.f.length - 1 - i) = ratT (shareM n) (n.f.length - 1 - (n.f.length - 1 - i)) := unique f2 h3 _ hj
  rw [show n.f.length - 1 - (n.f.length - 1 - i) = i by omega] at h4
  exact val_inj (q1 i hi) (q2 _ hj) h4.symm
/-! ### how it is built, from the end on -/
theorem rev_step {α β : Type} (f : α → β) (l : List α) {j : Nat} (h : j < l.length) : ((l.drop j).map f).reverse = ((l.drop (j + 1)).map f).reverse ++ [f l[j]] := by
  rw [List.drop_eq_getElem_cons h, List.map_cons, List.reverse_cons]
theorem rev_end {α β : Type} (f : α → β) (l : List α) {j : Nat} (h : l.length ≤ j) : ((l.drop j).map f).reverse = [] := by
  rw [List.drop_eq_nil_of_le h]; rfl
end Go.Proofs.Ytbjhdfakocfapaa
