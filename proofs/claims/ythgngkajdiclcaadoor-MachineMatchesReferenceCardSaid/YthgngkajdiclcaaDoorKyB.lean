/- Package code: the heights of valid code are determined; what spoils it (mathematics alone). -/
import Derived.Test.YthgngkajdiclcaaDoorKyA
namespace Go.Proofs.YthgngkajdiclcaaDoor
set_option linter.unusedVariables false
set_option linter.unusedSimpArgs false
namespace K
/-- the run can continue at j behind i -/
def To (x : In) (i j : Nat) : Prop := (x.op ≠ 13 ∧ j = i + 1) ∨ ((x.op = 12 ∨ x.op = 13) ∧ j = x.n.toNat)
/-- only what can be reached has a height -/
theorem reach_new {hs h2 : List Int} {i : Nat} {h : Int} {b : Bool} (e : reach hs i h = (h2, b)) {j : Nat} (hj : (h2[j]?).getD (-1) ≠ -1) : (hs[j]?).getD (-1) ≠ -1 ∨ j = i := by
  unfold reach at e
  split at e
  · cases e
    by_cases hij : i = j
    · exact .inr hij.symm
    · rw [List.getElem?_set_ne hij] at hj
      exact .inl hj
  · cases e; exact .inl hj
theorem sound_new {hs h2 : List Int} {x : In} {i : Nat} (e : soundI hs x i = (h2, true)) {j : Nat} (hj : (h2[j]?).getD (-1) ≠ -1) : (hs[j]?).getD (-1) ≠ -1 ∨ To x i j := by
  unfold soundI at e
  split at e
  · cases e
  split at e
  · rename_i h12
    rcases hr : reach hs (i + 1) ((hs[i]?).getD 0 - tko x.op + pt x.op) with ⟨h3, b⟩
    rw [hr] at e
    cases b with
    | false => cases e
    | true =>
      simp only at e
      rcases reach_new e hj with h | h
      · rcases reach_new hr h with h | h
        · exact .inl h
        · exact .inr (.inl ⟨by omega, h⟩)
      · exact .inr (.inr ⟨.inl h12, h⟩)
  · split at e
    · rename_i h13
      rcases reach_new e hj with h | h
      · exact .inl h
      · exact .inr (.inr ⟨.inr h13, h⟩)
    · rename_i h13
      rcases reach_new e hj with h | h
      · exact .inl h
      · exact .inr (.inl ⟨h13, h⟩)
theorem go_new {vars : Int} {many : Nat} {H : List Int} : ∀ (xs : List In) (hs : List Int) (i : Nat), goH vars many hs i xs = some H → ∀ j, (H[j]?).getD (-1) ≠ -1 → (hs[j]?).getD (-1) ≠ -1 ∨ ∃ (k : Nat) (x : In), xs[k]? = some x ∧ To x (i + k) j
  | [], hs, i, e, j, hj => by rw [goH] at e; cases e; exact .inl hj
  | x :: xs, hs, i, e, j, hj => by
    rw [goH] at e
    split at e
    · rcases hs2 : soundI hs x i with ⟨h2, b⟩
      rw [hs2] at e
      cases b with
      | false => cases e
      | true =>
        simp only at e
        rcases go_new xs h2 (i + 1) e j hj with h | ⟨k, y, hy, ht⟩
        · rcases sound_new hs2 h with h | h
          · exact .inl h
          · exact .inr ⟨0, x, rfl, h⟩
        · exact .inr ⟨k + 1, y, by simpa using hy, by rw [show i + (k + 1) = i + 1 + k by omega]; exact ht⟩
    · cases e
/-- valid code, with what leads to each instruction -/
theorem ver_full {l : List In} {vars : Int} (h : verH l vars = true) : ∃ H : List Int, (H[0]?).getD 0 = 0 ∧ (H[l.length]?).getD 0 = 0 ∧ (∀ (j : Nat) (x : In), l[j]? = some x → Nx H x j ∧ formI x j l.length vars = true) ∧
    ∀ j, 0 < j → j ≤ l.length → ∃ (k : Nat) (x : In), l[k]? = some x ∧ To x k j := by
  have h0 := h
  unfold verH at h
  rw [Bool.and_eq_true, decide_eq_true_eq] at h
  rcases hg : goH vars l.length ((0 : Int) :: List.replicate l.length (-1)) 0 l with _ | H
  · rw [hg] at h; cases h.2
  · rw [hg] at h
    obtain ⟨e, r⟩ := go_spec l _ 0 (by simp) (by omega) hg
    have hl : H.length = l.length + 1 := by rw [← e.1]; simp
    have hend := of_decide_eq_true h.2
    refine ⟨H, e.2 0 (by simp) (by simp), hend, fun j x hx => by simpa using r j x hx, fun j h1 h2 => ?_⟩
    have hne : (H[j]?).getD (-1) ≠ -1 := by
      have hj : j < H.length := by omega
      rw [List.getElem?_eq_getElem hj, Option.getD_some]
      by_cases hjl : j < l.length
      · have := (r j _ (List.getElem?_eq_getElem hjl)).1.1
        rw [Nat.zero_add, List.getElem?_eq_getElem hj, Option.getD_some] at this
        have := tko_pos l[j].op
        omega
      · obtain rfl : j = l.length := by omega
        rw [List.getElem?_eq_getElem hj, Option.getD_some] at hend
        omega
    rcases go_new l _ 0 hg j hne with h3 | ⟨k, x, hx, ht⟩
    · exfalso
      apply h3
      cases j with
      | zero => omega
      | succ j => simp [List.getElem?_replicate]; split <;> rfl
    · exact ⟨k, x, hx, by simpa using ht⟩
theorem to_lt {x : In} {k j : Nat} {many : Nat} {vars : Int} (ht : To x k j) (hf : formI x k many vars = true) : k < j := by
  rcases ht with ⟨-, rfl⟩ | ⟨h, rfl⟩
  · omega
  · exact (form_n hf h).1
theorem nx_to {H : List Int} {x : In} {k j : Nat} (hn : Nx H x k) (ht : To x k j) : (H[j]?).getD 0 = (H[k]?).getD 0 - tko x.op + pt x.op := by
  rcases ht with ⟨h, rfl⟩ | ⟨h, rfl⟩
  · exact hn.2.2.1 h
  · exact hn.2.2.2 h
/-- the heights are determined by the first instructions -/
theorem heights_eq {l l2 : List In} {H G : List Int} {vars : Int} (hpre : ∀ (j : Nat) (x : In), l[j]? = some x → l2[j]? = some x)
    (h0 : (H[0]?).getD 0 = (G[0]?).getD 0) (hH : ∀ (j : Nat) (x : In), l[j]? = some x → Nx H x j ∧ formI x j l.length vars = true) (hG : ∀ (j : Nat) (x : In), l2[j]? = some x → Nx G x j)
    (hp : ∀ j, 0 < j → j ≤ l.length → ∃ (k : Nat) (x : In), l[k]? = some x ∧ To x k j) : ∀ j, j ≤ l.length → (H[j]?).getD 0 = (G[j]?).getD 0 := by
  intro j
  induction j using Nat.strongRecOn with
  | ind j ih =>
    intro hj
    rcases Nat.eq_zero_or_pos j with rfl | h
    · exact h0
    · obtain ⟨k, x, hx, ht⟩ := hp j h hj
      have hk := to_lt ht (hH k x hx).2
      rw [nx_to (hH k x hx).1 ht, nx_to (hG k x (hpre k x hx)) ht, ih k hk (by omega)]
/-- an instruction that takes something, or puts something, at the end -/
theorem ver_snoc {l : List In} {x : In} {vars : Int} (h : verH l vars = true) (hx : 0 < tko x.op ∨ (x.op ≠ 13 ∧ 0 < pt x.op)) : verH (l ++ [x]) vars = false := by
  rcases h2 : verH (l ++ [x]) vars with _ | _
  · rfl
  · exfalso
    obtain ⟨H, a1, a2, a3, a4⟩ := ver_full h
    obtain ⟨G, b1, b2, b3, b4⟩ := ver_full h2
    have hpre : ∀ (j : Nat) (y : In), l[j]? = some y → (l ++ [x])[j]? = some y := fun j y hy => by
      rw [List.getElem?_append_left (List.getElem?_eq_some_iff.1 hy).1]; exact hy
    have he := heights_eq hpre (by rw [a1, b1]) a3 (fun j y hy => (b3 j y hy).1) a4 l.length (Nat.le_refl _)
    have hn := (b3 l.length x (by simp)).1
    rw [a2] at he
    rcases hx with hx | ⟨h13, hx⟩
    · have := hn.1; omega
    · have k1 := hn.1
      have k2 := tko_pos x.op
      have k3 := hn.2.2.1 h13
      rw [List.length_append, List.length_singleton] at b2
      omega
theorem ver_form {l : List In} {x : In} {j : Nat} {vars : Int} (hx : l[j]? = some x) (hf : formI x j l.length vars = false) : verH l vars = false := by
  rcases h2 : verH l vars with _ | _
  · rfl
  · obtain ⟨H, a1, a2, a3, a4⟩ := ver_full h2
    rw [(a3 j x hx).2] at hf
    cases hf
end K
end Go.Proofs.YthgngkajdiclcaaDoor
