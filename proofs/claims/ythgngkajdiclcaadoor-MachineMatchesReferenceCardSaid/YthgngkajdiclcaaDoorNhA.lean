/- Package code: two handlers put together are valid (mathematics alone). -/
import Derived.Test.YthgngkajdiclcaaDoorNgA
namespace Go.Proofs.YthgngkajdiclcaaDoor
set_option linter.unusedVariables false
set_option linter.unusedSimpArgs false
namespace N
open K
/-- an instruction that stands m further on -/
def sh (m : Nat) (x : In) : In := if x.op = 12 ∨ x.op = 13 then ⟨x.op, x.n + m, x.r⟩ else x
def jn (a b : List In) : List In := a ++ b.map (sh a.length)
theorem sh_op (m : Nat) (x : In) : (sh m x).op = x.op := by unfold sh; split <;> rfl
theorem sh_r (m : Nat) (x : In) : (sh m x).r = x.r := by unfold sh; split <;> rfl
theorem sh_n {m : Nat} {x : In} (h : ¬ (x.op = 12 ∨ x.op = 13)) : sh m x = x := by unfold sh; rw [if_neg h]
theorem sh_j {m : Nat} {x : In} (h : x.op = 12 ∨ x.op = 13) : (sh m x).n = x.n + m := by unfold sh; rw [if_pos h]
/-- what is known of the heights is right -/
structure Kn (G hs : List Int) (many : Nat) : Prop where
  len : hs.length = many + 1
  kn : ∀ j, j ≤ many → (hs[j]?).getD 0 = -1 ∨ (hs[j]?).getD 0 = (G[j]?).getD 0
/-- what was known stays -/
def Up (a b : List Int) (many : Nat) : Prop := ∀ j, j ≤ many → (a[j]?).getD 0 ≠ -1 → (b[j]?).getD 0 ≠ -1
theorem reach_comp {G hs : List Int} {many j : Nat} {t : Int} (hK : Kn G hs many) (hj : j ≤ many) (ht : (G[j]?).getD 0 = t) (h0 : 0 ≤ t) (h64 : t ≤ 64) :
    ∃ h2, reach hs j t = (h2, true) ∧ Kn G h2 many ∧ Up hs h2 many ∧ (h2[j]?).getD 0 ≠ -1 := by
  have hjl : j < hs.length := by rw [hK.len]; omega
  unfold reach
  by_cases h : (hs[j]?).getD 0 = -1
  · rw [if_pos h]
    refine ⟨_, by rw [decide_eq_true h64], ⟨by simp [hK.len], fun i hi => ?_⟩, fun i hi hn => ?_, ?_⟩
    · by_cases hij : j = i
      · subst hij; right; rw [List.getElem?_set_self hjl, Option.getD_some, ht]
      · rw [List.getElem?_set_ne hij]; exact hK.kn i hi
    · by_cases hij : j = i
      · subst hij; exact absurd h hn
      · rw [List.getElem?_set_ne hij]; exact hn
    · rw [List.getElem?_set_self hjl, Option.getD_some]; omega
  · rw [if_neg h]
    have hv := (hK.kn j hj).resolve_left h
    refine ⟨hs, ?_, hK, fun i hi hn => hn, h⟩
    rw [decide_eq_true (by rw [hv, ht]), decide_eq_true h64]; rfl
theorem sound_comp {G hs : List Int} {many i : Nat} {x : In} {vars : Int} (hK : Kn G hs many) (hi : i < many) (hkn : (hs[i]?).getD 0 ≠ -1) (hn : Nx G x i) (hf : formI x i many vars = true) :
    ∃ h2, soundI hs x i = (h2, true) ∧ Kn G h2 many ∧ Up hs h2 many ∧ ∀ j, To x i j → (h2[j]?).getD 0 ≠ -1 := by
  obtain ⟨k1, k2, k3, k4⟩ := hn
  have hv := (hK.kn i (by omega)).resolve_left hkn
  have p1 := pt_pos x.op
  have p2 := tko_pos x.op
  unfold soundI
  rw [hv, if_neg (by omega)]
  split
  · rename_i h12
    have hb := form_n hf (.inl h12)
    obtain ⟨h2, e2, K2, U2, n2⟩ := reach_comp hK (j := i + 1) (by omega) (k3 (by omega)) (by omega) k2
    obtain ⟨h3, e3, K3, U3, n3⟩ := reach_comp K2 (j := x.n.toNat) hb.2 (k4 (.inl h12)) (by omega) k2
    rw [e2]
    refine ⟨h3, e3, K3, fun j hj hn => U3 j hj (U2 j hj hn), fun j ht => ?_⟩
    rcases ht with ⟨-, rfl⟩ | ⟨-, rfl⟩
    · exact U3 _ (by omega) n2
    · exact n3
  · rename_i h12
    split
    · rename_i h13
      have hb := form_n hf (.inr h13)
      obtain ⟨h3, e3, K3, U3, n3⟩ := reach_comp hK (j := x.n.toNat) hb.2 (k4 (.inr h13)) (by omega) k2
      refine ⟨h3, e3, K3, U3, fun j ht => ?_⟩
      rcases ht with ⟨h, -⟩ | ⟨-, rfl⟩
      · exact absurd h13 h
      · exact n3
    · rename_i h13
      obtain ⟨h3, e3, K3, U3, n3⟩ := reach_comp hK (j := i + 1) (by omega) (k3 h13) (by omega) k2
      refine ⟨h3, e3, K3, U3, fun j ht => ?_⟩
      rcases ht with ⟨-, rfl⟩ | ⟨h, -⟩
      · exact n3
      · omega
theorem go_comp {G : List Int} {vars : Int} {l : List In} (hG : ∀ (j : Nat) (x : In), l[j]? = some x → Nx G x j ∧ formI x j l.length vars = true)
    (hp : ∀ j, 0 < j → j ≤ l.length → ∃ (k : Nat) (x : In), l[k]? = some x ∧ To x k j) : ∀ (xs : List In) (hs : List Int) (i : Nat), l.drop i = xs → i ≤ l.length → Kn G hs l.length → (hs[0]?).getD 0 ≠ -1 → (∀ (k : Nat) (x : In) (j : Nat), k < i → l[k]? = some x → To x k j → (hs[j]?).getD 0 ≠ -1) →
    ∃ H, goH vars l.length hs i xs = some H ∧ Kn G H l.length ∧ (0 < l.length → (H[l.length]?).getD 0 ≠ -1)
  | [], hs, i, hd, hi, hK, h0, hb => by
    have hil : l.length ≤ i := List.drop_eq_nil_iff.1 hd
    refine ⟨hs, rfl, hK, fun hl => ?_⟩
    obtain ⟨k, x, hx, ht⟩ := hp l.length hl (Nat.le_refl _)
    exact hb k x _ (by have := (List.getElem?_eq_some_iff.1 hx).1; omega) hx ht
  | x :: xs, hs, i, hd, hi, hK, h0, hb => by
    have hil : i < l.length := by
      rcases Nat.lt_or_ge i l.length with h | h
      · exact h
      · rw [List.drop_eq_nil_of_le h] at hd; cases hd
    rw [List.drop_eq_getElem_cons hil] at hd
    obtain ⟨hx1, hd2⟩ := List.cons.inj hd
    have hx : l[i]? = some x := by rw [List.getElem?_eq_getElem hil, hx1]
    obtain ⟨n1, f1⟩ := hG i x hx
    have hkn : (hs[i]?).getD 0 ≠ -1 := by
      rcases Nat.eq_zero_or_pos i with rfl | h
      · exact h0
      · obtain ⟨k, y, hy, ht⟩ := hp i h hi
        exact hb k y i (to_lt ht (hG k y hy).2) hy ht
    obtain ⟨h2, e2, K2, U2, n2⟩ := sound_comp hK hil hkn n1 f1
    rw [goH, if_pos f1, e2]
    refine go_comp hG hp xs h2 (i + 1) hd2 hil K2 (U2 0 (by omega) h0) (fun k y j hk hy ht => ?_)
    by_cases hki : k = i
    · subst hki
      obtain rfl : y = x := Option.some.inj (hy.symm.trans hx)
      exact n2 j ht
    · refine U2 j ?_ (hb k y j (by omega) hy ht)
      rcases ht with ⟨-, rfl⟩ | ⟨h, rfl⟩
      · omega
      · exact (form_n (hG k y hy).2 h).2
/-- code with right heights is valid -/
theorem ver_comp {G : List Int} {vars : Int} {l : List In} (hl : l.length ≤ 4000) (h0 : (G[0]?).getD 0 = 0) (he : (G[l.length]?).getD 0 = 0) (hG : ∀ (j : Nat) (x : In), l[j]? = some x → Nx G x j ∧ formI x j l.length vars = true)
    (hp : ∀ j, 0 < j → j ≤ l.length → ∃ (k : Nat) (x : In), l[k]? = some x ∧ To x k j) : verH l vars = true := by
  obtain ⟨H, e, K, n⟩ := go_comp hG hp l ((0 : Int) :: List.replicate l.length (-1)) 0 rfl (Nat.zero_le _) ⟨by simp, fun j hj => by
    cases j with
    | zero => right; simp [h0]
    | succ j => left; rw [List.getElem?_cons_succ, List.getElem?_replicate, if_pos (by omega)]; rfl⟩ (by simp) (fun k x j hk => by omega)
  unfold verH
  rw [decide_eq_true hl, e]
  simp only [Bool.true_and, decide_eq_true_eq]
  rcases Nat.eq_zero_or_pos l.length with h | h
  · have hln : l = [] := List.eq_nil_of_length_eq_zero h
    subst hln
    rw [goH] at e
    cases e; rfl
  · rw [(K.kn l.length (Nat.le_refl _)).resolve_left (n h), he]
theorem jn_len (a b : List In) : (jn a b).length = a.length + b.length := by simp [jn]
theorem jn_l {a b : List In} {j : Nat} (h : j < a.length) : (jn a b)[j]? = a[j]? := by unfold jn; rw [List.getElem?_append_left h]
theorem jn_r {a b : List In} (k : Nat) : (jn a b)[a.length + k]? = (b[k]?).map (sh a.length) := by
  unfold jn; rw [List.getElem?_append_right (by omega), List.getElem?_map, Nat.add_sub_cancel_left]
/-- heights of both -/
def jH (H G : List Int) (la lb : Nat) : List Int := (List.range (la + lb + 1)).map (fun j => if j ≤ la then (H[j]?).getD 0 else (G[j - la]?).getD 0)
theorem jH_get {H G : List Int} {la lb j : Nat} (h : j ≤ la + lb) : ((jH H G la lb)[j]?).getD 0 = if j ≤ la then (H[j]?).getD 0 else (G[j - la]?).getD 0 := by
  unfold jH; rw [List.getElem?_map, List.getElem?_range (by omega)]; rfl
theorem jH_l {H G : List Int} {la lb j : Nat} (h : j ≤ la) : ((jH H G la lb)[j]?).getD 0 = (H[j]?).getD 0 := by rw [jH_get (by omega), if_pos h]
theorem jH_r {H G : List Int} {la lb : Nat} (hH : (H[la]?).getD 0 = 0) (hG : (G[0]?).getD 0 = 0) {k : Nat} (h : k ≤ lb) : ((jH H G la lb)[la + k]?).getD 0 = (G[k]?).getD 0 := by
  rw [jH_get (by omega)]
  by_cases hk : k = 0
  · subst hk; rw [if_pos (by omega), Nat.add_zero, hH, hG]
  · rw [if_neg (by omega), Nat.add_sub_cancel_left]
theorem form_l {x : In} {j la m : Nat} {vars : Int} (hm : la ≤ m) (hf : formI x j la vars = true) : formI x j m vars = true := by
  unfold formI at hf ⊢
  simp only [Bool.and_eq_true] at hf ⊢
  refine ⟨hf.1, ?_, hf.2.2⟩
  have h2 := hf.2.1
  unfold btw2 at h2 ⊢
  simp only [Bool.and_eq_true, decide_eq_true_eq] at h2 ⊢
  unfold rgN at h2 ⊢
  split
  · rename_i h; rw [if_pos h] at h2; exact h2
  rename_i h1; rw [if_neg h1] at h2
  split
  · rename_i h; rw [if_pos h] at h2; exact h2
  rename_i h3; rw [if_neg h3] at h2
  split
  · rename_i h; rw [if_pos h] at h2; exact h2
  rename_i h4; rw [if_neg h4] at h2
  split
  · rename_i h; rw [if_pos h] at h2; simp only at h2 ⊢; omega
  · rename_i h; rw [if_neg h] at h2; exact h2
theorem form_r {x : In} {k la lb : Nat} {vars : Int} (hf : formI x k lb vars = true) : formI (sh la x) (la + k) (la + lb) vars = true := by
  by_cases h : x.op = 12 ∨ x.op = 13
  · have hn := form_n hf h
    unfold formI at hf ⊢
    rw [sh_op, sh_r]
    simp only [Bool.and_eq_true] at hf ⊢
    refine ⟨hf.1, ?_, hf.2.2⟩
    have h2 := hf.2.1
    unfold btw2 at h2 ⊢
    simp only [Bool.and_eq_true, decide_eq_true_eq] at h2 ⊢
    unfold rgN at h2 ⊢
    rw [sh_op, sh_j h]
    rw [if_neg (by omega), if_neg (by omega), if_neg (by omega), if_pos h] at h2 ⊢
    simp only at h2 ⊢
    omega
  · rw [sh_n h]
    unfold formI at hf ⊢
    simp only [Bool.and_eq_true] at hf ⊢
    refine ⟨hf.1, ?_, hf.2.2⟩
    have h2 := hf.2.1
    unfold btw2 rgN at h2 ⊢
    rw [if_neg h] at h2 ⊢
    exact h2
/-- both together are valid -/
theorem ver_jn {a b : List In} {vars : Int} (ha : verH a vars = true) (hb : verH b vars = true) (hl : a.length + b.length ≤ 4000) : verH (jn a b) vars = true := by
  obtain ⟨H, a1, a2, a3, a4⟩ := ver_full ha
  obtain ⟨G, b1, b2, b3, b4⟩ := ver_full hb
  refine ver_comp (G := jH H G a.length b.length) (by rw [jn_len]; exact hl) (by rw [jH_l (Nat.zero_le _), a1]) (by rw [jn_len, jH_r a2 b1 (Nat.le_refl _), b2]) (fun j x hx => ?_) (fun j h1 h2 => ?_)
  · rw [jn_len]
    rcases Nat.lt_or_ge j a.length with hj | hj
    · rw [jn_l hj] at hx
      obtain ⟨⟨k1, k2, k3, k4⟩, f⟩ := a3 j x hx
      refine ⟨⟨?_, ?_, fun h => ?_, fun h => ?_⟩, form_l (by omega) f⟩
      · rw [jH_l (by omega)]; exact k1
      · rw [jH_l (by omega)]; exact k2
      · rw [jH_l (by omega), jH_l (by omega)]; exact k3 h
      · rw [jH_l (form_n f h).2, jH_l (by omega)]; exact k4 h
    · obtain ⟨k, rfl⟩ : ∃ k, j = a.length + k := ⟨j - a.length, by omega⟩
      rw [jn_r] at hx
      cases hy : b[k]? with
      | none => rw [hy] at hx; cases hx
      | some y =>
        rw [hy] at hx
        cases hx
        have hk : k < b.length := (List.getElem?_eq_some_iff.1 hy).1
        obtain ⟨⟨k1, k2, k3, k4⟩, f⟩ := b3 k y hy
        refine ⟨⟨?_, ?_, fun h => ?_, fun h => ?_⟩, form_r f⟩
        · rw [jH_r a2 b1 (by omega), sh_op]; exact k1
        · rw [jH_r a2 b1 (by omega), sh_op]; exact k2
        · rw [sh_op] at h
          rw [show a.length + k + 1 = a.length + (k + 1) by omega, jH_r a2 b1 (by omega), jH_r a2 b1 (by omega), sh_op]; exact k3 h
        · rw [sh_op] at h
          have hn := form_n f h
          rw [sh_j h, show (y.n + (a.length : Int)).toNat = a.length + y.n.toNat by omega, jH_r a2 b1 hn.2, jH_r a2 b1 (by omega), sh_op]; exact k4 h
  · rw [jn_len] at h2
    rcases Nat.lt_or_ge a.length j with hj | hj
    · obtain ⟨k, rfl⟩ : ∃ k, j = a.length + k := ⟨j - a.length, by omega⟩
      obtain ⟨i, y, hy, ht⟩ := b4 k (by omega) (by omega)
      refine ⟨a.length + i, sh a.length y, by rw [jn_r, hy]; rfl, ?_⟩
      rcases ht with ⟨h, rfl⟩ | ⟨h, rfl⟩
      · exact .inl ⟨by rw [sh_op]; exact h, by omega⟩
      · have hn := form_n (b3 i y hy).2 h
        exact .inr ⟨by rw [sh_op]; exact h, by rw [sh_j h]; omega⟩
    · obtain ⟨i, y, hy, ht⟩ := a4 j h1 hj
      exact ⟨i, y, by rw [jn_l (List.getElem?_eq_some_iff.1 hy).1]; exact hy, ht⟩
end N
end Go.Proofs.YthgngkajdiclcaaDoor
