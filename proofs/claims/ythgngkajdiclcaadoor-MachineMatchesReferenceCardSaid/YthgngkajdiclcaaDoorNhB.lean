/- Package machine: a run of two handlers put together (mathematics alone). -/
import Derived.Test.YthgngkajdiclcaaDoorNhA
namespace Go.Proofs.YthgngkajdiclcaaDoor
set_option linter.unusedVariables false
set_option linter.unusedSimpArgs false
namespace N
open K
def mvC (m : Nat) (c : Cf × Int) : Cf × Int := (⟨c.1.s, c.1.st, m + c.1.at_⟩, c.2)
theorem psh_mv (m : Nat) (s st : List Int) (i : Nat) (r : Int × Int) : psh s st (m + i + 1) r = mvC m (psh s st (i + 1) r) := by
  unfold psh mvC; split <;> simp [Nat.add_assoc]
theorem step_mv {vs : List (Int × Int)} {ins : List Int} {x : In} {m i : Nat} {s st : List Int} (hn : x.op = 12 ∨ x.op = 13 → 0 ≤ x.n) : step vs ins (sh m x) (m + i) s st = mvC m (step vs ins x i s st) := by
  by_cases hj : x.op = 12 ∨ x.op = 13
  · have h0 := hn hj
    have ht : (sh m x).n.toNat = m + x.n.toNat := by rw [sh_j hj]; omega
    unfold step
    rw [sh_op, sh_r, ht]
    simp only [if_neg (show ¬ x.op = 1 by omega), if_neg (show ¬ x.op = 2 by omega), if_neg (show ¬ x.op = 3 by omega)]
    by_cases h13 : x.op = 13
    · simp only [if_pos h13]; rfl
    · simp only [if_neg h13]
      have h12 : x.op = 12 := by omega
      have h11 : ¬ x.op = 11 := by omega
      match s with
      | [] => rfl
      | [b] => simp only [if_neg h11]; rfl
      | b :: a :: r =>
        simp only [if_neg h11, if_pos h12]
        unfold mvC
        simp only
        split <;> rfl
  · rw [sh_n hj]
    have h13 : ¬ x.op = 13 := fun h => hj (.inr h)
    have h12 : ¬ x.op = 12 := fun h => hj (.inl h)
    unfold step
    split
    · exact psh_mv ..
    split
    · exact psh_mv ..
    split
    · exact psh_mv ..
    match s with
    | [] => rfl
    | [b] =>
      simp only
      split
      · split <;> rfl
      · rfl
    | b :: a :: r =>
      simp only
      split
      · split <;> rfl
      · exact psh_mv ..
theorem run_cnt {vs : List (Int × Int)} {ins : List Int} {l : List In} : ∀ (f i : Nat) (s st : List Int) (k : Nat), run vs ins l f i s st k = ((run vs ins l f i s st 0).1, k + (run vs ins l f i s st 0).2.1, (run vs ins l f i s st 0).2.2)
  | 0, _, _, _, _ => rfl
  | f + 1, i, s, st, k => by
    rw [run, run]
    cases hx : l[i]? with
    | none => rfl
    | some x =>
      simp only
      split
      · rw [run_cnt f _ _ _ (k + 1), run_cnt f _ _ _ (0 + 1)]
        simp only [Prod.mk.injEq, true_and, and_true]
        omega
      · simp
/-- more steps than there are instructions change nothing -/
theorem run_more {H : List Int} {vs : List (Int × Int)} {ins : List Int} {l : List In} (hH : Hts H vs.length l) : ∀ (f d i : Nat) (s st : List Int) (k : Nat), Inv H vs l i s st → l.length ≤ i + f → run vs ins l (f + d) i s st k = run vs ins l f i s st k
  | 0, d, i, s, st, k, hI, hf => by rw [run_end (by omega), run_end (by omega)]
  | f + 1, d, i, s, st, k, hI, hf => by
    rcases Nat.lt_or_ge i l.length with hi | hi
    · have hx : l[i]? = some l[i] := List.getElem?_eq_getElem hi
      generalize l[i] = x at hx
      rcases hs : step vs ins x i s st with ⟨c, er⟩
      rw [show f + 1 + d = f + d + 1 by omega]
      rcases step_inv hH hI hx hs with ⟨rfl, hI2, hlt⟩ | he
      · rw [run_ok hx hs, run_ok hx hs]
        exact run_more hH f d c.at_ c.s c.st (k + 1) hI2 (by omega)
      · rw [run_er hx hs (by omega), run_er hx hs (by omega)]
    · rw [run_end hi, run_end hi]
/-- the second one's part -/
theorem run_r {G : List Int} {vs : List (Int × Int)} {ins : List Int} {a b : List In} (hG : Hts G vs.length b) : ∀ (f i : Nat) (s st : List Int) (k : Nat), Inv G vs b i s st → run vs ins (jn a b) f (a.length + i) s st k = run vs ins b f i s st k
  | 0, i, s, st, k, hI => rfl
  | f + 1, i, s, st, k, hI => by
    rcases Nat.lt_or_ge i b.length with hi | hi
    · have hx : b[i]? = some b[i] := List.getElem?_eq_getElem hi
      generalize b[i] = x at hx
      have hy : (jn a b)[a.length + i]? = some (sh a.length x) := by rw [jn_r, hx]; rfl
      rcases hs : step vs ins x i s st with ⟨c, er⟩
      have h2 : step vs ins (sh a.length x) (a.length + i) s st = (⟨c.s, c.st, a.length + c.at_⟩, er) := by
        rw [step_mv (fun h => by have := form_n (hG.nx i x hx).2 h; omega), hs]; rfl
      rcases step_inv hG hI hx hs with ⟨rfl, hI2, hlt⟩ | he
      · rw [run_ok hx hs, run_ok hy h2]
        exact run_r hG f c.at_ c.s c.st (k + 1) hI2
      · rw [run_er hx hs (by omega), run_er hy h2 (by omega)]
    · rw [run_end hi, run_end (by rw [jn_len]; omega)]
theorem run_j {H G : List Int} {vs : List (Int × Int)} {ins : List Int} {a b : List In} (hH : Hts H vs.length a) (hG : Hts G vs.length b) : ∀ (f i : Nat) (s st : List Int) (k : Nat), Inv H vs a i s st → a.length + b.length ≤ i + f →
    run vs ins (jn a b) f i s st k = if (run vs ins a f i s st k).2.2 = 0 then run vs ins b b.length 0 [] (run vs ins a f i s st k).1 (run vs ins a f i s st k).2.1 else run vs ins a f i s st k
  | 0, i, s, st, k, hI, hf => by
    have := hI.at_
    rw [run_end (l := jn a b) (by rw [jn_len]; omega), run_end (l := a) (by omega)]
    simp only [if_true]
    rw [run_end (by omega)]
  | f + 1, i, s, st, k, hI, hf => by
    rcases Nat.lt_or_ge i a.length with hi | hi
    · have hx : a[i]? = some a[i] := List.getElem?_eq_getElem hi
      generalize a[i] = x at hx
      have hy : (jn a b)[i]? = some x := by rw [jn_l hi, hx]
      rcases hs : step vs ins x i s st with ⟨c, er⟩
      rcases step_inv hH hI hx hs with ⟨rfl, hI2, hlt⟩ | he
      · rw [run_ok hx hs, run_ok hy hs]
        exact run_j hH hG f c.at_ c.s c.st (k + 1) hI2 (by omega)
      · rw [run_er hx hs (by omega), run_er hy hs (by omega)]
        simp only
        rw [if_neg (by omega)]
    · have h1 := hI.at_
      obtain rfl : i = a.length := by omega
      rw [run_end (l := a) (Nat.le_refl _)]
      simp only [if_true]
      have hs0 : s = [] := by
        have := hI.h
        rw [hH.he] at this
        exact List.eq_nil_of_length_eq_zero (by omega)
      subst hs0
      have hI2 : Inv G vs b 0 [] st := ⟨Nat.zero_le _, by rw [hG.h0]; rfl, by simp, hI.tv, hI.len⟩
      have := run_r (ins := ins) (a := a) hG (f + 1) 0 [] st k hI2
      rw [show a.length + 0 = a.length from rfl] at this
      rw [this]
      obtain ⟨d, hd⟩ : ∃ d, f + 1 = b.length + d := ⟨f + 1 - b.length, by omega⟩
      rw [hd, run_more hG b.length d 0 [] st k hI2 (by omega)]
/-- a run of both from the beginning -/
theorem run0_j {H G : List Int} {vs : List (Int × Int)} {ins : List Int} {a b : List In} {st : List Int} (hH : Hts H vs.length a) (hG : Hts G vs.length b) (htv : ∀ n ∈ st, vN n = true) (hst : st.length = vs.length) :
    run0 vs ins (jn a b) st = if (run0 vs ins a st).2.2 = 0 then ((run0 vs ins b (run0 vs ins a st).1).1, (run0 vs ins a st).2.1 + (run0 vs ins b (run0 vs ins a st).1).2.1, (run0 vs ins b (run0 vs ins a st).1).2.2) else run0 vs ins a st := by
  have hI : Inv H vs a 0 [] st := ⟨Nat.zero_le _, by rw [hH.h0]; rfl, by simp, htv, hst⟩
  unfold run0
  rw [run_j hH hG (jn a b).length 0 [] st 0 hI (by rw [jn_len]; omega), jn_len, run_more hH a.length b.length 0 [] st 0 hI (by omega)]
  split
  · rw [run_cnt]
  · rfl
theorem verC_at {hs : List Hd} {vars : Int} (h : verC hs vars = true) {k : Nat} {x : Hd} (hk : hs[k]? = some x) : verH x.l vars = true := by
  unfold verC verAll at h
  simp only [Bool.and_eq_true, List.all_eq_true] at h
  exact h.2 x (List.mem_of_getElem? hk)
theorem verC_set {hs : List Hd} {vars : Int} (h : verC hs vars = true) {k : Nat} {x : Hd} (hx : verH x.l vars = true) : verC (hs.set k x) vars = true := by
  unfold verC verAll at h ⊢
  simp only [Bool.and_eq_true, List.all_eq_true] at h ⊢
  refine ⟨h.1, fun y hy => ?_⟩
  rcases List.mem_or_eq_of_mem_set hy with h2 | rfl
  · exact h.2 y h2
  · exact hx
/-- what both handlers put together lead to -/
theorem parts_facts {vs : List (Int × Int)} {hs gs : List Hd} {st : List Int} {k : Nat} {i0 i1 i2 i3 : Int} {x y z : Hd} (hl : hs.length = 5) (gl : gs.length = 5) (hkx : hs[k]? = some x) (hky : gs[k]? = some y) (hz : z.l = jn x.l y.l) (hxl : x.l.length ≤ 2000) (hyl : y.l.length ≤ 2000)
    (h : fitB vs hs st k i0 i1 i2 i3 = true) (hd : verC gs vs.length = true) :
    ((runF vs hs st k i0 i1 i2 i3).2 ≠ 0 ∧ (runF vs (hs.set k z) st k i0 i1 i2 i3).2 = (runF vs hs st k i0 i1 i2 i3).2 ∧ (stepsF vs (hs.set k z) st k i0 i1 i2 i3).1 = (stepsF vs hs st k i0 i1 i2 i3).1) ∨
    ((runF vs hs st k i0 i1 i2 i3).2 = 0 ∧ runF vs (hs.set k z) st k i0 i1 i2 i3 = runF vs gs (runF vs hs st k i0 i1 i2 i3).1 k i0 i1 i2 i3 ∧ (stepsF vs (hs.set k z) st k i0 i1 i2 i3).1 = (stepsF vs hs st k i0 i1 i2 i3).1 + (stepsF vs gs (runF vs hs st k i0 i1 i2 i3).1 k i0 i1 i2 i3).1) := by
  have hk5 : k < 5 := by have := (List.getElem?_eq_some_iff.1 hkx).1; omega
  have hff := run_facts hl hkx h
  have h' := h
  unfold fitB at h'
  simp only [Bool.and_eq_true] at h'
  obtain ⟨⟨hv, hs2⟩, hc⟩ := h'
  have hzv : verH z.l vs.length = true := by rw [hz]; exact ver_jn (verC_at hv hkx) (verC_at hd hky) (by omega)
  have hb : fitB vs (hs.set k z) st k i0 i1 i2 i3 = true := by
    unfold fitB
    simp only [Bool.and_eq_true]
    exact ⟨⟨verC_set hv hzv, hs2⟩, hc⟩
  have hkz : (hs.set k z)[k]? = some z := by rw [List.getElem?_set_self (by omega)]
  obtain ⟨-, H, a1, a2, a3⟩ := ver_spec (verC_at hv hkx)
  obtain ⟨-, G, b1, b2, b3⟩ := ver_spec (verC_at hd hky)
  unfold stB at hs2
  simp only [Bool.and_eq_true, decide_eq_true_eq] at hs2
  have hj := run0_j (ins := [i0, i1, i2, i3]) (a := x.l) (b := y.l) ⟨a1, a2, a3⟩ ⟨b1, b2, b3⟩ (inLB_v hs2.1 hs2.2) hs2.1
  rw [← hz] at hj
  have hR : runF vs hs st k i0 i1 i2 i3 = if (run0 vs [i0, i1, i2, i3] x.l st).2.2 = 0 then ((run0 vs [i0, i1, i2, i3] x.l st).1, 0) else ([], (run0 vs [i0, i1, i2, i3] x.l st).2.2) := by
    unfold runF; rw [h, Int.toNat_natCast, hkx]; rfl
  have hS : stepsF vs hs st k i0 i1 i2 i3 = ((((run0 vs [i0, i1, i2, i3] x.l st).2.1 : Nat) : Int), 0) := by
    unfold stepsF; rw [h, Int.toNat_natCast, hkx]; rfl
  have hR2 : runF vs (hs.set k z) st k i0 i1 i2 i3 = if (run0 vs [i0, i1, i2, i3] z.l st).2.2 = 0 then ((run0 vs [i0, i1, i2, i3] z.l st).1, 0) else ([], (run0 vs [i0, i1, i2, i3] z.l st).2.2) := by
    unfold runF; rw [hb, Int.toNat_natCast, hkz]; rfl
  have hS2 : stepsF vs (hs.set k z) st k i0 i1 i2 i3 = ((((run0 vs [i0, i1, i2, i3] z.l st).2.1 : Nat) : Int), 0) := by
    unfold stepsF; rw [hb, Int.toNat_natCast, hkz]; rfl
  by_cases h0 : (run0 vs [i0, i1, i2, i3] x.l st).2.2 = 0
  · right
    rw [if_pos h0] at hR hj
    have hst2 : stB vs (run0 vs [i0, i1, i2, i3] x.l st).1 = true := by
      rcases hff.2.2.2.2 with h5 | h5
      · have := h5.2.1; rw [hR] at this; exact this
      · have := h5.1; rw [hR] at this; simp only at this; omega
    rw [hR]
    simp only
    have hg : fitB vs gs (run0 vs [i0, i1, i2, i3] x.l st).1 k i0 i1 i2 i3 = true := by
      unfold fitB
      simp only [Bool.and_eq_true]
      exact ⟨⟨hd, hst2⟩, hc⟩
    refine ⟨trivial, ?_, ?_⟩
    · rw [hR2, hj]
      unfold runF
      rw [hg, Int.toNat_natCast, hky]
      rfl
    · rw [hS2, hS, hj]
      unfold stepsF
      rw [hg, Int.toNat_natCast, hky]
      simp
  · left
    rw [if_neg h0] at hR hj
    rw [hR2, hS2, hS, hR, hj, if_neg h0]
    exact ⟨h0, rfl, rfl⟩
end N
end Go.Proofs.YthgngkajdiclcaaDoor
