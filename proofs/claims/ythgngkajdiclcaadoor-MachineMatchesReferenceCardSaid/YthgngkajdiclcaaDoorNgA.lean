/- Package machine: what a run of valid code keeps and leaves (mathematics). -/
import Derived.Test.YthgngkajdiclcaaDoorNdF
namespace Go.Proofs.YthgngkajdiclcaaDoor
set_option linter.unusedVariables false
set_option linter.unusedSimpArgs false
namespace N
open K
theorem inLB_set {vs : List (Int × Int)} {st : List Int} (h : inLB vs st = true) (k : Nat) (b : Int) (hb : vN b = true) (hv : btw2 b ((vs[k]?).getD (0, 0)) = true) : inLB vs (st.set k b) = true := by
  induction st generalizing vs k with
  | nil => simpa using h
  | cons a st ih =>
    cases vs with
    | nil => cases k <;> rfl
    | cons v vs =>
      simp only [inLB, Bool.and_eq_true] at h
      cases k with
      | zero =>
        simp only [List.set_cons_zero, inLB, Bool.and_eq_true]
        exact ⟨⟨hb, by simpa using hv⟩, h.2⟩
      | succ k =>
        simp only [List.set_cons_succ, inLB, Bool.and_eq_true]
        exact ⟨h.1, ih h.2 k (by simpa using hv)⟩
theorem step_st {vs : List (Int × Int)} {ins : List Int} {x : In} {i : Nat} {s st : List Int} (hs : ∀ n ∈ s, vN n = true) : (step vs ins x i s st).1.st = st ∨ (x.op = 11 ∧ ∃ b, (step vs ins x i s st).1.st = st.set x.n.toNat b ∧ vN b = true ∧ btw2 b ((vs[x.n.toNat]?).getD (0, 0)) = true) := by
  have hp : ∀ (s1 : List Int) (a : Nat) (r : Int × Int), (psh s1 st a r).1.st = st := fun s1 a r => by unfold psh; split <;> rfl
  unfold step
  split
  · exact .inl (hp _ _ _)
  split
  · exact .inl (hp _ _ _)
  split
  · exact .inl (hp _ _ _)
  split
  · exact .inl rfl
  match s, hs with
  | [], _ => exact .inl rfl
  | b :: r1, hs =>
    simp only
    split
    · rename_i h11
      split
      · rename_i hb
        exact .inr ⟨h11, b, rfl, hs b (List.mem_cons_self ..), hb⟩
      · exact .inl rfl
    · match r1 with
      | [] => exact .inl rfl
      | a :: r =>
        simp only
        split
        · exact .inl rfl
        · exact .inl (hp _ _ _)
/-- a number of the state that no instruction stores is as before -/
def Kept (l : List In) (a b : List Int) : Prop := ∀ j : Nat, (∃ x ∈ l, x.op = 11 ∧ x.n = j) ∨ a[j]? = b[j]?
theorem step_kept {vs : List (Int × Int)} {ins : List Int} {l : List In} {x : In} {i many : Nat} {vars : Int} {s st : List Int} (hx : x ∈ l) (hf : formI x i many vars = true) (hs : ∀ n ∈ s, vN n = true) : Kept l (step vs ins x i s st).1.st st := by
  rcases step_st (vs := vs) (ins := ins) (x := x) (i := i) (st := st) hs with h | ⟨h11, b, h, -, -⟩
  · rw [h]; exact fun j => .inr rfl
  · rw [h]
    intro j
    by_cases hj : x.n.toNat = j
    · have := form_var hf (.inr h11)
      exact .inl ⟨x, hx, h11, by omega⟩
    · exact .inr (List.getElem?_set_ne hj)
theorem run_spec {H : List Int} {vs : List (Int × Int)} {ins : List Int} {l : List In} (hH : Hts H vs.length l) : ∀ (f i : Nat) (s st : List Int) (k : Nat), Inv H vs l i s st → inLB vs st = true → l.length ≤ i + f →
    k ≤ (run vs ins l f i s st k).2.1 ∧ (run vs ins l f i s st k).2.1 + i ≤ k + l.length ∧ (i < l.length → k < (run vs ins l f i s st k).2.1) ∧
    ((run vs ins l f i s st k).2.2 = 0 ∨ (run vs ins l f i s st k).2.2 = 3 ∨ (run vs ins l f i s st k).2.2 = 14 ∨ (run vs ins l f i s st k).2.2 = 15) ∧
    ((run vs ins l f i s st k).2.2 = 0 → inLB vs (run vs ins l f i s st k).1 = true) ∧ Kept l (run vs ins l f i s st k).1 st
  | 0, i, s, st, k, hI, hb, hf => by
    have := hI.at_
    rw [run]
    exact ⟨Nat.le_refl _, by simp only; omega, fun h => by omega, .inl rfl, fun _ => hb, fun j => .inr rfl⟩
  | f + 1, i, s, st, k, hI, hb, hf => by
    rcases Nat.lt_or_ge i l.length with hi | hi
    · have hx : l[i]? = some l[i] := List.getElem?_eq_getElem hi
      have hm : l[i] ∈ l := List.getElem_mem hi
      generalize l[i] = x at hx hm
      obtain ⟨n1, f1⟩ := hH.nx i x hx
      rcases hs : step vs ins x i s st with ⟨c, er⟩
      have hk := step_kept (vs := vs) (ins := ins) (st := st) hm f1 hI.sv
      rw [hs] at hk
      rcases step_inv hH hI hx hs with ⟨rfl, hI2, hlt⟩ | he
      · rw [run_ok hx hs]
        have hb2 : inLB vs c.st = true := by
          rcases step_st (vs := vs) (ins := ins) (x := x) (i := i) (st := st) hI.sv with h | ⟨h11, b, h, hv, hw⟩
          · rw [hs] at h; rw [show c.st = st from h]; exact hb
          · rw [hs] at h; rw [show c.st = st.set x.n.toNat b from h]; exact inLB_set hb _ _ hv hw
        obtain ⟨a1, a2, a3, a4, a5, a6⟩ := run_spec hH f c.at_ c.s c.st (k + 1) hI2 hb2 (by omega)
        have := hI2.at_
        refine ⟨by omega, by omega, fun _ => by omega, a4, a5, fun j => ?_⟩
        rcases a6 j with h | h
        · exact .inl h
        · rcases hk j with h2 | h2
          · exact .inl h2
          · exact .inr (h.trans h2)
      · rw [run_er hx hs (by omega)]
        exact ⟨Nat.le_succ k, by simp only; omega, fun _ => Nat.lt_succ_self k, .inr he, fun h => by simp only at h; omega, hk⟩
    · rw [run_end hi]
      have := hI.at_
      exact ⟨Nat.le_refl _, by simp only; omega, fun h => by omega, .inl rfl, fun _ => hb, fun j => .inr rfl⟩
/-- what a valid run leads to -/
theorem run_facts {vs : List (Int × Int)} {hs : List Hd} {st : List Int} {k : Nat} {i0 i1 i2 i3 : Int} {x : Hd} (hl : hs.length = 5) (hkx : hs[k]? = some x) (h : fitB vs hs st k i0 i1 i2 i3 = true) :
    (stepsF vs hs st k i0 i1 i2 i3).2 = 0 ∧ 0 ≤ (stepsF vs hs st k i0 i1 i2 i3).1 ∧ (stepsF vs hs st k i0 i1 i2 i3).1 ≤ x.l.length ∧ (1 ≤ (stepsF vs hs st k i0 i1 i2 i3).1 ∨ x.l.length = 0) ∧
    (((runF vs hs st k i0 i1 i2 i3).2 = 0 ∧ stB vs (runF vs hs st k i0 i1 i2 i3).1 = true ∧ (runF vs hs st k i0 i1 i2 i3).1.length = st.length ∧ Kept x.l (runF vs hs st k i0 i1 i2 i3).1 st) ∨
     (((runF vs hs st k i0 i1 i2 i3).2 = 3 ∨ (runF vs hs st k i0 i1 i2 i3).2 = 14 ∨ (runF vs hs st k i0 i1 i2 i3).2 = 15) ∧ (runF vs hs st k i0 i1 i2 i3).1 = [])) := by
  obtain ⟨k2, y, H, hek, hky, hk5, hH, hl4, hst, htv, hym⟩ := fit_open hl h
  obtain rfl : k = k2 := by omega
  obtain rfl : y = x := Option.some.inj (hky.symm.trans hkx)
  have hin : inLB vs st = true := by
    unfold fitB stB at h
    simp only [Bool.and_eq_true] at h
    exact h.1.2.2
  have hI : Inv H vs y.l 0 [] st := ⟨Nat.zero_le _, by rw [hH.h0]; rfl, by simp, htv, hst⟩
  obtain ⟨a1, a2, a3, a4, a5, a6⟩ := run_spec (ins := [i0, i1, i2, i3]) hH y.l.length 0 [] st 0 hI hin (by omega)
  have hlen := run_len (vs := vs) (ins := [i0, i1, i2, i3]) (l := y.l) y.l.length 0 [] st 0
  unfold stepsF runF
  rw [h, Int.toNat_natCast, hkx]
  simp only [if_true, Option.getD_some]
  unfold run0
  refine ⟨trivial, by omega, by omega, ?_, ?_⟩
  · rcases Nat.eq_zero_or_pos y.l.length with h0 | h0
    · exact .inr h0
    · exact .inl (by have := a3 h0; omega)
  · by_cases he : (run vs [i0, i1, i2, i3] y.l y.l.length 0 [] st 0).2.2 = 0
    · rw [if_pos he]
      exact .inl ⟨rfl, by unfold stB; rw [a5 he]; simp only [Bool.and_true, decide_eq_true_eq]; rw [hlen, hst], hlen, a6⟩
    · rw [if_neg he]
      exact .inr ⟨a4.resolve_left he, rfl⟩
end N
end Go.Proofs.YthgngkajdiclcaaDoor
