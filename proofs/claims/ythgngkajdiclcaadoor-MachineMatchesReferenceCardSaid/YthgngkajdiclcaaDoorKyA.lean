/- Package code: Verify as a function, and what valid code is (mathematics alone). -/
import Derived.ProofKit
namespace Go.Proofs.YthgngkajdiclcaaDoor
set_option linter.unusedVariables false
set_option linter.unusedSimpArgs false
namespace K
/-- an instruction -/
structure In where
  op : Int
  n : Int
  r : Int
def tko (op : Int) : Int := if op ≤ 3 then 0 else if op = 11 then 1 else if op = 13 then 0 else 2
def pt (op : Int) : Int := if op ≤ 3 then 1 else if op = 11 then 0 else if op = 12 then 0 else if op = 13 then 0 else 1
/-- from which to which number N may be -/
def rgN (x : In) (i many : Nat) (vars : Int) : Int × Int :=
  if x.op = 1 then (-1000000000000, 1000000000000) else if x.op = 2 ∨ x.op = 11 then (0, vars - 1) else if x.op = 3 then (0, 3) else if x.op = 12 ∨ x.op = 13 then ((i : Int) + 1, many) else (0, 0)
def btw2 (n : Int) (s : Int × Int) : Bool := decide (s.1 ≤ n) && decide (n ≤ s.2)
def formI (x : In) (i many : Nat) (vars : Int) : Bool := btw2 x.op (1, 13) && (btw2 x.n (rgN x i many vars) && btw2 x.r (if x.op = 12 then (1, 6) else (0, 0)))
/-- a height for an index -/
def reach (hs : List Int) (i : Nat) (h : Int) : List Int × Bool :=
  if (hs[i]?).getD 0 = -1 then (hs.set i h, decide (h ≤ 64)) else (hs, decide ((hs[i]?).getD 0 = h) && decide (h ≤ 64))
def soundI (hs : List Int) (x : In) (i : Nat) : List Int × Bool :=
  if (hs[i]?).getD 0 - tko x.op < 0 then (hs, false)
  else if x.op = 12 then (match reach hs (i + 1) ((hs[i]?).getD 0 - tko x.op + pt x.op) with
    | (h2, true) => reach h2 x.n.toNat ((hs[i]?).getD 0 - tko x.op + pt x.op)
    | (h2, false) => (h2, false))
  else if x.op = 13 then reach hs x.n.toNat ((hs[i]?).getD 0 - tko x.op + pt x.op)
  else reach hs (i + 1) ((hs[i]?).getD 0 - tko x.op + pt x.op)
/-- the instructions from i on; none: one of them is not right -/
def goH (vars : Int) (many : Nat) : List Int → Nat → List In → Option (List Int)
  | hs, _, [] => some hs
  | hs, i, x :: xs => if formI x i many vars = true then (match soundI hs x i with
    | (h2, true) => goH vars many h2 (i + 1) xs
    | (_, false) => none) else none
def verH (l : List In) (vars : Int) : Bool :=
  decide (l.length ≤ 4000) && (match goH vars l.length ((0 : Int) :: List.replicate l.length (-1)) 0 l with
    | some hs => decide ((hs[l.length]?).getD 0 = 0)
    | none => false)
/-- known heights stay -/
def Ext (a b : List Int) : Prop := a.length = b.length ∧ ∀ i, i < a.length → (a[i]?).getD 0 ≠ -1 → (b[i]?).getD 0 = (a[i]?).getD 0
theorem Ext.refl (a : List Int) : Ext a a := ⟨rfl, fun _ _ _ => rfl⟩
theorem Ext.trans {a b c : List Int} (h : Ext a b) (k : Ext b c) : Ext a c :=
  ⟨h.1.trans k.1, fun i hi hn => by
    have h1 := h.2 i hi hn
    rw [← h1]
    exact k.2 i (by rw [← h.1]; exact hi) (by rw [h1]; exact hn)⟩
theorem reach_ext {hs h2 : List Int} {i : Nat} {h : Int} {b : Bool} (e : reach hs i h = (h2, b)) : Ext hs h2 := by
  unfold reach at e
  split at e
  · rename_i h1
    cases e
    refine ⟨by simp, fun j hj hn => ?_⟩
    by_cases hij : i = j
    · subst hij; exact absurd h1 hn
    · rw [List.getElem?_set_ne hij]
  · cases e; exact Ext.refl _
theorem reach_at {hs h2 : List Int} {i : Nat} {h : Int} (hi : i < hs.length) (e : reach hs i h = (h2, true)) : (h2[i]?).getD 0 = h ∧ h ≤ 64 := by
  unfold reach at e
  split at e
  · obtain ⟨rfl, h3⟩ := Prod.mk.inj e
    exact ⟨by simp [hi], of_decide_eq_true h3⟩
  · obtain ⟨rfl, h3⟩ := Prod.mk.inj e
    rw [Bool.and_eq_true, decide_eq_true_eq, decide_eq_true_eq] at h3
    exact h3
/-- what an instruction leaves, where the run can continue -/
def Nx (H : List Int) (x : In) (i : Nat) : Prop :=
  tko x.op ≤ (H[i]?).getD 0 ∧ (H[i]?).getD 0 - tko x.op + pt x.op ≤ 64 ∧ (x.op ≠ 13 → (H[i + 1]?).getD 0 = (H[i]?).getD 0 - tko x.op + pt x.op) ∧ (x.op = 12 ∨ x.op = 13 → (H[x.n.toNat]?).getD 0 = (H[i]?).getD 0 - tko x.op + pt x.op)
theorem tko_pos (op : Int) : 0 ≤ tko op := by unfold tko; split <;> (try split) <;> (try split) <;> omega
theorem pt_pos (op : Int) : 0 ≤ pt op := by unfold pt; split <;> (try split) <;> (try split) <;> (try split) <;> omega
theorem Nx.ext {a H : List Int} {x : In} {i : Nat} (h : Nx a x i) (hi : i + 1 < a.length) (hn : x.op = 12 ∨ x.op = 13 → x.n.toNat < a.length) (he : Ext a H) : Nx H x i := by
  obtain ⟨h1, h2, h3, h4⟩ := h
  have t1 := tko_pos x.op
  have t2 := pt_pos x.op
  have e0 := he.2 i (by omega) (by omega)
  refine ⟨by omega, by omega, fun h => ?_, fun h => ?_⟩
  · have k := h3 h
    have e1 := he.2 (i + 1) hi (by omega)
    omega
  · have k := h4 h
    have e1 := he.2 x.n.toNat (hn h) (by omega)
    omega
theorem form_n {x : In} {i many : Nat} {vars : Int} (hf : formI x i many vars = true) (h : x.op = 12 ∨ x.op = 13) : i < x.n.toNat ∧ x.n.toNat ≤ many := by
  unfold formI at hf
  simp only [Bool.and_eq_true, btw2, decide_eq_true_eq] at hf
  have h2 := hf.2.1
  unfold rgN at h2
  rw [if_neg (by omega), if_neg (by omega), if_neg (by omega), if_pos h] at h2
  simp only at h2
  omega
theorem sound_spec {hs h2 : List Int} {x : In} {i many : Nat} {vars : Int} (hl : hs.length = many + 1) (hi : i < many) (hf : formI x i many vars = true) (e : soundI hs x i = (h2, true)) : Ext hs h2 ∧ Nx h2 x i := by
  have t1 := tko_pos x.op
  have t2 := pt_pos x.op
  unfold soundI at e
  split at e
  · cases e
  rename_i h0
  generalize hh : (hs[i]?).getD 0 - tko x.op + pt x.op = h at e
  have fin : ∀ {h3 : List Int}, Ext hs h3 → (h3[i]?).getD 0 = (hs[i]?).getD 0 := fun he => he.2 i (by omega) (by omega)
  split at e
  · rename_i h12
    have hn := form_n hf (.inl h12)
    rcases hr : reach hs (i + 1) h with ⟨h3, b⟩
    rw [hr] at e
    cases b with
    | false => cases e
    | true =>
      simp only at e
      have e1 := reach_ext hr
      have e2 := reach_ext e
      have a1 := reach_at (by omega) hr
      have a2 := reach_at (by rw [← e1.1]; omega) e
      have ee := e1.trans e2
      have k1 := e2.2 (i + 1) (by rw [← e1.1]; omega) (by omega)
      have f := fin ee
      refine ⟨ee, ?_, ?_, fun _ => ?_, fun _ => ?_⟩ <;> omega
  · rename_i h12
    split at e
    · rename_i h13
      have hn := form_n hf (.inr h13)
      have e1 := reach_ext e
      have a1 := reach_at (by omega) e
      have f := fin e1
      refine ⟨e1, by omega, by omega, fun h => absurd h13 h, fun _ => by omega⟩
    · rename_i h13
      have e1 := reach_ext e
      have a1 := reach_at (by omega) e
      have f := fin e1
      refine ⟨e1, by omega, by omega, fun _ => by omega, fun h => ?_⟩
      rcases h with h | h
      · exact absurd h h12
      · exact absurd h h13
theorem go_spec {vars : Int} {many : Nat} {H : List Int} : ∀ (xs : List In) (hs : List Int) (i : Nat), hs.length = many + 1 → i + xs.length = many → goH vars many hs i xs = some H →
    Ext hs H ∧ ∀ (j : Nat) (x : In), xs[j]? = some x → Nx H x (i + j) ∧ formI x (i + j) many vars = true
  | [], hs, i, hl, hm, e => by
    rw [goH] at e
    cases e
    exact ⟨Ext.refl _, fun j x hx => by simp at hx⟩
  | x :: xs, hs, i, hl, hm, e => by
    rw [goH] at e
    simp only [List.length_cons] at hm
    split at e
    · rename_i hf
      rcases hs2 : soundI hs x i with ⟨h2, b⟩
      rw [hs2] at e
      cases b with
      | false => cases e
      | true =>
        simp only at e
        obtain ⟨e1, n1⟩ := sound_spec hl (by omega) hf hs2
        obtain ⟨e2, r⟩ := go_spec xs h2 (i + 1) (by rw [← e1.1]; exact hl) (by omega) e
        refine ⟨e1.trans e2, fun j y hy => ?_⟩
        cases j with
        | zero =>
          simp only [List.getElem?_cons_zero, Option.some.injEq] at hy
          subst hy
          exact ⟨n1.ext (by rw [← e1.1]; omega) (fun h => by have := form_n hf h; rw [← e1.1]; omega) e2, hf⟩
        | succ j =>
          have := r j y (by simpa using hy)
          rw [show i + (j + 1) = i + 1 + j by omega]
          exact this
    · cases e
/-- valid code: heights for all instructions and the end -/
theorem ver_spec {l : List In} {vars : Int} (h : verH l vars = true) : l.length ≤ 4000 ∧ ∃ H : List Int, (H[0]?).getD 0 = 0 ∧ (H[l.length]?).getD 0 = 0 ∧ ∀ (j : Nat) (x : In), l[j]? = some x → Nx H x j ∧ formI x j l.length vars = true := by
  unfold verH at h
  rw [Bool.and_eq_true, decide_eq_true_eq] at h
  refine ⟨h.1, ?_⟩
  rcases hg : goH vars l.length ((0 : Int) :: List.replicate l.length (-1)) 0 l with _ | H
  · rw [hg] at h; cases h.2
  · rw [hg] at h
    obtain ⟨e, r⟩ := go_spec l _ 0 (by simp) (by omega) hg
    refine ⟨H, ?_, of_decide_eq_true h.2, fun j x hx => by simpa using r j x hx⟩
    exact e.2 0 (by simp) (by simp)
end K
end Go.Proofs.YthgngkajdiclcaaDoor
