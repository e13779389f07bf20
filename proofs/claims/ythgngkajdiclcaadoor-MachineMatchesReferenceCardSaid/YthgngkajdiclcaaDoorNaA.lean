/- Package machine: the model of a run, and its mathematics (no program). -/
import Derived.Test.YthgngkajdiclcaaDoorIxA
import Derived.Test.YthgngkajdiclcaaDoorKyB
namespace Go.Proofs.YthgngkajdiclcaaDoor
set_option linter.unusedVariables false
set_option linter.unusedSimpArgs false
namespace N
open K
/-- a number that is pushed -/
def rng (n : Int) : Int × Int := if vN n = true then (n, 0) else (0, 3)
/-- the operations with two numbers -/
def clc (op a b : Int) : Int × Int :=
  if op = 4 then rng (a + b) else if op = 5 then rng (a - b) else if op = 6 then rng (a * b)
  else if op = 7 then (if b = 0 then (0, 14) else rng (a.fdiv b)) else if op = 8 then (if b = 0 then (0, 14) else rng (-((-a).fdiv b)))
  else if op = 9 then rng (min a b) else rng (max a b)
/-- two values are in a relation -/
def rlB (a r b : Int) : Bool :=
  if r = 1 then decide (a < b) else if r = 2 then decide (a ≤ b) else if r = 3 then decide (b < a) else if r = 4 then decide (b ≤ a) else if r = 5 then decide (a = b) else !decide (a = b)
/-- the stack (its top first), the state, the index -/
structure Cf where
  s : List Int
  st : List Int
  at_ : Nat
def gt (l : List Int) (n : Int) : Int := (l[n.toNat]?).getD 0
/-- a number on the stack, or an error -/
def psh (s st : List Int) (at_ : Nat) (r : Int × Int) : Cf × Int := if r.2 = 0 then (⟨r.1 :: s, st, at_⟩, 0) else (⟨s, st, at_⟩, r.2)
/-- one instruction, at index i; the error is 0, or that with which it fails -/
def step (vs : List (Int × Int)) (ins : List Int) (x : In) (i : Nat) (s st : List Int) : Cf × Int :=
  if x.op = 1 then psh s st (i + 1) (rng x.n)
  else if x.op = 2 then psh s st (i + 1) (rng (gt st x.n))
  else if x.op = 3 then psh s st (i + 1) (rng (gt ins x.n))
  else if x.op = 13 then (⟨s, st, x.n.toNat⟩, 0)
  else match s with
    | [] => (⟨s, st, i⟩, 1)
    | b :: r1 =>
      if x.op = 11 then (if btw2 b ((vs[x.n.toNat]?).getD (0, 0)) = true then (⟨r1, st.set x.n.toNat b, i + 1⟩, 0) else (⟨r1, st, i + 1⟩, 15))
      else match r1 with
        | [] => (⟨s, st, i⟩, 1)
        | a :: r =>
          if x.op = 12 then (⟨r, st, if rlB a x.r b = true then i + 1 else x.n.toNat⟩, 0)
          else psh r st (i + 1) (clc x.op a b)
/-- a run: the state, the number of instructions, the error -/
def run (vs : List (Int × Int)) (ins : List Int) (l : List In) : Nat → Nat → List Int → List Int → Nat → List Int × Nat × Int
  | 0, _, _, st, k => (st, k, 0)
  | f + 1, i, s, st, k => match l[i]? with
    | none => (st, k, 0)
    | some x => if (step vs ins x i s st).2 = 0 then run vs ins l f (step vs ins x i s st).1.at_ (step vs ins x i s st).1.s (step vs ins x i s st).1.st (k + 1) else ((step vs ins x i s st).1.st, k + 1, (step vs ins x i s st).2)
def run0 (vs : List (Int × Int)) (ins : List Int) (l : List In) (st : List Int) : List Int × Nat × Int := run vs ins l l.length 0 [] st 0
theorem run_end {vs : List (Int × Int)} {ins : List Int} {l : List In} {f i : Nat} {s st : List Int} {k : Nat} (h : l.length ≤ i) : run vs ins l f i s st k = (st, k, 0) := by
  cases f with
  | zero => rfl
  | succ f => rw [run, List.getElem?_eq_none h]
theorem run_ok {vs : List (Int × Int)} {ins : List Int} {l : List In} {f i : Nat} {s st : List Int} {k : Nat} {x : In} {c : Cf} (h : l[i]? = some x) (hs : step vs ins x i s st = (c, 0)) : run vs ins l (f + 1) i s st k = run vs ins l f c.at_ c.s c.st (k + 1) := by
  rw [run, h]; simp only [hs, if_true]
theorem run_er {vs : List (Int × Int)} {ins : List Int} {l : List In} {f i : Nat} {s st : List Int} {k : Nat} {x : In} {c : Cf} {e : Int} (h : l[i]? = some x) (hs : step vs ins x i s st = (c, e)) (he : e ≠ 0) : run vs ins l (f + 1) i s st k = (c.st, k + 1, e) := by
  rw [run, h]; simp only [hs, if_neg he]
theorem rng_v {n m e : Int} (h : rng n = (m, e)) : vN m = true := by
  unfold rng at h
  split at h
  · rename_i g; cases h; exact g
  · cases h; decide
theorem rng_e {n m e : Int} (h : rng n = (m, e)) : e = 0 ∨ e = 3 := by
  unfold rng at h
  split at h <;> cases h <;> simp
theorem clc_v {op a b m e : Int} (h : clc op a b = (m, e)) : vN m = true := by
  unfold clc at h
  repeat' split at h
  all_goals first | exact rng_v h | (cases h; decide)
theorem clc_e {op a b m e : Int} (h : clc op a b = (m, e)) : e = 0 ∨ e = 3 ∨ e = 14 := by
  unfold clc at h
  repeat' split at h
  all_goals first | (have := rng_e h; omega) | (cases h; simp)
/-- what a run keeps: the stack's height is the instruction's, its numbers are values, and those of the state -/
structure Inv (H : List Int) (vs : List (Int × Int)) (l : List In) (i : Nat) (s st : List Int) : Prop where
  at_ : i ≤ l.length
  h : (H[i]?).getD 0 = s.length
  sv : ∀ n ∈ s, vN n = true
  tv : ∀ n ∈ st, vN n = true
  len : st.length = vs.length
/-- heights of valid code -/
structure Hts (H : List Int) (vars : Int) (l : List In) : Prop where
  h0 : (H[0]?).getD 0 = 0
  he : (H[l.length]?).getD 0 = 0
  nx : ∀ (j : Nat) (x : In), l[j]? = some x → Nx H x j ∧ formI x j l.length vars = true
theorem form_op {x : In} {i many : Nat} {vars : Int} (hf : formI x i many vars = true) : 1 ≤ x.op ∧ x.op ≤ 13 := by
  unfold formI at hf
  simp only [Bool.and_eq_true, btw2, decide_eq_true_eq] at hf
  exact hf.1
theorem form_var {x : In} {i many : Nat} {vars : Int} (hf : formI x i many vars = true) (h : x.op = 2 ∨ x.op = 11) : 0 ≤ x.n ∧ x.n < vars := by
  unfold formI at hf
  simp only [Bool.and_eq_true, btw2, decide_eq_true_eq] at hf
  have h2 := hf.2.1
  unfold rgN at h2
  rw [if_neg (by omega), if_pos h] at h2
  simp only at h2
  omega
theorem form_in {x : In} {i many : Nat} {vars : Int} (hf : formI x i many vars = true) (h : x.op = 3) : 0 ≤ x.n ∧ x.n < 4 := by
  unfold formI at hf
  simp only [Bool.and_eq_true, btw2, decide_eq_true_eq] at hf
  have h2 := hf.2.1
  unfold rgN at h2
  rw [if_neg (by omega), if_neg (by omega), if_pos h] at h2
  simp only at h2
  omega
theorem form_push {x : In} {i many : Nat} {vars : Int} (hf : formI x i many vars = true) (h : x.op = 1) : vN x.n = true := by
  unfold formI at hf
  simp only [Bool.and_eq_true, btw2, decide_eq_true_eq] at hf
  have h2 := hf.2.1
  unfold rgN at h2
  rw [if_pos h] at h2
  simp only at h2
  rw [vN_iff]
  omega
theorem two_of {s : List Int} {t : Int} (h : 2 ≤ t) (hs : t = s.length) : ∃ b a r, s = b :: a :: r := by
  match s, hs with
  | [], hs => simp at hs; omega
  | [_], hs => simp at hs; omega
  | b :: a :: r, _ => exact ⟨b, a, r, rfl⟩
theorem one_of {s : List Int} {t : Int} (h : 1 ≤ t) (hs : t = s.length) : ∃ b r, s = b :: r := by
  match s, hs with
  | [], hs => simp at hs; omega
  | b :: r, _ => exact ⟨b, r, rfl⟩
/-- what an instruction finds -/
theorem takes_2 {op : Int} (h : 4 ≤ op ∧ op ≤ 10 ∨ op = 12) : tko op = 2 := by
  unfold tko; rw [if_neg (by omega), if_neg (by omega), if_neg (by omega)]
theorem takes_1 : tko 11 = 1 := rfl
/-- a step keeps it, and goes on -/
theorem step_inv {H : List Int} {vs : List (Int × Int)} {vars : Int} {ins : List Int} {l : List In} {i : Nat} {s st : List Int} {x : In} {c : Cf} {e : Int} (hH : Hts H vars l) (hI : Inv H vs l i s st) (hx : l[i]? = some x) (hs : step vs ins x i s st = (c, e)) :
    (e = 0 ∧ Inv H vs l c.at_ c.s c.st ∧ i < c.at_) ∨ (e = 3 ∨ e = 14 ∨ e = 15) := by
  obtain ⟨n1, f1⟩ := hH.nx i x hx
  have hop := form_op f1
  have hil : i < l.length := (List.getElem?_eq_some_iff.1 hx).1
  obtain ⟨k1, k2, k3, k4⟩ := n1
  have hh := hI.h
  have psh_inv : ∀ {s1 : List Int} {r : Int × Int}, x.op ≠ 13 → (∀ n ∈ s1, vN n = true) → (s1.length : Int) + 1 = (H[i]?).getD 0 - tko x.op + pt x.op → vN r.1 = true → (r.2 = 0 ∨ r.2 = 3 ∨ r.2 = 14) → psh s1 st (i + 1) r = (c, e) →
      (e = 0 ∧ Inv H vs l c.at_ c.s c.st ∧ i < c.at_) ∨ (e = 3 ∨ e = 14 ∨ e = 15) := by
    intro s1 r h13 hs1 hl hr he hp
    unfold psh at hp
    split at hp
    · cases hp
      refine .inl ⟨rfl, ⟨by simp only; omega, ?_, ?_, hI.tv, hI.len⟩, Nat.lt_succ_self _⟩
      · simp only [List.length_cons]; rw [k3 h13]; omega
      · intro n hn; rcases List.mem_cons.1 hn with rfl | hn
        · exact hr
        · exact hs1 n hn
    · cases hp
      rename_i h0
      right; omega
  unfold step at hs
  split at hs
  · rename_i h1
    refine psh_inv (by omega) hI.sv ?_ (rng_v rfl) (by have := rng_e (n := x.n) rfl; omega) hs
    rw [h1, hh]; simp [tko, pt]
  split at hs
  · rename_i h1
    refine psh_inv (by omega) hI.sv ?_ (rng_v rfl) (by have := rng_e (n := gt st x.n) rfl; omega) hs
    rw [h1, hh]; simp [tko, pt]
  split at hs
  · rename_i h1
    refine psh_inv (by omega) hI.sv ?_ (rng_v rfl) (by have := rng_e (n := gt ins x.n) rfl; omega) hs
    rw [h1, hh]; simp [tko, pt]
  split at hs
  · rename_i h1
    cases hs
    have hn := form_n f1 (.inr h1)
    refine .inl ⟨rfl, ⟨hn.2, ?_, hI.sv, hI.tv, hI.len⟩, hn.1⟩
    simp only
    rw [k4 (.inr h1), h1, hh]; simp [tko, pt]
  rename_i o1 o2 o3 o13
  by_cases h11 : x.op = 11
  · obtain ⟨b, r1, rfl⟩ := one_of (s := s) (t := (H[i]?).getD 0) (by rw [h11, takes_1] at k1; exact k1) hh
    simp only at hs
    rw [if_pos h11] at hs
    split at hs
    · cases hs
      refine .inl ⟨rfl, ⟨by simp only; omega, ?_, fun n hn => hI.sv n (List.mem_cons_of_mem _ hn), ?_, by simp [hI.len]⟩, Nat.lt_succ_self _⟩
      · simp only; rw [k3 (by omega), h11, hh]; simp [tko, pt]
      · intro n hn
        rcases List.mem_or_eq_of_mem_set hn with h | rfl
        · exact hI.tv n h
        · exact hI.sv n (List.mem_cons_self ..)
    · cases hs; right; omega
  · obtain ⟨b, a, r, rfl⟩ := two_of (s := s) (t := (H[i]?).getD 0) (by rw [takes_2 (by omega)] at k1; exact k1) hh
    simp only at hs
    rw [if_neg h11] at hs
    have hr : ∀ n ∈ r, vN n = true := fun n hn => hI.sv n (List.mem_cons_of_mem _ (List.mem_cons_of_mem _ hn))
    split at hs
    · rename_i h12
      cases hs
      have hn := form_n f1 (.inl h12)
      have hl : (r.length : Int) = (H[i]?).getD 0 - tko x.op + pt x.op := by rw [h12, hh]; simp [tko, pt]; omega
      refine .inl ⟨rfl, ⟨?_, ?_, hr, hI.tv, hI.len⟩, ?_⟩
      · simp only; split <;> omega
      · simp only
        split
        · rw [k3 (by omega)]; omega
        · rw [k4 (.inl h12)]; omega
      · simp only; split <;> omega
    · rename_i h12
      refine psh_inv o13 hr ?_ (clc_v rfl) (by have := clc_e (op := x.op) (a := a) (b := b) rfl; omega) hs
      rw [takes_2 (by omega), hh]
      have : pt x.op = 1 := by unfold pt; rw [if_neg (by omega), if_neg h11, if_neg h12, if_neg o13]
      rw [this]; simp; omega
end N
end Go.Proofs.YthgngkajdiclcaaDoor
