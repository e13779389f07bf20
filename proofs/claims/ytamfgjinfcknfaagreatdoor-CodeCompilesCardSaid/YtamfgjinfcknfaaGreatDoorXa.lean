/- Texts of one proof: KzM, KzN, KzT, KzL, KzQ. -/
import Derived.Test.YtamfgjinfcknfaaGreatDoorZn
import Derived.Test.YtamfgjinfcknfaaGreatDoorZa
import Derived.Test.YtamfgjinfcknfaaGreatDoorYb
import Derived.Test.YtamfgjinfcknfaaGreatDoorZr
import Derived.Test.YtamfgjinfcknfaaGreatDoorYp
import Derived.Test.YtamfgjinfcknfaaGreatDoorYl
import Derived.Test.YtamfgjinfcknfaaGreatDoorZy
import Derived.Test.YtamfgjinfcknfaaGreatDoorYq
set_option linter.unusedVariables false
set_option linter.unusedSimpArgs false
set_option maxRecDepth 100000
set_option maxHeartbeats 8000000
namespace Go.Proofs.YtamfgjinfcknfaaGreatDoor
namespace K
open U (Ex St szK)
def Lk (hs : List Int) (j : Nat) : Int := (hs[j]?).getD 0
def formS (vars : Int) (x : In) : Prop := (1 ≤ x.op ∧ x.op ≤ 13) ∧ (x.op = 12 → 1 ≤ x.r ∧ x.r ≤ 6) ∧ (x.op ≠ 12 → x.r = 0) ∧ (x.op = 1 → -1000000000000 ≤ x.n ∧ x.n ≤ 1000000000000) ∧ (x.op = 2 ∨ x.op = 11 → 0 ≤ x.n ∧ x.n < vars) ∧ (x.op = 3 → 0 ≤ x.n ∧ x.n < 4) ∧ (4 ≤ x.op ∧ x.op ≤ 10 → x.n = 0)
theorem form_of {vars : Int} {x : In} {i many : Nat} (h : formS vars x) (hj : x.op = 12 ∨ x.op = 13 → (i : Int) < x.n ∧ x.n ≤ many) : formI x i many vars = true := by
 obtain ⟨h1, h2, h3, h4, h5, h6, h7⟩ := h
 unfold formI rgN btw2
 simp only [Bool.and_eq_true, decide_eq_true_eq]
 refine ⟨⟨h1.1, h1.2⟩, ?_, ?_⟩
 ·by_cases o1 : x.op = 1
  ·rw [if_pos o1]; exact h4 o1
  rw [if_neg o1]
  by_cases o2 : x.op = 2 ∨ x.op = 11
  ·rw [if_pos o2]; have := h5 o2; exact ⟨this.1, by show x.n ≤ vars - 1; omega⟩
  rw [if_neg o2]
  by_cases o3 : x.op = 3
  ·rw [if_pos o3]; have := h6 o3; exact ⟨this.1, by show x.n ≤ 3; omega⟩
  rw [if_neg o3]
  by_cases o4 : x.op = 12 ∨ x.op = 13
  ·rw [if_pos o4]; have := hj o4; exact ⟨by show (i : Int) + 1 ≤ x.n; omega, this.2⟩
  rw [if_neg o4]
  have := h7 (by omega)
  exact ⟨by show 0 ≤ x.n; omega, by show x.n ≤ 0; omega⟩
 ·by_cases o : x.op = 12
  ·rw [if_pos o]; exact h2 o
  ·rw [if_neg o]; have := h3 o; exact ⟨by show 0 ≤ x.r; omega, by show x.r ≤ 0; omega⟩
theorem formS12 {vars n r : Int} (hr : 1 ≤ r ∧ r ≤ 6) : formS vars ⟨12, n, r⟩ :=
 ⟨⟨(by decide : (1 : Int) ≤ 12), (by decide : (12 : Int) ≤ 13)⟩, fun _ => hr, fun o => absurd rfl o, fun o => absurd (show (12 : Int) = 1 from o) (by decide), fun o => by rcases o with o | o <;> exact absurd (show (12 : Int) = _ from o) (by decide), fun o => absurd (show (12 : Int) = 3 from o) (by decide), fun o => absurd (show (12 : Int) ≤ 10 from o.2) (by decide)⟩
theorem formS13 {vars n : Int} : formS vars ⟨13, n, 0⟩ :=
 ⟨⟨(by decide : (1 : Int) ≤ 13), (by decide : (13 : Int) ≤ 13)⟩, fun o => absurd (show (13 : Int) = 12 from o) (by decide), fun _ => rfl, fun o => absurd (show (13 : Int) = 1 from o) (by decide), fun o => by rcases o with o | o <;> exact absurd (show (13 : Int) = _ from o) (by decide), fun o => absurd (show (13 : Int) = 3 from o) (by decide), fun o => absurd (show (13 : Int) ≤ 10 from o.2) (by decide)⟩
def nxt (hs : List Int) (c : List In) (i j : Nat) (x : In) : Prop :=
 tko x.op ≤ Lk hs j ∧ Lk hs j - tko x.op + pt x.op ≤ 64 ∧ (x.op ≠ 13 → Lk hs (j + 1) = Lk hs j - tko x.op + pt x.op) ∧
 (x.op = 12 ∨ x.op = 13 → ∃ m, x.n = ((i + m : Nat) : Int) ∧ j < m ∧ m ≤ c.length ∧ Lk hs m = Lk hs j - tko x.op + pt x.op)
structure Seg (vars : Int) (c : List In) (i : Nat) (hs : List Int) : Prop where
 len : hs.length = c.length + 1
 ok : ∀ (j : Nat) (x : In), c[j]? = some x → formS vars x ∧ nxt hs c i j x
def Pr (E : Nat → Prop) (c : List In) (i : Nat) : Prop := ∀ j, 0 < j → j ≤ c.length → E j ∨ ∃ (k : Nat) (x : In), c[k]? = some x ∧ ((x.op ≠ 13 ∧ j = k + 1) ∨ ((x.op = 12 ∨ x.op = 13) ∧ x.n = ((i + j : Nat) : Int)))
def no (_ : Nat) : Prop := False
theorem lk_l {a b : List Int} {n j : Nat} (hl : a.length = n + 1) (hj : j < n) : Lk (a.take n ++ b) j = Lk a j := by
 unfold Lk
 rw [List.getElem?_append_left (by simp; omega), List.getElem?_take_of_lt hj]
theorem lk_r {a b : List Int} {n j : Nat} (hl : a.length = n + 1) (hj : n ≤ j) : Lk (a.take n ++ b) j = Lk b (j - n) := by
 unfold Lk
 rw [List.getElem?_append_right (by simp; omega)]
 simp [hl, show min n (n + 1) = n by omega]
theorem Seg.app {vars : Int} {c d : List In} {i : Nat} {hs gs : List Int} (h : Seg vars c i hs) (k : Seg vars d (i + c.length) gs) (e : Lk hs c.length = Lk gs 0) : Seg vars (c ++ d) i (hs.take c.length ++ gs) := by
 have hl := h.len
 have lo : ∀ j, j ≤ c.length → Lk (hs.take c.length ++ gs) j = Lk hs j := fun j hj => by
  by_cases hlt : j < c.length
  ·exact lk_l hl hlt
  ·obtain rfl : j = c.length := by omega
   rw [lk_r hl (Nat.le_refl _), Nat.sub_self, e]
 have hi : ∀ j, Lk (hs.take c.length ++ gs) (c.length + j) = Lk gs j := fun j => by rw [lk_r hl (by omega)]; congr 1; omega
 refine ⟨by simp [k.len, hl]; omega, fun j x hx => ?_⟩
 by_cases hlt : j < c.length
 ·rw [List.getElem?_append_left hlt] at hx
  obtain ⟨h1, h2, h3, h4, h5⟩ := h.ok j x hx
  refine ⟨h1, ?_, ?_, fun o => ?_, fun o => ?_⟩
  ·rw [lo j (by omega)]; exact h2
  ·rw [lo j (by omega)]; exact h3
  ·rw [lo j (by omega), lo (j + 1) (by omega)]; exact h4 o
  ·obtain ⟨m, a1, a2, a3, a4⟩ := h5 o
   exact ⟨m, a1, a2, by rw [List.length_append]; omega, by rw [lo j (by omega), lo m a3]; exact a4⟩
 ·rw [List.getElem?_append_right (by omega)] at hx
  obtain ⟨q, rfl⟩ : ∃ q, j = c.length + q := ⟨j - c.length, by omega⟩
  rw [show c.length + q - c.length = q by omega] at hx
  obtain ⟨h1, h2, h3, h4, h5⟩ := k.ok q x hx
  refine ⟨h1, ?_, ?_, fun o => ?_, fun o => ?_⟩
  ·rw [hi]; exact h2
  ·rw [hi]; exact h3
  ·rw [show c.length + q + 1 = c.length + (q + 1) by omega, hi, hi]; exact h4 o
  ·obtain ⟨m, a1, a2, a3, a4⟩ := h5 o
   exact ⟨c.length + m, by rw [a1]; congr 1; omega, by omega, by rw [List.length_append]; omega, by rw [hi, hi]; exact a4⟩
theorem lk_c (h : Int) (hs : List Int) (j : Nat) : Lk (h :: hs) (j + 1) = Lk hs j := by unfold Lk; rw [List.getElem?_cons_succ]
theorem lk_0 (h : Int) (hs : List Int) : Lk (h :: hs) 0 = h := rfl
theorem Seg.cons {vars : Int} {c : List In} {i : Nat} {hs : List Int} {x : In} {h : Int} (k : Seg vars c (i + 1) hs) (hf : formS vars x) (hx : nxt (h :: hs) (x :: c) i 0 x) : Seg vars (x :: c) i (h :: hs) := by
 refine ⟨by simp [k.len], fun j y hy => ?_⟩
 cases j with
 | zero => simp at hy; subst hy; exact ⟨hf, hx⟩
 | succ j =>
  rw [List.getElem?_cons_succ] at hy
  obtain ⟨h1, h2, h3, h4, h5⟩ := k.ok j y hy
  refine ⟨h1, ?_, ?_, fun o => ?_, fun o => ?_⟩
  ·rw [lk_c]; exact h2
  ·rw [lk_c]; exact h3
  ·rw [lk_c, lk_c]; exact h4 o
  ·obtain ⟨m, a1, a2, a3, a4⟩ := h5 o
   exact ⟨m + 1, by rw [a1]; congr 1; omega, by omega, by rw [List.length_cons]; omega, by rw [lk_c, lk_c]; exact a4⟩
theorem Pr.app {E F : Nat → Prop} {c d : List In} {i : Nat} (h : Pr E c i) (k : Pr F d (i + c.length)) : Pr (fun j => (j ≤ c.length ∧ E j) ∨ (c.length < j ∧ F (j - c.length))) (c ++ d) i := fun j h0 hj => by
 by_cases hlt : j ≤ c.length
 ·rcases h j h0 hlt with e | ⟨q, x, hx, e⟩
  ·exact .inl (.inl ⟨hlt, e⟩)
  ·exact .inr ⟨q, x, by rw [List.getElem?_append_left (List.getElem?_eq_some_iff.1 hx).1]; exact hx, e⟩
 ·rw [List.length_append] at hj
  rcases k (j - c.length) (by omega) (by omega) with e | ⟨q, x, hx, e⟩
  ·exact .inl (.inr ⟨by omega, e⟩)
  ·refine .inr ⟨c.length + q, x, by rw [List.getElem?_append_right (by omega)]; simpa using hx, ?_⟩
   rcases e with ⟨e1, e2⟩ | ⟨e1, e2⟩
   ·exact .inl ⟨e1, by omega⟩
   ·exact .inr ⟨e1, by rw [e2]; congr 1; omega⟩
theorem Pr.cons {E : Nat → Prop} {c : List In} {i : Nat} {x : In} (h : Pr E c (i + 1)) : Pr (fun j => (j = 1 ∧ x.op = 13) ∨ (1 < j ∧ E (j - 1))) (x :: c) i := fun j h0 hj => by
 by_cases h1 : j = 1
 ·by_cases hx : x.op = 13
  ·exact .inl (.inl ⟨h1, hx⟩)
  ·exact .inr ⟨0, x, rfl, .inl ⟨hx, h1⟩⟩
 ·rw [List.length_cons] at hj
  rcases h (j - 1) (by omega) (by omega) with e | ⟨q, y, hy, e⟩
  ·exact .inl (.inr ⟨by omega, e⟩)
  ·refine .inr ⟨q + 1, y, by rw [List.getElem?_cons_succ]; exact hy, ?_⟩
   rcases e with ⟨e1, e2⟩ | ⟨e1, e2⟩
   ·exact .inl ⟨e1, by omega⟩
   ·exact .inr ⟨e1, by rw [e2]; congr 1; omega⟩
theorem Pr.mono {E F : Nat → Prop} {c : List In} {i : Nat} (h : Pr E c i) (k : ∀ j, 0 < j → j ≤ c.length → E j → F j ∨ ∃ (q : Nat) (x : In), c[q]? = some x ∧ ((x.op ≠ 13 ∧ j = q + 1) ∨ ((x.op = 12 ∨ x.op = 13) ∧ x.n = ((i + j : Nat) : Int)))) : Pr F c i := fun j h0 hj => by
 rcases h j h0 hj with e | e
 ·exact k j h0 hj e
 ·exact .inr e
def Sg (vars : Int) (c : List In) (i : Nat) (a b : Int) : Prop := ∃ hs, Seg vars c i hs ∧ Lk hs 0 = a ∧ Lk hs c.length = b ∧ Pr no c i
theorem Sg.app {vars : Int} {c d : List In} {i : Nat} {a b e : Int} (h : Sg vars c i a b) (k : Sg vars d (i + c.length) b e) : Sg vars (c ++ d) i a e := by
 obtain ⟨hs, h1, h2, h3, h4⟩ := h
 obtain ⟨gs, k1, k2, k3, k4⟩ := k
 refine ⟨_, h1.app k1 (by rw [h3, k2]), ?_, ?_, (h4.app k4).mono (fun j _ _ e => ?_)⟩
 ·by_cases h0 : 0 < c.length
  ·rw [lk_l h1.len h0, h2]
  ·have : c.length = 0 := by omega
   rw [lk_r h1.len (by omega), this, k2, ← h3, this, h2]
 ·rw [List.length_append, lk_r h1.len (by omega), show c.length + d.length - c.length = d.length by omega, k3]
 ·rcases e with ⟨_, e⟩ | ⟨_, e⟩ <;> exact e.elim
theorem Sg.one {vars : Int} {x : In} {i : Nat} {a : Int} (hf : formS vars x) (h12 : x.op ≠ 12) (h13 : x.op ≠ 13) (h1 : tko x.op ≤ a) (h2 : a - tko x.op + pt x.op ≤ 64) : Sg vars [x] i a (a - tko x.op + pt x.op) := by
 refine ⟨[a, a - tko x.op + pt x.op], ⟨rfl, fun j y hy => ?_⟩, rfl, rfl, fun j h0 hj => ?_⟩
 ·cases j with
  | zero => simp at hy; subst hy; exact ⟨hf, h1, h2, fun _ => rfl, fun o => by rcases o with o | o <;> contradiction⟩
  | succ j => simp at hy
 ·have : j = 1 := by simp at hj; omega
  exact .inr ⟨0, x, rfl, .inl ⟨h13, this⟩⟩
theorem Sg.nil (vars : Int) (i : Nat) (a : Int) : Sg vars [] i a a := ⟨[a], ⟨rfl, fun j y hy => by simp at hy⟩, rfl, rfl, fun j h0 hj => by simp at hj; omega⟩
theorem Sg.unless {vars : Int} {c : List In} {i : Nat} {r : Int} (hr : 1 ≤ r ∧ r ≤ 6) (h : Sg vars c (i + 1) 0 0) : Sg vars (⟨12, ((i + 1 + c.length : Nat) : Int), r⟩ :: c) i 2 0 := by
 obtain ⟨hs, h1, h2, h3, h4⟩ := h
 refine ⟨2 :: hs, h1.cons (formS12 hr) ⟨by rw [lk_0]; show tko 12 ≤ (2 : Int); decide, by rw [lk_0]; show (2 : Int) - tko 12 + pt 12 ≤ 64; decide, fun _ => ?_, fun _ => ?_⟩, rfl, ?_, h4.cons.mono (fun j _ _ e => ?_)⟩
 ·rw [lk_0, lk_c, h2]; rfl
 ·exact ⟨1 + c.length, by simp only; congr 1; omega, by omega, by rw [List.length_cons]; omega, by rw [Nat.add_comm 1, lk_c, lk_0, h3]; rfl⟩
 ·rw [List.length_cons, lk_c, h3]
 ·rcases e with ⟨_, e⟩ | ⟨_, e⟩
  ·simp at e
  ·exact e.elim
theorem Sg.both {vars : Int} {c d : List In} {i : Nat} {r : Int} (hr : 1 ≤ r ∧ r ≤ 6) (h : Sg vars c (i + 1) 0 0) (k : Sg vars d (i + 1 + c.length + 1) 0 0) :
  Sg vars (⟨12, ((i + 1 + c.length + 1 : Nat) : Int), r⟩ :: (c ++ (⟨13, ((i + 1 + c.length + 1 + d.length : Nat) : Int), 0⟩ :: d))) i 2 0 := by
 obtain ⟨hs, h1, h2, h3, h4⟩ := h
 obtain ⟨gs, k1, k2, k3, k4⟩ := k
 have j1 : Seg vars (⟨13, ((i + 1 + c.length + 1 + d.length : Nat) : Int), 0⟩ :: d) (i + 1 + c.length) (0 :: gs) := by
  refine k1.cons formS13 ⟨by rw [lk_0]; show tko 13 ≤ (0 : Int); decide, by rw [lk_0]; show (0 : Int) - tko 13 + pt 13 ≤ 64; decide, fun o => absurd rfl o, fun _ => ?_⟩
  exact ⟨1 + d.length, by simp only; congr 1; omega, by omega, by rw [List.length_cons]; omega, by rw [Nat.add_comm 1, lk_c, lk_0, k3]; rfl⟩
 have j2 := h1.app j1 (by rw [h3, lk_0])
 have e0 : Lk (hs.take c.length ++ 0 :: gs) 0 = 0 := by
  by_cases h0 : 0 < c.length
  ·rw [lk_l h1.len h0, h2]
  ·have : c.length = 0 := by omega
   rw [lk_r h1.len (by omega), this]; rfl
 have e1 : Lk (hs.take c.length ++ 0 :: gs) (c.length + 1) = 0 := by rw [lk_r h1.len (by omega), show c.length + 1 - c.length = 0 + 1 by omega, lk_c, k2]
 refine ⟨2 :: (hs.take c.length ++ 0 :: gs), j2.cons (formS12 hr) ⟨by rw [lk_0]; show tko 12 ≤ (2 : Int); decide, by rw [lk_0]; show (2 : Int) - tko 12 + pt 12 ≤ 64; decide, fun _ => ?_, fun _ => ?_⟩, rfl, ?_, ((h4.app k4.cons).cons).mono (fun j h0 hj e => ?_)⟩
 ·rw [lk_0, lk_c, e0]; rfl
 ·exact ⟨c.length + 1 + 1, by simp only; congr 1; omega, by omega, by simp only [List.length_cons, List.length_append]; omega, by rw [lk_c, lk_0, e1]; rfl⟩
 ·simp only [List.length_cons, List.length_append]
  rw [lk_c, lk_r h1.len (by omega), show c.length + (d.length + 1) - c.length = d.length + 1 by omega, lk_c, k3]
 ·right
  rcases e with ⟨_, e⟩ | ⟨hj1, e⟩
  ·simp at e
  ·rcases e with ⟨_, e⟩ | ⟨hj2, e⟩
   ·exact e.elim
   ·rcases e with ⟨e, -⟩ | ⟨_, e⟩
    ·exact ⟨0, _, rfl, .inr ⟨.inl rfl, by simp only; congr 1; omega⟩⟩
    ·exact e.elim
end K
end Go.Proofs.YtamfgjinfcknfaaGreatDoor
namespace Go.Proofs.YtamfgjinfcknfaaGreatDoor
namespace K
open U (Ex St szK formB)
theorem formSx {vars op n : Int} (h1 : 1 ≤ op ∧ op ≤ 11) (h2 : op = 1 → -1000000000000 ≤ n ∧ n ≤ 1000000000000) (h3 : op = 2 ∨ op = 11 → 0 ≤ n ∧ n < vars) (h4 : op = 3 → 0 ≤ n ∧ n < 4) (h5 : 4 ≤ op ∧ op ≤ 10 → n = 0) : formS vars ⟨op, n, 0⟩ :=
 ⟨⟨h1.1, by show op ≤ 13; omega⟩, fun o => by have : op = 12 := o; omega, fun _ => rfl, h2, h3, h4, h5⟩
theorem tko_a {op : Int} (h : 1 ≤ op ∧ op ≤ 3) : tko op = 0 ∧ pt op = 1 := by unfold tko pt; rw [if_pos (by omega), if_pos (by omega)]; exact ⟨rfl, rfl⟩
theorem tko_b {op : Int} (h : 4 ≤ op ∧ op ≤ 10) : tko op = 2 ∧ pt op = 1 := by
 unfold tko pt
 rw [if_neg (by omega), if_neg (by omega), if_neg (by omega), if_neg (by omega), if_neg (by omega), if_neg (by omega), if_neg (by omega)]
 exact ⟨rfl, rfl⟩
theorem Sg.cast {vars : Int} {c : List In} {i : Nat} {a b b' : Int} (h : Sg vars c i a b) (e : b = b') : Sg vars c i a b' := by subst e; exact h
mutual
theorem sg_E {n : Nat} : ∀ (e : Ex) (i : Nat) (h : Int), FoX n e → 0 ≤ h → h + e.size ≤ 64 → Sg n (cE e) i h (h + 1)
 | .mk op m u ks, i, h, hf, h0, hz => by
  rw [FoX] at hf
  obtain ⟨hb, hk⟩ := hf
  rw [Ex.size] at hz
  rw [cE]
  unfold U.formB at hb
  by_cases o : op ≤ 3 ∧ 1 ≤ op
  ·have hk0 : ks.length = 0 := by
    split at hb
    ·simp at hb; simp [hb.1]
    split at hb
    ·simp at hb; simp [hb.1]
    split at hb
    ·simp at hb; simp [hb.1]
    ·simp [U.btw] at hb; omega
   obtain rfl := List.eq_nil_of_length_eq_zero hk0
   obtain ⟨t1, t2⟩ := tko_a (op := op) (by omega)
   rw [cK, List.nil_append, if_pos (show ([] : List Ex).length = 0 from rfl)]
   rw [szK] at hz
   refine (Sg.one (x := ⟨op, m, 0⟩) (formSx (by omega) (fun o1 => ?_) (fun o1 => ?_) (fun o1 => ?_) (fun o1 => by omega)) (by show op ≠ 12; omega) (by show op ≠ 13; omega) ?_ ?_).cast ?_
   ·rw [if_pos o1] at hb; simp [U.btw] at hb; omega
   ·rw [if_neg (by omega), if_pos (by omega)] at hb; simp [U.btw] at hb; omega
   ·rw [if_neg (by omega), if_neg (by omega), if_pos o1] at hb; simp [U.btw] at hb; omega
   ·simp only [t1]; omega
   ·simp only [t1, t2]; omega
   ·simp only [t1, t2]; omega
  ·have ho : ks.length = 2 ∧ 4 ≤ op ∧ op ≤ 10 := by
    split at hb
    ·omega
    split at hb
    ·omega
    split at hb
    ·omega
    ·simp [U.btw] at hb; omega
   obtain ⟨t1, t2⟩ := tko_b (op := op) ho.2
   match ks, ho.1, hk, hz with
   | [a, b], _, hk, hz =>
    rw [FoK, FoK] at hk
    simp only [szK] at hz
    rw [cK, cK, cK, List.append_nil, List.append_assoc]
    have ka := sg_E a i h hk.1 h0 (by omega)
    have kb := sg_E b (i + (cE a).length) (h + 1) hk.2.1 (by omega) (by omega)
    have kc : Sg n [⟨op, if [a, b].length = 0 then m else 0, 0⟩] (i + (cE a).length + (cE b).length) (h + 1 + 1) (h + 1) := by
     rw [if_neg (show ¬ [a, b].length = 0 by simp)]
     refine (Sg.one (x := ⟨op, 0, 0⟩) (formSx (by omega) (fun o1 => by omega) (fun o1 => by omega) (fun o1 => by omega) (fun _ => rfl)) (by show op ≠ 12; omega) (by show op ≠ 13; omega) ?_ ?_).cast ?_
     ·simp only [t1]; omega
     ·simp only [t1, t2]; omega
     ·simp only [t1, t2]; omega
    exact ka.app (kb.app kc)
end
mutual
theorem sg_S {n : Nat} : ∀ (x : St) (i : Nat), FoS n x → Sg n (cS x i) i 0 0
 | .mk k v r a b th el, i, hf => by
  rw [FoS] at hf
  obtain ⟨ha, hza, hf⟩ := hf
  have ka := sg_E a i 0 ha (Int.le_refl _) (by omega)
  rw [cS]
  rcases hf with ⟨h1, hv⟩ | ⟨h2, hr, hb, hzb, ht, he⟩
  ·rw [if_neg (by omega)]
   refine ka.app ((Sg.one (x := ⟨11, v, 0⟩) (formSx (by decide) (fun o1 => by simp at o1) (fun _ => hv) (fun o1 => by simp at o1) (fun o1 => by omega)) (show (11 : Int) ≠ 12 by decide) (show (11 : Int) ≠ 13 by decide) ?_ ?_).cast ?_)
   ·show tko 11 ≤ 0 + 1; decide
   ·show 0 + 1 - tko 11 + pt 11 ≤ 64; decide
   ·show 0 + 1 - tko 11 + pt 11 = 0; decide
  ·rw [if_pos h2]
   have kb := sg_E b (i + (cE a).length) 1 hb (by decide) (by omega)
   have kt := sg_L th (i + a.size + b.size + 1) ht
   by_cases hel : el.length = 0
   ·rw [if_pos hel]
    have ku := Sg.unless (i := i + a.size + b.size) hr kt
    rw [cL_len] at ku
    refine ka.app (kb.app ?_)
    rw [cE_len, cE_len]
    exact ku
   ·rw [if_neg hel]
    have ke := sg_L el (i + a.size + b.size + 1 + lnL th + 1) he
    have ku := Sg.both (i := i + a.size + b.size) (c := cL th (i + a.size + b.size + 1)) (d := cL el (i + a.size + b.size + 1 + lnL th + 1)) hr kt (by rw [cL_len]; exact ke)
    rw [cL_len, cL_len] at ku
    refine ka.app (kb.app ?_)
    rw [cE_len, cE_len]
    exact ku
theorem sg_L {n : Nat} : ∀ (l : List St) (i : Nat), FoL n l → Sg n (cL l i) i 0 0
 | [], i, _ => Sg.nil _ _ _
 | x :: xs, i, hf => by
  rw [FoL] at hf
  rw [cL]
  have k := sg_L xs (i + lnS x) hf.2
  exact (sg_S x i hf.1).app (by rw [cS_len]; exact k)
end
theorem lk_set {gs : List Int} {i j : Nat} {h : Int} (hi : i < gs.length) : Lk (gs.set i h) j = if i = j then h else Lk gs j := by
 unfold Lk
 by_cases e : i = j
 ·subst e; rw [if_pos rfl, List.getElem?_set_self hi]; rfl
 ·rw [if_neg e, List.getElem?_set_ne e]
theorem reach_of {gs : List Int} {i : Nat} {h : Int} (hi : i < gs.length) (h64 : h ≤ 64) (h0 : 0 ≤ h) (e : Lk gs i = -1 ∨ Lk gs i = h) : reach gs i h = (gs.set i h, true) := by
 unfold reach
 by_cases h1 : Lk gs i = -1
 ·rw [if_pos (by exact h1), decide_eq_true h64]
 ·have h2 : Lk gs i = h := by omega
  rw [if_neg (by exact h1)]
  have h3 : gs[i] = h := by unfold Lk at h2; rw [List.getElem?_eq_getElem hi] at h2; exact h2
  have h4 : gs.set i h = gs := by rw [← h3]; exact List.set_getElem_self hi
  rw [h4]
  have h5 : (gs[i]?).getD 0 = h := h2
  rw [h5, decide_eq_true rfl, decide_eq_true h64]
  rfl
structure Iv (H : List Int) (c : List In) (i : Nat) (gs : List Int) : Prop where
 len : gs.length = c.length + 1
 a : ∀ j, j ≤ c.length → Lk gs j = -1 ∨ Lk gs j = Lk H j
 b : ∀ j, j ≤ c.length → (j = 0 ∨ ∃ (k : Nat) (x : In), k < i ∧ c[k]? = some x ∧ To x k j) → Lk gs j = Lk H j
theorem Iv.set {H gs : List Int} {c : List In} {i j : Nat} (h : Iv H c i gs) (hj : j ≤ c.length) : Iv H c i (gs.set j (Lk H j)) := by
 have hl : j < gs.length := by rw [h.len]; omega
 refine ⟨by rw [List.length_set]; exact h.len, fun q hq => ?_, fun q hq e => ?_⟩
 ·rw [lk_set hl]; split
  ·rename_i e; subst e; exact .inr rfl
  ·exact h.a q hq
 ·rw [lk_set hl]; split
  ·rename_i e; subst e; rfl
  ·exact h.b q hq e
theorem Iv.next {H gs : List Int} {c : List In} {i : Nat} {x : In} (h : Iv H c i gs) (hx : c[i]? = some x) (k : ∀ j, j ≤ c.length → To x i j → Lk gs j = Lk H j) : Iv H c (i + 1) gs := by
 refine ⟨h.len, h.a, fun j hj e => ?_⟩
 rcases e with e | ⟨q, y, hq, hy, t⟩
 ·exact h.b j hj (.inl e)
 ·by_cases hqi : q < i
  ·exact h.b j hj (.inr ⟨q, y, hqi, hy, t⟩)
  ·obtain rfl : q = i := by omega
   rw [hx] at hy
   cases hy
   exact k j hj t
theorem step_of {vars : Int} {H gs : List Int} {c : List In} {i : Nat} {x : In} (hS : Seg vars c 0 H) (h : Iv H c i gs) (hx : c[i]? = some x) (hp : i = 0 ∨ ∃ (k : Nat) (y : In), k < i ∧ c[k]? = some y ∧ To y k i) :
  ∃ g2, soundI gs x i = (g2, true) ∧ Iv H c (i + 1) g2 := by
 have hi : i < c.length := (List.getElem?_eq_some_iff.1 hx).1
 obtain ⟨hf, k1, k2, k3, k4⟩ := hS.ok i x hx
 have hh := h.b i (by omega) hp
 have t1 := tko_pos x.op
 have t2 := pt_pos x.op
 have hg : (gs[i]?).getD 0 = Lk H i := hh
 have hl := h.len
 unfold soundI
 rw [hg, if_neg (by omega)]
 by_cases h12 : x.op = 12
 ·rw [if_pos h12]
  obtain ⟨m, m1, m2, m3, m4⟩ := k4 (.inl h12)
  have e1 := k3 (by omega)
  have r1 := reach_of (gs := gs) (i := i + 1) (h := Lk H i - tko x.op + pt x.op) (by omega) k2 (by omega) (by rw [← e1]; exact h.a (i + 1) (by omega))
  rw [r1]
  simp only
  rw [← e1]
  have h2 := h.set (j := i + 1) (by omega)
  have hn : x.n.toNat = m := by rw [m1]; simp
  rw [hn]
  have r2 := reach_of (gs := gs.set (i + 1) (Lk H (i + 1))) (i := m) (h := Lk H m) (by rw [List.length_set]; omega) (by omega) (by omega) (h2.a m m3)
  rw [show Lk H (i + 1) = Lk H m by omega] at r2 h2 ⊢
  rw [r2]
  have h3 := h2.set (j := m) m3
  refine ⟨_, rfl, h3.next hx (fun j hj t => ?_)⟩
  rw [lk_set (by rw [List.length_set]; omega)]
  rcases t with ⟨_, rfl⟩ | ⟨_, rfl⟩
  ·split
   ·rename_i e; subst e; rfl
   ·rw [lk_set (by omega), if_pos rfl]; omega
  ·rw [if_pos hn.symm]; rw [hn]
 ·rw [if_neg h12]
  by_cases h13 : x.op = 13
  ·rw [if_pos h13]
   obtain ⟨m, m1, m2, m3, m4⟩ := k4 (.inr h13)
   have hn : x.n.toNat = m := by rw [m1]; simp
   rw [hn, ← m4, reach_of (by omega) (by omega) (by omega) (h.a m m3)]
   refine ⟨_, rfl, (h.set m3).next hx (fun j hj t => ?_)⟩
   rcases t with ⟨e, _⟩ | ⟨_, rfl⟩
   ·exact absurd h13 e
   ·rw [lk_set (by omega), if_pos hn.symm]; rw [hn]
  ·rw [if_neg h13]
   have e1 := k3 h13
   rw [← e1, reach_of (by omega) (by omega) (by omega) (h.a (i + 1) (by omega))]
   refine ⟨_, rfl, (h.set (by omega)).next hx (fun j hj t => ?_)⟩
   rcases t with ⟨_, rfl⟩ | ⟨e, _⟩
   ·rw [lk_set (by omega), if_pos rfl]
   ·omega
theorem go_of {vars : Int} {H : List Int} {c : List In} (hS : Seg vars c 0 H) (hP : Pr no c 0) : ∀ (rest : List In) (i : Nat) (gs : List Int), c.drop i = rest → i ≤ c.length → Iv H c i gs → ∃ g2, goH vars c.length gs i rest = some g2 ∧ Iv H c c.length g2
 | [], i, gs, hd, hi, h => by
  have : i = c.length := by have := congrArg List.length hd; simp at this; omega
  subst this
  exact ⟨gs, by rw [goH], h⟩
 | x :: xs, i, gs, hd, hi, h => by
  have hil : i < c.length := by have := congrArg List.length hd; simp at this; omega
  have hx : c[i]? = some x := by
   have : (c.drop i)[0]? = some x := by rw [hd]; rfl
   rw [List.getElem?_drop] at this
   simpa using this
  have hp : i = 0 ∨ ∃ (k : Nat) (y : In), k < i ∧ c[k]? = some y ∧ To y k i := by
   by_cases h0 : i = 0
   ·exact .inl h0
   ·rcases hP i (by omega) hi with e | ⟨k, y, hy, e⟩
    ·exact e.elim
    ·refine .inr ⟨k, y, ?_, hy, ?_⟩
     ·rcases e with ⟨_, e⟩ | ⟨e1, e2⟩
      ·omega
      ·obtain ⟨m, m1, m2, m3, m4⟩ := (hS.ok k y hy).2.2.2.2 e1
       omega
     ·rcases e with ⟨e1, e2⟩ | ⟨e1, e2⟩
      ·exact .inl ⟨e1, e2⟩
      ·exact .inr ⟨e1, by rw [e2]; simp⟩
  obtain ⟨g2, h1, h2⟩ := step_of hS h hx hp
  have hfm : formI x i c.length vars = true := by
   refine form_of (hS.ok i x hx).1 (fun o => ?_)
   obtain ⟨m, m1, m2, m3, m4⟩ := (hS.ok i x hx).2.2.2.2 o
   omega
  rw [goH, if_pos hfm, h1]
  simp only
  exact go_of hS hP xs (i + 1) g2 (by rw [← List.drop_drop, hd]; rfl) hil h2
theorem ver_of {vars : Int} {c : List In} (h : Sg vars c 0 0 0) (hl : c.length ≤ 4000) : verH c vars = true := by
 obtain ⟨H, h1, h2, h3, h4⟩ := h
 have lk0 : ∀ j, Lk (0 :: List.replicate c.length (-1)) j = if j = 0 then 0 else if j ≤ c.length then -1 else 0 := fun j => by
  cases j with
  | zero => rfl
  | succ j =>
   rw [lk_c, if_neg (by omega)]
   unfold Lk
   rw [List.getElem?_replicate]
   by_cases hj : j < c.length
   ·rw [if_pos hj, if_pos (by omega)]; rfl
   ·rw [if_neg hj, if_neg (by omega)]; rfl
 have iv : Iv H c 0 (0 :: List.replicate c.length (-1)) := by
  refine ⟨by simp, fun j hj => ?_, fun j hj e => ?_⟩
  ·rw [lk0]
   by_cases h0 : j = 0
   ·subst h0; right; rw [if_pos rfl, h2]
   ·left; rw [if_neg h0, if_pos hj]
  ·rcases e with rfl | ⟨k, x, hk, _⟩
   ·rw [lk0, if_pos rfl, h2]
   ·omega
 obtain ⟨g2, k1, k2⟩ := go_of h1 h4 c 0 _ (by simp) (Nat.zero_le _) iv
 unfold verH
 rw [k1, decide_eq_true hl]
 simp only [Bool.true_and, decide_eq_true_eq]
 have : Lk g2 c.length = Lk H c.length := by
  refine k2.b c.length (Nat.le_refl _) ?_
  by_cases h0 : c.length = 0
  ·exact .inl h0
  ·rcases h4 c.length (by omega) (Nat.le_refl _) with e | ⟨k, y, hy, e⟩
   ·exact e.elim
   ·refine .inr ⟨k, y, (List.getElem?_eq_some_iff.1 hy).1, hy, ?_⟩
    rcases e with ⟨e1, e2⟩ | ⟨e1, e2⟩
    ·exact .inl ⟨e1, e2⟩
    ·exact .inr ⟨e1, by rw [e2]; simp⟩
 rw [h3] at this
 exact this
open U (Pw inf infK nodeP stM stsM handM szS szL) in
open U (Pw inf infK nodeP stM stsM handM szS szL) in
theorem valPM_ver {x : ByteArray} {vs : List U.Vr} {on : List (List St)} {wi pa : Int} (h : C.valPM x vs on wi pa = true) {l : List St} (hl : l ∈ on) (hz : lnL l ≤ 4000) : verH (cL l 0) vs.length = true :=
 ver_of (sg_L l 0 (valPM_fo h l hl)) (by rw [cL_len]; exact hz)
end K
end Go.Proofs.YtamfgjinfcknfaaGreatDoor
namespace Go.Proofs.YtamfgjinfcknfaaGreatDoor
open Go.RowKit
namespace K
open U (Ex St StsR VarsR Vr kbL)
open C (valPM v5 v5_val SomeB V1)
theorem v5_len {nm : ByteArray → Bool} {x : ByteArray} {vs : List Vr} {on : List (List St)} {wi pa : Int} (h : v5 nm x vs on wi pa = true) : 1 ≤ vs.length ∧ vs.length ≤ 12 := by
 unfold C.v5 at h
 simp only [Bool.and_eq_true, decide_eq_true_eq] at h
 exact h.1.2
end K
end Go.Proofs.YtamfgjinfcknfaaGreatDoor
namespace Go.Proofs.YtamfgjinfcknfaaGreatDoor
open Go.RowKit
theorem low_cls {b : UInt8} (h : cls b.toNat = 4) : lowB b = true := by
 have k : ∀ n, n < 256 → cls n = 4 → 97 ≤ n ∧ n ≤ 122 := by decide +kernel
 have := k _ b.toNat_lt h
 simp [lowB, this]
theorem tail_cls {b : UInt8} (h : nameB (cls b.toNat) = true) : tailB b = true := by
 have k : ∀ n, n < 256 → nameB (cls n) = true → (97 ≤ n ∧ n ≤ 122) ∨ (48 ≤ n ∧ n ≤ 57) ∨ n = 95 := by decide +kernel
 rcases k _ b.toNat_lt h with h | h | h <;> simp [tailB, lowB, h]
theorem tail_run : ∀ l : List UInt8, l.length ≤ runLen nameB l → l.all tailB = true
 | [], _ => rfl
 | b :: r, h => by
  rw [runLen] at h
  by_cases hb : nameB (cls b.toNat) = true
  ·rw [if_pos hb] at h
   simp only [List.length_cons] at h
   rw [List.all_cons, tail_cls hb, tail_run r (by omega)]
   rfl
  ·rw [if_neg hb] at h
   simp at h
theorem idxF_in (x : ByteArray) : ∀ (l : List ByteArray) (k : Nat), 0 ≤ idxF x l k → x ∈ l
 | [], k, h => by rw [idxF] at h; omega
 | y :: l, k, h => by
  rw [idxF] at h
  by_cases e : x = y
  ·rw [e]; exact List.mem_cons_self ..
  ·rw [if_neg e] at h
   exact List.mem_cons_of_mem _ (idxF_in x l (k + 1) h)
theorem key5_subB : (refU ++ (refE ++ (refP ++ (refI ++ refO)))).all (fun y => decide (y.data.toList ∈ keyL ++ inpL)) = true := by decide +kernel
theorem of_key5 {x : ByteArray} (h : key5 x = true) : keyB x = true := by
 have hm : x ∈ refU ++ (refE ++ (refP ++ (refI ++ refO))) := by
  unfold key5 idx at h
  simp only [Bool.or_eq_true, decide_eq_true_eq] at h
  simp only [List.mem_append]
  rcases h with h | h | h | h | h
  ·exact .inl (idxF_in x _ 0 h)
  ·exact .inr (.inl (idxF_in x _ 0 h))
  ·exact .inr (.inr (.inl (idxF_in x _ 0 h)))
  ·exact .inr (.inr (.inr (.inl (idxF_in x _ 0 h))))
  ·exact .inr (.inr (.inr (.inr (idxF_in x _ 0 h))))
 have h2 := of_decide_eq_true (List.all_eq_true.1 key5_subB x hm)
 have e : x.toList = x.data.toList := by rw [ByteArray.toList_eq]
 unfold keyB inpB
 rw [Bool.or_eq_true]
 rcases List.mem_append.1 h2 with h | h
 ·exact .inl (List.any_eq_true.2 ⟨_, h, by rw [e]; exact beq_self_eq_true _⟩)
 ·exact .inr (List.any_eq_true.2 ⟨_, h, by rw [e]; exact beq_self_eq_true _⟩)
theorem name_nm5 {x : ByteArray} (h : nameB1 x = true) : nm5 x = true := by
 have hsz : x.data.toList.length = x.size := by simp
 have e : x.toList = x.data.toList := by rw [ByteArray.toList_eq]
 unfold nameB1 lx at h
 by_cases hz : 10000 < x.size
 ·rw [if_pos hz] at h; cases h
 rw [if_neg hz] at h
 by_cases he : (lexF x (x.size + 1) (gapE x 0) 0).2.1 ≠ 0
 ·rw [if_pos he] at h; cases h
 rw [if_neg he] at h
 by_cases hp : x.size ≤ gapE x 0
 ·rw [lexF_done _ _ _ _ hp] at h; cases h
 by_cases hr : (rd x (gapE x 0)).2.2 ≠ 0
 ·rw [lexF, if_neg hp, if_neg (by decide), if_pos hr] at h; cases h
 rw [lexF, if_neg hp, if_neg (by decide), if_neg hr] at h
 simp only at h
 generalize (lexF x x.size (gapE x (rd x (gapE x 0)).2.1) (0 + 1)).1 = ts at h
 generalize gapE x 0 = g at *
 rcases ts with _ | ⟨t2, ts⟩
 ·simp only [Bool.and_eq_true, decide_eq_true_eq, Bool.not_eq_true'] at h
  obtain ⟨⟨hk, hx⟩, hkey⟩ := h
  have h5 : key5 x = false := by
   rcases hq : key5 x with _ | _
   ·rfl
   ·rw [of_key5 hq] at hkey; cases hkey
  by_cases c1 : tokLen (x.data.toList.drop g) = 0
  ·unfold rd at hr; rw [if_pos c1] at hr; exact absurd (by decide) hr
  by_cases c2 : tokErr ((x.data.toList.drop g).take (tokLen (x.data.toList.drop g))) ≠ 0
  ·unfold rd at hr; rw [if_neg c1, if_pos c2] at hr; exact absurd c2 hr
  unfold rd at hk hx
  rw [if_neg c1, if_neg c2] at hk hx
  simp only at hk hx
  have hy : (x.extract g (g + tokLen (x.data.toList.drop g))).data.toList = (x.data.toList.drop g).take (tokLen (x.data.toList.drop g)) := by simp [ByteArray.data_extract]
  generalize x.extract g (g + tokLen (x.data.toList.drop g)) = y at hk hx hy
  have ey : y.toList = y.data.toList := by rw [ByteArray.toList_eq]
  have c3 : tokErr ((x.data.toList.drop g).take (tokLen (x.data.toList.drop g))) = 0 := by simpa using c2
  clear c2
  unfold tokOf at hk hx
  rcases hyl : y.data.toList with _ | ⟨b, r⟩
  ·rw [hyl] at hk; simp at hk
  rw [hyl] at hk hx
  simp only at hk hx
  by_cases hc : cls b.toNat = 4
  ·rw [if_pos hc] at hx
   have hx : y.toList = x.toList := hx
   rw [ey, e] at hx
   rw [← hy, hx] at c3
   rw [hx] at hyl hy
   have hlen := congrArg List.length hy
   rw [List.length_take, List.length_drop] at hlen
   have hl1 : x.data.toList.length = r.length + 1 := by rw [hyl]; rfl
   obtain rfl : g = 0 := by omega
   rw [List.drop_zero, hyl] at hlen
   have ht : tokLen (b :: r) = runLen nameB (b :: r) := by unfold tokLen; simp only; rw [if_pos hc]
   have hrun := tail_run (b :: r) (by rw [← ht]; simp only [List.length_cons] at hlen ⊢; omega)
   rw [hyl] at c3
   have h12 : ¬ 12 < (b :: r).length := by
    intro hh
    unfold tokErr at c3
    simp only at c3
    rw [if_pos hc, if_pos hh] at c3
    cases c3
   rw [List.all_cons, Bool.and_eq_true] at hrun
   simp only [List.length_cons] at h12
   unfold nm5
   rw [hyl, nmBytes, low_cls hc, hrun.2, h5, decide_eq_true (show 1 ≤ x.size by omega), decide_eq_true (show x.size ≤ 12 by omega)]
   rfl
  ·rw [if_neg hc] at hk
   by_cases hc5 : cls b.toNat = 5
   ·rw [if_pos hc5] at hk; cases hk
   ·rw [if_neg hc5] at hk; cases hk
 ·cases h
namespace C
theorem vVar_back {v : U.Vr} (h : vVar (vNd v) = true) : nm5 v.x = true ∧ 0 ≤ v.u ∧ v.u ≤ 4 ∧ 0 ≤ v.lo ∧ v.hi ≤ 1000000000 := by
 unfold vVar at h
 simp only [Bool.and_eq_true] at h
 obtain ⟨⟨h1, h2⟩, h3⟩ := h
 have h1 : btw v.u 0 4 = true := h1
 unfold btw at h1
 simp only [Bool.and_eq_true, decide_eq_true_eq] at h1
 unfold namedB at h2
 simp only [Bool.and_eq_true] at h2
 have h2 : nameB1 v.x = true := h2.1.1.2
 have h3 : vNumbers [numNd v.lo, numNd v.hi, numNd v.i] 3 = true := h3
 simp only [vNumbers, Go.Proofs.YtamfgjinfcknfaaGreatDoor.allB, Bool.and_eq_true] at h3
 have hn : ∀ k : Int, vNumber (numNd k) = true → 0 ≤ k ∧ k ≤ 1000000000 := fun k hk => by
  unfold vNumber at hk
  simp only [Bool.and_eq_true] at hk
  have hk : btw k 0 1000000000 = true := hk.1.1
  unfold btw at hk
  simpa only [Bool.and_eq_true, decide_eq_true_eq] using hk
 exact ⟨name_nm5 h2, h1.1, h1.2, (hn _ h3.2.1).1, (hn _ h3.2.2.1).2⟩
theorem vRest_back (tl : List Nd) : ∀ vs : List U.Vr, vUses (vRest (vs.map vNd ++ tl)) 0 = true → ∀ v ∈ vs, vVar (vNd v) = true
 | [], _, v, hv => by cases hv
 | u :: vs, h, v, hv => by
  by_cases hu : vVar (vNd u) = true
  ·rcases List.mem_cons.1 hv with rfl | hv
   ·exact hu
   ·refine vRest_back tl vs ?_ v hv
    have e : vRest ((u :: vs).map vNd ++ tl) = vRest (vs.map vNd ++ tl) := by
     unfold vRest
     rw [List.map_cons, List.cons_append, lead, if_pos hu, List.drop_succ_cons]
    rw [e] at h
    exact h
  ·exfalso
   have hh : ¬ vHandler (vNd u) = true := by simp [vHandler, vNd, plainB, zn, Nd.n, Nd.kind]
   have e : vRest ((u :: vs).map vNd ++ tl) = vNd u :: (vs.map vNd ++ tl) := by
    unfold vRest
    rw [List.map_cons, List.cons_append, lead, if_neg hu, List.drop_zero, lead, if_neg hh, List.drop_zero]
   rw [e, vUses] at h
   simp [namedB, zn, vNd, Nd.n, Nd.kind] at h
theorem idx_at (x : ByteArray) (l2 : List ByteArray) : ∀ (l1 : List ByteArray) (k : Nat), (∀ y ∈ l1, x ≠ y) → idxF x (l1 ++ x :: l2) k = ((k + l1.length : Nat) : Int)
 | [], k, _ => by rw [List.nil_append, idxF, if_pos rfl]; rfl
 | y :: l1, k, h => by
  rw [List.cons_append, idxF, if_neg (h y (List.mem_cons_self ..)), idx_at x l2 l1 (k + 1) (fun z hz => h z (List.mem_cons_of_mem _ hz))]
  simp only [List.length_cons]
  omega
theorem vsM_back {all : List U.Vr} (hv : ∀ v ∈ all, nm5 v.x = true ∧ 0 ≤ v.u ∧ v.u ≤ 4 ∧ 0 ≤ v.lo ∧ v.hi ≤ 1000000000) : ∀ (rest pre r : List U.Vr), pre ++ rest = all → pre.length ≤ 12 → vsM (pre.map vNd) (rest.map vNd) pre = .ok r → r = all ∧ all.length ≤ 12 ∧ okVars nm5 all rest pre.length = true
 | [], pre, r, h, hl, e => by
  simp at h
  subst h
  rw [List.map_nil, vsM] at e
  cases e
  exact ⟨rfl, hl, rfl⟩
 | v :: rest, pre, r, h, hl, e => by
  rw [List.map_cons, vsM] at e
  by_cases h1 : (pre.map vNd).length < 12
  ·rw [if_pos h1] at e
   by_cases h2 : (pre.map vNd).any (isNm (vNd v).name) = true
   ·rw [if_pos h2] at e; cases e
   rw [if_neg h2] at e
   by_cases h3 : (decide (kidN (vNd v) 0 ≤ kidN (vNd v) 2) && decide (kidN (vNd v) 2 ≤ kidN (vNd v) 1)) = true
   ·rw [if_pos h3, vrOf_vNd] at e
    have e' : vsM ((pre ++ [v]).map vNd) (rest.map vNd) (pre ++ [v]) = .ok r := by rw [List.map_append]; exact e
    have hlt : pre.length < 12 := by simpa using h1
    obtain ⟨i1, i2, i3⟩ := vsM_back hv rest (pre ++ [v]) r (by simpa using h) (by simp; omega) e'
    refine ⟨i1, i2, ?_⟩
    have h3 : (decide (v.lo ≤ v.i) && decide (v.i ≤ v.hi)) = true := h3
    simp only [Bool.and_eq_true, decide_eq_true_eq] at h3
    obtain ⟨n1, n2, n3, n4, n5⟩ := hv v (by rw [← h]; simp)
    have hidx : idx (all.map (·.x)) v.x = (pre.length : Int) := by
     unfold idx
     rw [← h, List.map_append, List.map_cons]
     have := idx_at v.x (rest.map (·.x)) (pre.map (·.x)) 0 (by
      intro y hy hxy
      obtain ⟨u, hu, rfl⟩ := List.mem_map.1 hy
      exact h2 (List.any_eq_true.2 ⟨vNd u, List.mem_map.2 ⟨u, hu, rfl⟩, decide_eq_true hxy⟩))
     rw [this]
     simp
    have hvb : varB nm5 v = true := by
     unfold varB
     rw [n1, decide_eq_true n2, decide_eq_true n3, decide_eq_true n4, decide_eq_true h3.1, decide_eq_true h3.2, decide_eq_true n5]
     rfl
    rw [okVars, hvb, decide_eq_true hidx]
    simpa using i3
   ·rw [if_neg h3] at e; cases e
  ·rw [if_neg h1] at e; cases e
theorem useM_back {vs : List U.Vr} (hall : okVars nm5 vs vs 0 = true) {k un n j : Int} (hk : inB k vs.length = true) (hu : useM vs (useNd n (nameAt vs k)) un = .ok j) : usesB vs k un = true := by
 unfold inB at hk
 simp only [Bool.and_eq_true, decide_eq_true_eq] at hk
 have hlt : k.toNat < vs.length := by omega
 have hi := okVars_idx hall k.toNat _ (List.getElem?_eq_getElem hlt)
 have hn : nameAt vs k = vs[k.toNat].x := by unfold nameAt; rw [List.getElem?_eq_getElem hlt]; rfl
 have hi2 : idx (vs.map (·.x)) (nameAt vs k) = k := by rw [hn, hi]; omega
 have hnm : (useNd n (nameAt vs k)).name = nameAt vs k := rfl
 unfold useM at hu
 rw [hnm, hi2, if_pos hk.1, List.getElem?_eq_getElem hlt] at hu
 simp only at hu
 by_cases hun : vs[k.toNat].u = un
 ·unfold usesB
  rw [List.getElem?_eq_getElem hlt, decide_eq_true hk.1, decide_eq_true hk.2]
  simpa using hun
 ·rw [if_neg hun] at hu; cases hu
theorem chk_one {s : List U.Pw} : ∀ {ls : List (List U.St)} {k : Nat}, (U.chkL s ls k).2 = 0 → (U.chkL s ls k).1 = -1
 | [], k, _ => rfl
 | x :: xs, k, h => by
  rw [U.chkL] at h ⊢
  by_cases hx : U.handM s x = 0
  ·rw [if_pos hx] at h ⊢; exact chk_one h
  ·rw [if_neg hx] at h; exact absurd h hx
theorem val_v5 {x : ByteArray} {vs : List U.Vr} {on : List (List U.St)} {wi pa : Int} (h : valPM x vs on wi pa = true) : v5 nm5 x vs on wi pa = true := by
 unfold valPM declB at h
 simp only [Bool.and_eq_true, decide_eq_true_eq] at h
 obtain ⟨h1, h2, h3, h4, h5⟩ := h
 have c1 : (U.checkM (vs.map (·.u)) on).1 = -1 := by
  unfold U.checkM at h1 ⊢
  rcases hs : U.scopeM (vs.map (·.u)) with _ | s
  ·rw [hs] at h1; cases h1
  ·rw [hs] at h1 ⊢; exact chk_one h1
 have h6 : vItem (.mk 6 x 0 0 0 (declKids vs wi pa)) = true := by
  unfold validN at h4
  simp only [Bool.and_eq_true] at h4
  have h4 : (vItem (.mk 6 x 0 0 0 (declKids vs wi pa)) && true) = true := h4.2.2
  simpa using h4
 unfold vItem at h6
 simp only [Bool.and_eq_true] at h6
 obtain ⟨h7, h8⟩ := h6
 have hx : nm5 x = true := by
  unfold namedB at h7
  simp only [Bool.and_eq_true] at h7
  exact name_nm5 h7.1.1.2
 have h8 : vProg (declKids vs wi pa) = true := by simpa [Nd.kind, Nd.kids] using h8
 unfold vProg at h8
 simp only [Bool.and_eq_true] at h8
 have hv := fun v hv => vVar_back (vRest_back _ vs (by unfold declKids at h8; exact h8.1) v hv)
 unfold progM at h5
 simp only [List.any_nil, Bool.false_eq_true, if_false, List.length_nil] at h5
 rw [if_pos (by decide)] at h5
 rcases e1 : vsM [] (vs.map vNd) [] with d | r
 ·rw [e1] at h5; cases h5
 obtain ⟨rfl, hl, hok⟩ := vsM_back hv vs [] r rfl (Nat.zero_le _) e1
 have hok : okVars nm5 r r 0 = true := hok
 rw [e1] at h5
 simp only at h5
 rcases e2 : useM r (useNd 0 (nameAt r wi)) 1 with d | j
 ·rw [e2] at h5; cases h5
 have hw := useM_back hok h2 e2
 rw [e2] at h5
 simp only at h5
 have hp : (decide (pa = -1) || usesB r pa 4) = true := by
  by_cases hq : pa = -1
  ·rw [decide_eq_true hq]; rfl
  ·rcases e3 : paM r (usesM r pa) with d | j
   ·rw [e3] at h5; cases h5
   unfold usesM at e3
   rw [if_neg hq] at e3
   have h3 : inB pa r.length = true := by
    rw [decide_eq_false hq, Bool.false_or] at h3
    exact h3
   rw [useM_back hok h3 e3, Bool.or_true]
 have h1r : 1 ≤ r.length := by
  unfold inB at h2
  simp only [Bool.and_eq_true, decide_eq_true_eq] at h2
  omega
 unfold v5
 rw [hx, decide_eq_true h1r, decide_eq_true hl, hok, decide_eq_true c1, decide_eq_true h1, hw, hp]
 rfl
theorem val_iff (x : ByteArray) (vs : List U.Vr) (on : List (List U.St)) (wi pa : Int) : valPM x vs on wi pa = v5 nm5 x vs on wi pa := by
 rcases h : v5 nm5 x vs on wi pa with _ | _
 ·rcases h2 : valPM x vs on wi pa with _ | _
  ·rfl
  ·rw [val_v5 h2] at h; cases h
 ·exact v5_val (fun y hy => nm5_name hy) h
end C
end Go.Proofs.YtamfgjinfcknfaaGreatDoor
namespace Go.Proofs.YtamfgjinfcknfaaGreatDoor
open Go.RowKit
namespace K
open U (Ex St StsR VarsR Vr kbL)
open C (valPM v5 v5_val SomeB V1)
theorem Same_any (h0 h1 h2 h3 h4 g0 g1 g2 g3 g4 : Hd) (w : World) (hA : ∀ h ∈ [h0, h1, h2, h3, h4], InsR w h.l h.A) (hB : ∀ h ∈ [g0, g1, g2, g3, g4], InsR w h.l h.A) (hlen : ∀ h ∈ [h0, h1, h2, h3, h4], h.l.length ≤ 100000)
  (heq : [h0.l, h1.l, h2.l, h3.l, h4.l] = [g0.l, g1.l, g2.l, g3.l, g4.l]) :
  Calls Tryz.prog 10 #[.agg (cdA h0 h1 h2 h3 h4), .agg (cdA g0 g1 g2 g3 g4)] w (GG (.bool true) w) := by
 obtain ⟨W1, hW1⟩ : ∃ W1, W1 = w.alloc (.cells (cdA h0 h1 h2 h3 h4) 32) := ⟨_, rfl⟩
 obtain ⟨W2, hW2⟩ : ∃ W2, W2 = W1.alloc (.cells (cdA g0 g1 g2 g3 g4) 32) := ⟨_, rfl⟩
 have HG1 := Lib.hid (show Gr w W1 by rw [hW1]; exact grAlloc _ _)
 have hs1 : W1.heap.size = w.heap.size + 1 := by rw [hW1]; simp
 have hG12 := Lib.hid (show Gr W1 W2 by rw [hW2]; exact grAlloc _ _)
 have HX1 := Lib.hid (show W1.heap[w.heap.size]? = some (.cells (cdA h0 h1 h2 h3 h4) 32 (0, 0)) by rw [hW1]; exact nBlk _ _ _ rfl)
 have HX := Lib.hid (grBlk hG12.out HX1.out)
 have HY := Lib.hid (show W2.heap[w.heap.size + 1]? = some (.cells (cdA g0 g1 g2 g3 g4) 32 (0, 0)) by rw [hW2, ← hs1]; exact nBlk _ _ _ rfl)
 have HG2 := Lib.hid (HG1.out.tr hG12.out)
 have HRA := Lib.hid (fun h hh => (hA h hh).gr HG2.out)
 have HRB := Lib.hid (fun h hh => (hB h hh).gr HG2.out)
 have hL := Lib.hid hlen
 have hpair := Lib.hid (fun (j : Nat) (hj : j < 5) => show ∃ a b : Hd, [h0, h1, h2, h3, h4][j]? = some a ∧ [g0, g1, g2, g3, g4][j]? = some b ∧ a.l = b.l by
  simp only [List.cons.injEq] at heq
  obtain ⟨e0, e1, e2, e3, e4, -⟩ := heq
  rcases j with _ | _ | _ | _ | _ | j
  ·exact ⟨h0, g0, rfl, rfl, e0⟩
  ·exact ⟨h1, g1, rfl, rfl, e1⟩
  ·exact ⟨h2, g2, rfl, rfl, e2⟩
  ·exact ⟨h3, g3, rfl, rfl, e3⟩
  ·exact ⟨h4, g4, rfl, rfl, e4⟩
  ·omega)
 clear hA hB hlen heq HX1 hG12 HG1
 go_enter Tryz.func10, Tryz.ntmps10
 go_upto_region 1 with fail
 rw [← hW1]
 rw [← hW2]
 clear hW2 hW1 hs1
 obtain ⟨ab, hab⟩ : ∃ ab, w.heap.size = ab := ⟨_, rfl⟩
 obtain ⟨bb, hbb⟩ : ∃ bb, w.heap.size + 1 = bb := ⟨_, rfl⟩
 try rw [hbb]
 try rw [hab]
 rw [hbb] at HY
 rw [hab] at HX
 clear hbb hab
 have hg0 := Lib.hid (Below.refl W2.heap.size W2)
 go_wp2_with fail
 go_loopg [5] 5 (fun gk i wr => ∃ j : Nat, j + gk = 5 ∧ i = .int .i64 j ∧ Hid (Gr W2 wr))
 case atStart => exact ⟨0, rfl, rfl, hg0⟩
 case round =>
  obtain ⟨j, hj, rfl, hG⟩ := hrel
  by_cases hlt : j < 5
  ·obtain ⟨gq, rfl⟩ : ∃ g, gk = g + 1 := ⟨gk - 1, by omega⟩
   have HAr := Lib.hid (grBlk hG.out HX.out)
   have HBr := Lib.hid (grBlk hG.out HY.out)
   obtain ⟨ha, hb, la, lb, hne⟩ := hpair.out j hlt
   have cx : wr.cell? ⟨ab, j, none⟩ = some (hdV ha) := cdAt HAr.out la
   have cy : wr.cell? ⟨bb, j, none⟩ = some (hdV hb) := cdAt HBr.out lb
   have RA := Lib.hid ((HRA.out _ (List.mem_of_getElem? la)).gr hG.out)
   have RB := Lib.hid ((HRB.out _ (List.mem_of_getElem? lb)).gr hG.out)
   have hl1 := Lib.hid (hL.out _ (List.mem_of_getElem? la))
   obtain ⟨l1, A1, c1⟩ := ha
   obtain ⟨l2, A2, c2⟩ := hb
   have cx : wr.cell? ⟨ab, j, none⟩ = some (.slice A1 l1.length c1) := cx
   have cy : wr.cell? ⟨bb, j, none⟩ = some (.slice A2 l2.length c2) := cy
   have hl1 : Hid (l1.length ≤ 100000) := hl1
   obtain rfl : l1 = l2 := hne
   have t9 := Lib.hid (show decide ((j : Int) < 5) = true from decide_eq_true (by omega))
   clear la lb
   go_upto_region 4 with fail
   go_cut [19] (fun v wx => v = .bool false ∧ Hid (Gr wr wx))
   case first =>
    refine wp_region_G (S := fun wq => Gr wr wq) (by kernel_rfl) (grDrew _) (fun hHeld => ?_)
    have hSG : Hid (∀ wp wq : World, Gr wr wp → Gr wp wq → Gr wr wq) := Lib.hid (fun _ _ h k => h.tr k)
    have hmv := Lib.hid (fun (wq : World) (hq : Gr wr wq) => And.intro (grCell hq cx) (grCell hq cy))
    first
     | (refine tk hSG 0 (v := ?_) rfl (by kernel_rfl) (fun _ _ _ h => h) (by rfl) ?_ hHeld ?_; rotate_left; focus (intro w' hSw; obtain ⟨cx, cy⟩ := hmv.out _ hSw; go_simp; (try with_reducible rfl)))
     | refine tn hSG 0 rfl (by kernel_rfl) (fun _ _ _ h => h) (by rfl) hHeld ?_
    (try simp only [zq1, zq2, zq3, Act.put, zq4, zq5, zq6])
    first
     | (refine tk hSG 1 (v := ?_) rfl (by kernel_rfl) (fun _ _ _ h => h) (by rfl) ?_ hHeld ?_; rotate_left; focus (intro w' hSw; obtain ⟨cx, cy⟩ := hmv.out _ hSw; go_simp; (try with_reducible rfl)))
     | refine tn hSG 1 rfl (by kernel_rfl) (fun _ _ _ h => h) (by rfl) hHeld ?_
    (try simp only [zq1, zq2, zq3, Act.put, zq4, zq5, zq6])
    refine tk hSG 2 (v := .pointer (some ⟨ab, j, none⟩)) rfl (by kernel_rfl) (fun _ _ _ h => h) (by rfl) ?_ hHeld ?_
    focus (intro w' hSw; obtain ⟨cx, cy⟩ := hmv.out _ hSw; go_simp)
    (try simp only [zq1, zq2, zq3, Act.put, zq4, zq5, zq6])
    first
     | (refine tk hSG 3 (v := ?_) rfl (by kernel_rfl) (fun _ _ _ h => h) (by rfl) ?_ hHeld ?_; rotate_left; focus (intro w' hSw; obtain ⟨cx, cy⟩ := hmv.out _ hSw; go_simp; (try with_reducible rfl)))
     | refine tn hSG 3 rfl (by kernel_rfl) (fun _ _ _ h => h) (by rfl) hHeld ?_
    (try simp only [zq1, zq2, zq3, Act.put, zq4, zq5, zq6])
    first
     | (refine tk hSG 4 (v := ?_) rfl (by kernel_rfl) (fun _ _ _ h => h) (by rfl) ?_ hHeld ?_; rotate_left; focus (intro w' hSw; obtain ⟨cx, cy⟩ := hmv.out _ hSw; go_simp; (try with_reducible rfl)))
     | refine tn hSG 4 rfl (by kernel_rfl) (fun _ _ _ h => h) (by rfl) hHeld ?_
    (try simp only [zq1, zq2, zq3, Act.put, zq4, zq5, zq6])
    first
     | (refine tk hSG 5 (v := ?_) rfl (by kernel_rfl) (fun _ _ _ h => h) (by rfl) ?_ hHeld ?_; rotate_left; focus (intro w' hSw; obtain ⟨cx, cy⟩ := hmv.out _ hSw; go_simp; (try with_reducible rfl)))
     | refine tn hSG 5 rfl (by kernel_rfl) (fun _ _ _ h => h) (by rfl) hHeld ?_
    (try simp only [zq1, zq2, zq3, Act.put, zq4, zq5, zq6])
    refine tk hSG 6 (v := .pointer (some ⟨bb, j, none⟩)) rfl (by kernel_rfl) (fun _ _ _ h => h) (by rfl) ?_ hHeld ?_
    focus (intro w' hSw; obtain ⟨cx, cy⟩ := hmv.out _ hSw; go_simp)
    (try simp only [zq1, zq2, zq3, Act.put, zq4, zq5, zq6])
    first
     | (refine tk hSG 7 (v := ?_) rfl (by kernel_rfl) (fun _ _ _ h => h) (by rfl) ?_ hHeld ?_; rotate_left; focus (intro w' hSw; obtain ⟨cx, cy⟩ := hmv.out _ hSw; go_simp; (try with_reducible rfl)))
     | refine tn hSG 7 rfl (by kernel_rfl) (fun _ _ _ h => h) (by rfl) hHeld ?_
    (try simp only [zq1, zq2, zq3, Act.put, zq4, zq5, zq6])
    refine tc hSG 8 (v := .bool true) rfl (by kernel_rfl) (fun _ _ _ h => h) (by rfl) ?_ hHeld ?_
    focus (intro wz hSw K hK; obtain ⟨cx, cy⟩ := hmv.out _ hSw; go_simp; go_at_call 13; refine (SameInstrs_any l1 l1 A1 A2 c1 c2 _ (RA.out.gr hSw) (RB.out.gr hSw) hl1.out).mono ?_; rintro e w2 ⟨he, hb2⟩; rw [sameL_iff.2 rfl] at he; subst he; (try simp only [t9.out] at hK); first | exact hK.out _ hb2 | (have h9 := hK.out _ hb2; (try simp only [zq1, zq2, zq3, Act.put, zq4, zq5, zq6] at h9 ⊢); exact h9) | (have h9 := hK.out _ hb2; go_simp; exact h9))
    (try simp only [zq1, zq2, zq3, Act.put, zq4, zq5, zq6])
    first
     | (refine tk hSG 9 (v := ?_) rfl (by kernel_rfl) (fun _ _ _ h => h) (by rfl) ?_ hHeld ?_; rotate_left; focus (intro w' hSw; obtain ⟨cx, cy⟩ := hmv.out _ hSw; go_simp; (try with_reducible rfl)))
     | refine tn hSG 9 rfl (by kernel_rfl) (fun _ _ _ h => h) (by rfl) hHeld ?_
    (try simp only [zq1, zq2, zq3, Act.put, zq4, zq5, zq6])
    refine wpAnyG_done (by kernel_rfl) (fun w9 hgD => ?_) _
    have hg9 : Gr wr w9 := (grDrew wr).tr hgD
    clear hgD hSG hHeld
    go_wp2
    go_meet
    exact ⟨rfl, Lib.hid hg9⟩
   case rest =>
    obtain ⟨rfl, hg9⟩ := hcut
    have hGn := Lib.hid (hG.out.tr hg9.out)
    go_wp2
    go_roundg gq
    case measure => omega
    case rel => exact ⟨j + 1, by omega, by go_num, hGn⟩
  ·obtain rfl : gk = 0 := by omega
   obtain rfl : j = 5 := by omega
   go_wp2
   go_ret
   exact ⟨rfl, HG2.out.tr hG.out⟩
theorem valPM_all {x : ByteArray} {vs : List U.Vr} {on : List (List St)} {wi pa : Int} {hs : List Hd} (h : valPM x vs on wi pa = true) (hlen : vs.length ≤ 12) (hlg : longB on = false) (hls : hs.map (fun h => h.l) = on.map (fun l => cL l 0)) : verC hs vs.length = true := by
 rw [verC_map, hls, Bool.and_eq_true]
 refine ⟨by simp [btw2]; omega, ?_⟩
 rw [List.all_eq_true]
 intro y hy
 obtain ⟨l, hl, rfl⟩ := List.mem_map.1 hy
 exact valPM_ver h hl (len_le hlg hl)
theorem CodeCompiles_any (x : ByteArray) (vs : List Vr) (VA : Option Addr) (vm : Nat) (o : U.On) (a : U.OnA) (wi pa : Int) (w : World) (hP : LaidW w) (hw : 8 < w.heap.size) (hL : U.LaidW w) (hLO : LaidO w) (hE : LaidE w)
  (hV : VarsR w vs VA) (hlen : vs.length ≤ maxLen) (hO : U.OnR w o a) (hkb : ∀ l ∈ o.list, kbL l) (hx : x.size ≤ maxLen) (hv : ∀ v ∈ vs, v.x.size ≤ maxLen) :
  Calls Tryz.prog 3 #[U.pgv x VA vs.length vm o a wi pa] w (GG (.bool true) w) := by
 obtain ⟨W1, hW1⟩ : ∃ W1, W1 = w.alloc (.cells (U.pgArr x VA vs.length vm o a wi pa) 26) := ⟨_, rfl⟩
 have HG1 := Lib.hid (show Gr w W1 by rw [hW1]; exact grAlloc _ _)
 have HP1 := Lib.hid (show W1.heap[w.heap.size]? = some (.cells (U.pgArr x VA vs.length vm o a wi pa) 26 (0, 0)) by rw [hW1]; exact nBlk _ _ _ rfl)
 have HD := Lib.hid (fun (wx : World) (hg : Gr w wx) => head_any wx (hP.below hg hw) (Nat.lt_of_lt_of_le hw hg.size) (hL.below hg) (hLO.gr hg) (hE.gr hg))
 have HF := Lib.hid (fun (wx : World) (hg : Gr w wx) => C.RFew_any x vs VA vm o a wi pa wx (hV.below hg) hlen (hO.below hg) hkb)
 have HV := Lib.hid (fun (wx : World) (hg : Gr w wx) => C.R5Valid_any x vs VA vm o a wi pa wx (hV.below hg) hlen (hO.below hg) hx hv)
 obtain ⟨V, hVV⟩ : ∃ V, v5 nm5 x vs o.list wi pa = V := ⟨_, rfl⟩
 rw [hVV] at HV
 have HC := Lib.hid (fun (wx : World) (hg : Gr w wx) => show Calls Tryz.prog 8 #[U.pgv x VA vs.length vm o a wi pa] wx (CmpQ V o.list wx) by
  rw [← hVV, ← C.val_iff]
  exact Compile_any x vs VA vm o a wi pa wx (hP.below hg hw) (Nat.lt_of_lt_of_le hw hg.size) (hL.below hg) (hV.below hg) (hO.below hg) hx hv (hLO.gr hg))
 have HLE := Lib.hid (fun (wx : World) (hg : Gr w wx) => hE.gr hg)
 clear hP hw hL hLO hE hV hO hkb hx hv
 go_enter Tryz.func3, Tryz.ntmps3
 go_upto_region 1 with fail
 rw [← hW1]
 clear hW1
 go_upto_region 2 with (go_at_call 6; refine (HD.out _ HG1.out).mono ?_; rintro e w2 ⟨rfl, hg2⟩; have HP2 := Lib.hid (grBlk hg2 HP1.out); have HG2 := Lib.hid (HG1.out.tr hg2); clear hg2)
 obtain ⟨p0, p1, p2, p3, p4, p5, p6, p7, p8⟩ := U.cells9 HP2.out
 go_wp2_with fail
 refine (HF.out _ HG2.out).mono ?_
 rintro e w3 ⟨⟨b, rfl⟩, hg3⟩
 have HP3 := Lib.hid (grBlk hg3 HP2.out)
 have HG3 := Lib.hid (HG2.out.tr hg3)
 clear hg3 p0 p1 p2 p3 p4 p5 p6 p7 p8
 obtain ⟨p0, p1, p2, p3, p4, p5, p6, p7, p8⟩ := U.cells9 HP3.out
 cases b with
 | false =>
  go_wp2_with fail
  go_ret
  exact ⟨rfl, HG3.out⟩
 | true =>
  go_wp2_with fail
  refine (HC.out _ HG3.out).mono ?_
  rintro e w4 hC4
  clear HC HD HF
  cases V with
  | false =>
   obtain ⟨⟨-, rfl⟩ | ⟨h, -⟩ | ⟨h, -⟩, hg4⟩ := hC4
   ·have HP4 := Lib.hid (grBlk hg4 HP3.out)
    have HG4 := Lib.hid (HG3.out.tr hg4)
    obtain ⟨WA, hWA⟩ : ∃ WA, WA = w4.alloc (.cells #[nilS, nilS, nilS, nilS, nilS] 32) := ⟨_, rfl⟩
    have hgA := Lib.hid (show Gr w4 WA by rw [hWA]; exact grAlloc _ _)
    have HZA := Lib.hid (show WA.heap[w4.heap.size]? = some (.cells #[nilS, nilS, nilS, nilS, nilS] 32 (0, 0)) by rw [hWA]; exact nBlk _ _ _ rfl)
    have HPA := Lib.hid (grBlk hgA.out HP4.out)
    have HGA := Lib.hid (HG4.out.tr hgA.out)
    have HS := Lib.hid (fun wx : World => show Calls Tryz.prog 10 #[zeroCd, zeroCd] wx (GG (.bool true) wx) from Same_any (heE none 0) (heE none 0) (heE none 0) (heE none 0) (heE none 0) (heE none 0) (heE none 0) (heE none 0) (heE none 0) (heE none 0) wx (all5 (nilR _ _) (nilR _ _) (nilR _ _) (nilR _ _) (nilR _ _)) (all5 (nilR _ _) (nilR _ _) (nilR _ _) (nilR _ _) (nilR _ _)) (all5 (Nat.le_of_ble_eq_true rfl) (Nat.le_of_ble_eq_true rfl) (Nat.le_of_ble_eq_true rfl) (Nat.le_of_ble_eq_true rfl) (Nat.le_of_ble_eq_true rfl)) rfl)
    clear hg4 p0 p1 p2 p3 p4 p5 p6 p7 p8 hVV
    go_upto_region 5 with fail
    rw [← hWA]
    clear hWA HP4
    obtain ⟨ab, hab⟩ : ∃ ab, w4.heap.size = ab := ⟨_, rfl⟩
    rw [hab] at HZA
    rw [hab]
    clear hab
    obtain ⟨p0, p1, p2, p3, p4, p5, p6, p7, p8⟩ := U.cells9 HPA.out
    go_upto_region 6 with (go_at_call 9; refine (HV.out _ HGA.out).mono ?_; rintro e w5 ⟨rfl, hg5⟩; have HZ5 := Lib.hid (grBlk hg5 HZA.out); have HG5 := Lib.hid (HGA.out.tr hg5); clear hg5)
    clear p0 p1 p2 p3 p4 p5 p6 p7 p8
    obtain ⟨q0, q1, q2, q3, q4⟩ := cells5k HZ5.out
    go_wp2_with fail
    refine (HS.out _).mono ?_
    rintro e w6 ⟨rfl, hg6⟩
    go_wp2
    go_ret
    exact ⟨rfl, HG5.out.tr hg6⟩
   ·cases h
   ·cases h
  | true =>
   have hval := (C.val_iff x vs o.list wi pa).trans hVV
   have h12 := (v5_len hVV).2
   rcases hC4.cases with ⟨hlg, rfl, hg4⟩ | ⟨hlg, ⟨h0, h1, h2, h3, h4, rfl, hls, hRs⟩, hg4⟩
   ·have HP4 := Lib.hid (grBlk hg4 HP3.out)
    have HG4 := Lib.hid (HG3.out.tr hg4)
    obtain ⟨WA, hWA⟩ : ∃ WA, WA = w4.alloc (.cells #[nilS, nilS, nilS, nilS, nilS] 32) := ⟨_, rfl⟩
    have hgA := Lib.hid (show Gr w4 WA by rw [hWA]; exact grAlloc _ _)
    have HPA := Lib.hid (grBlk hgA.out HP4.out)
    have HGA := Lib.hid (HG4.out.tr hgA.out)
    clear hg4 p0 p1 p2 p3 p4 p5 p6 p7 p8 hVV hC4 hval h12 hlg
    go_upto_region 5 with fail
    rw [← hWA]
    clear hWA HP4
    obtain ⟨p0, p1, p2, p3, p4, p5, p6, p7, p8⟩ := U.cells9 HPA.out
    go_wp2_with (go_at_call 9; refine (HV.out _ HGA.out).mono ?_; rintro e w5 ⟨rfl, hg5⟩; have HG5 := Lib.hid (HGA.out.tr hg5); clear hg5)
    go_ret
    exact ⟨rfl, HG5.out⟩
   ·have HP4 := Lib.hid (grBlk hg4 HP3.out)
    have HG4 := Lib.hid (HG3.out.tr hg4)
    obtain ⟨WA, hWA⟩ : ∃ WA, WA = w4.alloc (.cells #[.slice h0.A h0.l.length h0.c, .slice h1.A h1.l.length h1.c, .slice h2.A h2.l.length h2.c, .slice h3.A h3.l.length h3.c, .slice h4.A h4.l.length h4.c] 32) := ⟨_, rfl⟩
    have hgA := Lib.hid (show Gr w4 WA by rw [hWA]; exact grAlloc _ _)
    have HZA := Lib.hid (show WA.heap[w4.heap.size]? = some (.cells #[.slice h0.A h0.l.length h0.c, .slice h1.A h1.l.length h1.c, .slice h2.A h2.l.length h2.c, .slice h3.A h3.l.length h3.c, .slice h4.A h4.l.length h4.c] 32 (0, 0)) by rw [hWA]; exact nBlk _ _ _ rfl)
    have HPA := Lib.hid (grBlk hgA.out HP4.out)
    have HGA := Lib.hid (HG4.out.tr hgA.out)
    have hver : verC [h0, h1, h2, h3, h4] vs.length = true := valPM_all hval h12 hlg hls
    have hl4 : ∀ h ∈ [h0, h1, h2, h3, h4], h.l.length ≤ 4500 := by
     intro h hh
     have hm : h.l ∈ [h0, h1, h2, h3, h4].map (fun h => h.l) := List.mem_map.2 ⟨h, hh, rfl⟩
     rw [show [h0, h1, h2, h3, h4].map (fun h => h.l) = [h0.l, h1.l, h2.l, h3.l, h4.l] from rfl, hls] at hm
     obtain ⟨l, hl, e⟩ := List.mem_map.1 hm
     have := len_le hlg hl
     have e : cL l 0 = h.l := e
     rw [← e, cL_len]
     omega
    have HVy := Lib.hid (fun (wx : World) (hg : Gr WA wx) => show Calls Tryz.prog 11 #[.agg #[.slice h0.A h0.l.length h0.c, .slice h1.A h1.l.length h1.c, .slice h2.A h2.l.length h2.c, .slice h3.A h3.l.length h3.c, .slice h4.A h4.l.length h4.c], .int .i64 vs.length] wx (GG (.bool true) wx) by
     have h := Verify_all h0 h1 h2 h3 h4 vs.length wx (fun h hh => (hRs h hh).gr (hgA.out.tr hg)) hl4 (HLE.out _ (HGA.out.tr hg))
     rw [hver] at h
     exact h)
    clear hg4 p0 p1 p2 p3 p4 p5 p6 p7 p8 hVV hC4 hval h12 hlg hls hRs hver hl4
    go_upto_region 5 with fail
    rw [← hWA]
    clear hWA HP4
    obtain ⟨ab, hab⟩ : ∃ ab, w4.heap.size = ab := ⟨_, rfl⟩
    rw [hab] at HZA
    rw [hab]
    clear hab
    obtain ⟨p0, p1, p2, p3, p4, p5, p6, p7, p8⟩ := U.cells9 HPA.out
    go_upto_region 7 with (go_at_call 9; refine (HV.out _ HGA.out).mono ?_; rintro e w5 ⟨rfl, hg5⟩; have HZ5 := Lib.hid (grBlk hg5 HZA.out); have HP5 := Lib.hid (grBlk hg5 HPA.out); have HA5 := Lib.hid hg5; have HG5 := Lib.hid (HGA.out.tr hg5); clear hg5)
    clear p0 p1 p2 p3 p4 p5 p6 p7 p8
    obtain ⟨q0, q1, q2, q3, q4⟩ := cells5k HZ5.out
    obtain ⟨p0, p1, p2, p3, p4, p5, p6, p7, p8⟩ := U.cells9 HP5.out
    go_wp2_with fail
    refine (HVy.out _ HA5.out).mono ?_
    rintro e w6 ⟨rfl, hg6⟩
    go_wp2
    go_ret
    exact ⟨rfl, HG5.out.tr hg6⟩
end K
end Go.Proofs.YtamfgjinfcknfaaGreatDoor
