/- Texts of one proof: RxG, RxI, RxJ, MxM, MxE. -/
import Derived.Test.YtdlebaiamdbneaaGreatDoorYf
import Derived.Recover
import Derived.Defers
set_option linter.unusedVariables false
set_option linter.unusedSimpArgs false
set_option maxRecDepth 100000
set_option maxHeartbeats 8000000
namespace Go.Proofs.YtdlebaiamdbneaaGreatDoor
open Go.RowKit
namespace R
open I
theorem ta_nilE (w : World) : (Instr.typeAssert .nilIface 20 33 true).run Tryz.prog w = .ok (.tuple #[.int .i64 0, .bool false]) w := by
 simp [Instr.typeAssert, go_sem]
theorem ta_errE (er : Int) (w : World) : (Instr.typeAssert (.iface 33 (.int .i64 er)) 20 33 true).run Tryz.prog w = .ok (.tuple #[.int .i64 er, .bool true]) w := by
 simp [Instr.typeAssert, go_sem]
def erOf : Except Int Unit → Int
 | .ok _ => 0
 | .error e => e
def LeftP (r : Except Int Unit) (Post : World → Prop) (e : Ending) (w' : World) : Prop :=
 (match r with
  | .ok _ => e = .returned (.tuple #[])
  | .error er => e = epanic er) ∧ Post w'
end R
end Go.Proofs.YtdlebaiamdbneaaGreatDoor
namespace Go.Proofs.YtdlebaiamdbneaaGreatDoor
open Go.RowKit
namespace R
open I
open U (Ex eArr ev KidsE)
theorem cell1 {w : World} {b : Nat} {v : Value} {T : TypeId} (h : w.heap[b]? = some (.cells #[v] T (0, 0))) : w.cell? ⟨b, 0, none⟩ = some v := by rw [cell_of_row _ _ 0 _ _ (0, 0) h]; rfl
end R
end Go.Proofs.YtdlebaiamdbneaaGreatDoor
namespace Go.Proofs.YtdlebaiamdbneaaGreatDoor
open Go.RowKit
namespace R
open I
open U (Ex St)
mutual
def WfS (n : Nat) : St → Prop
 | .mk k v r a b th el => (k = 1 ∧ 0 ≤ v ∧ v < n ∧ a.size ≤ 60) ∨ (k = 2 ∧ 1 ≤ r ∧ r ≤ 6 ∧ a.size ≤ 60 ∧ b.size ≤ 60 ∧ WfL n th ∧ WfL n el)
def WfL (n : Nat) : List St → Prop
 | [] => True
 | x :: xs => WfS n x ∧ WfL n xs
end
def insR : List Sp := [⟨1, 1000⟩, ⟨1, 10000000⟩, ⟨1, 10000⟩, ⟨0, 4000⟩]
open U (Pw inf infK nodeP stM stsM handM szS szL evL btw formB) in
mutual
theorem wf_st {s : List Pw} : ∀ x : St, stM s x = 0 → szS x → WfS s.length x
 | .mk k v r a b th el, h, hz => by
  rw [U.stM] at h
  rw [U.szS] at hz
  rw [WfS]
  by_cases h1 : k = 1
  ·rw [if_pos h1] at h
   unfold U.assignM at h
   split at h
   ·rename_i g
    simp only [U.btw, Bool.and_eq_true, decide_eq_true_eq] at g
    exact .inl ⟨h1, g.1, by omega, hz.1⟩
   ·cases h
  ·rw [if_neg h1] at h
   split at h
   ·rename_i h2
    split at h
    ·rename_i g
     simp only [U.btw, Bool.and_eq_true, decide_eq_true_eq] at g
     split at h
     ·split at h
      ·rename_i gt
       exact .inr ⟨h2, g.1, g.2, hz.1, (hz.2 h2).1, wf_sts th gt (hz.2 h2).2.1, wf_sts el h (hz.2 h2).2.2⟩
      ·rename_i gt
       exact absurd h gt
     ·rename_i gc
      exact absurd h gc
    ·cases h
   ·cases h
theorem wf_sts {s : List Pw} : ∀ l : List St, stsM s l = 0 → szL l → WfL s.length l
 | [], _, _ => by rw [WfL]; trivial
 | x :: xs, h, hz => by
  rw [U.stsM] at h
  rw [U.szL] at hz
  rw [WfL]
  split at h
  ·rename_i g
   exact ⟨wf_st x g hz.1, wf_sts xs h hz.2⟩
  ·rename_i g
   exact absurd h g
end
theorem wf_hand {s : List U.Pw} {l : List St} (h : U.handM s l = 0) : WfL s.length l := by
 unfold U.handM at h
 split at h
 ·rename_i g
  exact wf_sts l h (U.evL_sz l 100 g)
 ·cases h
theorem chk_all {s : List U.Pw} : ∀ {ls : List (List St)} {k : Nat}, (U.chkL s ls k).2 = 0 → ∀ l ∈ ls, U.handM s l = 0
 | [], _, _, l, hl => by cases hl
 | x :: xs, k, h, l, hl => by
  rw [U.chkL] at h
  split at h
  ·rename_i g
   rcases List.mem_cons.1 hl with rfl | hl
   ·exact g
   ·exact chk_all h l hl
  ·rename_i g
   exact absurd h g
theorem check_wf {us : List Int} {on : List (List St)} (h : (U.checkM us on).2 = 0) : ∀ l ∈ on, WfL us.length l := by
 unfold U.checkM at h
 rcases hs : U.scopeM us with _ | s
 ·rw [hs] at h; cases h
 ·rw [hs] at h
  simp only at h
  have hl : s.length = us.length := by
   unfold U.scopeM at hs
   split at hs
   ·cases hs; simp
   ·cases hs
  intro l hm
  rw [← hl]
  exact wf_hand (chk_all h l hm)
end R
end Go.Proofs.YtdlebaiamdbneaaGreatDoor
namespace Go.Proofs.YtdlebaiamdbneaaGreatDoor
open Go.RowKit
namespace M
open I
open U (Ex St)
theorem quot_ok {a b : Int} (hb : b ≠ 0) : (0 < b ∧ 0 ≤ a - divF a b * b ∧ a - divF a b * b < b) ∨ (b < 0 ∧ a - divF a b * b ≤ 0 ∧ b < a - divF a b * b) := by
 unfold divF
 rcases Int.lt_or_gt_of_ne hb with h | h
 ·right
  rw [fdiv_neg_eq _ h]
  have h1 := Int.emod_add_mul_ediv (-a) (-b)
  have h2 := Int.emod_nonneg (-a) (show -b ≠ 0 by omega)
  have h3 := Int.emod_lt_of_pos (-a) (show 0 < -b by omega)
  have h4 : (-a) / (-b) * b = -((-b) * ((-a) / (-b))) := by rw [Int.neg_mul, Int.neg_neg, Int.mul_comm]
  rw [h4]
  omega
 ·left
  rw [fdiv_pos _ h]
  have h1 := Int.emod_add_mul_ediv a b
  have h2 := Int.emod_nonneg a (show b ≠ 0 by omega)
  have h3 := Int.emod_lt_of_pos a h
  have h4 : a / b * b = b * (a / b) := Int.mul_comm _ _
  rw [h4]
  omega
def rvE (r : Except Int Int) : Int × Int := match r with
 | .ok n => (n, 0)
 | .error e => (0, e)
def evalE (st ins : List Int) (t : Ex) : Int × Int := if 60 < t.size then (0, 2) else rvE (mvE st ins t)
abbrev x2 (op : Int) : Ex := .mk op 0 0 [.mk 2 0 0 [], .mk 2 1 0 []]
theorem x2_val {a b op : Int} (ha : vN a = true) (hb : vN b = true) (ins : List Int) : evalE [a, b] ins (x2 op) = rvE (chkE (opE op a b)) := by
 have h1 : mvE [a, b] ins (.mk 2 0 0 []) = .ok a := by rw [mvE, mvK]; simp only [nodE, leafE]; simp [chkE, ha]
 have h2 : mvE [a, b] ins (.mk 2 1 0 []) = .ok b := by rw [mvE, mvK]; simp only [nodE, leafE]; simp [chkE, hb]
 unfold evalE
 rw [if_neg (by simp only [Ex.size, U.szK]; omega), mvE, mvK, h1, mvK, h2, mvK]
 rfl
theorem x2_out {a b op : Int} (h : ¬(vN a = true ∧ vN b = true)) (ins : List Int) : evalE [a, b] ins (x2 op) = (0, 3) := by
 unfold evalE
 rw [if_neg (by simp only [Ex.size, U.szK]; omega), mvE, mvK]
 by_cases ha : vN a = true
 ·have h1 : mvE [a, b] ins (.mk 2 0 0 []) = .ok a := by rw [mvE, mvK]; simp only [nodE, leafE]; simp [chkE, ha]
  have hb : ¬ vN b = true := fun hb => h ⟨ha, hb⟩
  have h2 : mvE [a, b] ins (.mk 2 1 0 []) = .error 3 := by rw [mvE, mvK]; simp only [nodE, leafE]; simp [chkE, hb]
  rw [h1, mvK, h2]
  rfl
 ·have h1 : mvE [a, b] ins (.mk 2 0 0 []) = .error 3 := by rw [mvE, mvK]; simp only [nodE, leafE]; simp [chkE, ha]
  rw [h1]
  rfl
theorem opE_sym {op a b : Int} (h : op = 4 ∨ op = 6 ∨ op = 9 ∨ op = 10) : opE op a b = opE op b a := by
 rcases h with rfl | rfl | rfl | rfl
 ·show Except.ok (a + b) = Except.ok (b + a); rw [Int.add_comm]
 ·show (if vN (a * b) = true then Except.ok (a * b) else Except.error 3) = (if vN (b * a) = true then Except.ok (b * a) else Except.error 3); rw [Int.mul_comm]
 ·show Except.ok (min a b) = Except.ok (min b a); congr 1; omega
 ·show Except.ok (max a b) = Except.ok (max b a); congr 1; omega
theorem law_sym {op a b : Int} (h : op = 4 ∨ op = 6 ∨ op = 9 ∨ op = 10) (ins : List Int) : evalE [a, b] ins (x2 op) = evalE [b, a] ins (x2 op) := by
 by_cases hv : vN a = true ∧ vN b = true
 ·rw [x2_val hv.1 hv.2, x2_val hv.2 hv.1, opE_sym h]
 ·rw [x2_out hv, x2_out (fun k => hv ⟨k.2, k.1⟩)]
theorem quot_v {a b : Int} (ha : vN a = true) (hb : b ≠ 0) : vN (divF a b) = true := by
 have h := absF_fdiv a b hb
 have h2 := quot_ok (a := a) hb
 rw [vN_iff] at ha ⊢
 generalize divF a b = q at *
 have key : ∀ c : Int, 0 < c → ∀ x : Int, -1000000000000 ≤ x → x ≤ 1000000000000 → 0 ≤ x - q * c → x - q * c < c → -1000000000000 ≤ q ∧ q ≤ 1000000000000 := by
  intro c hc x h1 h2 h3 h4
  constructor
  ·by_cases hq : -1000000000000 ≤ q
   ·exact hq
   ·have : q * c ≤ (-1000000000001) * c := Int.mul_le_mul_of_nonneg_right (by omega) (by omega)
    omega
  ·by_cases hq : q ≤ 1000000000000
   ·exact hq
   ·have : 1000000000001 * c ≤ q * c := Int.mul_le_mul_of_nonneg_right (by omega) (by omega)
    omega
 rcases h2 with ⟨h1, h2, h3⟩ | ⟨h1, h2, h3⟩
 ·exact key b h1 a ha.1 ha.2 h2 h3
 ·have e : q * b = -(q * -b) := by rw [Int.mul_neg, Int.neg_neg]
  exact key (-b) (by omega) (-a) (by omega) (by omega) (by rw [e] at h2; omega) (by rw [e] at h3; omega)
mutual
def usE (k : Int) : Ex → Bool
 | .mk op n u ks => usK k ks || (decide (op = 3) && decide (n = k))
def usK (k : Int) : List Ex → Bool
 | [] => false
 | t :: ts => usE k t || usK k ts
end
mutual
theorem mv_in {st ins : List Int} {k x : Int} (h0 : 0 ≤ k) : ∀ t : Ex, usE k t = false → mvE st (ins.set k.toNat x) t = mvE st ins t
 | .mk op n u ks, h => by
  rw [usE, Bool.or_eq_false_iff] at h
  rw [mvE, mvE, mvK_in h0 ks h.1]
  rcases mvK st ins ks with e | ss
  ·rfl
  ·simp only
   match ss with
   | [] =>
    simp only [nodE]
    congr 1
    unfold leafE
    split
    ·rfl
    split
    ·rfl
    split
    ·rename_i g
     have hn : n ≠ k := fun e => by have := h.2; simp [g.1, e] at this
     rw [List.getElem?_set_ne (by omega)]
    ·rfl
   | [a, b] => rfl
   | [a] => rfl
   | a :: b :: c :: l => rfl
theorem mvK_in {st ins : List Int} {k x : Int} (h0 : 0 ≤ k) : ∀ ks : List Ex, usK k ks = false → mvK st (ins.set k.toNat x) ks = mvK st ins ks
 | [], _ => rfl
 | t :: ts, h => by
  rw [usK, Bool.or_eq_false_iff] at h
  rw [mvK, mvK, mv_in h0 t h.1, mvK_in h0 ts h.2]
end
mutual
def rdS (k : Int) : St → Bool
 | .mk kd v r a b th el => usE k a || (decide (kd = 2) && (usE k b || (rdL k th || rdL k el)))
def rdL (k : Int) : List St → Bool
 | [] => false
 | x :: xs => rdS k x || rdL k xs
end
mutual
theorem rn_in {ins : List Int} {lim : List Sp} {k x : Int} (h0 : 0 ≤ k) {n : Nat} : ∀ (s : St) (st : List Int), R.WfS n s → rdS k s = false → rnS (ins.set k.toNat x) lim st s = rnS ins lim st s
 | .mk kd v r a b th el, st, hw, h => by
  rw [R.WfS] at hw
  rw [rdS, Bool.or_eq_false_iff] at h
  rw [rnS, rnS, mv_in h0 a h.1]
  split
  ·rfl
  ·rename_i hk
   rcases hw with hw | ⟨h2, -, -, -, -, w1, w2⟩
   ·exact absurd hw.1 hk
   have h3 := h.2
   simp only [h2, decide_true, Bool.true_and, Bool.or_eq_false_iff] at h3
   rw [mv_in h0 b h3.1]
   rcases mvE st ins a with e | y
   ·rfl
   simp only
   rcases mvE st ins b with e | z
   ·rfl
   simp only
   rw [rnL_in h0 th st w1 h3.2.1, rnL_in h0 el st w2 h3.2.2]
theorem rnL_in {ins : List Int} {lim : List Sp} {k x : Int} (h0 : 0 ≤ k) {n : Nat} : ∀ (l : List St) (st : List Int), R.WfL n l → rdL k l = false → rnL (ins.set k.toNat x) lim st l = rnL ins lim st l
 | [], st, _, _ => rfl
 | s :: l, st, hw, h => by
  rw [R.WfL] at hw
  rw [rdL, Bool.or_eq_false_iff] at h
  rw [rnL, rnL, rn_in h0 s st hw.1 h.1]
  rcases rnS ins lim st s with e | v
  ·rfl
  ·exact rnL_in h0 l v hw.2 h.2
end
theorem mvK_len {st ins : List Int} : ∀ {ks : List Ex} {ns : List Int}, mvK st ins ks = .ok ns → ns.length = ks.length
 | [], ns, h => by rw [mvK] at h; cases h; rfl
 | t :: ts, ns, h => by
  rw [mvK] at h
  rcases h1 : mvE st ins t with e | n
  ·rw [h1] at h; cases h
  rw [h1] at h
  rcases h2 : mvK st ins ts with e | l
  ·rw [h2] at h; cases h
  rw [h2] at h
  cases h
  simp [mvK_len h2]
mutual
theorem mv_form {s : List U.Pw} {st ins : List Int} (hl : st.length = s.length) : ∀ (t : Ex) {p : U.Pw}, U.inf s t = .ok p → mvE st ins t ≠ .error 1
 | .mk op n u ks, p, h, h1 => by
  rw [U.inf] at h
  rcases hk : U.infK s ks with e | ps
  ·rw [hk] at h; cases h
  rw [hk] at h
  simp only at h
  have hlen := U.infK_len hk
  rw [mvE] at h1
  rcases hm : mvK st ins ks with e | ns
  ·rw [hm] at h1
   simp only [Except.error.injEq] at h1
   subst h1
   exact mvK_form hl ks hk hm
  rw [hm] at h1
  simp only at h1
  have hln := mvK_len hm
  unfold U.nodeP at h
  split at h
  ·rename_i hf
   have hchk : ∀ r, r ≠ .error 1 → chkE r ≠ .error 1 := by
    intro r hr
    unfold chkE
    rcases r with e | k
    ·exact hr
    ·simp only
     split
     ·simp
     ·simp
   unfold U.formB at hf
   match ns, hln, h1 with
   | [], hln, h1 =>
    have h0 : ps.length = 0 := by rw [hlen, ← hln]; rfl
    refine hchk _ ?_ h1
    unfold leafE
    split at hf
    ·rename_i g; rw [if_pos g]; simp
    rename_i g1
    rw [if_neg g1]
    split at hf
    ·rename_i g2
     simp only [U.btw, Bool.and_eq_true, decide_eq_true_eq] at hf
     rw [if_pos ⟨g2, hf.2.1, by omega⟩]
     simp
    rename_i g2
    rw [if_neg (fun q => g2 q.1)]
    split at hf
    ·rename_i g3
     simp only [U.btw, Bool.and_eq_true, decide_eq_true_eq] at hf
     rw [if_pos ⟨g3, hf.2.1, by omega⟩]
     simp
    ·rw [h0] at hf
     simp at hf
   | [a, b], hln, h1 =>
    have h2 : ps.length = 2 := by rw [hlen, ← hln]; rfl
    refine hchk _ ?_ h1
    rw [h2] at hf
    split at hf
    ·simp at hf
    split at hf
    ·simp at hf
    split at hf
    ·simp at hf
    simp only [U.btw, Bool.and_eq_true, decide_eq_true_eq] at hf
    have : op = 4 ∨ op = 5 ∨ op = 6 ∨ op = 7 ∨ op = 8 ∨ op = 9 ∨ op = 10 := by omega
    rcases this with rfl | rfl | rfl | rfl | rfl | rfl | rfl
    ·simp [opE]
    ·simp [opE]
    ·show (if vN (a * b) = true then (Except.ok (a * b) : Except Int Int) else Except.error 3) ≠ _
     by_cases q : vN (a * b) = true
     ·rw [if_pos q]; simp
     ·rw [if_neg q]; simp
    ·show (if b = 0 then (Except.error 14 : Except Int Int) else Except.ok (divF a b)) ≠ _
     by_cases q : b = 0
     ·rw [if_pos q]; simp
     ·rw [if_neg q]; simp
    ·show (if b = 0 then (Except.error 14 : Except Int Int) else Except.ok (-(divF (-a) b))) ≠ _
     by_cases q : b = 0
     ·rw [if_pos q]; simp
     ·rw [if_neg q]; simp
    ·simp [opE]
    ·simp [opE]
   | [a], hln, h1 =>
    have h2 : ps.length = 1 := by rw [hlen, ← hln]; rfl
    rw [h2] at hf
    repeat' split at hf
    all_goals simp at hf
   | a :: b :: c :: l, hln, h1 =>
    have h2 : ps.length = l.length + 3 := by rw [hlen, ← hln]; rfl
    rw [h2] at hf
    repeat' split at hf
    all_goals simp at hf
    all_goals omega
  ·cases h
theorem mvK_form {s : List U.Pw} {st ins : List Int} (hl : st.length = s.length) : ∀ (ks : List Ex) {ps : List U.Pw}, U.infK s ks = .ok ps → mvK st ins ks ≠ .error 1
 | [], ps, h, h1 => by rw [mvK] at h1; cases h1
 | t :: ts, ps, h, h1 => by
  rw [U.infK] at h
  rcases hk : U.inf s t with e | p
  ·rw [hk] at h; cases h
  rw [hk] at h
  simp only at h
  rcases hk2 : U.infK s ts with e | ps2
  ·rw [hk2] at h; cases h
  rw [mvK] at h1
  rcases hm : mvE st ins t with e | n
  ·rw [hm] at h1
   simp only [Except.error.injEq] at h1
   subst h1
   exact mv_form hl t hk hm
  rw [hm] at h1
  simp only at h1
  rcases hm2 : mvK st ins ts with e | l
  ·rw [hm2] at h1
   simp only [Except.error.injEq] at h1
   subst h1
   exact mvK_form hl ts hk2 hm2
  rw [hm2] at h1
  cases h1
end
def InLim (lim : List Sp) (st : List Int) : Prop := st.length = lim.length ∧ ∀ k, k < lim.length → ((lim[k]?).getD ⟨0, 0⟩).lo ≤ (st[k]?).getD 0 ∧ (st[k]?).getD 0 ≤ ((lim[k]?).getD ⟨0, 0⟩).hi
theorem InLim.set {lim : List Sp} {st : List Int} (h : InLim lim st) {k : Nat} {n : Int} (hn : ((lim[k]?).getD ⟨0, 0⟩).lo ≤ n ∧ n ≤ ((lim[k]?).getD ⟨0, 0⟩).hi) : InLim lim (st.set k n) := by
 refine ⟨by simp [h.1], fun j hj => ?_⟩
 by_cases e : k = j
 ·subst e
  rw [List.getElem?_set_self (by rw [h.1]; exact hj)]
  exact hn
 ·rw [List.getElem?_set_ne e]
  exact h.2 j hj
mutual
theorem rn_lim {ins : List Int} {lim : List Sp} : ∀ (s : St) {st st' : List Int}, InLim lim st → rnS ins lim st s = .ok st' → InLim lim st'
 | .mk kd v r a b th el, st, st', hs, h => by
  rw [rnS] at h
  split at h
  ·rcases ha : mvE st ins a with e | n
   ·rw [ha] at h; cases h
   rw [ha] at h
   simp only at h
   split at h
   ·rename_i g; cases h; exact hs.set g
   ·cases h
  ·rcases ha : mvE st ins a with e | x
   ·rw [ha] at h; cases h
   rw [ha] at h
   simp only at h
   rcases hb : mvE st ins b with e | y
   ·rw [hb] at h; cases h
   rw [hb] at h
   simp only at h
   split at h
   ·exact rnL_lim th hs h
   ·exact rnL_lim el hs h
theorem rnL_lim {ins : List Int} {lim : List Sp} : ∀ (l : List St) {st st' : List Int}, InLim lim st → rnL ins lim st l = .ok st' → InLim lim st'
 | [], st, st', hs, h => by rw [rnL] at h; cases h; exact hs
 | x :: xs, st, st', hs, h => by
  rw [rnL] at h
  rcases h1 : rnS ins lim st x with e | v
  ·rw [h1] at h; cases h
  rw [h1] at h
  exact rnL_lim xs (rn_lim x hs h1) h
end
theorem rnL_app {ins : List Int} {lim : List Sp} : ∀ (l m : List St) (st : List Int), rnL ins lim st (l ++ m) = (match rnL ins lim st l with
  | .error e => .error e
  | .ok v => rnL ins lim v m)
 | [], m, st => rfl
 | x :: l, m, st => by
  rw [List.cons_append, rnL, rnL]
  rcases rnS ins lim st x with e | v
  ·rfl
  ·exact rnL_app l m v
mutual
def asS (k : Int) : St → Bool
 | .mk kd v r a b th el => (decide (kd = 1) && decide (v = k)) || (decide (kd = 2) && (asL k th || asL k el))
def asL (k : Int) : List St → Bool
 | [] => false
 | x :: xs => asS k x || asL k xs
end
mutual
theorem rn_keep {ins : List Int} {lim : List Sp} {n k : Nat} : ∀ (s : St) {st st' : List Int}, R.WfS n s → asS k s = false → rnS ins lim st s = .ok st' → st'[k]? = st[k]?
 | .mk kd v r a b th el, st, st', hw, hk, h => by
  rw [R.WfS] at hw
  rw [asS, Bool.or_eq_false_iff] at hk
  rw [rnS] at h
  split at h
  ·rename_i g
   rcases ha : mvE st ins a with e | y
   ·rw [ha] at h; cases h
   rw [ha] at h
   simp only at h
   split at h
   ·cases h
    have hv : v ≠ k := fun e => by have := hk.1; simp [g, e] at this
    rcases hw with hw | hw
    ·rw [List.getElem?_set_ne (by omega)]
    ·omega
   ·cases h
  ·rename_i g
   rcases hw with hw | ⟨h2, -, -, -, -, w1, w2⟩
   ·exact absurd hw.1 g
   have hk2 := hk.2
   simp only [h2, decide_true, Bool.true_and, Bool.or_eq_false_iff] at hk2
   rcases ha : mvE st ins a with e | x
   ·rw [ha] at h; cases h
   rw [ha] at h
   simp only at h
   rcases hb : mvE st ins b with e | y
   ·rw [hb] at h; cases h
   rw [hb] at h
   simp only at h
   split at h
   ·exact rnL_keep th w1 hk2.1 h
   ·exact rnL_keep el w2 hk2.2 h
theorem rnL_keep {ins : List Int} {lim : List Sp} {n k : Nat} : ∀ (l : List St) {st st' : List Int}, R.WfL n l → asL k l = false → rnL ins lim st l = .ok st' → st'[k]? = st[k]?
 | [], st, st', _, _, h => by rw [rnL] at h; cases h; rfl
 | x :: xs, st, st', hw, hk, h => by
  rw [R.WfL] at hw
  rw [asL, Bool.or_eq_false_iff] at hk
  rw [rnL] at h
  rcases h1 : rnS ins lim st x with e | v
  ·rw [h1] at h; cases h
  rw [h1] at h
  exact (rnL_keep xs hw.2 hk.2 h).trans (rn_keep x hw.1 hk.1 h1)
end
def opR (r : Int) : Int := if r = 1 then 4 else if r = 2 then 3 else if r = 3 then 2 else if r = 4 then 1 else if r = 5 then 6 else 5
theorem rlB_opp (a r b : Int) (hr : 1 ≤ r ∧ r ≤ 6) : rlB a (opR r) b = !rlB a r b := by
 have : r = 1 ∨ r = 2 ∨ r = 3 ∨ r = 4 ∨ r = 5 ∨ r = 6 := by omega
 rw [Bool.eq_iff_iff]
 rcases this with rfl | rfl | rfl | rfl | rfl | rfl <;> simp [rlB, opR]
mutual
def tuS : St → St
 | .mk kd v r a b th el => if kd = 2 then .mk kd v (opR r) a b (tuL el) (tuL th) else .mk kd v r a b th el
def tuL : List St → List St
 | [] => []
 | x :: xs => tuS x :: tuL xs
end
mutual
theorem rn_turn {ins : List Int} {lim : List Sp} {n : Nat} : ∀ (s : St) (st : List Int), R.WfS n s → rnS ins lim st (tuS s) = rnS ins lim st s
 | .mk kd v r a b th el, st, hw => by
  rw [R.WfS] at hw
  rw [tuS]
  rcases hw with hw | ⟨h2, r1, r2, -, -, w1, w2⟩
  ·rw [if_neg (by omega)]
  ·rw [if_pos h2, rnS, rnS, if_neg (by omega), if_neg (by omega)]
   rcases mvE st ins a with e | x
   ·rfl
   simp only
   rcases mvE st ins b with e | y
   ·rfl
   simp only
   rw [rlB_opp _ _ _ ⟨r1, r2⟩, rnL_turn th st w1, rnL_turn el st w2]
   cases rlB x r y <;> simp
theorem rnL_turn {ins : List Int} {lim : List Sp} {n : Nat} : ∀ (l : List St) (st : List Int), R.WfL n l → rnL ins lim st (tuL l) = rnL ins lim st l
 | [], st, _ => rfl
 | x :: xs, st, hw => by
  rw [R.WfL] at hw
  rw [tuL, rnL, rnL, rn_turn x st hw.1]
  rcases rnS ins lim st x with e | v
  ·rfl
  ·exact rnL_turn xs v hw.2
end
end M
end Go.Proofs.YtdlebaiamdbneaaGreatDoor
namespace Go.Proofs.YtdlebaiamdbneaaGreatDoor
open Go.RowKit
namespace M
open I
open U (Ex St btw ev eArr KidsE newBlk blkLt arrE aggE szK szK_len szK_mem owns_below new_cells gbRefl gbAlloc gbTrans gbBelow Ex.size)
open R (epanic bAllocX)
theorem cDown_any (x y : Int) (hx : vN x = true) (hy : vN y = true) (w : World) : Calls Tryz.prog 50 #[.int .i64 x, .int .i64 y] w (IntP (opE 7 x y) w) := by
 rw [vN_iff] at hx hy
 exact down_any x y (by unfold Fit; omega) (by unfold Fit; omega) w
theorem cMul_any (x y : Int) (hx : vN x = true) (hy : vN y = true) (w : World) : Calls Tryz.prog 49 #[.int .i64 x, .int .i64 y] w (IntP (opE 6 x y) w) := product_any x y hx hy w
def nodR (st ins : List Int) (op n : Int) : List Int → Except Int Int
 | [] => leafE st ins op n
 | [a, b] => opE op a b
 | _ => .error 1
theorem nod_chk (st ins : List Int) (op n : Int) (ns : List Int) : chkE (nodR st ins op n ns) = nodE st ins op n ns := by
 match ns with
 | [] => rfl
 | [a, b] => rfl
 | [a] => rfl
 | a :: b :: c :: l => rfl
theorem opE_none {op a b : Int} (h : ¬(4 ≤ op ∧ op ≤ 10)) : opE op a b = .error 1 := by
 unfold opE
 rw [if_neg (by omega), if_neg (by omega), if_neg (by omega), if_neg (by omega), if_neg (by omega), if_neg (by omega), if_neg (by omega)]
theorem result_none (st : List Int) (SA : Option Addr) (m : Nat) (i0 i1 i2 i3 : Int) (mb : Nat) (op n u : Int) (ks : List Ex) (A : Option Addr) (c : Nat) (ns : List Int) (NA : Option Addr) (nc : Nat) (w : World) (hO : OpsR w mb) (h0 : ns.length ≠ 0) (hno : ¬(4 ≤ op ∧ op ≤ 10)) :
  Calls Tryz.prog 57 #[.agg (rdA SA st.length m i0 i1 i2 i3 mb), aggE op n u A ks.length (ks.length + c), .slice NA ns.length nc] w (IntP (.error 1) w) := by
 obtain ⟨W2, hW2⟩ : ∃ W2, W2 = (w.alloc (.cells (rdA SA st.length m i0 i1 i2 i3 mb) 59)).alloc (.cells (arrE op n u A ks.length (ks.length + c)) 46) := ⟨_, rfl⟩
 have HB : Hid (Below w.heap.size w W2) := Lib.hid (by rw [hW2]; exact bAl2 _ _)
 have HR : Hid (W2.heap[w.heap.size]? = some (.cells (rdA SA st.length m i0 i1 i2 i3 mb) 59 (0, 0))) := Lib.hid (by rw [hW2]; exact (Below.heap_alloc _ _ _ (by simp)).trans (newBlk _ _ _ rfl))
 have HE : Hid (W2.heap[w.heap.size + 1]? = some (.cells (arrE op n u A ks.length (ks.length + c)) 46 (0, 0))) := Lib.hid (by rw [hW2]; exact newBlk _ _ _ (by simp))
 have hM2 := hO.gr HB.out
 obtain ⟨⟨r0, r1, r2, r3, r4, r5⟩, -⟩ := cells6 HR.out
 obtain ⟨⟨x0, x1, x2, x3⟩, -⟩ := C.cells4C HE.out
 obtain ⟨v, hv⟩ := map_none W2 mb es7 7 op hM2 (esN_no op hno)
 have l0 : ((ns.length : Int) == 0) = false := by simp; intro e; rw [e] at h0; simp at h0
 clear hO hM2 h0 hno
 go_enter Tryz.func57, Tryz.ntmps57
 go_upto_region 1 with fail
 rw [← hW2]
 clear hW2
 go_wp2_with (go_at_call 58; refine (need_any false _ _).mono ?_; rintro e w5 ⟨he, hw⟩; rw [hw]; clear hw; simp only [Bool.false_eq_true, if_neg, not_false_eq_true] at he; subst he)
 exact ⟨rfl, rfl, HB.out⟩
theorem result_len (st : List Int) (SA : Option Addr) (m : Nat) (i0 i1 i2 i3 : Int) (mb : Nat) (op n u : Int) (ks : List Ex) (A : Option Addr) (c : Nat) (ns : List Int) (NA : Option Addr) (nc : Nat) (w : World) (hO : OpsR w mb) (h0 : ns.length ≠ 0) (h2 : ns.length ≠ 2) (hop : 4 ≤ op ∧ op ≤ 10) :
  Calls Tryz.prog 57 #[.agg (rdA SA st.length m i0 i1 i2 i3 mb), aggE op n u A ks.length (ks.length + c), .slice NA ns.length nc] w (IntP (.error 1) w) := by
 obtain ⟨W2, hW2⟩ : ∃ W2, W2 = (w.alloc (.cells (rdA SA st.length m i0 i1 i2 i3 mb) 59)).alloc (.cells (arrE op n u A ks.length (ks.length + c)) 46) := ⟨_, rfl⟩
 have HB : Hid (Below w.heap.size w W2) := Lib.hid (by rw [hW2]; exact bAl2 _ _)
 have HR : Hid (W2.heap[w.heap.size]? = some (.cells (rdA SA st.length m i0 i1 i2 i3 mb) 59 (0, 0))) := Lib.hid (by rw [hW2]; exact (Below.heap_alloc _ _ _ (by simp)).trans (newBlk _ _ _ rfl))
 have HE : Hid (W2.heap[w.heap.size + 1]? = some (.cells (arrE op n u A ks.length (ks.length + c)) 46 (0, 0))) := Lib.hid (by rw [hW2]; exact newBlk _ _ _ (by simp))
 have hM2 := hO.gr HB.out
 obtain ⟨⟨r0, r1, r2, r3, r4, r5⟩, -⟩ := cells6 HR.out
 obtain ⟨⟨x0, x1, x2, x3⟩, -⟩ := C.cells4C HE.out
 obtain ⟨i, v, hf⟩ : ∃ i v, Instr.findNow (.int .i64) (.int .i64 op) es7.toList 0 = some (some (i, v)) := by
  have : op = 4 ∨ op = 5 ∨ op = 6 ∨ op = 7 ∨ op = 8 ∨ op = 9 ∨ op = 10 := by omega
  rcases this with rfl | rfl | rfl | rfl | rfl | rfl | rfl
  ·exact ⟨_, _, esN_4⟩
  ·exact ⟨_, _, esN_5⟩
  ·exact ⟨_, _, esN_6⟩
  ·exact ⟨_, _, esN_7⟩
  ·exact ⟨_, _, esN_8⟩
  ·exact ⟨_, _, esN_9⟩
  ·exact ⟨_, _, esN_10⟩
 have hv := map_get W2 mb es7 7 op i v hM2 hf
 have l0 : ((ns.length : Int) == 0) = false := by simp; intro e; rw [e] at h0; simp at h0
 have l2 : ((ns.length : Int) == 2) = false := by simp; omega
 clear hO hM2 h0 h2 hop hf
 go_enter Tryz.func57, Tryz.ntmps57
 go_upto_region 1 with fail
 rw [← hW2]
 clear hW2
 go_wp2_with (go_at_call 58; refine (need_any false _ _).mono ?_; rintro e w5 ⟨he, hw⟩; rw [hw]; clear hw; simp only [Bool.false_eq_true, if_neg, not_false_eq_true] at he; subst he)
 exact ⟨rfl, rfl, HB.out⟩
theorem result_leaf (st : List Int) (SA : Option Addr) (m : Nat) (i0 i1 i2 i3 : Int) (mb : Nat) (op n u : Int) (ks : List Ex) (A : Option Addr) (c : Nat) (NA : Option Addr) (nc : Nat) (w : World) (hS : IntsR w st SA) (hsl : st.length ≤ 1000000) (hO : OpsR w mb) :
  Calls Tryz.prog 57 #[.agg (rdA SA st.length m i0 i1 i2 i3 mb), aggE op n u A ks.length (ks.length + c), .slice NA 0 nc] w (IntP (leafE st [i0, i1, i2, i3] op n) w) := by
 obtain ⟨W2, hW2⟩ : ∃ W2, W2 = (w.alloc (.cells (rdA SA st.length m i0 i1 i2 i3 mb) 59)).alloc (.cells (arrE op n u A ks.length (ks.length + c)) 46) := ⟨_, rfl⟩
 have HB : Hid (Below w.heap.size w W2) := Lib.hid (by rw [hW2]; exact bAl2 _ _)
 have HR : Hid (W2.heap[w.heap.size]? = some (.cells (rdA SA st.length m i0 i1 i2 i3 mb) 59 (0, 0))) := Lib.hid (by rw [hW2]; exact (Below.heap_alloc _ _ _ (by simp)).trans (newBlk _ _ _ rfl))
 have HE : Hid (W2.heap[w.heap.size + 1]? = some (.cells (arrE op n u A ks.length (ks.length + c)) 46 (0, 0))) := Lib.hid (by rw [hW2]; exact newBlk _ _ _ (by simp))
 have hM2 := hO.gr HB.out
 obtain ⟨⟨r0, r1, r2, r3, r4, r5⟩, -⟩ := cells6 HR.out
 obtain ⟨⟨x0, x1, x2, x3⟩, -⟩ := C.cells4C HE.out
 have HL := Lib.hid (leaf_any st SA m i0 i1 i2 i3 mb (.mk op n u ks) A c W2 (hS.gr HB.out) hsl)
 have HL : Hid (Calls Tryz.prog 76 #[.agg (rdA SA st.length m i0 i1 i2 i3 mb), aggE op n u A ks.length (ks.length + c)] W2 (IntP (leafE st [i0, i1, i2, i3] op n) W2)) := HL
 clear hO hM2 hS hsl
 generalize leafE st [i0, i1, i2, i3] op n = r at *
 go_enter Tryz.func57, Tryz.ntmps57
 go_upto_region 1 with fail
 rw [← hW2]
 clear hW2
 rcases r with er | k
 ·go_wp2_with (go_at_call 76; refine HL.out.mono ?_; rintro e w2 ⟨he, hb2⟩; simp only at he; subst he; have HB2 := Lib.hid (HB.out.trans (hb2.mono HB.out.size)))
  exact ⟨rfl, rfl, HB2.out⟩
 ·go_wp2_with (go_at_call 76; refine HL.out.mono ?_; rintro e w2 ⟨he, hb2⟩; simp only at he; subst he; have HB2 := Lib.hid (HB.out.trans (hb2.mono HB.out.size)))
  go_ret
  exact ⟨rfl, HB2.out⟩
theorem result_op (k : Int) (ix : Nat) (fid : FuncId) (r : Except Int Int) (hk : Instr.findNow (.int .i64) (.int .i64 k) es7.toList 0 = some (some (ix, .func (.func fid) #[] #[]))) (st : List Int) (SA : Option Addr) (m : Nat) (i0 i1 i2 i3 : Int) (mb : Nat) (n u : Int) (ks : List Ex) (A : Option Addr) (c : Nat) (a b : Int) (NA : Option Addr) (nc : Nat) (w : World) (hO : OpsR w mb) (hN : IntsR w [a, b] NA) (hnc : 2 ≤ nc) (hE : ∀ wx : World, (callFunc fid #[.int .i64 a, .int .i64 b]).run Tryz.prog wx = .ok (.enter fid #[.int .i64 a, .int .i64 b]) wx) (HF0 : ∀ wx, Calls Tryz.prog fid #[.int .i64 a, .int .i64 b] wx (IntP r wx)) :
  Calls Tryz.prog 57 #[.agg (rdA SA st.length m i0 i1 i2 i3 mb), aggE k n u A ks.length (ks.length + c), .slice NA 2 nc] w (IntP r w) := by
 obtain ⟨W2, hW2⟩ : ∃ W2, W2 = (w.alloc (.cells (rdA SA st.length m i0 i1 i2 i3 mb) 59)).alloc (.cells (arrE k n u A ks.length (ks.length + c)) 46) := ⟨_, rfl⟩
 have HB : Hid (Below w.heap.size w W2) := Lib.hid (by rw [hW2]; exact bAl2 _ _)
 have HR : Hid (W2.heap[w.heap.size]? = some (.cells (rdA SA st.length m i0 i1 i2 i3 mb) 59 (0, 0))) := Lib.hid (by rw [hW2]; exact (Below.heap_alloc _ _ _ (by simp)).trans (newBlk _ _ _ rfl))
 have HE : Hid (W2.heap[w.heap.size + 1]? = some (.cells (arrE k n u A ks.length (ks.length + c)) 46 (0, 0))) := Lib.hid (by rw [hW2]; exact newBlk _ _ _ (by simp))
 have hM2 := hO.gr HB.out
 obtain ⟨⟨r0, r1, r2, r3, r4, r5⟩, -⟩ := cells6 HR.out
 obtain ⟨⟨x0, x1, x2, x3⟩, -⟩ := C.cells4C HE.out
 have hv := map_get W2 mb es7 7 k _ _ hM2 hk
 obtain ⟨g2, o2, rfl, hat⟩ := hN.addr (by simp)
 have e0 := grCell HB.out (hat 0 a rfl)
 have e1 := grCell HB.out (hat 1 b rfl)
 simp only [Nat.add_zero] at e0
 have HF := Lib.hid HF0
 clear hO hM2 hN hat hk HF0
 go_enter Tryz.func57, Tryz.ntmps57
 go_upto_region 1 with fail
 rw [← hW2]
 clear hW2
 go_upto_region 5 with (go_at_call 58; refine (need_any true _ _).mono ?_; rintro e w5 ⟨he, hw⟩; rw [hw]; clear hw; simp only [if_pos] at he; subst he)
 rcases r with er | q
 ·skip
  refine wp_region_G (S := fun wq => Gr W2 wq) (by kernel_rfl) (grDrew _) (fun hHeld => ?_)
  have hSG : Hid (∀ wp wq : World, Gr W2 wp → Gr wp wq → Gr W2 wq) := Lib.hid (fun _ _ h k => h.tr k)
  have hmv := Lib.hid (fun (wq : World) (hq : Gr W2 wq) => And.intro (grCell hq e0) (grCell hq e1))
  first
   | (refine tk hSG 0 (v := ?_) rfl (by kernel_rfl) (fun _ _ _ h => h) (by rfl) ?_ hHeld ?_; rotate_left; focus (intro w' hSw; obtain ⟨e0, e1⟩ := hmv.out _ hSw; go_simp; (try with_reducible rfl)))
   | refine tn hSG 0 rfl (by kernel_rfl) (fun _ _ _ h => h) (by rfl) hHeld ?_
  (try simp only [zq1, zq2, zq3, Act.put, zq4, zq5, zq6])
  first
   | (refine tk hSG 1 (v := ?_) rfl (by kernel_rfl) (fun _ _ _ h => h) (by rfl) ?_ hHeld ?_; rotate_left; focus (intro w' hSw; obtain ⟨e0, e1⟩ := hmv.out _ hSw; go_simp; (try with_reducible rfl)))
   | refine tn hSG 1 rfl (by kernel_rfl) (fun _ _ _ h => h) (by rfl) hHeld ?_
  (try simp only [zq1, zq2, zq3, Act.put, zq4, zq5, zq6])
  refine tk hSG 2 (v := .pointer (some ⟨g2, o2, none⟩)) rfl (by kernel_rfl) (fun _ _ _ h => h) (by rfl) ?_ hHeld ?_
  focus (intro w' hSw; obtain ⟨e0, e1⟩ := hmv.out _ hSw; go_simp; (try (intro hq; omega)))
  (try simp only [zq1, zq2, zq3, Act.put, zq4, zq5, zq6])
  first
   | (refine tk hSG 3 (v := ?_) rfl (by kernel_rfl) (fun _ _ _ h => h) (by rfl) ?_ hHeld ?_; rotate_left; focus (intro w' hSw; obtain ⟨e0, e1⟩ := hmv.out _ hSw; go_simp; (try with_reducible rfl)))
   | refine tn hSG 3 rfl (by kernel_rfl) (fun _ _ _ h => h) (by rfl) hHeld ?_
  (try simp only [zq1, zq2, zq3, Act.put, zq4, zq5, zq6])
  first
   | (refine tk hSG 4 (v := ?_) rfl (by kernel_rfl) (fun _ _ _ h => h) (by rfl) ?_ hHeld ?_; rotate_left; focus (intro w' hSw; obtain ⟨e0, e1⟩ := hmv.out _ hSw; go_simp; (try with_reducible rfl)))
   | refine tn hSG 4 rfl (by kernel_rfl) (fun _ _ _ h => h) (by rfl) hHeld ?_
  (try simp only [zq1, zq2, zq3, Act.put, zq4, zq5, zq6])
  refine tk hSG 5 (v := .pointer (some ⟨g2, o2 + 1, none⟩)) rfl (by kernel_rfl) (fun _ _ _ h => h) (by rfl) ?_ hHeld ?_
  focus (intro w' hSw; obtain ⟨e0, e1⟩ := hmv.out _ hSw; go_simp; (try (intro hq; omega)))
  (try simp only [zq1, zq2, zq3, Act.put, zq4, zq5, zq6])
  first
   | (refine tk hSG 6 (v := ?_) rfl (by kernel_rfl) (fun _ _ _ h => h) (by rfl) ?_ hHeld ?_; rotate_left; focus (intro w' hSw; obtain ⟨e0, e1⟩ := hmv.out _ hSw; go_simp; (try with_reducible rfl)))
   | refine tn hSG 6 rfl (by kernel_rfl) (fun _ _ _ h => h) (by rfl) hHeld ?_
  (try simp only [zq1, zq2, zq3, Act.put, zq4, zq5, zq6])
  refine wpAnyG_ready (rs := [7]) (by kernel_rfl) (by simp) (AllG.cons rfl (fun w5 hgL K hK => ?_) AllG.nil)
  have hgL := (grDrew W2).tr hgL
  have e0 := grCell hgL e0
  have e1 := grCell hgL e1
  go_simp
  refine (HF.out _).mono ?_; rintro e w6 ⟨he, hb3⟩; simp only at he; subst he
  have HB6 := Lib.hid ((HB.out.trans (hgL.mono HB.out.size)).trans (hb3.mono (HB.out.trans (hgL.mono HB.out.size)).size))
  go_wp2
  exact ⟨rfl, rfl, HB6.out⟩
 ·skip
  refine wp_region_G (S := fun wq => Gr W2 wq) (by kernel_rfl) (grDrew _) (fun hHeld => ?_)
  have hSG : Hid (∀ wp wq : World, Gr W2 wp → Gr wp wq → Gr W2 wq) := Lib.hid (fun _ _ h k => h.tr k)
  have hmv := Lib.hid (fun (wq : World) (hq : Gr W2 wq) => And.intro (grCell hq e0) (grCell hq e1))
  first
   | (refine tk hSG 0 (v := ?_) rfl (by kernel_rfl) (fun _ _ _ h => h) (by rfl) ?_ hHeld ?_; rotate_left; focus (intro w' hSw; obtain ⟨e0, e1⟩ := hmv.out _ hSw; go_simp; (try with_reducible rfl)))
   | refine tn hSG 0 rfl (by kernel_rfl) (fun _ _ _ h => h) (by rfl) hHeld ?_
  (try simp only [zq1, zq2, zq3, Act.put, zq4, zq5, zq6])
  first
   | (refine tk hSG 1 (v := ?_) rfl (by kernel_rfl) (fun _ _ _ h => h) (by rfl) ?_ hHeld ?_; rotate_left; focus (intro w' hSw; obtain ⟨e0, e1⟩ := hmv.out _ hSw; go_simp; (try with_reducible rfl)))
   | refine tn hSG 1 rfl (by kernel_rfl) (fun _ _ _ h => h) (by rfl) hHeld ?_
  (try simp only [zq1, zq2, zq3, Act.put, zq4, zq5, zq6])
  refine tk hSG 2 (v := .pointer (some ⟨g2, o2, none⟩)) rfl (by kernel_rfl) (fun _ _ _ h => h) (by rfl) ?_ hHeld ?_
  focus (intro w' hSw; obtain ⟨e0, e1⟩ := hmv.out _ hSw; go_simp; (try (intro hq; omega)))
  (try simp only [zq1, zq2, zq3, Act.put, zq4, zq5, zq6])
  first
   | (refine tk hSG 3 (v := ?_) rfl (by kernel_rfl) (fun _ _ _ h => h) (by rfl) ?_ hHeld ?_; rotate_left; focus (intro w' hSw; obtain ⟨e0, e1⟩ := hmv.out _ hSw; go_simp; (try with_reducible rfl)))
   | refine tn hSG 3 rfl (by kernel_rfl) (fun _ _ _ h => h) (by rfl) hHeld ?_
  (try simp only [zq1, zq2, zq3, Act.put, zq4, zq5, zq6])
  first
   | (refine tk hSG 4 (v := ?_) rfl (by kernel_rfl) (fun _ _ _ h => h) (by rfl) ?_ hHeld ?_; rotate_left; focus (intro w' hSw; obtain ⟨e0, e1⟩ := hmv.out _ hSw; go_simp; (try with_reducible rfl)))
   | refine tn hSG 4 rfl (by kernel_rfl) (fun _ _ _ h => h) (by rfl) hHeld ?_
  (try simp only [zq1, zq2, zq3, Act.put, zq4, zq5, zq6])
  refine tk hSG 5 (v := .pointer (some ⟨g2, o2 + 1, none⟩)) rfl (by kernel_rfl) (fun _ _ _ h => h) (by rfl) ?_ hHeld ?_
  focus (intro w' hSw; obtain ⟨e0, e1⟩ := hmv.out _ hSw; go_simp; (try (intro hq; omega)))
  (try simp only [zq1, zq2, zq3, Act.put, zq4, zq5, zq6])
  first
   | (refine tk hSG 6 (v := ?_) rfl (by kernel_rfl) (fun _ _ _ h => h) (by rfl) ?_ hHeld ?_; rotate_left; focus (intro w' hSw; obtain ⟨e0, e1⟩ := hmv.out _ hSw; go_simp; (try with_reducible rfl)))
   | refine tn hSG 6 rfl (by kernel_rfl) (fun _ _ _ h => h) (by rfl) hHeld ?_
  (try simp only [zq1, zq2, zq3, Act.put, zq4, zq5, zq6])
  refine tc hSG 7 (v := .int .i64 q) rfl (by kernel_rfl) (fun _ _ _ h => h) (by rfl) ?_ hHeld ?_
  focus (intro wz hSw K hK; obtain ⟨e0, e1⟩ := hmv.out _ hSw; go_simp; refine (HF.out _).mono ?_; rintro e w2 ⟨he, hb2⟩; simp only at he; subst he; exact hK.out _ hb2)
  (try simp only [zq1, zq2, zq3, Act.put, zq4, zq5, zq6])
  first
   | (refine tk hSG 8 (v := ?_) rfl (by kernel_rfl) (fun _ _ _ h => h) (by rfl) ?_ hHeld ?_; rotate_left; focus (intro w' hSw; obtain ⟨e0, e1⟩ := hmv.out _ hSw; go_simp; (try with_reducible rfl)))
   | refine tn hSG 8 rfl (by kernel_rfl) (fun _ _ _ h => h) (by rfl) hHeld ?_
  (try simp only [zq1, zq2, zq3, Act.put, zq4, zq5, zq6])
  refine wpAnyG_done (by kernel_rfl) (fun w5 hgD => ?_) _
  have hg5 : Gr W2 w5 := (grDrew W2).tr hgD
  clear hgD hSG hHeld
  have HB6 := Lib.hid (HB.out.trans (hg5.mono HB.out.size))
  go_wp2
  go_ret
  exact ⟨rfl, HB6.out⟩
theorem result_any (st : List Int) (SA : Option Addr) (m : Nat) (i0 i1 i2 i3 : Int) (mb : Nat) (op n u : Int) (ks : List Ex) (A : Option Addr) (c : Nat) (ns : List Int) (NA : Option Addr) (nc : Nat) (w : World) (hS : IntsR w st SA) (hsl : st.length ≤ 1000000) (hO : OpsR w mb) (hN : IntsR w ns NA) (hv : ∀ x ∈ ns, vN x = true) (hnc : ns.length ≤ nc) :
  Calls Tryz.prog 57 #[.agg (rdA SA st.length m i0 i1 i2 i3 mb), aggE op n u A ks.length (ks.length + c), .slice NA ns.length nc] w (IntP (nodR st [i0, i1, i2, i3] op n ns) w) := by
 match ns, hN, hv, hnc with
 | [], _, _, _ => exact result_leaf st SA m i0 i1 i2 i3 mb op n u ks A c NA nc w hS hsl hO
 | [a], _, _, _ =>
  by_cases hop : 4 ≤ op ∧ op ≤ 10
  ·exact result_len st SA m i0 i1 i2 i3 mb op n u ks A c [a] NA nc w hO (by simp) (by simp) hop
  ·exact result_none st SA m i0 i1 i2 i3 mb op n u ks A c [a] NA nc w hO (by simp) hop
 | a :: b :: d :: l, _, _, _ =>
  by_cases hop : 4 ≤ op ∧ op ≤ 10
  ·exact result_len st SA m i0 i1 i2 i3 mb op n u ks A c (a :: b :: d :: l) NA nc w hO (by simp) (by simp) hop
  ·exact result_none st SA m i0 i1 i2 i3 mb op n u ks A c (a :: b :: d :: l) NA nc w hO (by simp) hop
 | [a, b], hN, hv, hnc =>
  have ha := hv a (by simp)
  have hb := hv b (by simp)
  by_cases hop : 4 ≤ op ∧ op ≤ 10
  ·have : op = 4 ∨ op = 5 ∨ op = 6 ∨ op = 7 ∨ op = 8 ∨ op = 9 ∨ op = 10 := by omega
   rcases this with rfl | rfl | rfl | rfl | rfl | rfl | rfl
   ·exact result_op 4 _ _ _ esN_4 st SA m i0 i1 i2 i3 mb n u ks A c a b NA nc w hO hN hnc (fun wx => by simp [callFunc, Tryz.func47, go_sem]; kernel_rfl) (fun wx => cAdd_any a b ha hb wx)
   ·exact result_op 5 _ _ _ esN_5 st SA m i0 i1 i2 i3 mb n u ks A c a b NA nc w hO hN hnc (fun wx => by simp [callFunc, Tryz.func48, go_sem]; kernel_rfl) (fun wx => cSub_any a b ha hb wx)
   ·exact result_op 6 _ _ _ esN_6 st SA m i0 i1 i2 i3 mb n u ks A c a b NA nc w hO hN hnc (fun wx => by simp [callFunc, Tryz.func49, go_sem]; kernel_rfl) (fun wx => cMul_any a b ha hb wx)
   ·exact result_op 7 _ _ _ esN_7 st SA m i0 i1 i2 i3 mb n u ks A c a b NA nc w hO hN hnc (fun wx => by simp [callFunc, Tryz.func50, go_sem]; kernel_rfl) (fun wx => cDown_any a b ha hb wx)
   ·exact result_op 8 _ _ _ esN_8 st SA m i0 i1 i2 i3 mb n u ks A c a b NA nc w hO hN hnc (fun wx => by simp [callFunc, Tryz.func51, go_sem]; kernel_rfl) (fun wx => cUp_any a b ha hb wx)
   ·exact result_op 9 _ _ _ esN_9 st SA m i0 i1 i2 i3 mb n u ks A c a b NA nc w hO hN hnc (fun wx => by simp [callFunc, Tryz.func52, go_sem]; kernel_rfl) (fun wx => cMin_any a b ha hb wx)
   ·exact result_op 10 _ _ _ esN_10 st SA m i0 i1 i2 i3 mb n u ks A c a b NA nc w hO hN hnc (fun wx => by simp [callFunc, Tryz.func53, go_sem]; kernel_rfl) (fun wx => cMax_any a b ha hb wx)
  ·show Calls _ _ _ _ (IntP (opE op a b) w)
   rw [opE_none hop]
   exact result_none st SA m i0 i1 i2 i3 mb op n u ks A c [a, b] NA nc w hO (by simp) hop
end M
end Go.Proofs.YtdlebaiamdbneaaGreatDoor
