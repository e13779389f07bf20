/- Texts of one proof: MxM. -/
import Derived.Test.YtdgompdbhlhofaaGreatDoorZy
import Derived.Test.YtdgompdbhlhofaaGreatDoorZz
namespace Go.Proofs.YtdgompdbhlhofaaGreatDoor
open Go.RowKit
set_option linter.unusedVariables false
set_option linter.unusedSimpArgs false
namespace M
open I
open U (Ex St)
theorem quot_ok {a b : Int} (hb : b ≠ 0) : (0 < b ∧ 0 ≤ a - divF a b * b ∧ a - divF a b * b < b) ∨ (b < 0 ∧ a - divF a b * b ≤ 0 ∧ b < a - divF a b * b) := by
  unfold divF
  rcases Int.lt_or_gt_of_ne hb with h | h
  · right
    rw [fdiv_neg_eq _ h]
    have h1 := Int.emod_add_mul_ediv (-a) (-b)
    have h2 := Int.emod_nonneg (-a) (show -b ≠ 0 by omega)
    have h3 := Int.emod_lt_of_pos (-a) (show 0 < -b by omega)
    have h4 : (-a) / (-b) * b = -((-b) * ((-a) / (-b))) := by rw [Int.neg_mul, Int.neg_neg, Int.mul_comm]
    rw [h4]
    omega
  · left
    rw [fdiv_pos _ h]
    have h1 := Int.emod_add_mul_ediv a b
    have h2 := Int.emod_nonneg a (show b ≠ 0 by omega)
    have h3 := Int.emod_lt_of_pos a h
    have h4 : a / b * b = b * (a / b) := Int.mul_comm _ _
    rw [h4]
    omega
def rvE (r : Except Int Int) : Int × Int := match r with
  | .ok n => (n, 0)
  | .error e => (0, e)
def evalE (st ins : List Int) (t : Ex) : Int × Int := if 60 < t.size then (0, 2) else rvE (mvE st ins t)
abbrev x2 (op : Int) : Ex := .mk op 0 0 [.mk 2 0 0 [], .mk 2 1 0 []]
theorem x2_val {a b op : Int} (ha : vN a = true) (hb : vN b = true) (ins : List Int) : evalE [a, b] ins (x2 op) = rvE (chkE (opE op a b)) := by
  have h1 : mvE [a, b] ins (.mk 2 0 0 []) = .ok a := by rw [mvE, mvK]; simp only [nodE, leafE]; simp [chkE, ha]
  have h2 : mvE [a, b] ins (.mk 2 1 0 []) = .ok b := by rw [mvE, mvK]; simp only [nodE, leafE]; simp [chkE, hb]
  unfold evalE
  rw [if_neg (by simp only [Ex.size, U.szK]; omega), mvE, mvK, h1, mvK, h2, mvK]
  rfl
theorem x2_out {a b op : Int} (h : ¬(vN a = true ∧ vN b = true)) (ins : List Int) : evalE [a, b] ins (x2 op) = (0, 3) := by
  unfold evalE
  rw [if_neg (by simp only [Ex.size, U.szK]; omega), mvE, mvK]
  by_cases ha : vN a = true
  · have h1 : mvE [a, b] ins (.mk 2 0 0 []) = .ok a := by rw [mvE, mvK]; simp only [nodE, leafE]; simp [chkE, ha]
    have hb : ¬ vN b = true := fun hb => h ⟨ha, hb⟩
    have h2 : mvE [a, b] ins (.mk 2 1 0 []) = .error 3 := by rw [mvE, mvK]; simp only [nodE, leafE]; simp [chkE, hb]
    rw [h1, mvK, h2]
    rfl
  · have h1 : mvE [a, b] ins (.mk 2 0 0 []) = .error 3 := by rw [mvE, mvK]; simp only [nodE, leafE]; simp [chkE, ha]
    rw [h1]
    rfl
theorem opE_sym {op a b : Int} (h : op = 4 ∨ op = 6 ∨ op = 9 ∨ op = 10) : opE op a b = opE op b a := by
  rcases h with rfl | rfl | rfl | rfl
  · show Except.ok (a + b) = Except.ok (b + a); rw [Int.add_comm]
  · show (if vN (a * b) = true then Except.ok (a * b) else Except.error 3) = (if vN (b * a) = true then Except.ok (b * a) else Except.error 3); rw [Int.mul_comm]
  · show Except.ok (min a b) = Except.ok (min b a); congr 1; omega
  · show Except.ok (max a b) = Except.ok (max b a); congr 1; omega
theorem law_sym {op a b : Int} (h : op = 4 ∨ op = 6 ∨ op = 9 ∨ op = 10) (ins : List Int) : evalE [a, b] ins (x2 op) = evalE [b, a] ins (x2 op) := by
  by_cases hv : vN a = true ∧ vN b = true
  · rw [x2_val hv.1 hv.2, x2_val hv.2 hv.1, opE_sym h]
  · rw [x2_out hv, x2_out (fun k => hv ⟨k.2, k.1⟩)]
theorem quot_v {a b : Int} (ha : vN a = true) (hb : b ≠ 0) : vN (divF a b) = true := by
  have h := absF_fdiv a b hb
  have h2 := quot_ok (a := a) hb
  rw [vN_iff] at ha ⊢
  generalize divF a b = q at *
  have key : ∀ c : Int, 0 < c → ∀ x : Int, -1000000000000 ≤ x → x ≤ 1000000000000 → 0 ≤ x - q * c → x - q * c < c → -1000000000000 ≤ q ∧ q ≤ 1000000000000 := by
    intro c hc x h1 h2 h3 h4
    constructor
    · by_cases hq : -1000000000000 ≤ q
      · exact hq
      · have : q * c ≤ (-1000000000001) * c := Int.mul_le_mul_of_nonneg_right (by omega) (by omega)
        omega
    · by_cases hq : q ≤ 1000000000000
      · exact hq
      · have : 1000000000001 * c ≤ q * c := Int.mul_le_mul_of_nonneg_right (by omega) (by omega)
        omega
  rcases h2 with ⟨h1, h2, h3⟩ | ⟨h1, h2, h3⟩
  · exact key b h1 a ha.1 ha.2 h2 h3
  · have e : q * b = -(q * -b) := by rw [Int.mul_neg, Int.neg_neg]
    exact key (-b) (by omega) (-a) (by omega) (by omega) (by rw [e] at h2; omega) (by rw [e] at h3; omega)
def InLim (lim : List Sp) (st : List Int) : Prop := st.length = lim.length ∧ ∀ k, k < lim.length → ((lim[k]?).getD ⟨0, 0⟩).lo ≤ (st[k]?).getD 0 ∧ (st[k]?).getD 0 ≤ ((lim[k]?).getD ⟨0, 0⟩).hi
theorem InLim.set {lim : List Sp} {st : List Int} (h : InLim lim st) {k : Nat} {n : Int} (hn : ((lim[k]?).getD ⟨0, 0⟩).lo ≤ n ∧ n ≤ ((lim[k]?).getD ⟨0, 0⟩).hi) : InLim lim (st.set k n) := by
  refine ⟨by simp [h.1], fun j hj => ?_⟩
  by_cases e : k = j
  · subst e
    rw [List.getElem?_set_self (by rw [h.1]; exact hj)]
    exact hn
  · rw [List.getElem?_set_ne e]
    exact h.2 j hj
end M
end Go.Proofs.YtdgompdbhlhofaaGreatDoor
