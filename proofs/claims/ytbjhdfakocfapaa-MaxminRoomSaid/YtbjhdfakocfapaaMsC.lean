/- Package maxmin: the flows that a link, or a limit, would stop, as functions that are ranged over; isAny. -/
import Derived.Test.YtbjhdfakocfapaaMsM
namespace Go.Proofs.Ytbjhdfakocfapaa
open Go.RowKit
set_option linter.unusedVariables false
set_option linter.unusedSimpArgs false
attribute [local go_sem] Oper.semAt_some
theorem fl_succ {α : Type} (P : α → Bool) (L : List α) {k : Nat} (h : k < L.length) : (L.take (k + 1)).filter P = (L.take k).filter P ++ (if P L[k] = true then [L[k]] else []) := by
  rw [List.take_add_one, List.getElem?_eq_getElem h, List.filter_append]
  congr 1
  by_cases hp : P L[k] = true <;> simp [List.filter, hp]
def ru {α : Type} (P : α → Bool) (L : List α) (k : Nat) : Nat := ((L.take k).filter P).length
theorem ru_t {α : Type} {P : α → Bool} {L : List α} {k : Nat} (h : k < L.length) (hp : P L[k] = true) : ru P L (k + 1) = ru P L k + 1 := by unfold ru; rw [fl_succ P L h, if_pos hp]; simp
theorem ru_f {α : Type} {P : α → Bool} {L : List α} {k : Nat} (h : k < L.length) (hp : P L[k] = false) : ru P L (k + 1) = ru P L k := by unfold ru; rw [fl_succ P L h, hp]; simp
theorem fl_pre {α : Type} (P : α → Bool) (L : List α) (k : Nat) : L.filter P = (L.take k).filter P ++ (L.drop k).filter P := by rw [← List.filter_append, List.take_append_drop]
theorem ru_le {α : Type} (P : α → Bool) (L : List α) (k : Nat) : ru P L k ≤ (L.filter P).length := by rw [fl_pre P L k]; simp [ru]
theorem ru_all {α : Type} (P : α → Bool) (L : List α) : ru P L L.length = (L.filter P).length := by unfold ru; rw [List.take_length]
theorem fl_get {α : Type} {P : α → Bool} {L : List α} {k : Nat} (h : k < L.length) (hp : P L[k] = true) : ∃ hk : ru P L k < (L.filter P).length, (L.filter P)[ru P L k] = L[k] := by
  have e := fl_pre P L (k + 1)
  rw [fl_succ P L h, if_pos hp] at e
  have e2 : (L.filter P)[ru P L k]? = some L[k] := by
    rw [e]; unfold ru; rw [List.append_assoc, List.getElem?_append_right (Nat.le_refl _)]; simp
  obtain ⟨h1, h2⟩ := List.getElem?_eq_some_iff.1 e2
  exact ⟨h1, h2⟩
theorem fl_take {α : Type} (P : α → Bool) (L : List α) (k : Nat) : (L.filter P).take (ru P L k) = (L.take k).filter P := by
  rw [fl_pre P L k, show ru P L k = ((L.take k).filter P).length from rfl, List.take_left']
  rfl
theorem sel_nodup (P : Nat → Bool) (N : Nat) : (sel P N).Nodup := List.nodup_range.filter _
theorem nodup_take {α : Type} {L : List α} (hn : L.Nodup) {k : Nat} (h : k < L.length) : L[k] ∉ L.take k := by
  intro hm
  obtain ⟨j, hj, e⟩ := List.getElem_of_mem hm
  rw [List.getElem_take] at e
  have hj' : j < k := by simp at hj; omega
  have := (List.getElem_inj (h₀ := by omega) (h₁ := h) hn).1 e
  omega
theorem unfL_fl (n : Net) (fx : List Bool) (l : Nat) : unfL n fx l = (onL n.f (l : Int)).filter (fun i => !fxd fx i) := by
  unfold unfL onL sel unf
  rw [List.filter_filter]
  congr 1
  funext i
  rw [Bool.and_comm]
set_option maxHeartbeats 1000000 in
set_option maxRecDepth 100000 in
theorem lstopped_any (F l : Nat) (w : World) : Calls Try.prog 79 #[.agg #[.pointer (some ⟨F, 0, none⟩), .int .i64 (l : Int)]] w fun e w' =>
    e = .returned (.func (.func 97) #[] #[ptr w.heap.size]) ∧ w' = w.alloc (lnkB F l) := by
  go_enter Try.func79, Try.ntmps79
  go_wp2
  go_ret
  exact ⟨rfl, rfl⟩
set_option maxHeartbeats 1000000 in
set_option maxRecDepth 100000 in
theorem mstopped_any (F i : Nat) (w : World) : Calls Try.prog 80 #[.agg #[.pointer (some ⟨F, 0, none⟩), .int .i64 (i : Int)]] w fun e w' =>
    e = .returned (.func (.func 98) #[] #[ptr w.heap.size]) ∧ w' = w.alloc (limB F i) := by
  go_enter Try.func80, Try.ntmps80
  go_wp2
  go_ret
  exact ⟨rfl, rfl⟩
/-- what a link's closure reads: the filling, in which flows that are still to come are as they were -/
def LnkR (W0 : World) (F R X : Nat) (n : Net) (a : NetA) (fx : List Bool) (l bs : Nat) (k : Nat) (W : World) : Prop :=
  W.heap[bs]? = some (lnkB F l) ∧ ∃ xs' fx', FilR W0 F R X n a xs' fx' W ∧ ∀ j, j ∉ (unfL n fx l).take k → fxd fx' j = fxd fx j
def LimR (W0 : World) (F R X : Nat) (n : Net) (a : NetA) (fx : List Bool) (i bs : Nat) (k : Nat) (W : World) : Prop :=
  W.heap[bs]? = some (limB F i) ∧ ∃ xs' fx', FilR W0 F R X n a xs' fx' W ∧ (k = 0 → fxd fx' i = fxd fx i)
abbrev yB (l : Nat) : Obj := .cells #[.func (.yield l) #[] #[]] 85 (0, 0)
end Go.Proofs.Ytbjhdfakocfapaa
