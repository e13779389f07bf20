/- Texts of one proof: PxU. -/
import Derived.Test.YtdaghppcomckbaaGreatDoorPxT
/- The parser: readers go on; lists of statements of every level. -/
namespace Go.Proofs.YtdaghppcomckbaaGreatDoor
open Go.RowKit
set_option linter.unusedVariables false
set_option linter.unusedSimpArgs false

theorem bind_ok {α β : Type} {r : Res α} {f : α → List Tk → Res β} {y : β} {l1 : List Tk} (h : r.bind f = .ok y l1) : ∃ x l, r = .ok x l ∧ f x l = .ok y l1 := by
  rcases r with ⟨x, l⟩ | ⟨e, l⟩
  · exact ⟨x, l, rfl, h⟩
  · cases h
/-- a reader does not put tokens back -/
def Le {α : Type} (p : List Tk → Res α) : Prop := ∀ l x l1, p l = .ok x l1 → l1.length ≤ l.length
/-- a reader that succeeds takes a token -/
def Lt {α : Type} (p : List Tk → Res α) : Prop := ∀ l x l1, p l = .ok x l1 → l1.length < l.length
theorem Lt.le {α : Type} {p : List Tk → Res α} (h : Lt p) : Le p := fun l x l1 e => Nat.le_of_lt (h l x l1 e)
theorem ok_inj {α : Type} {x y : α} {l l1 : List Tk} (h : Res.ok x l = .ok y l1) : x = y ∧ l = l1 := by cases h; exact ⟨rfl, rfl⟩
theorem tail_lt {l : List Tk} (h : l ≠ []) : l.tail.length < l.length := by cases l with | nil => exact absurd rfl h | cons a l => simp
theorem choice_lt (ws : List ByteArray) (hne : (⟨#[]⟩ : ByteArray) ∉ ws) : Lt (choiceM ws) := by
  intro l x l1 h
  have h1 := choiceM_tail h
  subst h1
  apply tail_lt
  rintro rfl
  unfold choiceM at h
  rcases idx_le ws (hd []).x with hi | ⟨_, _, hm⟩
  · rw [hi] at h; simp at h
  · exact hne hm
theorem word_lt (wd : ByteArray) (hne : wd ≠ ⟨#[]⟩) : Lt (wordM wd) := by
  intro l x l1 h
  obtain ⟨k, l2, h1, h2⟩ := bind_ok h
  obtain ⟨-, rfl⟩ := ok_inj h2
  exact choice_lt [wd] (by simpa using fun e => hne e.symm) l k l2 h1
theorem name_lt : Lt nameM := by
  intro l x l1 h
  obtain ⟨rfl, -⟩ := nameM_ok h
  apply tail_lt
  rintro rfl
  unfold nameM at h
  rw [if_neg (by decide)] at h
  cases h
theorem number_lt : Lt numberM := by
  intro l x l1 h
  obtain ⟨rfl, -⟩ := numberM_ok h
  apply tail_lt
  rintro rfl
  unfold numberM at h
  rw [if_neg (by decide)] at h
  cases h
theorem amt_le : Le amtM := by
  intro l x l1 h
  obtain ⟨t, l2, h1, h2⟩ := bind_ok h
  have a1 := number_lt l t l2 h1
  split at h2
  · obtain ⟨-, rfl⟩ := ok_inj h2; omega
  · obtain ⟨k, l3, h3, h4⟩ := bind_ok h2
    have a2 := choiceM_tail h3
    obtain ⟨-, rfl⟩ := ok_inj h4
    subst a2
    rw [List.length_tail]; omega
theorem function_le {E : List Tk → Res Nd} (hE : Le E) : Le (functionM E) := by
  intro l x l1 h
  obtain ⟨k, l2, h1, h⟩ := bind_ok h
  have a1 := congrArg List.length (choiceM_tail h1)
  obtain ⟨_, l3, h2, h⟩ := bind_ok h
  have a2 := word_lt _ (by decide) _ _ _ h2
  obtain ⟨_, l4, h3, h⟩ := bind_ok h
  have a3 := hE _ _ _ h3
  obtain ⟨_, l5, h4, h⟩ := bind_ok h
  have a4 := word_lt _ (by decide) _ _ _ h4
  obtain ⟨_, l6, h5, h⟩ := bind_ok h
  have a5 := hE _ _ _ h5
  obtain ⟨_, l7, h6, h⟩ := bind_ok h
  have a6 := word_lt _ (by decide) _ _ _ h6
  obtain ⟨-, rfl⟩ := ok_inj h
  rw [List.length_tail] at a1
  omega
theorem ret_le {α : Type} {p : List Tk → Res α} (hp : Le p) : Le (fun l => (p l).bind fun t l1 => .ok t l1) := by
  intro l x l1 h
  obtain ⟨t, l2, h1, h2⟩ := bind_ok h
  obtain ⟨-, rfl⟩ := ok_inj h2
  exact hp l t l2 h1
theorem factor_le {E : List Tk → Res Nd} (hE : Le E) : Le (factorM E) := by
  intro l x l1 h
  unfold factorM at h
  split at h
  · exact ret_le amt_le l x l1 h
  · split at h
    · obtain ⟨-, rfl⟩ := ok_inj h; rw [List.length_tail]; omega
    · split at h
      · obtain ⟨-, rfl⟩ := ok_inj h; rw [List.length_tail]; omega
      · split at h
        · obtain ⟨_, l2, h1, h⟩ := bind_ok h
          have a1 := word_lt _ (by decide) _ _ _ h1
          obtain ⟨_, l3, h2, h⟩ := bind_ok h
          have a2 := hE _ _ _ h2
          obtain ⟨_, l4, h3, h⟩ := bind_ok h
          have a3 := word_lt _ (by decide) _ _ _ h3
          obtain ⟨-, rfl⟩ := ok_inj h
          omega
        · exact ret_le (function_le hE) l x l1 h
theorem opF_le {fine : List Tk → Res Nd} (hf : Le fine) (first : Int) (ws : List ByteArray) (a : Int) : ∀ (f : Nat) (t : Nd), Le (opF fine first ws a f t) := by
  intro f
  induction f with
  | zero => intro t l x l1 h; obtain ⟨-, rfl⟩ := ok_inj h; exact Nat.le_refl _
  | succ f ih =>
    intro t l x l1 h
    rw [opF] at h
    split at h
    · obtain ⟨-, rfl⟩ := ok_inj h; exact Nat.le_refl _
    · obtain ⟨k, l2, h1, h⟩ := bind_ok h
      have a1 := congrArg List.length (choiceM_tail h1)
      obtain ⟨t2, l3, h2, h⟩ := bind_ok h
      have a2 := hf _ _ _ h2
      have a3 := ih _ _ _ _ h
      rw [List.length_tail] at a1
      omega
theorem ops_le {fine : List Tk → Res Nd} (hf : Le fine) (first : Int) (ws : List ByteArray) : Le (opsM fine first ws) := by
  intro l x l1 h
  obtain ⟨t, l2, h1, h⟩ := bind_ok h
  have a1 := hf _ _ _ h1
  have a2 := opF_le hf _ _ _ _ _ _ _ _ h
  omega
theorem term_le {E : List Tk → Res Nd} (hE : Le E) : Le (termM E) := ret_le (ops_le (factor_le hE) _ _)
theorem exprM_le {E : List Tk → Res Nd} (hE : Le E) (level : Nat) : Le (exprM E level) := by
  intro l x l1 h
  unfold exprM at h
  split at h
  · cases h
  · exact ret_le (ops_le (term_le hE) _ _) l x l1 h
theorem exprD_le : ∀ d, Le (exprD d)
  | 0 => exprM_le (fun l x l1 h => by cases h) 13
  | d + 1 => exprM_le (exprD_le d) (12 - d)
theorem expr1_le : Le expr1 := exprD_le 12
theorem asg_lt : Lt asgM := by
  intro l x l1 h
  obtain ⟨_, l2, h1, h⟩ := bind_ok h
  have a1 := name_lt _ _ _ h1
  obtain ⟨_, l3, h2, h⟩ := bind_ok h
  have a2 := word_lt _ (by decide) _ _ _ h2
  obtain ⟨_, l4, h3, h⟩ := bind_ok h
  have a3 := expr1_le _ _ _ h3
  obtain ⟨_, l5, h4, h⟩ := bind_ok h
  have a4 := word_lt _ (by decide) _ _ _ h4
  obtain ⟨-, rfl⟩ := ok_inj h
  omega
theorem block_le {S : List Tk → Res (List Nd)} (hS : Le S) : Le (blockM S) := by
  intro l x l1 h
  obtain ⟨_, l2, h1, h⟩ := bind_ok h
  obtain ⟨-, rfl⟩ := ok_inj h
  exact hS _ _ _ h1
theorem if_lt {S : List Tk → Res (List Nd)} (hS : Le S) : Lt (ifM S) := by
  intro l x l1 h
  obtain ⟨_, l2, h1, h⟩ := bind_ok h
  have a1 := word_lt _ (by decide) _ _ _ h1
  obtain ⟨_, l3, h2, h⟩ := bind_ok h
  have a2 := expr1_le _ _ _ h2
  obtain ⟨_, l4, h3, h⟩ := bind_ok h
  have a3 := congrArg List.length (choiceM_tail h3)
  rw [List.length_tail] at a3
  obtain ⟨_, l5, h4, h⟩ := bind_ok h
  have a4 := expr1_le _ _ _ h4
  obtain ⟨_, l6, h5, h⟩ := bind_ok h
  have a5 := block_le hS _ _ _ h5
  split at h
  · obtain ⟨_, l7, h6, h⟩ := bind_ok h
    have a6 := word_lt _ (by decide) _ _ _ h6
    obtain ⟨_, l8, h7, h⟩ := bind_ok h
    have a7 := block_le hS _ _ _ h7
    obtain ⟨-, rfl⟩ := ok_inj h
    omega
  · obtain ⟨-, rfl⟩ := ok_inj h
    omega
theorem stmt_lt {S : List Tk → Res (List Nd)} (hS : Le S) (level : Nat) : Lt (stmtM S level) := by
  intro l x l1 h
  unfold stmtM at h
  split at h
  · split at h <;> cases h
  · split at h
    · obtain ⟨t, l2, h1, h2⟩ := bind_ok h
      obtain ⟨-, rfl⟩ := ok_inj h2
      exact if_lt hS _ _ _ h1
    · exact asg_lt _ _ _ h
theorem listF_le {P : List Tk → Res Nd} (hP : Le P) : ∀ (f : Nat) (acc : List Nd), Le (listF P f acc) := by
  intro f
  induction f with
  | zero => intro t l x l1 h; obtain ⟨-, rfl⟩ := ok_inj h; exact Nat.le_refl _
  | succ f ih =>
    intro t l x l1 h
    rw [listF] at h
    split at h
    · obtain ⟨-, rfl⟩ := ok_inj h; exact Nat.le_refl _
    · obtain ⟨t2, l2, h1, h⟩ := bind_ok h
      have a1 := hP _ _ _ h1
      have a2 := ih _ _ _ _ h
      omega
theorem stmts_lt {P : List Tk → Res Nd} (hP : Le P) : Lt (stmtsM P) := by
  intro l x l1 h
  obtain ⟨_, l2, h1, h⟩ := bind_ok h
  have a1 := word_lt _ (by decide) _ _ _ h1
  obtain ⟨_, l3, h2, h⟩ := bind_ok h
  have a2 := listF_le hP _ _ _ _ _ h2
  obtain ⟨_, l4, h3, h⟩ := bind_ok h
  have a3 := word_lt _ (by decide) _ _ _ h3
  obtain ⟨-, rfl⟩ := ok_inj h
  omega
/-- statements of the level 13 - d, with their braces -/
def stmtsD : Nat → List Tk → Res (List Nd)
  | 0 => stmtsM (stmtM (fun l => .err 0 l) 13)
  | d + 1 => stmtsM (stmtM (stmtsD d) (12 - d))
theorem stmtsD_lt : ∀ d, Lt (stmtsD d)
  | 0 => stmts_lt (stmt_lt (fun l x l1 h => by cases h) 13).le
  | d + 1 => stmts_lt (stmt_lt (stmtsD_lt d).le (12 - d)).le
theorem stmts_all (C : Cx) (dv : Value) (ds : List (Int × Int)) (hds : ds.length ≤ 100) : ∀ (d : Nat), d ≤ 12 → ∀ (w : World) (nx : Nat), PS C w nx dv ds →
    Calls Tryz.prog 76 #[.pointer (some ⟨C.R, 0, none⟩), .int .i64 ((13 - d : Nat) : Int)] w (Out C nx dv ds w VNds (stmtsD d (C.l nx))) := by
  intro d
  induction d with
  | zero =>
    intro _ w nx h
    exact stmts_any C w nx dv ds 13 _ (fun wx n hp => stmt_any C wx n dv ds 13 _ (fun h => absurd h (by decide)) (by decide) hp hds) (stmt_lt (fun l x l1 h => by cases h) 13) h hds
  | succ d ih =>
    intro hd w nx h
    have e1 : 13 - (d + 1) = 12 - d := by omega
    rw [e1]
    refine stmts_any C w nx dv ds (12 - d) _ (fun wx n hp => stmt_any C wx n dv ds (12 - d) (stmtsD d) (fun _ wy m hq => ?_) (by omega) hp hds) (stmt_lt (stmtsD_lt d).le (12 - d)) h hds
    have e2 : (((12 - d : Nat) : Int) + 1) = ((13 - d : Nat) : Int) := by omega
    rw [e2]
    exact ih (by omega) wy m hq
/-- the statements of a handler -/
def stmts1 : List Tk → Res (List Nd) := stmtsD 12
theorem stmts1_any (C : Cx) (w : World) (nx : Nat) (dv : Value) (ds : List (Int × Int)) (h : PS C w nx dv ds) (hds : ds.length ≤ 100) :
    Calls Tryz.prog 76 #[.pointer (some ⟨C.R, 0, none⟩), .int .i64 1] w (Out C nx dv ds w VNds (stmts1 (C.l nx))) := stmts_all C dv ds hds 12 (by decide) w nx h
end Go.Proofs.YtdaghppcomckbaaGreatDoor
