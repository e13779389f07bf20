/- Texts of one proof: PzF. -/
import Derived.Test.YtdaghppcomckbaaGreatDoorPzE
/- The parser's mathematics: where a reader's fault stands. -/
namespace Go.Proofs.YtdaghppcomckbaaGreatDoor
open Go.RowKit
set_option linter.unusedVariables false
set_option linter.unusedSimpArgs false

/-- a fault is one of the grammar or of the levels; before it lie tokens of the text -/
def Er {α : Type} (p : List Tk → Res α) : Prop := ∀ l e l1, p l = .err e l1 → (e = 2 ∨ e = 7) ∧ ∃ c, l = c ++ l1 ∧ ∀ t ∈ c, Real t
theorem bind_err {α β : Type} {r : Res α} {f : α → List Tk → Res β} {e : Int} {l : List Tk} (h : r.bind f = .err e l) : r = .err e l ∨ ∃ x l2, r = .ok x l2 ∧ f x l2 = .err e l := by
  cases r with
  | ok x l2 => exact .inr ⟨x, l2, rfl, h⟩
  | err e2 l2 => left; cases h; rfl

theorem er_ret {α : Type} (x : α) : Er (fun l => Res.ok x l) := fun l e l1 h => by cases h
theorem er_err {α : Type} {e : Int} (he : e = 2 ∨ e = 7) : Er (fun l => (Res.err e l : Res α)) := fun l e2 l1 h => by cases h; exact ⟨he, [], rfl, realNil⟩
theorem er_bind {α β : Type} {p : List Tk → Res α} {q : α → List Tk → Res β} (hp : Er p) (hL : Loc p) (hq : ∀ x, Er (q x)) : Er (fun l => (p l).bind q) := by
  intro l e l1 h
  rcases bind_err h with h1 | ⟨x, l2, h1, h2⟩
  · exact hp _ _ _ h1
  · obtain ⟨c1, ⟨rfl, hr1⟩, -⟩ := hL _ _ _ h1
    obtain ⟨he, c2, rfl, hr2⟩ := hq x _ _ _ h2
    exact ⟨he, c1 ++ c2, by rw [List.append_assoc], realApp hr1 hr2⟩
theorem er_head {α β : Type} {p : List Tk → Res α} {q : Int → α → List Tk → Res β} (hp : Er p) (hL : Loc p) (hq : ∀ a x, Er (q a x)) : Er (fun l => (p l).bind (q (hd l).a)) := by
  intro l e l1 h
  exact er_bind hp hL (hq (hd l).a) l e l1 h
theorem er_if {α : Type} {b : List Tk → Prop} [∀ l, Decidable (b l)] {p q : List Tk → Res α} (hp : Er p) (hq : Er q) : Er (fun l => if b l then p l else q l) := by
  intro l e l1 h
  by_cases hc : b l
  · simp only [if_pos hc] at h; exact hp _ _ _ h
  · simp only [if_neg hc] at h; exact hq _ _ _ h
theorem choice_er (ws : List ByteArray) : Er (choiceM ws) := by
  intro l e l1 h
  unfold choiceM at h
  split at h
  · cases h; exact ⟨.inr rfl, [], rfl, realNil⟩
  · cases h
theorem word_er (wd : ByteArray) (hne : wd ≠ ⟨#[]⟩) : Er (wordM wd) := er_bind (choice_er [wd]) (choice_loc [wd] (by simpa using fun e => hne e.symm)) fun _ => er_ret _
theorem name_er : Er nameM := by
  intro l e l1 h
  unfold nameM at h
  split at h
  · cases h
  · cases h; exact ⟨.inr rfl, [], rfl, realNil⟩
theorem number_er : Er numberM := by
  intro l e l1 h
  unfold numberM at h
  split at h
  · cases h
  · cases h; exact ⟨.inr rfl, [], rfl, realNil⟩
theorem unit_loc : Loc (choiceM unitWs) := choice_loc unitWs (idxNe _ (by decide))
theorem amt_er : Er amtM := er_bind number_er number_locS.loc fun t => er_if (b := fun l => idx unitWs (hd l).x < 0) (er_ret t) (er_bind (choice_er unitWs) unit_loc fun k => er_ret _)
theorem same_er {α : Type} {p : List Tk → Res α} (hp : Er p) (hL : Loc p) : Er (fun l => (p l).bind fun t l1 => .ok t l1) := er_bind hp hL fun t => er_ret t
theorem function_er {E : List Tk → Res Nd} (hE : Er E) (hL : Loc E) : Er (functionM E) :=
  er_head (p := choiceM fnWs) (q := fun (a k : Int) l1 => (wordM ⟨#[40]⟩ l1).bind fun _ l2 => (E l2).bind fun t1 l3 => (wordM ⟨#[44]⟩ l3).bind fun _ l4 => (E l4).bind fun t2 l5 => (wordM ⟨#[41]⟩ l5).bind fun _ l6 => (Res.ok (Nd.mk (19 + k) ⟨#[]⟩ 0 0 a [t1, t2]) l6 : Res Nd))
    (choice_er fnWs) (choice_loc fnWs (idxNe _ (by decide))) fun a k =>
    er_bind (word_er _ (by decide)) (word_loc _ (by decide)) fun _ => er_bind hE hL fun t1 => er_bind (word_er _ (by decide)) (word_loc _ (by decide)) fun _ => er_bind hE hL fun t2 => er_bind (word_er _ (by decide)) (word_loc _ (by decide)) fun _ => er_ret _
theorem factor_er {E : List Tk → Res Nd} (hE : Er E) (hL : Loc E) : Er (factorM E) := by
  have h1 : Er (fun l => if isB ⟨#[40]⟩ l = true then parenM E l else fnR E l) :=
    er_if (er_bind (word_er _ (by decide)) (word_loc _ (by decide)) fun _ => er_bind hE hL fun t => er_bind (word_er _ (by decide)) (word_loc _ (by decide)) fun _ => er_ret t) (same_er (function_er hE hL) (function_loc hL))
  have hn : Er nameR := fun l e l1 h => by cases h
  have h2 : Er (fun l => if inpB (hd l).x = true then nameR l else if isB ⟨#[40]⟩ l = true then parenM E l else fnR E l) := er_if hn h1
  have h3 : Er (fun l => if atNameB l = true then nameR l else if inpB (hd l).x = true then nameR l else if isB ⟨#[40]⟩ l = true then parenM E l else fnR E l) := er_if hn h2
  exact er_if (b := fun l => (hd l).k = 2) (same_er amt_er amt_loc) h3
theorem opF_er {fine : List Tk → Res Nd} (hf : Er fine) (hL : Loc fine) (first : Int) (ws : List ByteArray) (hne : (⟨#[]⟩ : ByteArray) ∉ ws) (a : Int) : ∀ (f : Nat) (t : Nd), Er (opF fine first ws a f t)
  | 0, t => er_ret t
  | f + 1, t => er_if (b := fun l => idx ws (hd l).x < 0) (er_ret t) (er_bind (choice_er ws) (choice_loc ws hne) fun k => er_bind hf hL fun t2 => opF_er hf hL first ws hne a f _)
theorem ops_er {fine : List Tk → Res Nd} (hf : Er fine) (hL : Loc fine) (first : Int) (ws : List ByteArray) (hne : (⟨#[]⟩ : ByteArray) ∉ ws) : Er (opsM fine first ws) :=
  er_head (q := fun a t l1 => opF fine first ws a (l1.length + 1) t l1) hf hL fun a t l e l1 h => opF_er hf hL first ws hne a (l.length + 1) t l e l1 h
theorem term_er {E : List Tk → Res Nd} (hE : Er E) (hL : Loc E) (hle : Le E) : Er (termM E) := same_er (ops_er (factor_er hE hL) (factor_loc hL) 17 mulWs (idxNe _ (by decide))) (ops_loc (factor_loc hL) (factor_le hle) (factor_lt hle) 17 mulWs (idxNe _ (by decide)))
theorem sum_er {E : List Tk → Res Nd} (hE : Er E) (hL : Loc E) (hle : Le E) : Er (sumR E) := same_er (ops_er (term_er hE hL hle) (term_loc hL hle) 15 addWs (idxNe _ (by decide))) (ops_loc (term_loc hL hle) (term_le hle) (term_lt hle) 15 addWs (idxNe _ (by decide)))
/-- where no expression begins -/
theorem factor_not (E : List Tk → Res Nd) (l : List Tk) (h : atExprB l = false) : factorM E l = .err 7 l := by
  unfold atExprB at h
  simp only [Bool.or_eq_false_iff, decide_eq_false_iff_not] at h
  obtain ⟨⟨⟨h1, h2⟩, h3⟩, h4⟩ := h
  have h1' : ¬ (hd l).k = 2 := by simpa using h1
  have h5 : ¬ isB ⟨#[40]⟩ l = true := by
    unfold isB
    intro e
    have e2 := of_decide_eq_true e
    rw [e2] at h4
    exact h4 (by decide)
  have h6 : choiceM fnWs l = .err 7 l := by
    unfold choiceM
    rw [if_pos]
    rcases idx_le fnWs (hd l).x with hi | ⟨hi1, hi2, hi3⟩
    · omega
    · exfalso
      unfold fnWs at hi3
      simp only [List.mem_cons, List.mem_nil_iff, or_false] at hi3
      rcases hi3 with e | e | e <;> (rw [e] at h4; exact h4 (by decide))
  unfold factorM
  rw [if_neg h1', if_neg (by rw [h2]; decide), if_neg (by rw [h3]; decide), if_neg h5]
  unfold fnR functionM
  rw [h6]
  rfl
theorem sum_not (E : List Tk → Res Nd) (l : List Tk) (h : atExprB l = false) : sumR E l = .err 7 l := by
  unfold sumR opsM termM opsM
  rw [factor_not E l h]
  rfl
theorem exprM_er {E : List Tk → Res Nd} (hE : Er E) (hL : Loc E) (hle : Le E) (level : Nat) : Er (exprM E level) :=
  er_if (b := fun l => 12 < level ∧ atExprB l = true) (er_err (.inl rfl)) (sum_er hE hL hle)
theorem exprD_er : ∀ d, Er (exprD d)
  | 0 => fun l e l1 h => by
    unfold exprD exprM at h
    split at h
    · cases h; exact ⟨.inl rfl, [], rfl, realNil⟩
    · rename_i hc
      rw [sum_not _ l (by cases hb : atExprB l with | false => rfl | true => exact absurd ⟨by decide, hb⟩ hc)] at h
      cases h; exact ⟨.inr rfl, [], rfl, realNil⟩
  | d + 1 => exprM_er (exprD_er d) (exprD_loc d) (exprD_le d) (12 - d)
theorem expr1_er : Er expr1 := exprD_er 12
theorem asg_er : Er asgM := er_head (q := fun a x l1 => (wordM ⟨#[61]⟩ l1).bind fun _ l2 => (expr1 l2).bind fun t l3 => (wordM ⟨#[59]⟩ l3).bind fun _ l4 => Res.ok (Nd.mk 10 x 0 0 a [t]) l4) name_er name_locS.loc fun a x =>
  er_bind (word_er _ (by decide)) (word_loc _ (by decide)) fun _ => er_bind expr1_er expr1_loc fun t => er_bind (word_er _ (by decide)) (word_loc _ (by decide)) fun _ => er_ret _
theorem block_er {S : List Tk → Res (List Nd)} (hS : Er S) (hL : Loc S) : Er (blockM S) := er_head (q := fun a ts l1 => Res.ok (Nd.mk 12 ⟨#[]⟩ 0 0 a ts) l1) hS hL fun a ts => er_ret _
theorem if_er {S : List Tk → Res (List Nd)} (hS : Er S) (hL : Loc S) (hlt : Lt S) : Er (ifM S) :=
  er_head (q := fun a _ l1 => (expr1 l1).bind fun t1 l2 => (choiceM relWs l2).bind fun k l3 => (expr1 l3).bind fun t2 l4 => (blockM S l4).bind fun t3 l5 =>
    if isB ⟨#[101, 108, 115, 101]⟩ l5 = true then (wordM ⟨#[101, 108, 115, 101]⟩ l5).bind fun _ l6 => (blockM S l6).bind fun t4 l7 => Res.ok (Nd.mk 11 ⟨#[]⟩ (1 + k) 0 a [t1, t2, t3, t4]) l7
    else Res.ok (Nd.mk 11 ⟨#[]⟩ (1 + k) 0 a [t1, t2, t3]) l5) (word_er _ (by decide)) (word_loc _ (by decide)) fun a _ =>
  er_bind expr1_er expr1_loc fun t1 => er_bind (choice_er relWs) (choice_loc relWs (idxNe _ (by decide))) fun k => er_bind expr1_er expr1_loc fun t2 => er_bind (block_er hS hL) (block_loc hL hlt) fun t3 =>
  er_if (er_bind (word_er _ (by decide)) (word_loc _ (by decide)) fun _ => er_bind (block_er hS hL) (block_loc hL hlt) fun t4 => er_ret _) (er_ret _)
theorem stmt_er {S : List Tk → Res (List Nd)} (hS : Er S) (hL : Loc S) (hlt : Lt S) (level : Nat) : Er (stmtM S level) := by
  have h1 : Er (fun l => if isB ⟨#[105, 102]⟩ l = true then condR S l else asgM l) := er_if (same_er (if_er hS hL hlt) (if_loc hL hlt)) asg_er
  have h2 : Er (fun l => if isB ⟨#[105, 102]⟩ l = true ∨ atNameB l = true then (Res.err 2 l : Res Nd) else .err 7 l) := er_if (er_err (.inl rfl)) (er_err (.inr rfl))
  exact er_if (b := fun _ => 12 < level) h2 h1
theorem stmt_er0 {S : List Tk → Res (List Nd)} : Er (stmtM S 13) := by
  intro l e l1 h
  unfold stmtM at h
  rw [if_pos (by decide)] at h
  split at h <;> cases h
  · exact ⟨.inl rfl, [], rfl, realNil⟩
  · exact ⟨.inr rfl, [], rfl, realNil⟩
theorem listF_er {P : List Tk → Res Nd} (hP : Er P) (hL : Loc P) : ∀ (f : Nat) (acc : List Nd), Er (listF P f acc)
  | 0, acc => er_ret acc
  | f + 1, acc => er_if (b := fun l => isB ⟨#[125]⟩ l = true) (er_ret acc) (er_bind hP hL fun t => listF_er hP hL f _)
theorem list_loc {P : List Tk → Res Nd} (hP : Loc P) (hlt : Lt P) : Loc (fun l1 => listF P (l1.length + 1) [] l1) := by
  have h := loopG_run (stop := fun (_ : List Nd) l => isB ⟨#[125]⟩ l) (step := fun acc l => (P l).bind fun t l1 => .ok (acc ++ [t]) l1) (fun s r l h => isB_alike h _) (fun acc => loc_bind hP fun t => loc_ret _) (fun acc => lt_bind hlt fun t => le_ret _) []
  intro l x l1 hx
  have hx2 : listF P (l.length + 1) [] l = .ok x l1 := hx
  rw [listF_G] at hx2
  obtain ⟨c, h1, h2⟩ := h l x l1 hx2
  exact ⟨c, h1, fun r hr => by show listF P ((c ++ r).length + 1) [] (c ++ r) = _; rw [listF_G]; exact h2 r hr⟩
theorem stmts_er {P : List Tk → Res Nd} (hP : Er P) (hL : Loc P) (hlt : Lt P) : Er (stmtsM P) :=
  er_bind (q := fun _ l1 => (listF P (l1.length + 1) [] l1).bind fun ts l2 => (wordM ⟨#[125]⟩ l2).bind fun _ l3 => Res.ok ts l3) (word_er _ (by decide)) (word_loc _ (by decide)) fun _ =>
  er_bind (p := fun l1 => listF P (l1.length + 1) [] l1) (fun l e l1 h => listF_er hP hL _ _ l e l1 h) (list_loc hL hlt) fun ts => er_bind (word_er _ (by decide)) (word_loc _ (by decide)) fun _ => er_ret _
theorem stmtsD_er : ∀ d, Er (stmtsD d)
  | 0 => stmts_er stmt_er0 (stmt_loc (fun l x l1 h => by cases h) (fun l x l1 h => by cases h) 13) (stmt_lt (fun l x l1 h => by cases h) 13)
  | d + 1 => stmts_er (stmt_er (stmtsD_er d) (stmtsD_locS d).loc (stmtsD_lt d) (12 - d)) (stmt_loc (stmtsD_locS d).loc (stmtsD_lt d) (12 - d)) (stmt_lt (stmtsD_lt d).le (12 - d))
theorem semi_er {α : Type} (x : α) : Er (fun l => (wordM ⟨#[59]⟩ l).bind fun _ l1 => Res.ok x l1) := er_bind (word_er _ (by decide)) (word_loc _ (by decide)) fun _ => er_ret _
theorem settings_er : ∀ (ws : List ByteArray) (acc : List Nd), (∀ x ∈ ws, x ≠ ⟨#[]⟩) → Er (settingsF ws acc)
  | [], acc, _ => er_ret acc
  | wd :: ws, acc, hne => er_bind (word_er wd (hne wd (by simp))) (word_loc wd (hne wd (by simp))) fun _ => er_bind number_er number_locS.loc fun t => settings_er ws _ (fun x hx => hne x (by simp [hx]))
theorem numbers_er : ∀ (n : Nat) (acc : List Nd), Er (numbersF n acc)
  | 0, acc => er_ret acc
  | n + 1, acc => er_bind number_er number_locS.loc fun t => numbers_er n _
theorem namesF_er : ∀ (f : Nat) (acc : List Nd), Er (namesF f acc)
  | 0, acc => er_ret acc
  | f + 1, acc => er_if (b := fun l => acc = [] ∨ atNameB l = true) (er_head (q := fun a x l1 => namesF f (acc ++ [nmNd x a]) l1) name_er name_locS.loc fun a x => namesF_er f _) (er_ret acc)
theorem names_er : Er namesM := fun l e l1 h => namesF_er _ _ l e l1 h
theorem runF_er (wd : ByteArray) {P : List Tk → Res Nd} (hP : Er P) (hL : Loc P) : ∀ (f : Nat) (acc : List Nd), Er (runF wd P f acc)
  | 0, acc => er_ret acc
  | f + 1, acc => er_if (b := fun l => isB wd l = true) (er_bind hP hL fun t => runF_er wd hP hL f _) (er_ret acc)
theorem policy_er : Er policyM := er_head (p := choiceM polWs) (q := fun (a k : Int) l1 => (numbersF (psz (1 + k).toNat) [] l1).bind fun ts l2 => Res.ok (Nd.mk 3 ⟨#[]⟩ (1 + k) 0 a ts) l2) (choice_er polWs) (choice_loc polWs (idxNe _ (by decide))) fun a k => er_bind (numbers_er _ _) (numbers_locS _ _).loc fun ts => er_ret _
theorem link_er : Er linkM := er_bind name_er name_locS.loc fun x => er_bind (settings_er linkWs [] (by decide)) (settings_locS linkWs [] (by decide)).loc fun ts => er_bind policy_er policy_locS.loc fun t => semi_er _
theorem path_er : Er pathM := er_bind name_er name_locS.loc fun x => er_bind names_er names_loc fun ts => er_bind (settings_er backWs [] (by decide)) (settings_locS backWs [] (by decide)).loc fun us => semi_er _
theorem flow_er : Er flowM := er_bind name_er name_locS.loc fun x => er_bind (word_er _ (by decide)) (word_loc _ (by decide)) fun _ =>
  er_head (q := fun a y l3 => (wordM ⟨#[112, 97, 116, 104, 115]⟩ l3).bind fun _ l4 => (namesM l4).bind fun ts l5 => (settingsF flowWs [] l5).bind fun us l6 => (wordM ⟨#[59]⟩ l6).bind fun _ l7 => Res.ok (Nd.mk 5 x 0 0 0 ([nmNd y a] ++ ts ++ us)) l7) name_er name_locS.loc fun a y =>
  er_bind (word_er _ (by decide)) (word_loc _ (by decide)) fun _ => er_bind names_er names_loc fun ts => er_bind (settings_er flowWs [] (by decide)) (settings_locS flowWs [] (by decide)).loc fun us => semi_er _
theorem use_er (wd : ByteArray) (hne : wd ≠ ⟨#[]⟩) (p : Int) : Er (useM wd p) := er_head (q := fun a _ l1 => (nameM l1).bind fun x l2 => (wordM ⟨#[59]⟩ l2).bind fun _ l3 => Res.ok (Nd.mk 9 x p 0 a []) l3) (word_er _ hne) (word_loc _ hne) fun a _ => er_bind name_er name_locS.loc fun x => semi_er _
theorem variable_er : Er variableM := er_head (q := fun a _ l1 => (nameM l1).bind fun x l2 => (choiceM unitWs l2).bind fun k l3 => (numbersF 3 [] l3).bind fun ts l4 => (wordM ⟨#[59]⟩ l4).bind fun _ l5 => Res.ok (Nd.mk 7 x k 0 a ts) l5) (word_er _ (by decide)) (word_loc _ (by decide)) fun a _ =>
  er_bind name_er name_locS.loc fun x => er_bind (choice_er unitWs) unit_loc fun k => er_bind (numbers_er _ _) (numbers_locS _ _).loc fun ts => semi_er _
theorem handler_er : Er handlerM := er_head (q := fun a _ l1 => (choiceM evWs l1).bind fun k l2 => (stmts1 l2).bind fun ts l3 => Res.ok (Nd.mk 8 ⟨#[]⟩ k 0 a ts) l3) (word_er _ (by decide)) (word_loc _ (by decide)) fun a _ =>
  er_bind (choice_er evWs) (choice_loc evWs (idxNe _ (by decide))) fun k => er_bind (stmtsD_er 12) (stmtsD_locS 12).loc fun ts => er_ret _
theorem close_er {α : Type} (x : α) : Er (fun l => (wordM ⟨#[125]⟩ l).bind fun _ l1 => Res.ok x l1) := er_bind (word_er _ (by decide)) (word_loc _ (by decide)) fun _ => er_ret _
theorem progK2_er (x : ByteArray) (hs : List Nd) : Er (progK2 x hs) := er_bind (use_er _ (by decide) 0) (use_locS _ (by decide) 0).loc fun u =>
  er_if (b := fun l5 => isB ⟨#[112, 97, 99, 101]⟩ l5 = true) (er_bind (use_er _ (by decide) 1) (use_locS _ (by decide) 1).loc fun p => close_er _) (close_er _)
theorem progK1_er (x : ByteArray) (vs : List Nd) : Er (progK1 x vs) := er_bind (p := fun l => runF ⟨#[111, 110]⟩ handlerM (l.length + 1) vs l) (fun l e l1 h => runF_er _ handler_er handler_locS.loc _ _ l e l1 h) (run_loc _ handler_locS.loc handler_lt vs) (progK2_er x)
theorem program_er : Er programM := er_bind name_er name_locS.loc fun x => er_bind (word_er _ (by decide)) (word_loc _ (by decide)) fun _ => er_bind (p := fun l => runF ⟨#[118, 97, 114]⟩ variableM (l.length + 1) [] l) (fun l e l1 h => runF_er _ variable_er variable_locS.loc _ _ l e l1 h) (run_loc _ variable_locS.loc variable_lt []) (progK1_er x)
theorem pick_er (k : Int) : Er (pickM k) := by
  unfold pickM
  split
  · exact link_er
  · split
    · exact path_er
    · split
      · exact flow_er
      · exact program_er
theorem item_er : Er itemM := er_head (q := fun a k l1 => (pickM k l1).bind fun t l2 => Res.ok (Nd.mk t.kind t.name t.n t.unit a t.kids) l2) (choice_er kindWs) (choice_loc kindWs (idxNe _ (by decide))) fun a k => er_bind (pick_er k) (pick_locS k).loc fun t => er_ret _
end Go.Proofs.YtdaghppcomckbaaGreatDoor
