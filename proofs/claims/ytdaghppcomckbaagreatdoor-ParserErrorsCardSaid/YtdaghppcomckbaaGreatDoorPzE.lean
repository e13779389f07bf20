/- Texts of one proof: PzE. -/
import Derived.Test.YtdaghppcomckbaaGreatDoorPmG
import Derived.Test.YtdaghppcomckbaaGreatDoorLmG
/- The parser's mathematics: tokens at other offsets give the same trees, at other offsets. -/
namespace Go.Proofs.YtdaghppcomckbaaGreatDoor
open Go.RowKit
set_option linter.unusedVariables false
set_option linter.unusedSimpArgs false

mutual
/-- a tree at other offsets -/
def shN (k : Int) : Nd → Nd
  | .mk kd x n u a kids => .mk kd x n u (a + k) (shNs k kids)
def shNs (k : Int) : List Nd → List Nd
  | [] => []
  | t :: ts => shN k t :: shNs k ts
end
/-- a node whose kids lie at other offsets -/
def shK (k : Int) : Nd → Nd
  | .mk kd x n u a kids => .mk kd x n u a (shNs k kids)
theorem shNs_map (k : Int) : ∀ ts, shNs k ts = ts.map (shN k)
  | [] => by rw [shNs]; rfl
  | t :: ts => by rw [shNs, shNs_map k ts]; rfl
theorem shNs_app (k : Int) (a b : List Nd) : shNs k (a ++ b) = shNs k a ++ shNs k b := by simp only [shNs_map, List.map_append]
theorem shNs_snoc (k : Int) (a : List Nd) (t : Nd) : shNs k (a ++ [t]) = shNs k a ++ [shN k t] := by simp only [shNs_map, List.map_append, List.map_cons, List.map_nil]
theorem shNs_len (k : Int) (a : List Nd) : (shNs k a).length = a.length := by rw [shNs_map, List.length_map]
theorem shNs_nil (k : Int) (a : List Nd) : shNs k a = [] ↔ a = [] := by rw [shNs_map]; simp
def shR (k : Int) (l : List Tk) : List Tk := l.map (shiftT k)
theorem shR_len (k : Int) (l : List Tk) : (shR k l).length = l.length := by unfold shR; rw [List.length_map]
theorem hd_sx (k : Int) (l : List Tk) : (hd (shR k l)).x = (hd l).x := by cases l <;> rfl
theorem hd_sk (k : Int) (l : List Tk) : (hd (shR k l)).k = (hd l).k := by cases l <;> rfl
theorem hd_sm (k : Int) (l : List Tk) : (hd (shR k l)).m = (hd l).m := by cases l <;> rfl
theorem hd_sa (k : Int) (l : List Tk) (h : l ≠ []) : (hd (shR k l)).a = (hd l).a + k := by
  cases l with
  | nil => exact absurd rfl h
  | cons t l => rfl
theorem tl_s (k : Int) (l : List Tk) : (shR k l).tail = shR k l.tail := by cases l <;> rfl
theorem isB_s (k : Int) (wd : ByteArray) (l : List Tk) : isB wd (shR k l) = isB wd l := by unfold isB; rw [hd_sx]
theorem atName_s (k : Int) (l : List Tk) : atNameB (shR k l) = atNameB l := by unfold atNameB; rw [hd_sx, hd_sk]
theorem atExpr_s (k : Int) (l : List Tk) : atExprB (shR k l) = atExprB l := by unfold atExprB; rw [atName_s, hd_sx, hd_sk]
/-- the answer moves with the tokens -/
def Mv {α : Type} (k : Int) (f : α → α) (p p' : List Tk → Res α) : Prop := ∀ l x l1, p l = .ok x l1 → p' (shR k l) = .ok (f x) (shR k l1)
section
variable {k : Int}
theorem mv_ret {α : Type} {f : α → α} {x y : α} (h : f x = y) : Mv k f (fun l => Res.ok x l) (fun l => Res.ok y l) := by
  intro l z l1 e
  obtain ⟨rfl, rfl⟩ := ok_inj e
  show Res.ok y _ = _
  rw [h]
theorem mv_err {α : Type} {f : α → α} (e : Int) (p' : List Tk → Res α) : Mv k f (fun l => Res.err e l) p' := fun l x l1 h => by cases h
theorem mv_bind {α β : Type} {f : α → α} {g : β → β} {p p' : List Tk → Res α} {q q' : α → List Tk → Res β} (hp : Mv k f p p') (hq : ∀ x, Mv k g (q x) (q' (f x))) : Mv k g (fun l => (p l).bind q) (fun l => (p' l).bind q') := by
  intro l y l1 h
  obtain ⟨x, l2, h1, h2⟩ := bind_ok h
  show (p' (shR k l)).bind q' = _
  rw [hp _ _ _ h1, Res.bind_ok]
  exact hq x _ _ _ h2
theorem mv_head {α β : Type} {f : α → α} {g : β → β} {p p' : List Tk → Res α} {q q' : Int → α → List Tk → Res β} (hp : Mv k f p p') (hlt : Lt p) (hq : ∀ a x, Mv k g (q a x) (q' (a + k) (f x))) : Mv k g (fun l => (p l).bind (q (hd l).a)) (fun l => (p' l).bind (q' (hd l).a)) := by
  intro l y l1 h
  obtain ⟨x, l2, h1, h2⟩ := bind_ok h
  have h3 := hlt _ _ _ h1
  have hne : l ≠ [] := by rintro rfl; simp at h3
  show (p' (shR k l)).bind (q' (hd (shR k l)).a) = _
  rw [hp _ _ _ h1, Res.bind_ok, hd_sa _ _ hne]
  exact hq _ x _ _ _ h2
theorem mv_if {α : Type} {f : α → α} {b : List Tk → Prop} [∀ l, Decidable (b l)] {p q p' q' : List Tk → Res α} (hb : ∀ l, b (shR k l) ↔ b l) (hp : Mv k f p p') (hq : Mv k f q q') : Mv k f (fun l => if b l then p l else q l) (fun l => if b l then p' l else q' l) := by
  intro l x l1 h
  by_cases hc : b l
  · simp only [if_pos hc] at h
    simp only [if_pos ((hb l).2 hc)]
    exact hp _ _ _ h
  · simp only [if_neg hc] at h
    simp only [if_neg (fun e => hc ((hb l).1 e))]
    exact hq _ _ _ h
theorem mv_loopF {σ : Type} {f : σ → σ} {stop : σ → List Tk → Bool} {step : σ → List Tk → Res σ} (hs : ∀ s l, stop (f s) (shR k l) = stop s l) (hp : ∀ s, Mv k f (step s) (step (f s))) : ∀ (fu : Nat) (s : σ), Mv k f (loopG stop step fu s) (loopG stop step fu (f s))
  | 0, s => fun l x l1 h => by
    obtain ⟨rfl, rfl⟩ := ok_inj h
    rfl
  | fu + 1, s => fun l x l1 h => by
    rw [loopG] at h ⊢
    rw [hs]
    split at h
    · rename_i hc
      obtain ⟨rfl, rfl⟩ := ok_inj h
      rw [if_pos hc]
    · rename_i hc
      obtain ⟨s1, l2, h1, h2⟩ := bind_ok h
      rw [if_neg hc, hp s _ _ _ h1, Res.bind_ok]
      exact mv_loopF hs hp fu s1 _ _ _ h2
theorem mv_loop {σ : Type} {f : σ → σ} {stop : σ → List Tk → Bool} {step : σ → List Tk → Res σ} (hs : ∀ s l, stop (f s) (shR k l) = stop s l) (hp : ∀ s, Mv k f (step s) (step (f s))) (s : σ) : Mv k f (fun l => loopG stop step (l.length + 1) s l) (fun l => loopG stop step (l.length + 1) (f s) l) := by
  intro l x l1 h
  show loopG stop step ((shR k l).length + 1) (f s) (shR k l) = _
  rw [shR_len]
  exact mv_loopF hs hp _ s _ _ _ h
theorem choice_mv (ws : List ByteArray) : Mv k id (choiceM ws) (choiceM ws) := by
  intro l x l1 h
  unfold choiceM at h ⊢
  rw [hd_sx]
  split at h
  · cases h
  · rename_i hc
    obtain ⟨rfl, rfl⟩ := ok_inj h
    rw [if_neg hc, tl_s]
    rfl
theorem word_mv (wd : ByteArray) : Mv k id (wordM wd) (wordM wd) := mv_bind (choice_mv [wd]) fun _ => mv_ret rfl
theorem name_mv : Mv k id nameM nameM := by
  intro l x l1 h
  unfold nameM at h ⊢
  rw [hd_sx, atName_s]
  split at h
  · rename_i hc
    obtain ⟨rfl, rfl⟩ := ok_inj h
    rw [if_pos hc, tl_s]
    rfl
  · cases h
theorem number_mv : Mv k (shN k) numberM numberM := by
  intro l x l1 h
  unfold numberM at h ⊢
  rw [hd_sk, hd_sm]
  split at h
  · rename_i hc
    have hne : l ≠ [] := by rintro rfl; exact absurd hc (by decide)
    obtain ⟨rfl, rfl⟩ := ok_inj h
    rw [if_pos hc, tl_s, hd_sa _ _ hne]
    rfl
  · cases h
theorem amt_mv : Mv k (shN k) amtM amtM := mv_bind number_mv fun t => mv_if (b := fun l => idx unitWs (hd l).x < 0) (fun l => by rw [hd_sx]) (mv_ret rfl) (mv_bind (choice_mv unitWs) fun u => mv_ret (by cases t; rfl))
theorem same_mv {α : Type} {f : α → α} {p : List Tk → Res α} (hp : Mv k f p p) : Mv k f (fun l => (p l).bind fun t l1 => .ok t l1) (fun l => (p l).bind fun t l1 => .ok t l1) := mv_bind hp fun t => mv_ret rfl
theorem function_mv {E : List Tk → Res Nd} (hE : Mv k (shN k) E E) : Mv k (shN k) (functionM E) (functionM E) :=
  mv_head (p := choiceM fnWs) (p' := choiceM fnWs) (q := fun (a u : Int) l1 => (wordM ⟨#[40]⟩ l1).bind fun _ l2 => (E l2).bind fun t1 l3 => (wordM ⟨#[44]⟩ l3).bind fun _ l4 => (E l4).bind fun t2 l5 => (wordM ⟨#[41]⟩ l5).bind fun _ l6 => (Res.ok (Nd.mk (19 + u) ⟨#[]⟩ 0 0 a [t1, t2]) l6 : Res Nd))
    (q' := fun (a u : Int) l1 => (wordM ⟨#[40]⟩ l1).bind fun _ l2 => (E l2).bind fun t1 l3 => (wordM ⟨#[44]⟩ l3).bind fun _ l4 => (E l4).bind fun t2 l5 => (wordM ⟨#[41]⟩ l5).bind fun _ l6 => (Res.ok (Nd.mk (19 + u) ⟨#[]⟩ 0 0 a [t1, t2]) l6 : Res Nd))
    (choice_mv fnWs) (choice_lt fnWs (idxNe _ (by decide))) fun a u =>
    mv_bind (word_mv _) fun _ => mv_bind hE fun t1 => mv_bind (word_mv _) fun _ => mv_bind hE fun t2 => mv_bind (word_mv _) fun _ => mv_ret rfl
theorem take_mv {b : List Tk → Prop} [∀ l, Decidable (b l)] {q : List Tk → Res Nd} (hb : ∀ l, b (shR k l) ↔ b l) (h0 : ¬ b []) (hq : Mv k (shN k) q q) : Mv k (shN k) (fun l => if b l then nameR l else q l) (fun l => if b l then nameR l else q l) := by
  intro l x l1 h
  by_cases hc : b l
  · have hne : l ≠ [] := by rintro rfl; exact h0 hc
    simp only [if_pos hc] at h
    simp only [if_pos ((hb l).2 hc)]
    obtain ⟨rfl, rfl⟩ := ok_inj h
    unfold nameR
    rw [hd_sx, hd_sa _ _ hne, tl_s]
    rfl
  · simp only [if_neg hc] at h
    simp only [if_neg (fun e => hc ((hb l).1 e))]
    exact hq _ _ _ h
theorem factor_mv {E : List Tk → Res Nd} (hE : Mv k (shN k) E E) : Mv k (shN k) (factorM E) (factorM E) := by
  have h1 : Mv k (shN k) (fun l => if isB ⟨#[40]⟩ l = true then parenM E l else fnR E l) (fun l => if isB ⟨#[40]⟩ l = true then parenM E l else fnR E l) :=
    mv_if (fun l => by rw [isB_s]) (mv_bind (word_mv _) fun _ => mv_bind hE fun t => mv_bind (word_mv _) fun _ => mv_ret rfl) (same_mv (function_mv hE))
  have h2 := take_mv (b := fun l => inpB (hd l).x = true) (fun l => by rw [hd_sx]) (by simp [hd, inpB, inpL, ByteArray.toList_eq]) h1
  have h3 := take_mv (b := fun l => atNameB l = true) (fun l => by rw [atName_s]) (by decide) h2
  exact mv_if (b := fun l => (hd l).k = 2) (fun l => by rw [hd_sk]) (same_mv amt_mv) h3
theorem opF_mv {fine : List Tk → Res Nd} (hf : Mv k (shN k) fine fine) (first : Int) (ws : List ByteArray) (a : Int) : ∀ (fu : Nat) (t : Nd), Mv k (shN k) (opF fine first ws a fu t) (opF fine first ws (a + k) fu (shN k t))
  | 0, t => fun l x l1 h => by
    obtain ⟨rfl, rfl⟩ := ok_inj h
    rfl
  | fu + 1, t => mv_if (b := fun l => idx ws (hd l).x < 0) (fun l => by rw [hd_sx]) (mv_ret rfl) (mv_bind (choice_mv ws) fun u => mv_bind hf fun t2 => opF_mv hf first ws a fu (.mk (first + u) ⟨#[]⟩ 0 0 a [t, t2]))
theorem ops_mv {fine : List Tk → Res Nd} (hf : Mv k (shN k) fine fine) (hlt : Lt fine) (first : Int) (ws : List ByteArray) : Mv k (shN k) (opsM fine first ws) (opsM fine first ws) :=
  mv_head (q := fun a t l1 => opF fine first ws a (l1.length + 1) t l1) (q' := fun a t l1 => opF fine first ws a (l1.length + 1) t l1) hf hlt fun a t => by
    intro l x l1 h
    show opF fine first ws (a + k) ((shR k l).length + 1) (shN k t) (shR k l) = _
    rw [shR_len]
    exact opF_mv hf first ws a _ t _ _ _ h
theorem term_mv {E : List Tk → Res Nd} (hE : Mv k (shN k) E E) (hle : Le E) : Mv k (shN k) (termM E) (termM E) := same_mv (ops_mv (factor_mv hE) (factor_lt hle) 17 mulWs)
theorem sum_mv {E : List Tk → Res Nd} (hE : Mv k (shN k) E E) (hle : Le E) : Mv k (shN k) (sumR E) (sumR E) := same_mv (ops_mv (term_mv hE hle) (term_lt hle) 15 addWs)
theorem exprM_mv {E : List Tk → Res Nd} (hE : Mv k (shN k) E E) (hle : Le E) (level : Nat) : Mv k (shN k) (exprM E level) (exprM E level) :=
  mv_if (b := fun l => 12 < level ∧ atExprB l = true) (fun l => by rw [atExpr_s]) (mv_err 2 _) (sum_mv hE hle)
theorem exprD_mv : ∀ d, Mv k (shN k) (exprD d) (exprD d)
  | 0 => exprM_mv (mv_err 0 _) (fun l x l1 h => by cases h) 13
  | d + 1 => exprM_mv (exprD_mv d) (exprD_le d) (12 - d)
theorem expr1_mv : Mv k (shN k) expr1 expr1 := exprD_mv 12
theorem asg_mv : Mv k (shN k) asgM asgM := mv_head (q := fun a x l1 => (wordM ⟨#[61]⟩ l1).bind fun _ l2 => (expr1 l2).bind fun t l3 => (wordM ⟨#[59]⟩ l3).bind fun _ l4 => Res.ok (Nd.mk 10 x 0 0 a [t]) l4)
  (q' := fun a x l1 => (wordM ⟨#[61]⟩ l1).bind fun _ l2 => (expr1 l2).bind fun t l3 => (wordM ⟨#[59]⟩ l3).bind fun _ l4 => Res.ok (Nd.mk 10 x 0 0 a [t]) l4) name_mv name_lt fun a x =>
  mv_bind (word_mv _) fun _ => mv_bind expr1_mv fun t => mv_bind (word_mv _) fun _ => mv_ret rfl
theorem block_mv {S : List Tk → Res (List Nd)} (hS : Mv k (shNs k) S S) (hlt : Lt S) : Mv k (shN k) (blockM S) (blockM S) := mv_head (q := fun a ts l1 => Res.ok (Nd.mk 12 ⟨#[]⟩ 0 0 a ts) l1) (q' := fun a ts l1 => Res.ok (Nd.mk 12 ⟨#[]⟩ 0 0 a ts) l1) hS hlt fun a ts => mv_ret rfl
theorem if_mv {S : List Tk → Res (List Nd)} (hS : Mv k (shNs k) S S) (hlt : Lt S) : Mv k (shN k) (ifM S) (ifM S) :=
  mv_head (q := fun a _ l1 => (expr1 l1).bind fun t1 l2 => (choiceM relWs l2).bind fun k l3 => (expr1 l3).bind fun t2 l4 => (blockM S l4).bind fun t3 l5 =>
    if isB ⟨#[101, 108, 115, 101]⟩ l5 = true then (wordM ⟨#[101, 108, 115, 101]⟩ l5).bind fun _ l6 => (blockM S l6).bind fun t4 l7 => Res.ok (Nd.mk 11 ⟨#[]⟩ (1 + k) 0 a [t1, t2, t3, t4]) l7
    else Res.ok (Nd.mk 11 ⟨#[]⟩ (1 + k) 0 a [t1, t2, t3]) l5)
    (q' := fun a _ l1 => (expr1 l1).bind fun t1 l2 => (choiceM relWs l2).bind fun k l3 => (expr1 l3).bind fun t2 l4 => (blockM S l4).bind fun t3 l5 =>
    if isB ⟨#[101, 108, 115, 101]⟩ l5 = true then (wordM ⟨#[101, 108, 115, 101]⟩ l5).bind fun _ l6 => (blockM S l6).bind fun t4 l7 => Res.ok (Nd.mk 11 ⟨#[]⟩ (1 + k) 0 a [t1, t2, t3, t4]) l7
    else Res.ok (Nd.mk 11 ⟨#[]⟩ (1 + k) 0 a [t1, t2, t3]) l5) (word_mv _) (word_lt _ (by decide)) fun a _ =>
  mv_bind expr1_mv fun t1 => mv_bind (choice_mv relWs) fun u => mv_bind expr1_mv fun t2 => mv_bind (block_mv hS hlt) fun t3 =>
  mv_if (fun l => by rw [isB_s]) (mv_bind (word_mv _) fun _ => mv_bind (block_mv hS hlt) fun t4 => mv_ret rfl) (mv_ret rfl)
theorem stmt_mv {S : List Tk → Res (List Nd)} (hS : Mv k (shNs k) S S) (hlt : Lt S) (level : Nat) : Mv k (shN k) (stmtM S level) (stmtM S level) := by
  have h1 : Mv k (shN k) (fun l => if isB ⟨#[105, 102]⟩ l = true then condR S l else asgM l) (fun l => if isB ⟨#[105, 102]⟩ l = true then condR S l else asgM l) := mv_if (fun l => by rw [isB_s]) (same_mv (if_mv hS hlt)) asg_mv
  have h2 : Mv k (shN k) (fun l => if isB ⟨#[105, 102]⟩ l = true ∨ atNameB l = true then (Res.err 2 l : Res Nd) else .err 7 l) (fun l => if isB ⟨#[105, 102]⟩ l = true ∨ atNameB l = true then (Res.err 2 l : Res Nd) else .err 7 l) := mv_if (fun l => by rw [isB_s, atName_s]) (mv_err 2 _) (mv_err 7 _)
  exact mv_if (b := fun _ => 12 < level) (fun l => Iff.rfl) h2 h1
theorem list_mv {P : List Tk → Res Nd} (hP : Mv k (shN k) P P) : Mv k (shNs k) (fun l1 => listF P (l1.length + 1) [] l1) (fun l1 => listF P (l1.length + 1) [] l1) := by
  have h := mv_loop (k := k) (f := shNs k) (stop := fun (_ : List Nd) l => isB ⟨#[125]⟩ l) (step := fun acc l => (P l).bind fun t l1 => .ok (acc ++ [t]) l1) (fun s l => isB_s k _ l) (fun acc => mv_bind hP fun t => mv_ret (shNs_snoc _ _ _)) []
  intro l x l1 hx
  have hx2 : listF P (l.length + 1) [] l = .ok x l1 := hx
  rw [listF_G] at hx2
  show listF P ((shR k l).length + 1) [] (shR k l) = _
  rw [listF_G]
  exact h l x l1 hx2
theorem stmts_mv {P : List Tk → Res Nd} (hP : Mv k (shN k) P P) : Mv k (shNs k) (stmtsM P) (stmtsM P) := mv_bind (word_mv _) fun _ => mv_bind (list_mv hP) fun ts => mv_bind (word_mv _) fun _ => mv_ret rfl
theorem stmtsD_mv : ∀ d, Mv k (shNs k) (stmtsD d) (stmtsD d)
  | 0 => stmts_mv (stmt_mv (mv_err 0 _) (fun l x l1 h => by cases h) 13)
  | d + 1 => stmts_mv (stmt_mv (stmtsD_mv d) (stmtsD_lt d) (12 - d))
theorem semi_mv {α : Type} {f : α → α} {x y : α} (h : f x = y) : Mv k f (fun l => (wordM ⟨#[59]⟩ l).bind fun _ l1 => Res.ok x l1) (fun l => (wordM ⟨#[59]⟩ l).bind fun _ l1 => Res.ok y l1) := mv_bind (word_mv _) fun _ => mv_ret h
theorem settings_mv : ∀ (ws : List ByteArray) (acc acc' : List Nd), shNs k acc = acc' → Mv k (shNs k) (settingsF ws acc) (settingsF ws acc')
  | [], acc, acc', h => mv_ret h
  | wd :: ws, acc, acc', h => mv_bind (word_mv wd) fun _ => mv_bind number_mv fun t => settings_mv ws _ _ (by rw [shNs_snoc, h])
theorem numbers_mv : ∀ (n : Nat) (acc acc' : List Nd), shNs k acc = acc' → Mv k (shNs k) (numbersF n acc) (numbersF n acc')
  | 0, acc, acc', h => mv_ret h
  | n + 1, acc, acc', h => mv_bind number_mv fun t => numbers_mv n _ _ (by rw [shNs_snoc, h])
theorem names_mv : Mv k (shNs k) namesM namesM := by
  have h := mv_loop (k := k) (f := shNs k) (stop := fun acc l => decide ¬(acc = [] ∨ atNameB l = true)) (step := fun acc l => (nameM l).bind fun x l1 => .ok (acc ++ [nmNd x (hd l).a]) l1)
    (fun s l => by simp only [atName_s, shNs_nil]) (fun acc => mv_head (q := fun a x l1 => Res.ok (acc ++ [nmNd x a]) l1) (q' := fun a x l1 => Res.ok (shNs k acc ++ [nmNd x a]) l1) name_mv name_lt fun a x => mv_ret (shNs_snoc _ _ _)) []
  intro l x l1 hx
  unfold namesM at hx ⊢
  rw [namesF_G] at hx ⊢
  exact h l x l1 hx
theorem run_mv (wd : ByteArray) {P : List Tk → Res Nd} (hP : Mv k (shN k) P P) (acc acc' : List Nd) (ha : shNs k acc = acc') : Mv k (shNs k) (fun l => runF wd P (l.length + 1) acc l) (fun l => runF wd P (l.length + 1) acc' l) := by
  subst ha
  have h := mv_loop (k := k) (f := shNs k) (stop := fun (_ : List Nd) l => !isB wd l) (step := fun acc l => (P l).bind fun t l1 => .ok (acc ++ [t]) l1) (fun s l => by rw [isB_s]) (fun acc => mv_bind hP fun t => mv_ret (shNs_snoc _ _ _)) acc
  intro l x l1 hx
  have hx2 : runF wd P (l.length + 1) acc l = .ok x l1 := hx
  rw [runF_G] at hx2
  show runF wd P ((shR k l).length + 1) (shNs k acc) (shR k l) = _
  rw [runF_G]
  exact h l x l1 hx2
theorem policy_mv : Mv k (shN k) policyM policyM := mv_head (p := choiceM polWs) (p' := choiceM polWs) (q := fun (a u : Int) l1 => (numbersF (psz (1 + u).toNat) [] l1).bind fun ts l2 => Res.ok (Nd.mk 3 ⟨#[]⟩ (1 + u) 0 a ts) l2)
  (q' := fun (a u : Int) l1 => (numbersF (psz (1 + u).toNat) [] l1).bind fun ts l2 => Res.ok (Nd.mk 3 ⟨#[]⟩ (1 + u) 0 a ts) l2) (choice_mv polWs) (choice_lt polWs (idxNe _ (by decide))) fun a u => mv_bind (numbers_mv _ _ _ rfl) fun ts => mv_ret rfl
theorem link_mv : Mv k (shK k) linkM linkM := mv_bind name_mv fun x => mv_bind (settings_mv linkWs [] [] rfl) fun ts => mv_bind policy_mv fun t => semi_mv (by simp only [shK, shNs_snoc, id])
theorem path_mv : Mv k (shK k) pathM pathM := mv_bind name_mv fun x => mv_bind names_mv fun ts => mv_bind (settings_mv backWs [] [] rfl) fun us => semi_mv (by simp only [shK, shNs_app, id])
theorem flow_mv : Mv k (shK k) flowM flowM := mv_bind name_mv fun x => mv_bind (word_mv _) fun _ =>
  mv_head (q := fun a y l3 => (wordM ⟨#[112, 97, 116, 104, 115]⟩ l3).bind fun _ l4 => (namesM l4).bind fun ts l5 => (settingsF flowWs [] l5).bind fun us l6 => (wordM ⟨#[59]⟩ l6).bind fun _ l7 => Res.ok (Nd.mk 5 x 0 0 0 ([nmNd y a] ++ ts ++ us)) l7)
    (q' := fun a y l3 => (wordM ⟨#[112, 97, 116, 104, 115]⟩ l3).bind fun _ l4 => (namesM l4).bind fun ts l5 => (settingsF flowWs [] l5).bind fun us l6 => (wordM ⟨#[59]⟩ l6).bind fun _ l7 => Res.ok (Nd.mk 5 x 0 0 0 ([nmNd y a] ++ ts ++ us)) l7) name_mv name_lt fun a y =>
  mv_bind (word_mv _) fun _ => mv_bind names_mv fun ts => mv_bind (settings_mv flowWs [] [] rfl) fun us => semi_mv (by simp only [shK, shNs_app, shNs, shN, nmNd, id])
theorem use_mv (wd : ByteArray) (hne : wd ≠ ⟨#[]⟩) (p : Int) : Mv k (shN k) (useM wd p) (useM wd p) := mv_head (q := fun a _ l1 => (nameM l1).bind fun x l2 => (wordM ⟨#[59]⟩ l2).bind fun _ l3 => Res.ok (Nd.mk 9 x p 0 a []) l3)
  (q' := fun a _ l1 => (nameM l1).bind fun x l2 => (wordM ⟨#[59]⟩ l2).bind fun _ l3 => Res.ok (Nd.mk 9 x p 0 a []) l3) (word_mv _) (word_lt _ hne) fun a _ => mv_bind name_mv fun x => semi_mv rfl
theorem variable_mv : Mv k (shN k) variableM variableM := mv_head (q := fun a _ l1 => (nameM l1).bind fun x l2 => (choiceM unitWs l2).bind fun k l3 => (numbersF 3 [] l3).bind fun ts l4 => (wordM ⟨#[59]⟩ l4).bind fun _ l5 => Res.ok (Nd.mk 7 x k 0 a ts) l5)
  (q' := fun a _ l1 => (nameM l1).bind fun x l2 => (choiceM unitWs l2).bind fun k l3 => (numbersF 3 [] l3).bind fun ts l4 => (wordM ⟨#[59]⟩ l4).bind fun _ l5 => Res.ok (Nd.mk 7 x k 0 a ts) l5) (word_mv _) (word_lt _ (by decide)) fun a _ =>
  mv_bind name_mv fun x => mv_bind (choice_mv unitWs) fun u => mv_bind (numbers_mv _ _ _ rfl) fun ts => semi_mv rfl
theorem handler_mv : Mv k (shN k) handlerM handlerM := mv_head (q := fun a _ l1 => (choiceM evWs l1).bind fun k l2 => (stmts1 l2).bind fun ts l3 => Res.ok (Nd.mk 8 ⟨#[]⟩ k 0 a ts) l3)
  (q' := fun a _ l1 => (choiceM evWs l1).bind fun k l2 => (stmts1 l2).bind fun ts l3 => Res.ok (Nd.mk 8 ⟨#[]⟩ k 0 a ts) l3) (word_mv _) (word_lt _ (by decide)) fun a _ =>
  mv_bind (choice_mv evWs) fun u => mv_bind (stmtsD_mv 12) fun ts => mv_ret rfl
theorem close_mv {α : Type} {f : α → α} {x y : α} (h : f x = y) : Mv k f (fun l => (wordM ⟨#[125]⟩ l).bind fun _ l1 => Res.ok x l1) (fun l => (wordM ⟨#[125]⟩ l).bind fun _ l1 => Res.ok y l1) := mv_bind (word_mv _) fun _ => mv_ret h
theorem progK2_mv (x : ByteArray) (hs : List Nd) : Mv k (shK k) (progK2 x hs) (progK2 x (shNs k hs)) := mv_bind (use_mv _ (by decide) 0) fun u =>
  mv_if (b := fun l5 => isB ⟨#[112, 97, 99, 101]⟩ l5 = true) (fun l => by rw [isB_s]) (mv_bind (use_mv _ (by decide) 1) fun p => close_mv (by simp only [shK, shNs_snoc])) (close_mv (by simp only [shK, shNs_snoc]))
theorem progK1_mv (x : ByteArray) (vs : List Nd) : Mv k (shK k) (progK1 x vs) (progK1 x (shNs k vs)) := mv_bind (run_mv _ handler_mv vs _ rfl) (progK2_mv x)
theorem program_mv : Mv k (shK k) programM programM := mv_bind name_mv fun x => mv_bind (word_mv _) fun _ => mv_bind (run_mv _ variable_mv [] [] rfl) (progK1_mv x)
theorem pick_mv (u : Int) : Mv k (shK k) (pickM u) (pickM u) := by
  unfold pickM
  split
  · exact link_mv
  · split
    · exact path_mv
    · split
      · exact flow_mv
      · exact program_mv
theorem item_mv : Mv k (shN k) itemM itemM := mv_head (p := choiceM kindWs) (p' := choiceM kindWs) (q := fun a u l1 => (pickM u l1).bind fun t l2 => Res.ok (Nd.mk t.kind t.name t.n t.unit a t.kids) l2) (q' := fun a u l1 => (pickM u l1).bind fun t l2 => Res.ok (Nd.mk t.kind t.name t.n t.unit a t.kids) l2)
  (choice_mv kindWs) (choice_lt kindWs (idxNe _ (by decide))) fun a u => mv_bind (pick_mv u) fun t => mv_ret (by cases t; rfl)
end
end Go.Proofs.YtdaghppcomckbaaGreatDoor
