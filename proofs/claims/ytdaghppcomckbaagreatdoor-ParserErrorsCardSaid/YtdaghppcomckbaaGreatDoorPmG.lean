/- Texts of one proof: PzA, PzB, PzC, PzD. -/
import Derived.Test.YtdaghppcomckbaaGreatDoorPmF
/- The parser's mathematics: a reader's answer depends on the tokens that it takes, and on what the next one looks like. -/
namespace Go.Proofs.YtdaghppcomckbaaGreatDoor
open Go.RowKit
set_option linter.unusedVariables false
set_option linter.unusedSimpArgs false

/-- two lists of tokens begin alike, but for offsets and numbers -/
def Alike0 (r l : List Tk) : Prop := (hd r).k = (hd l).k ∧ (hd r).x = (hd l).x
/-- a token of the text, not the one behind its end -/
def Real (t : Tk) : Prop := ¬(t.k = 0 ∧ t.x = ⟨#[]⟩)
theorem realNil : ∀ t ∈ ([] : List Tk), Real t := by simp
theorem realOne {t : Tk} (h : Real t) : ∀ u ∈ [t], Real u := by simpa using h
theorem realApp {a b : List Tk} (h : ∀ t ∈ a, Real t) (h2 : ∀ t ∈ b, Real t) : ∀ t ∈ a ++ b, Real t := fun t ht => (List.mem_append.1 ht).elim (h t) (h2 t)
def Loc {α : Type} (p : List Tk → Res α) : Prop := ∀ l x l1, p l = .ok x l1 → ∃ c, (l = c ++ l1 ∧ ∀ t ∈ c, Real t) ∧ ∀ r, Alike0 r l1 → p (c ++ r) = .ok x r
/-- as Loc; the next token does not matter -/
def LocS {α : Type} (p : List Tk → Res α) : Prop := ∀ l x l1, p l = .ok x l1 → ∃ c, (l = c ++ l1 ∧ ∀ t ∈ c, Real t) ∧ ∀ r, p (c ++ r) = .ok x r
theorem LocS.loc {α : Type} {p : List Tk → Res α} (h : LocS p) : Loc p := fun l x l1 e => let ⟨c, h1, h2⟩ := h l x l1 e; ⟨c, h1, fun r _ => h2 r⟩
theorem Alike0.refl (l : List Tk) : Alike0 l l := ⟨rfl, rfl⟩
theorem Alike0.app {r l : List Tk} (h : Alike0 r l) (c : List Tk) : Alike0 (c ++ r) (c ++ l) := by
  cases c with
  | nil => exact h
  | cons t c => exact ⟨rfl, rfl⟩
theorem hd_app (c r l : List Tk) (h : c ≠ []) : hd (c ++ r) = hd (c ++ l) := by
  cases c with
  | nil => exact absurd rfl h
  | cons t c => rfl
theorem loc_ret {α : Type} (x : α) : Loc (fun l => Res.ok x l) := by
  intro l y l1 h
  obtain ⟨rfl, rfl⟩ := ok_inj h
  exact ⟨[], ⟨rfl, realNil⟩, fun r _ => rfl⟩
theorem loc_bind {α β : Type} {p : List Tk → Res α} {q : α → List Tk → Res β} (hp : Loc p) (hq : ∀ x, Loc (q x)) : Loc (fun l => (p l).bind q) := by
  intro l y l1 h
  obtain ⟨x, l2, h1, h2⟩ := bind_ok h
  obtain ⟨c1, ⟨rfl, hr1⟩, hc1⟩ := hp _ _ _ h1
  obtain ⟨c2, ⟨rfl, hr2⟩, hc2⟩ := hq x _ _ _ h2
  refine ⟨c1 ++ c2, ⟨by rw [List.append_assoc], realApp hr1 hr2⟩, fun r hr => ?_⟩
  show (p (c1 ++ c2 ++ r)).bind q = _
  rw [List.append_assoc, hc1 _ (hr.app c2), Res.bind_ok]
  exact hc2 r hr
theorem locS_bind {α β : Type} {p : List Tk → Res α} {q : α → List Tk → Res β} (hp : Loc p) (hq : ∀ x, LocS (q x)) (hlt : ∀ x, Lt (q x)) : LocS (fun l => (p l).bind q) := by
  intro l y l1 h
  obtain ⟨x, l2, h1, h2⟩ := bind_ok h
  obtain ⟨c1, ⟨rfl, hr1⟩, hc1⟩ := hp _ _ _ h1
  have h3 := hlt x _ _ _ h2
  obtain ⟨c2, ⟨rfl, hr2⟩, hc2⟩ := hq x _ _ _ h2
  have hne : c2 ≠ [] := by rintro rfl; simp at h3
  refine ⟨c1 ++ c2, ⟨by rw [List.append_assoc], realApp hr1 hr2⟩, fun r => ?_⟩
  show (p (c1 ++ c2 ++ r)).bind q = _
  rw [List.append_assoc, hc1 _ (by unfold Alike0; rw [hd_app c2 r l1 hne]; exact ⟨rfl, rfl⟩), Res.bind_ok]
  exact hc2 r
/-- the offset of the first token is kept -/
theorem loc_head {α β : Type} {p : List Tk → Res α} {q : Int → α → List Tk → Res β} (hp : Loc p) (hlt : Lt p) (hq : ∀ a x, Loc (q a x)) : Loc (fun l => (p l).bind (q (hd l).a)) := by
  intro l y l1 h
  obtain ⟨x, l2, h1, h2⟩ := bind_ok h
  have h3 := hlt _ _ _ h1
  obtain ⟨c1, ⟨rfl, hr1⟩, hc1⟩ := hp _ _ _ h1
  have hne : c1 ≠ [] := by rintro rfl; simp at h3
  obtain ⟨c2, ⟨rfl, hr2⟩, hc2⟩ := hq _ x _ _ _ h2
  refine ⟨c1 ++ c2, ⟨by rw [List.append_assoc], realApp hr1 hr2⟩, fun r hr => ?_⟩
  show (p (c1 ++ c2 ++ r)).bind (q (hd (c1 ++ c2 ++ r)).a) = _
  rw [List.append_assoc, hc1 _ (hr.app c2), Res.bind_ok, hd_app c1 (c2 ++ r) (c2 ++ l1) hne]
  exact hc2 r hr
theorem choice_locS (ws : List ByteArray) (hne : (⟨#[]⟩ : ByteArray) ∉ ws) : LocS (choiceM ws) := by
  intro l x l1 h
  have hlt := choice_lt ws hne _ _ _ h
  cases l with
  | nil => simp at hlt
  | cons t l =>
    have h1 := choiceM_tail h
    simp at h1
    subst h1
    have hr0 : Real t := by
      rintro ⟨-, hx⟩
      have h3 : choiceM ws [] = .ok (idx ws ⟨#[]⟩) [] := by
        unfold choiceM at h ⊢
        split at h
        · cases h
        · rename_i hc
          rw [if_neg (fun e => hc (by show idx ws t.x < 0; rw [hx]; exact e))]
          rfl
      have h4 := choice_lt ws hne _ _ _ h3
      simp at h4
    refine ⟨[t], ⟨rfl, realOne hr0⟩, fun r => ?_⟩
    have e : hd ([t] ++ r) = hd (t :: l1) := rfl
    unfold choiceM at h ⊢
    rw [e]
    split at h
    · cases h
    · rename_i hc
      obtain ⟨rfl, -⟩ := ok_inj h
      rw [if_neg hc]
      rfl
theorem word_locS (wd : ByteArray) (hne : wd ≠ ⟨#[]⟩) : LocS (wordM wd) := by
  intro l x l1 h
  obtain ⟨k, l2, h1, h2⟩ := bind_ok h
  obtain ⟨-, rfl⟩ := ok_inj h2
  obtain ⟨c, ⟨rfl, hr0⟩, hc⟩ := choice_locS [wd] (by simpa using fun e => hne e.symm) _ _ _ h1
  exact ⟨c, ⟨rfl, hr0⟩, fun r => by unfold wordM; rw [hc r]; rfl⟩
theorem name_locS : LocS nameM := by
  intro l x l1 h
  have hlt := name_lt _ _ _ h
  cases l with
  | nil => simp at hlt
  | cons t l =>
    obtain ⟨h1, h2⟩ := nameM_ok h
    simp at h1
    subst h1
    have hr0 : Real t := by
      rintro ⟨hk, -⟩
      unfold nameM atNameB at h
      split at h
      · rename_i hc
        simp [hd, hk] at hc
      · cases h
    refine ⟨[t], ⟨rfl, realOne hr0⟩, fun r => ?_⟩
    have e : hd ([t] ++ r) = hd (t :: l1) := rfl
    unfold nameM atNameB at h ⊢
    rw [e]
    split at h
    · rename_i hc; rw [if_pos hc, ← h2]; rfl
    · cases h
theorem number_locS : LocS numberM := by
  intro l x l1 h
  have hlt := number_lt _ _ _ h
  cases l with
  | nil => simp at hlt
  | cons t l =>
    obtain ⟨h1, h2⟩ := numberM_ok h
    simp at h1
    subst h1
    have hr0 : Real t := by
      rintro ⟨hk, -⟩
      unfold numberM at h
      split at h
      · rename_i hc
        simp [hd, hk] at hc
      · cases h
    refine ⟨[t], ⟨rfl, realOne hr0⟩, fun r => ?_⟩
    have e : hd ([t] ++ r) = hd (t :: l1) := rfl
    unfold numberM at h ⊢
    rw [e]
    split at h
    · rename_i hc; rw [if_pos hc, ← h2]; rfl
    · cases h
theorem isB_alike {r l : List Tk} (h : Alike0 r l) (wd : ByteArray) : isB wd r = isB wd l := by unfold isB; rw [h.2]
theorem atName_alike {r l : List Tk} (h : Alike0 r l) : atNameB r = atNameB l := by unfold atNameB; rw [h.1, h.2]
theorem atExpr_alike {r l : List Tk} (h : Alike0 r l) : atExprB r = atExprB l := by unfold atExprB; rw [atName_alike h, h.1, h.2]
/-- a test on the next token between two readers -/
theorem loc_if {α : Type} {b : List Tk → Prop} [∀ l, Decidable (b l)] {p q : List Tk → Res α} (hb : ∀ r l, Alike0 r l → (b r ↔ b l)) (hp : Loc p) (hq : Loc q) : Loc (fun l => if b l then p l else q l) := by
  intro l x l1 h
  by_cases hc : b l
  · simp only [if_pos hc] at h
    obtain ⟨c, ⟨rfl, hr0⟩, h2⟩ := hp _ _ _ h
    refine ⟨c, ⟨rfl, hr0⟩, fun r hr => ?_⟩
    simp only
    rw [if_pos ((hb _ _ (hr.app c)).2 hc)]
    exact h2 r hr
  · simp only [if_neg hc] at h
    obtain ⟨c, ⟨rfl, hr0⟩, h2⟩ := hq _ _ _ h
    refine ⟨c, ⟨rfl, hr0⟩, fun r hr => ?_⟩
    simp only
    rw [if_neg (fun e => hc ((hb _ _ (hr.app c)).1 e))]
    exact h2 r hr
theorem loc_err {α : Type} (e : Int) : Loc (fun l => (Res.err e l : Res α)) := fun l x l1 h => by cases h
/-- use: the strict form of a word -/
theorem word_loc (wd : ByteArray) (hne : wd ≠ ⟨#[]⟩) : Loc (wordM wd) := (word_locS wd hne).loc
theorem choice_loc (ws : List ByteArray) (hne : (⟨#[]⟩ : ByteArray) ∉ ws) : Loc (choiceM ws) := (choice_locS ws hne).loc
theorem amt_loc : Loc amtM := loc_bind number_locS.loc fun t => loc_if (b := fun l => idx unitWs (hd l).x < 0) (fun r l h => by rw [h.2]) (loc_ret t) (loc_bind (choice_loc unitWs (idxNe _ (by decide))) fun k => loc_ret _)
theorem function_loc {E : List Tk → Res Nd} (hE : Loc E) : Loc (functionM E) :=
  loc_head (p := choiceM fnWs) (q := fun (a k : Int) l1 => (wordM ⟨#[40]⟩ l1).bind fun _ l2 => (E l2).bind fun t1 l3 => (wordM ⟨#[44]⟩ l3).bind fun _ l4 => (E l4).bind fun t2 l5 => (wordM ⟨#[41]⟩ l5).bind fun _ l6 => (Res.ok (Nd.mk (19 + k) ⟨#[]⟩ 0 0 a [t1, t2]) l6 : Res Nd))
    (choice_loc fnWs (idxNe _ (by decide))) (choice_lt fnWs (idxNe _ (by decide))) fun a k =>
    loc_bind (word_loc _ (by decide)) fun _ => loc_bind hE fun t1 => loc_bind (word_loc _ (by decide)) fun _ => loc_bind hE fun t2 => loc_bind (word_loc _ (by decide)) fun _ => loc_ret _

/-- a loop of readers -/
def loopG {σ : Type} (stop : σ → List Tk → Bool) (step : σ → List Tk → Res σ) : Nat → σ → List Tk → Res σ
  | 0, s, l => .ok s l
  | f + 1, s, l => if stop s l = true then .ok s l else (step s l).bind fun s1 l1 => loopG stop step f s1 l1
theorem loopG_loc {σ : Type} {stop : σ → List Tk → Bool} {step : σ → List Tk → Res σ} (hs : ∀ s r l, Alike0 r l → stop s r = stop s l) (hp : ∀ s, Loc (step s)) (hlt : ∀ s, Lt (step s)) :
    ∀ (f : Nat) (s : σ) (l : List Tk) (x : σ) (l1 : List Tk), l.length < f → loopG stop step f s l = .ok x l1 → ∃ c, (l = c ++ l1 ∧ ∀ t ∈ c, Real t) ∧ ∀ r f', Alike0 r l1 → (c ++ r).length < f' → loopG stop step f' s (c ++ r) = .ok x r := by
  intro f
  induction f with
  | zero => intro s l x l1 h; omega
  | succ f ih =>
    intro s l x l1 hf h
    rw [loopG] at h
    split at h
    · rename_i hc
      obtain ⟨rfl, rfl⟩ := ok_inj h
      refine ⟨[], ⟨rfl, realNil⟩, fun r f' hr hf' => ?_⟩
      obtain ⟨f2, rfl⟩ : ∃ f2, f' = f2 + 1 := ⟨f' - 1, by simp at hf'; omega⟩
      show loopG stop step (f2 + 1) s r = _
      rw [loopG, if_pos (by rw [hs s r l hr]; exact hc)]
    · rename_i hc
      obtain ⟨s1, l2, h1, h2⟩ := bind_ok h
      have h3 := hlt s _ _ _ h1
      obtain ⟨c1, ⟨rfl, hr1⟩, hc1⟩ := hp s _ _ _ h1
      have hne : c1 ≠ [] := by rintro rfl; simp at h3
      obtain ⟨c2, ⟨rfl, hr2⟩, hc2⟩ := ih s1 l2 x l1 (by simp at hf h3 ⊢; omega) h2
      refine ⟨c1 ++ c2, ⟨by rw [List.append_assoc], realApp hr1 hr2⟩, fun r f' hr hf' => ?_⟩
      obtain ⟨f2, rfl⟩ : ∃ f2, f' = f2 + 1 := ⟨f' - 1, by simp at hf'; omega⟩
      have hal : Alike0 (c1 ++ (c2 ++ r)) (c1 ++ (c2 ++ l1)) := by unfold Alike0; rw [hd_app c1 (c2 ++ r) (c2 ++ l1) hne]; exact ⟨rfl, rfl⟩
      rw [List.append_assoc, loopG, if_neg (by rw [hs s _ _ hal]; exact hc), hc1 _ (hr.app c2), Res.bind_ok]
      refine hc2 r f2 hr ?_
      have : 0 < c1.length := List.length_pos_iff.2 hne
      simp at hf' ⊢
      omega
theorem loopG_run {σ : Type} {stop : σ → List Tk → Bool} {step : σ → List Tk → Res σ} (hs : ∀ s r l, Alike0 r l → stop s r = stop s l) (hp : ∀ s, Loc (step s)) (hlt : ∀ s, Lt (step s)) (s : σ) : Loc (fun l => loopG stop step (l.length + 1) s l) := by
  intro l x l1 h
  obtain ⟨c, h1, h2⟩ := loopG_loc hs hp hlt _ s l x l1 (Nat.lt_succ_self _) h
  exact ⟨c, h1, fun r hr => h2 r _ hr (Nat.lt_succ_self _)⟩
theorem listF_G (P : List Tk → Res Nd) : ∀ (f : Nat) (acc : List Nd) (l : List Tk), listF P f acc l = loopG (fun _ l => isB ⟨#[125]⟩ l) (fun acc l => (P l).bind fun t l1 => .ok (acc ++ [t]) l1) f acc l
  | 0, acc, l => rfl
  | f + 1, acc, l => by
    rw [listF, loopG]
    split
    · rfl
    · rcases P l with ⟨t, l1⟩ | ⟨e, l1⟩
      · exact listF_G P f _ l1
      · rfl
theorem runF_G (wd : ByteArray) (P : List Tk → Res Nd) : ∀ (f : Nat) (acc : List Nd) (l : List Tk), runF wd P f acc l = loopG (fun _ l => !isB wd l) (fun acc l => (P l).bind fun t l1 => .ok (acc ++ [t]) l1) f acc l
  | 0, acc, l => rfl
  | f + 1, acc, l => by
    rw [runF, loopG]
    rcases hb : isB wd l with _ | _
    · rw [if_neg (by simp), if_pos (by simp)]
    · rw [if_pos rfl, if_neg (by simp)]
      rcases P l with ⟨t, l1⟩ | ⟨e, l1⟩
      · exact runF_G wd P f _ l1
      · rfl
theorem namesF_G : ∀ (f : Nat) (acc : List Nd) (l : List Tk), namesF f acc l = loopG (fun acc l => decide ¬(acc = [] ∨ atNameB l = true)) (fun acc l => (nameM l).bind fun x l1 => .ok (acc ++ [nmNd x (hd l).a]) l1) f acc l
  | 0, acc, l => rfl
  | f + 1, acc, l => by
    rw [namesF, loopG]
    by_cases hb : acc = [] ∨ atNameB l = true
    · rw [if_pos hb, if_neg (by simp only [decide_eq_true_eq, Decidable.not_not]; exact hb)]
      rcases nameM l with ⟨t, l1⟩ | ⟨e, l1⟩
      · exact namesF_G f _ l1
      · rfl
    · rw [if_neg hb, if_pos (by simpa using hb)]
theorem opF_G (fine : List Tk → Res Nd) (first : Int) (ws : List ByteArray) (a : Int) : ∀ (f : Nat) (t : Nd) (l : List Tk), opF fine first ws a f t l = loopG (fun _ l => decide (idx ws (hd l).x < 0)) (fun t l => (choiceM ws l).bind fun k l1 => (fine l1).bind fun t2 l2 => .ok (.mk (first + k) ⟨#[]⟩ 0 0 a [t, t2]) l2) f t l
  | 0, t, l => rfl
  | f + 1, t, l => by
    rw [opF, loopG]
    by_cases hb : idx ws (hd l).x < 0
    · rw [if_pos hb, if_pos (by simpa using hb)]
    · rw [if_neg hb, if_neg (by simpa using hb)]
      rcases choiceM ws l with ⟨k, l1⟩ | ⟨e, l1⟩
      · show (fine l1).bind _ = ((fine l1).bind _).bind _
        rcases fine l1 with ⟨t2, l2⟩ | ⟨e, l2⟩
        · exact opF_G fine first ws a f _ l2
        · rfl
      · rfl
theorem lt_bind {α β : Type} {p : List Tk → Res α} {q : α → List Tk → Res β} (hp : Lt p) (hq : ∀ x, Le (q x)) : Lt (fun l => (p l).bind q) := by
  intro l y l1 h
  obtain ⟨x, l2, h1, h2⟩ := bind_ok h
  have a1 := hp _ _ _ h1
  have a2 := hq x _ _ _ h2
  omega
theorem le_ret {α : Type} (x : α) : Le (fun l => Res.ok x l) := fun l y l1 h => by obtain ⟨-, rfl⟩ := ok_inj h; exact Nat.le_refl _
theorem ops_loc {fine : List Tk → Res Nd} (hf : Loc fine) (hfle : Le fine) (hflt : Lt fine) (first : Int) (ws : List ByteArray) (hne : (⟨#[]⟩ : ByteArray) ∉ ws) : Loc (opsM fine first ws) := by
  refine loc_head (q := fun a t l1 => opF fine first ws a (l1.length + 1) t l1) hf hflt fun a t => ?_
  have h := loopG_run (stop := fun (_ : Nd) l => decide (idx ws (hd l).x < 0)) (step := fun t l => (choiceM ws l).bind fun k l1 => (fine l1).bind fun t2 l2 => .ok (.mk (first + k) ⟨#[]⟩ 0 0 a [t, t2]) l2)
    (fun s r l h => by rw [h.2]) (fun s => loc_bind (choice_loc ws hne) fun k => loc_bind hf fun t2 => loc_ret _)
    (fun s => lt_bind (choice_lt ws hne) fun k => (fun l y l1 h => by obtain ⟨x, l2, h1, h2⟩ := bind_ok h; obtain ⟨-, rfl⟩ := ok_inj h2; exact hfle _ _ _ h1)) t
  intro l x l1 hx
  have hx2 : opF fine first ws a (l.length + 1) t l = .ok x l1 := hx
  rw [opF_G] at hx2
  obtain ⟨c, h1, h2⟩ := h l x l1 hx2
  exact ⟨c, h1, fun r hr => by show opF fine first ws a ((c ++ r).length + 1) t (c ++ r) = _; rw [opF_G]; exact h2 r hr⟩
end Go.Proofs.YtdaghppcomckbaaGreatDoor

/- The parser's mathematics: every reader depends on what it takes, and on what the next token looks like. -/
namespace Go.Proofs.YtdaghppcomckbaaGreatDoor
open Go.RowKit
set_option linter.unusedVariables false
set_option linter.unusedSimpArgs false

theorem lt_of_bind {α β : Type} {p : List Tk → Res α} {q : List Tk → α → List Tk → Res β} (hp : Lt p) (hq : ∀ l x, Le (q l x)) : Lt (fun l => (p l).bind (q l)) := by
  intro l y l1 h
  obtain ⟨x, l2, h1, h2⟩ := bind_ok h
  have a1 := hp _ _ _ h1
  have a2 := hq l x _ _ _ h2
  omega
theorem le_of_bind {α β : Type} {p : List Tk → Res α} {q : α → List Tk → Res β} (hp : Le p) (hq : ∀ x, Le (q x)) : Le (fun l => (p l).bind q) := by
  intro l y l1 h
  obtain ⟨x, l2, h1, h2⟩ := bind_ok h
  have a1 := hp _ _ _ h1
  have a2 := hq x _ _ _ h2
  omega
theorem word_le (wd : ByteArray) (hne : wd ≠ ⟨#[]⟩) : Le (wordM wd) := (word_lt wd hne).le
theorem amt_lt : Lt amtM := by
  intro l x l1 h
  obtain ⟨t, l2, h1, h2⟩ := bind_ok h
  have a1 := number_lt l t l2 h1
  split at h2
  · obtain ⟨-, rfl⟩ := ok_inj h2; exact a1
  · obtain ⟨k, l3, h3, h4⟩ := bind_ok h2
    have a2 := congrArg List.length (choiceM_tail h3)
    obtain ⟨-, rfl⟩ := ok_inj h4
    rw [List.length_tail] at a2; omega
theorem function_lt {E : List Tk → Res Nd} (hE : Le E) : Lt (functionM E) :=
  lt_of_bind (q := fun l k l1 => (wordM ⟨#[40]⟩ l1).bind fun _ l2 => (E l2).bind fun t1 l3 => (wordM ⟨#[44]⟩ l3).bind fun _ l4 => (E l4).bind fun t2 l5 => (wordM ⟨#[41]⟩ l5).bind fun _ l6 => Res.ok (Nd.mk (19 + k) ⟨#[]⟩ 0 0 (hd l).a [t1, t2]) l6)
    (choice_lt fnWs (idxNe _ (by decide))) fun l k =>
    le_of_bind (word_le _ (by decide)) fun _ => le_of_bind hE fun _ => le_of_bind (word_le _ (by decide)) fun _ => le_of_bind hE fun _ => le_of_bind (word_le _ (by decide)) fun _ => le_ret _
theorem ret_lt {α : Type} {p : List Tk → Res α} (hp : Lt p) : Lt (fun l => (p l).bind fun t l1 => .ok t l1) := lt_bind hp fun _ => le_ret _
theorem paren_lt {E : List Tk → Res Nd} (hE : Le E) : Lt (parenM E) := lt_bind (word_lt _ (by decide)) fun _ => le_of_bind hE fun _ => le_of_bind (word_le _ (by decide)) fun _ => le_ret _
theorem factor_lt {E : List Tk → Res Nd} (hE : Le E) : Lt (factorM E) := by
  intro l x l1 h
  unfold factorM at h
  split at h
  · exact ret_lt amt_lt l x l1 h
  · split at h
    · rename_i hc
      obtain ⟨-, rfl⟩ := ok_inj h
      apply tail_lt
      rintro rfl
      exact absurd hc (by decide)
    · split at h
      · rename_i hc
        obtain ⟨-, rfl⟩ := ok_inj h
        apply tail_lt
        rintro rfl
        exact absurd hc (by simp [hd, inpB, inpL, ByteArray.toList_eq])
      · split at h
        · exact paren_lt hE l x l1 h
        · exact ret_lt (function_lt hE) l x l1 h
theorem ops_lt {fine : List Tk → Res Nd} (hf : Lt fine) (first : Int) (ws : List ByteArray) : Lt (opsM fine first ws) := by
  intro l x l1 h
  obtain ⟨t, l2, h1, h⟩ := bind_ok h
  have a1 := hf _ _ _ h1
  have a2 := opF_le hf.le _ _ _ _ _ _ _ _ h
  omega
theorem term_lt {E : List Tk → Res Nd} (hE : Le E) : Lt (termM E) := ret_lt (ops_lt (factor_lt hE) _ _)
/-- one token is taken if it looks right -/
theorem loc_take {b : List Tk → Prop} [∀ l, Decidable (b l)] {q : List Tk → Res Nd} (hb : ∀ r l, Alike0 r l → (b r ↔ b l)) (h0 : ¬ b []) (hq : Loc q) : Loc (fun l => if b l then nameR l else q l) := by
  intro l x l1 h
  by_cases hc : b l
  · simp only [if_pos hc] at h
    cases l with
    | nil => exact absurd hc h0
    | cons t l =>
      have hr0 : Real t := fun e => h0 ((hb [] (t :: l) ⟨e.1.symm, e.2.symm⟩).2 hc)
      obtain ⟨rfl, rfl⟩ := ok_inj h
      refine ⟨[t], ⟨rfl, realOne hr0⟩, fun r hr => ?_⟩
      simp only
      rw [if_pos ((hb ([t] ++ r) (t :: l) ⟨rfl, rfl⟩).2 hc)]
      rfl
  · simp only [if_neg hc] at h
    obtain ⟨c, ⟨rfl, hr0⟩, h2⟩ := hq _ _ _ h
    refine ⟨c, ⟨rfl, hr0⟩, fun r hr => ?_⟩
    simp only
    rw [if_neg (fun e => hc ((hb _ _ (hr.app c)).1 e))]
    exact h2 r hr
theorem factor_loc {E : List Tk → Res Nd} (hE : Loc E) : Loc (factorM E) := by
  have h1 : Loc (fun l => if isB ⟨#[40]⟩ l = true then parenM E l else fnR E l) :=
    loc_if (fun r l h => by rw [isB_alike h]) (loc_bind (word_loc _ (by decide)) fun _ => loc_bind hE fun t => loc_bind (word_loc _ (by decide)) fun _ => loc_ret t) (loc_bind (function_loc hE) fun t => loc_ret t)
  have h2 := loc_take (b := fun l => inpB (hd l).x = true) (fun r l h => by rw [h.2]) (by simp [hd, inpB, inpL, ByteArray.toList_eq]) h1
  have h3 := loc_take (b := fun l => atNameB l = true) (fun r l h => by rw [atName_alike h]) (by decide) h2
  exact loc_if (b := fun l => (hd l).k = 2) (fun r l h => by rw [h.1]) (loc_bind amt_loc fun t => loc_ret t) h3
theorem term_loc {E : List Tk → Res Nd} (hE : Loc E) (hle : Le E) : Loc (termM E) := loc_bind (ops_loc (factor_loc hE) (factor_le hle) (factor_lt hle) 17 mulWs (idxNe _ (by decide))) fun t => loc_ret t
theorem sum_loc {E : List Tk → Res Nd} (hE : Loc E) (hle : Le E) : Loc (sumR E) := loc_bind (ops_loc (term_loc hE hle) (term_le hle) (term_lt hle) 15 addWs (idxNe _ (by decide))) fun t => loc_ret t
theorem exprM_loc {E : List Tk → Res Nd} (hE : Loc E) (hle : Le E) (level : Nat) : Loc (exprM E level) :=
  loc_if (b := fun l => 12 < level ∧ atExprB l = true) (fun r l h => by rw [atExpr_alike h]) (loc_err 2) (sum_loc hE hle)
theorem exprD_loc : ∀ d, Loc (exprD d)
  | 0 => exprM_loc (loc_err 0) (fun l x l1 h => by cases h) 13
  | d + 1 => exprM_loc (exprD_loc d) (exprD_le d) (12 - d)
theorem expr1_loc : Loc expr1 := exprD_loc 12
theorem asg_loc : Loc asgM := loc_head (q := fun a x l1 => (wordM ⟨#[61]⟩ l1).bind fun _ l2 => (expr1 l2).bind fun t l3 => (wordM ⟨#[59]⟩ l3).bind fun _ l4 => Res.ok (Nd.mk 10 x 0 0 a [t]) l4) name_locS.loc name_lt fun a x =>
  loc_bind (word_loc _ (by decide)) fun _ => loc_bind expr1_loc fun t => loc_bind (word_loc _ (by decide)) fun _ => loc_ret _
theorem block_loc {S : List Tk → Res (List Nd)} (hS : Loc S) (hlt : Lt S) : Loc (blockM S) := loc_head (q := fun a ts l1 => Res.ok (Nd.mk 12 ⟨#[]⟩ 0 0 a ts) l1) hS hlt fun a ts => loc_ret _
theorem if_loc {S : List Tk → Res (List Nd)} (hS : Loc S) (hlt : Lt S) : Loc (ifM S) :=
  loc_head (q := fun a _ l1 => (expr1 l1).bind fun t1 l2 => (choiceM relWs l2).bind fun k l3 => (expr1 l3).bind fun t2 l4 => (blockM S l4).bind fun t3 l5 =>
    if isB ⟨#[101, 108, 115, 101]⟩ l5 = true then (wordM ⟨#[101, 108, 115, 101]⟩ l5).bind fun _ l6 => (blockM S l6).bind fun t4 l7 => Res.ok (Nd.mk 11 ⟨#[]⟩ (1 + k) 0 a [t1, t2, t3, t4]) l7
    else Res.ok (Nd.mk 11 ⟨#[]⟩ (1 + k) 0 a [t1, t2, t3]) l5) (word_loc _ (by decide)) (word_lt _ (by decide)) fun a _ =>
  loc_bind expr1_loc fun t1 => loc_bind (choice_loc relWs (idxNe _ (by decide))) fun k => loc_bind expr1_loc fun t2 => loc_bind (block_loc hS hlt) fun t3 =>
  loc_if (fun r l h => by rw [isB_alike h]) (loc_bind (word_loc _ (by decide)) fun _ => loc_bind (block_loc hS hlt) fun t4 => loc_ret _) (loc_ret _)
theorem stmt_loc {S : List Tk → Res (List Nd)} (hS : Loc S) (hlt : Lt S) (level : Nat) : Loc (stmtM S level) := by
  have h1 : Loc (fun l => if isB ⟨#[105, 102]⟩ l = true then condR S l else asgM l) := loc_if (fun r l h => by rw [isB_alike h]) (loc_bind (if_loc hS hlt) fun t => loc_ret t) asg_loc
  have h2 : Loc (fun l => if isB ⟨#[105, 102]⟩ l = true ∨ atNameB l = true then (Res.err 2 l : Res Nd) else .err 7 l) := loc_if (fun r l h => by rw [isB_alike h, atName_alike h]) (loc_err 2) (loc_err 7)
  exact loc_if (b := fun _ => 12 < level) (fun r l h => Iff.rfl) h2 h1
theorem locS_ret {α β : Type} {p : List Tk → Res α} (hp : LocS p) (x : β) : LocS (fun l => (p l).bind fun _ l1 => Res.ok x l1) := by
  intro l y l1 h
  obtain ⟨z, l2, h1, h2⟩ := bind_ok h
  obtain ⟨rfl, rfl⟩ := ok_inj h2
  obtain ⟨c, ⟨rfl, hr0⟩, hc⟩ := hp _ _ _ h1
  exact ⟨c, ⟨rfl, hr0⟩, fun r => by show (p (c ++ r)).bind _ = _; rw [hc r]; rfl⟩
theorem stmts_locS {P : List Tk → Res Nd} (hP : Loc P) (hlt : Lt P) : LocS (stmtsM P) := by
  have h := loopG_run (stop := fun (_ : List Nd) l => isB ⟨#[125]⟩ l) (step := fun acc l => (P l).bind fun t l1 => .ok (acc ++ [t]) l1) (fun s r l h => isB_alike h _) (fun acc => loc_bind hP fun t => loc_ret _) (fun acc => lt_bind hlt fun t => le_ret _) []
  have hl : Loc (fun l1 => listF P (l1.length + 1) [] l1) := by
    intro l x l1 hx
    have hx2 : listF P (l.length + 1) [] l = .ok x l1 := hx
    rw [listF_G] at hx2
    obtain ⟨c, h1, h2⟩ := h l x l1 hx2
    exact ⟨c, h1, fun r hr => by show listF P ((c ++ r).length + 1) [] (c ++ r) = _; rw [listF_G]; exact h2 r hr⟩
  have hw : ∀ ts : List Nd, Lt (fun l2 => (wordM ⟨#[125]⟩ l2).bind fun _ l3 => Res.ok ts l3) := fun ts => lt_bind (word_lt _ (by decide)) fun _ => le_ret _
  have hin : LocS (fun l1 => (listF P (l1.length + 1) [] l1).bind fun ts l2 => (wordM ⟨#[125]⟩ l2).bind fun _ l3 => Res.ok ts l3) :=
    locS_bind hl (fun ts => locS_ret (word_locS _ (by decide)) ts) hw
  refine locS_bind (word_loc _ (by decide)) (fun _ => hin) (fun _ => ?_)
  intro l x l1 hx
  obtain ⟨ts, l2, h1, h2⟩ := bind_ok hx
  have a1 := listF_le hlt.le _ _ _ _ _ h1
  have a2 := hw ts _ _ _ h2
  omega
theorem stmtsD_locS : ∀ d, LocS (stmtsD d)
  | 0 => stmts_locS (stmt_loc (fun l x l1 h => by cases h) (fun l x l1 h => by cases h) 13) (stmt_lt (fun l x l1 h => by cases h) 13)
  | d + 1 => stmts_locS (stmt_loc (stmtsD_locS d).loc (stmtsD_lt d) (12 - d)) (stmt_lt (stmtsD_lt d).le (12 - d))
end Go.Proofs.YtdaghppcomckbaaGreatDoor

/- The parser's mathematics: an item depends on nothing but the tokens that it takes. -/
namespace Go.Proofs.YtdaghppcomckbaaGreatDoor
open Go.RowKit
set_option linter.unusedVariables false
set_option linter.unusedSimpArgs false

theorem retS {α : Type} (x : α) : LocS (fun l => Res.ok x l) := by
  intro l y l1 h
  obtain ⟨rfl, rfl⟩ := ok_inj h
  exact ⟨[], ⟨rfl, realNil⟩, fun r => rfl⟩
theorem locSS {α β : Type} {p : List Tk → Res α} {q : α → List Tk → Res β} (hp : LocS p) (hq : ∀ x, LocS (q x)) : LocS (fun l => (p l).bind q) := by
  intro l y l1 h
  obtain ⟨x, l2, h1, h2⟩ := bind_ok h
  obtain ⟨c1, ⟨rfl, hr1⟩, hc1⟩ := hp _ _ _ h1
  obtain ⟨c2, ⟨rfl, hr2⟩, hc2⟩ := hq x _ _ _ h2
  refine ⟨c1 ++ c2, ⟨by rw [List.append_assoc], realApp hr1 hr2⟩, fun r => ?_⟩
  show (p (c1 ++ c2 ++ r)).bind q = _
  rw [List.append_assoc, hc1 _, Res.bind_ok]
  exact hc2 r
theorem locSS_head {α β : Type} {p : List Tk → Res α} {q : Int → α → List Tk → Res β} (hp : LocS p) (hlt : Lt p) (hq : ∀ a x, LocS (q a x)) : LocS (fun l => (p l).bind (q (hd l).a)) := by
  intro l y l1 h
  obtain ⟨x, l2, h1, h2⟩ := bind_ok h
  have h3 := hlt _ _ _ h1
  obtain ⟨c1, ⟨rfl, hr1⟩, hc1⟩ := hp _ _ _ h1
  have hne : c1 ≠ [] := by rintro rfl; simp at h3
  obtain ⟨c2, ⟨rfl, hr2⟩, hc2⟩ := hq _ x _ _ _ h2
  refine ⟨c1 ++ c2, ⟨by rw [List.append_assoc], realApp hr1 hr2⟩, fun r => ?_⟩
  show (p (c1 ++ c2 ++ r)).bind (q (hd (c1 ++ c2 ++ r)).a) = _
  rw [List.append_assoc, hc1 _, Res.bind_ok, hd_app c1 (c2 ++ r) (c2 ++ l1) hne]
  exact hc2 r
theorem locS_if {α : Type} {b : List Tk → Prop} [∀ l, Decidable (b l)] {p q : List Tk → Res α} (hb : ∀ r l, Alike0 r l → (b r ↔ b l)) (hp : LocS p) (hplt : Lt p) (hq : LocS q) (hqlt : Lt q) : LocS (fun l => if b l then p l else q l) := by
  intro l x l1 h
  have hal : ∀ (c r : List Tk), c ≠ [] → Alike0 (c ++ r) (c ++ l1) := fun c r hne => by unfold Alike0; rw [hd_app c r l1 hne]; exact ⟨rfl, rfl⟩
  by_cases hc : b l
  · simp only [if_pos hc] at h
    have h3 := hplt _ _ _ h
    obtain ⟨c, ⟨rfl, hr0⟩, h2⟩ := hp _ _ _ h
    have hne : c ≠ [] := by rintro rfl; simp at h3
    refine ⟨c, ⟨rfl, hr0⟩, fun r => ?_⟩
    simp only
    rw [if_pos ((hb _ _ (hal c r hne)).2 hc)]
    exact h2 r
  · simp only [if_neg hc] at h
    have h3 := hqlt _ _ _ h
    obtain ⟨c, ⟨rfl, hr0⟩, h2⟩ := hq _ _ _ h
    have hne : c ≠ [] := by rintro rfl; simp at h3
    refine ⟨c, ⟨rfl, hr0⟩, fun r => ?_⟩
    simp only
    rw [if_neg (fun e => hc ((hb _ _ (hal c r hne)).1 e))]
    exact h2 r
theorem lt_bind2 {α β : Type} {p : List Tk → Res α} {q : α → List Tk → Res β} (hp : Le p) (hq : ∀ x, Lt (q x)) : Lt (fun l => (p l).bind q) := by
  intro l y l1 h
  obtain ⟨x, l2, h1, h2⟩ := bind_ok h
  have a1 := hp _ _ _ h1
  have a2 := hq x _ _ _ h2
  omega
theorem semi_locS {α : Type} (x : α) : LocS (fun l => (wordM ⟨#[59]⟩ l).bind fun _ l1 => Res.ok x l1) := locS_ret (word_locS _ (by decide)) x
theorem semi_lt {α : Type} (x : α) : Lt (fun l => (wordM ⟨#[59]⟩ l).bind fun _ l1 => Res.ok x l1) := lt_bind (word_lt _ (by decide)) fun _ => le_ret _
theorem settings_locS : ∀ (ws : List ByteArray) (acc : List Nd), (∀ x ∈ ws, x ≠ ⟨#[]⟩) → LocS (settingsF ws acc)
  | [], acc, _ => retS acc
  | wd :: ws, acc, hne => locSS (word_locS wd (hne wd (by simp))) fun _ => locSS number_locS fun t => settings_locS ws _ (fun x hx => hne x (by simp [hx]))
theorem numbers_locS : ∀ (n : Nat) (acc : List Nd), LocS (numbersF n acc)
  | 0, acc => retS acc
  | n + 1, acc => locSS number_locS fun t => numbers_locS n _
theorem names_loc : Loc namesM := by
  have h := loopG_run (stop := fun acc l => decide ¬(acc = [] ∨ atNameB l = true)) (step := fun acc l => (nameM l).bind fun x l1 => .ok (acc ++ [nmNd x (hd l).a]) l1)
    (fun s r l h => by simp only [atName_alike h]) (fun acc => loc_head (q := fun a x l1 => Res.ok (acc ++ [nmNd x a]) l1) name_locS.loc name_lt fun a x => loc_ret _)
    (fun acc => fun l x l1 h => by obtain ⟨y, l2, h1, h2⟩ := bind_ok h; obtain ⟨-, rfl⟩ := ok_inj h2; exact name_lt _ _ _ h1) []
  intro l x l1 hx
  unfold namesM at hx
  rw [namesF_G] at hx
  obtain ⟨c, h1, h2⟩ := h l x l1 hx
  exact ⟨c, h1, fun r hr => by unfold namesM; rw [namesF_G]; exact h2 r hr⟩
theorem run_loc (wd : ByteArray) {P : List Tk → Res Nd} (hP : Loc P) (hlt : Lt P) (acc : List Nd) : Loc (fun l => runF wd P (l.length + 1) acc l) := by
  have h := loopG_run (stop := fun (_ : List Nd) l => !isB wd l) (step := fun acc l => (P l).bind fun t l1 => .ok (acc ++ [t]) l1) (fun s r l h => by simp only [isB_alike h]) (fun acc => loc_bind hP fun t => loc_ret _) (fun acc => lt_bind hlt fun t => le_ret _) acc
  intro l x l1 hx
  have hx2 : runF wd P (l.length + 1) acc l = .ok x l1 := hx
  rw [runF_G] at hx2
  obtain ⟨c, h1, h2⟩ := h l x l1 hx2
  exact ⟨c, h1, fun r hr => by show runF wd P ((c ++ r).length + 1) acc (c ++ r) = _; rw [runF_G]; exact h2 r hr⟩
theorem policy_locS : LocS policyM := locSS_head (p := choiceM polWs) (q := fun (a k : Int) l1 => (numbersF (psz (1 + k).toNat) [] l1).bind fun ts l2 => Res.ok (Nd.mk 3 ⟨#[]⟩ (1 + k) 0 a ts) l2) (choice_locS polWs (idxNe _ (by decide))) (choice_lt polWs (idxNe _ (by decide))) fun a k => locSS (numbers_locS _ _) fun ts => retS _
theorem link_locS : LocS linkM := locSS name_locS fun x => locSS (settings_locS linkWs [] (by decide)) fun ts => locSS policy_locS fun t => semi_locS _
theorem path_locS : LocS pathM := locSS name_locS fun x => locS_bind (q := fun ts l2 => (settingsF backWs [] l2).bind fun us l3 => (wordM ⟨#[59]⟩ l3).bind fun _ l4 => Res.ok (Nd.mk 4 x 0 0 0 (ts ++ us)) l4) names_loc
  (fun ts => locSS (settings_locS backWs [] (by decide)) fun us => semi_locS _) (fun ts => lt_bind2 (settings_le backWs [] (by decide)) fun us => semi_lt _)
theorem flow_locS : LocS flowM := locSS name_locS fun x => locSS (word_locS _ (by decide)) fun _ =>
  locSS_head (q := fun a y l3 => (wordM ⟨#[112, 97, 116, 104, 115]⟩ l3).bind fun _ l4 => (namesM l4).bind fun ts l5 => (settingsF flowWs [] l5).bind fun us l6 => (wordM ⟨#[59]⟩ l6).bind fun _ l7 => Res.ok (Nd.mk 5 x 0 0 0 ([nmNd y a] ++ ts ++ us)) l7) name_locS name_lt fun a y =>
  locSS (word_locS _ (by decide)) fun _ => locS_bind (q := fun ts l5 => (settingsF flowWs [] l5).bind fun us l6 => (wordM ⟨#[59]⟩ l6).bind fun _ l7 => Res.ok (Nd.mk 5 x 0 0 0 ([nmNd y a] ++ ts ++ us)) l7) names_loc
  (fun ts => locSS (settings_locS flowWs [] (by decide)) fun us => semi_locS _) (fun ts => lt_bind2 (settings_le flowWs [] (by decide)) fun us => semi_lt _)
theorem use_locS (wd : ByteArray) (hne : wd ≠ ⟨#[]⟩) (p : Int) : LocS (useM wd p) := locSS_head (q := fun a _ l1 => (nameM l1).bind fun x l2 => (wordM ⟨#[59]⟩ l2).bind fun _ l3 => Res.ok (Nd.mk 9 x p 0 a []) l3) (word_locS _ hne) (word_lt _ hne) fun a _ => locSS name_locS fun x => semi_locS _
theorem use_lt (wd : ByteArray) (hne : wd ≠ ⟨#[]⟩) (p : Int) : Lt (useM wd p) := by
  intro l x l1 h
  obtain ⟨_, l2, h1, h⟩ := bind_ok h
  have a1 := word_lt _ hne _ _ _ h1
  obtain ⟨_, l3, h2, h⟩ := bind_ok h
  have a2 := name_lt _ _ _ h2
  have a3 := semi_lt _ _ _ _ h
  omega
theorem variable_locS : LocS variableM := locSS_head (q := fun a _ l1 => (nameM l1).bind fun x l2 => (choiceM unitWs l2).bind fun k l3 => (numbersF 3 [] l3).bind fun ts l4 => (wordM ⟨#[59]⟩ l4).bind fun _ l5 => Res.ok (Nd.mk 7 x k 0 a ts) l5) (word_locS _ (by decide)) (word_lt _ (by decide)) fun a _ =>
  locSS name_locS fun x => locSS (choice_locS unitWs (idxNe _ (by decide))) fun k => locSS (numbers_locS _ _) fun ts => semi_locS _
theorem handler_locS : LocS handlerM := locSS_head (q := fun a _ l1 => (choiceM evWs l1).bind fun k l2 => (stmts1 l2).bind fun ts l3 => Res.ok (Nd.mk 8 ⟨#[]⟩ k 0 a ts) l3) (word_locS _ (by decide)) (word_lt _ (by decide)) fun a _ =>
  locSS (choice_locS evWs (idxNe _ (by decide))) fun k => locSS (stmtsD_locS 12) fun ts => retS _
theorem close_locS {α : Type} (x : α) : LocS (fun l => (wordM ⟨#[125]⟩ l).bind fun _ l1 => Res.ok x l1) := locS_ret (word_locS _ (by decide)) x
theorem close_lt {α : Type} (x : α) : Lt (fun l => (wordM ⟨#[125]⟩ l).bind fun _ l1 => Res.ok x l1) := lt_bind (word_lt _ (by decide)) fun _ => le_ret _
theorem progK2_locS (x : ByteArray) (hs : List Nd) : LocS (progK2 x hs) := locSS (use_locS _ (by decide) 0) fun u =>
  locS_if (b := fun l5 => isB ⟨#[112, 97, 99, 101]⟩ l5 = true) (fun r l h => by rw [isB_alike h]) (locSS (use_locS _ (by decide) 1) fun p => close_locS _) (lt_bind2 (use_lt _ (by decide) 1).le fun p => close_lt _) (close_locS _) (close_lt _)
theorem progK2_lt (x : ByteArray) (hs : List Nd) : Lt (progK2 x hs) := by
  intro l y l1 h
  obtain ⟨_, l2, h1, h⟩ := bind_ok h
  have a1 := use_lt _ (by decide) _ _ _ _ h1
  split at h
  · have a2 := lt_bind2 (q := fun p l6 => (wordM ⟨#[125]⟩ l6).bind fun _ l7 => Res.ok (Nd.mk 6 x 0 0 0 (hs ++ [_] ++ [p])) l7) (use_lt _ (by decide) 1).le (fun p => close_lt _) _ _ _ h
    omega
  · have a2 := close_lt _ _ _ _ h
    omega
theorem progK1_locS (x : ByteArray) (vs : List Nd) : LocS (progK1 x vs) := locS_bind (run_loc _ handler_locS.loc handler_lt vs) (progK2_locS x) (progK2_lt x)
theorem progK1_lt (x : ByteArray) (vs : List Nd) : Lt (progK1 x vs) := lt_bind2 (p := fun l => runF ⟨#[111, 110]⟩ handlerM (l.length + 1) vs l) (fun l y l1 h => runF_le _ handler_lt.le _ _ _ _ _ h) (progK2_lt x)
theorem program_locS : LocS programM := locSS name_locS fun x => locSS (word_locS _ (by decide)) fun _ => locS_bind (run_loc _ variable_locS.loc variable_lt []) (progK1_locS x) (progK1_lt x)
theorem pick_locS (k : Int) : LocS (pickM k) := by
  unfold pickM
  split
  · exact link_locS
  · split
    · exact path_locS
    · split
      · exact flow_locS
      · exact program_locS
theorem item_locS : LocS itemM := locSS_head (q := fun a k l1 => (pickM k l1).bind fun t l2 => Res.ok (Nd.mk t.kind t.name t.n t.unit a t.kids) l2) (choice_locS kindWs (idxNe _ (by decide))) (choice_lt kindWs (idxNe _ (by decide))) fun a k => locSS (pick_locS k) fun t => retS _
end Go.Proofs.YtdaghppcomckbaaGreatDoor

/- The parser's mathematics: the items of a text without a fault, before any other tokens. -/
namespace Go.Proofs.YtdaghppcomckbaaGreatDoor
open Go.RowKit
set_option linter.unusedVariables false
set_option linter.unusedSimpArgs false

theorem sent_not_real (n : Nat) : ¬ Real (sent n) := fun h => h ⟨rfl, rfl⟩
/-- the diagnostics grow alone -/
theorem items_ds : ∀ (f : Nat) (acc : List Nd) (ds : List (Int × Int)) (l : List Tk), ds.length ≤ (itemsF f acc ds l).2.length
  | 0, acc, ds, l => Nat.le_refl _
  | f + 1, acc, ds, l => by
    rw [itemsF]
    split
    · exact Nat.le_refl _
    · split
      · exact items_ds f _ _ _
      · rename_i er l1 hm
        have := items_ds f acc (ds ++ [(er, (hd l1).a)]) (leaveM l l1)
        rw [List.length_append] at this
        exact Nat.le_trans (Nat.le_add_right _ _) this
theorem items_app (n : Nat) : ∀ (f : Nat) (ts : List Tk) (acc az : List Nd), (ts ++ [sent n]).length ≤ f → itemsF f acc [] (ts ++ [sent n]) = (az, []) →
    ∀ (us : List Tk) (f' : Nat), us ≠ [] → (ts ++ us).length ≤ f' → ∃ f2, us.length ≤ f2 ∧ itemsF f' acc [] (ts ++ us) = itemsF f2 az [] us := by
  intro f
  induction f with
  | zero => intro ts acc az h; simp at h
  | succ f ih =>
    intro ts acc az hf h us f' hus hf'
    rw [itemsF] at h
    split at h
    · rename_i hc
      have ht : ts = [] := by
        cases ts with
        | nil => rfl
        | cons t ts => simp at hc
      subst ht
      have h1 := congrArg Prod.fst h
      simp only at h1
      subst h1
      exact ⟨f', by simpa using hf', rfl⟩
    · rename_i hc
      split at h
      · rename_i t l1 hm
        have hlt := item_lt _ _ _ hm
        obtain ⟨c, ⟨hcl, hr⟩, h2⟩ := item_locS _ _ _ hm
        have hl1 : ∃ ts2, l1 = ts2 ++ [sent n] ∧ ts = c ++ ts2 := by
          rcases List.eq_nil_or_concat l1 with rfl | ⟨ts2, e, rfl⟩
          · exfalso
            rw [List.append_nil] at hcl
            exact sent_not_real n (hr _ (by rw [← hcl]; simp))
          · rw [List.concat_eq_append, ← List.append_assoc] at hcl
            obtain ⟨h3, h4⟩ := List.append_inj' hcl rfl
            simp only [List.cons.injEq, and_true] at h4
            exact ⟨ts2, by rw [List.concat_eq_append, h4], h3⟩
        obtain ⟨ts2, rfl, rfl⟩ := hl1
        have hne : c ≠ [] := by rintro rfl; simp at hlt
        have hcp : 0 < c.length := List.length_pos_iff.2 hne
        have hup : 0 < us.length := List.length_pos_iff.2 hus
        obtain ⟨f3, rfl⟩ : ∃ f3, f' = f3 + 1 := ⟨f' - 1, by simp at hf'; omega⟩
        obtain ⟨f2, h5, h6⟩ := ih ts2 (acc ++ [t]) az (by simp at hf hlt ⊢; omega) h us f3 hus (by simp at hf' ⊢; omega)
        refine ⟨f2, h5, ?_⟩
        rw [itemsF, if_neg (by simp; omega), List.append_assoc, h2 (ts2 ++ us)]
        exact h6
      · rename_i er l1 hm
        have h3 := items_ds f acc ([] ++ [(er, (hd l1).a)]) (leaveM (ts ++ [sent n]) l1)
        rw [h] at h3
        simp at h3
end Go.Proofs.YtdaghppcomckbaaGreatDoor
