/- Texts of one proof: PzG. -/
import Derived.Test.YtdaghppcomckbaaGreatDoorPzF
/- The parser's mathematics: the items of joined texts; the order of the diagnostics. -/
namespace Go.Proofs.YtdaghppcomckbaaGreatDoor
open Go.RowKit
set_option linter.unusedVariables false
set_option linter.unusedSimpArgs false

/-- a text without a fault reads the same behind other items and diagnostics -/
theorem items_clean : ∀ (f : Nat) (acc az : List Nd) (l : List Tk), itemsF f acc [] l = (az, []) → l.length ≤ f →
    ∃ bz, az = acc ++ bz ∧ ∀ (f' : Nat) (acc' : List Nd) (ds : List (Int × Int)), ds.length < 20 → l.length ≤ f' → itemsF f' acc' ds l = (acc' ++ bz, ds) := by
  intro f
  induction f with
  | zero =>
    intro acc az l h hl
    obtain rfl : l = [] := List.eq_nil_of_length_eq_zero (by omega)
    have h1 := congrArg Prod.fst h
    rw [itemsF] at h1
    simp only at h1
    refine ⟨[], by rw [h1, List.append_nil], fun f' acc' ds hds hf' => ?_⟩
    cases f' with
    | zero => rw [itemsF, List.append_nil]
    | succ f' => rw [itemsF, if_pos (.inl (by simp)), List.append_nil]
  | succ f ih =>
    intro acc az l h hl
    rw [itemsF] at h
    split at h
    · rename_i hc
      have h1 := congrArg Prod.fst h
      simp only at h1
      have hc2 : l.length ≤ 1 := by
        rcases hc with h2 | h2
        · exact h2
        · simp at h2
      refine ⟨[], by rw [h1, List.append_nil], fun f' acc' ds hds hf' => ?_⟩
      cases f' with
      | zero => rw [itemsF, List.append_nil]
      | succ f' => rw [itemsF, if_pos (.inl hc2), List.append_nil]
    · rename_i hc
      split at h
      · rename_i t l1 hm
        have hlt := item_lt _ _ _ hm
        obtain ⟨bz, hb, hgo⟩ := ih (acc ++ [t]) az l1 h (by omega)
        refine ⟨t :: bz, by rw [hb]; simp, fun f' acc' ds hds hf' => ?_⟩
        obtain ⟨f3, rfl⟩ : ∃ f3, f' = f3 + 1 := ⟨f' - 1, by omega⟩
        have hc3 : ¬ (l.length ≤ 1 ∨ 20 ≤ ds.length) := by
          rintro (h3 | h3)
          · exact hc (.inl h3)
          · omega
        rw [itemsF, if_neg hc3, hm]
        show itemsF f3 (acc' ++ [t]) ds l1 = _
        rw [hgo f3 (acc' ++ [t]) ds hds (by omega)]
        simp
      · rename_i er l1 hm
        have h3 := items_ds f acc ([] ++ [(er, (hd l1).a)]) (leaveM l l1)
        rw [h] at h3
        simp at h3
/-- a text without a fault at other offsets -/
theorem items_shift (k : Int) : ∀ (f : Nat) (acc az : List Nd) (l : List Tk), itemsF f acc [] l = (az, []) → itemsF f (shNs k acc) [] (shR k l) = (shNs k az, [])
  | 0, acc, az, l, h => by
    have h1 := congrArg Prod.fst h
    rw [itemsF] at h1
    simp only at h1
    rw [itemsF, h1]
  | f + 1, acc, az, l, h => by
    rw [itemsF] at h
    rw [itemsF, shR_len]
    split at h
    · rename_i hc
      have h1 := congrArg Prod.fst h
      simp only at h1
      rw [if_pos hc, h1]
    · rename_i hc
      rw [if_neg hc]
      split at h
      · rename_i t l1 hm
        rw [item_mv _ _ _ hm]
        show itemsF f (shNs k acc ++ [shN k t]) [] (shR k l1) = _
        rw [← shNs_snoc]
        exact items_shift k f _ az l1 h
      · rename_i er l1 hm
        have h3 := items_ds f acc ([] ++ [(er, (hd l1).a)]) (leaveM l l1)
        rw [h] at h3
        simp at h3
theorem sent_shift (k n : Nat) : shR (k : Int) [sent n] = [sent (n + k)] := by
  unfold shR sent shiftT
  simp
/-- two texts without a fault, one behind the other -/
theorem items_join (ts us : List Tk) (n m k : Nat) (az bz : List Nd) (h1 : itemsF (ts.length + 1) [] [] (ts ++ [sent n]) = (az, [])) (h2 : itemsF (us.length + 1) [] [] (us ++ [sent m]) = (bz, [])) :
    itemsF ((ts ++ shR (k : Int) us).length + 1) [] [] (ts ++ shR (k : Int) us ++ [sent (m + k)]) = (az ++ shNs k bz, []) := by
  have h3 := items_shift (k : Int) _ _ _ _ h2
  have e : shR (k : Int) (us ++ [sent m]) = shR (k : Int) us ++ [sent (m + k)] := by rw [← sent_shift]; unfold shR; rw [List.map_append]
  rw [e] at h3
  have e0 : shNs (k : Int) [] = [] := by rw [shNs]
  rw [e0] at h3
  obtain ⟨cz, hc, hgo⟩ := items_clean _ _ _ _ h3 (by rw [List.length_append, shR_len]; simp)
  rw [List.nil_append] at hc
  rw [List.append_assoc]
  obtain ⟨f2, h4, h5⟩ := items_app n (ts.length + 1) ts [] az (by simp) h1 (shR (k : Int) us ++ [sent (m + k)]) ((ts ++ shR (k : Int) us).length + 1) (by simp) (by simp only [List.length_append, List.length_cons, List.length_nil]; omega)
  rw [h5, hgo f2 az [] (by simp) h4, hc]
/-- a piece with one fault between two texts without one -/
theorem items_between (ts us W : List Tk) (n m k : Nat) (er a : Int) (l1 : List Tk) (az bz : List Nd) (h1 : itemsF (ts.length + 1) [] [] (ts ++ [sent n]) = (az, [])) (h2 : itemsF (us.length + 1) [] [] (us ++ [sent m]) = (bz, []))
    (hW : 0 < W.length) (hm : ∀ T : List Tk, T ≠ [] → itemM (W ++ T) = .err er (l1 ++ T) ∧ leaveM (W ++ T) (l1 ++ T) = T) (hl1 : l1 ≠ []) (ha : (hd l1).a = a) :
    itemsF ((ts ++ (W ++ shR (k : Int) us)).length + 1) [] [] (ts ++ (W ++ shR (k : Int) us) ++ [sent (m + k)]) = (az ++ shNs k bz, [(er, a)]) := by
  have h3 := items_shift (k : Int) _ _ _ _ h2
  have e : shR (k : Int) (us ++ [sent m]) = shR (k : Int) us ++ [sent (m + k)] := by rw [← sent_shift]; unfold shR; rw [List.map_append]
  rw [e] at h3
  have e0 : shNs (k : Int) [] = [] := by rw [shNs]
  rw [e0] at h3
  obtain ⟨cz, hc, hgo⟩ := items_clean _ _ _ _ h3 (by rw [List.length_append, shR_len]; simp)
  rw [List.nil_append] at hc
  rw [List.append_assoc, List.append_assoc]
  obtain ⟨f2, h4, h5⟩ := items_app n (ts.length + 1) ts [] az (by simp) h1 (W ++ (shR (k : Int) us ++ [sent (m + k)])) ((ts ++ (W ++ shR (k : Int) us)).length + 1) (by simp) (by simp; omega)
  rw [h5]
  obtain ⟨hm1, hm2⟩ := hm (shR (k : Int) us ++ [sent (m + k)]) (by simp)
  simp only [List.length_append, List.length_cons, List.length_nil] at h4
  obtain ⟨f3, rfl⟩ : ∃ f3, f2 = f3 + 1 := ⟨f2 - 1, by omega⟩
  have hcc : ¬ ((W ++ (shR (k : Int) us ++ [sent (m + k)])).length ≤ 1 ∨ 20 ≤ ([] : List (Int × Int)).length) := by simp; omega
  rw [itemsF, if_neg hcc, hm1]
  show itemsF f3 az ([] ++ [(er, (hd (l1 ++ (shR (k : Int) us ++ [sent (m + k)]))).a)]) (leaveM _ _) = _
  rw [hm2]
  have e2 : hd (l1 ++ (shR (k : Int) us ++ [sent (m + k)])) = hd l1 := by
    cases l1 with
    | nil => exact absurd rfl hl1
    | cons t l => rfl
  rw [e2, ha, List.nil_append, hgo f3 az [(er, a)] (by simp) (by simp only [List.length_append, List.length_cons, List.length_nil]; omega), hc]

/-- offsets that increase -/
def Inc (l : List Tk) : Prop := l.Pairwise (fun x y => x.a < y.a)
theorem skip_suf : ∀ (f : Nat) (o : Int) (l : List Tk), ∃ c, l = c ++ skipF f o l ∧ (l ≠ [] → skipF f o l ≠ []) ∧ (2 ≤ l.length → 0 < f → c ≠ [])
  | 0, o, l => ⟨[], by rw [skipF]; rfl, fun h => by rw [skipF]; exact h, fun _ h => absurd h (by decide)⟩
  | f + 1, o, l => by
    by_cases h1 : l.length ≤ 1
    · refine ⟨[], ?_, fun h => ?_, fun h => by omega⟩
      · rw [skipF, if_pos h1]; rfl
      · rw [skipF, if_pos h1]; exact h
    · cases l with
      | nil => simp at h1
      | cons t l =>
        have hl : l ≠ [] := by rintro rfl; simp at h1
        have key : ∀ r : List Tk, (r = l ∨ ∃ o2, r = skipF f o2 l) → ∃ c, t :: l = c ++ r ∧ (t :: l ≠ [] → r ≠ []) ∧ (2 ≤ (t :: l).length → 0 < f + 1 → c ≠ []) := by
          rintro r (rfl | ⟨o2, rfl⟩)
          · exact ⟨[t], rfl, fun _ => hl, fun _ _ => by simp⟩
          · obtain ⟨c, h3, h4, -⟩ := skip_suf f o2 l
            exact ⟨t :: c, by rw [List.cons_append, ← h3], fun _ => h4 hl, fun _ _ => by simp⟩
        apply key
        rw [skipF, if_neg h1]
        show (if _ then skipF f (o + 1) l else if _ then (if _ then l else skipF f (o - 1) l) else if _ then (if _ then l else skipF f o l) else skipF f o l) = l ∨ _
        split
        · exact .inr ⟨_, rfl⟩
        · split
          · split
            · exact .inl rfl
            · exact .inr ⟨_, rfl⟩
          · split
            · split
              · exact .inl rfl
              · exact .inr ⟨_, rfl⟩
            · exact .inr ⟨_, rfl⟩
theorem inc_suf {c l : List Tk} (h : Inc (c ++ l)) : Inc l := (List.pairwise_append.1 h).2.1
theorem inc_lt {c l : List Tk} (h : Inc (c ++ l)) (hc : c ≠ []) (hl : l ≠ []) : (hd (c ++ l)).a < (hd l).a := by
  cases c with
  | nil => exact absurd rfl hc
  | cons t c =>
    cases l with
    | nil => exact absurd rfl hl
    | cons u l => exact (List.pairwise_cons.1 h).1 u (by simp)
theorem inc_le {c l : List Tk} (h : Inc (c ++ l)) (hl : l ≠ []) : (hd (c ++ l)).a ≤ (hd l).a := by
  cases c with
  | nil => exact Int.le_refl _
  | cons t c => exact Int.le_of_lt (inc_lt h (by simp) hl)
/-- what holds of the diagnostics so far -/
def Dg (n : Int) (ds : List (Int × Int)) : Prop := ds.Pairwise (fun x y => x.2 < y.2) ∧ ∀ d ∈ ds, d.1 ≠ 0 ∧ 0 ≤ d.2 ∧ d.2 ≤ n
theorem not_real_suf {n : Nat} {us c l : List Tk} (h : us ++ [sent n] = c ++ l) (hr : ∀ t ∈ c, Real t) : ∃ vs, l = vs ++ [sent n] := by
  rcases List.eq_nil_or_concat l with rfl | ⟨vs, e, rfl⟩
  · exfalso
    rw [List.append_nil] at h
    exact sent_not_real n (hr _ (by rw [← h]; simp))
  · rw [List.concat_eq_append, ← List.append_assoc] at h
    obtain ⟨-, h4⟩ := List.append_inj' h rfl
    simp only [List.cons.injEq, and_true] at h4
    exact ⟨vs, by rw [List.concat_eq_append, h4]⟩
theorem suf_sent {n : Nat} {vs c l : List Tk} (h : vs ++ [sent n] = c ++ l) (hl : l ≠ []) : ∃ us, l = us ++ [sent n] := by
  rcases List.eq_nil_or_concat l with rfl | ⟨us, e, rfl⟩
  · exact absurd rfl hl
  · rw [List.concat_eq_append, ← List.append_assoc] at h
    obtain ⟨-, h4⟩ := List.append_inj' h rfl
    simp only [List.cons.injEq, and_true] at h4
    exact ⟨us, by rw [List.concat_eq_append, h4]⟩
theorem items_order (n : Nat) : ∀ (f : Nat) (acc : List Nd) (ds : List (Int × Int)) (us : List Tk), Inc (us ++ [sent n]) → (∀ t ∈ us ++ [sent n], 0 ≤ t.a ∧ t.a ≤ n) → Dg n ds →
    (us = [] ∨ ∀ d ∈ ds, d.2 < (hd (us ++ [sent n])).a) → Dg n (itemsF f acc ds (us ++ [sent n])).2
  | 0, acc, ds, us, hi, hb, hd0, hl => hd0
  | f + 1, acc, ds, us, hi, hb, hd0, hl => by
    rw [itemsF]
    split
    · exact hd0
    · rename_i hc
      have hus : us ≠ [] := by rintro rfl; exact hc (.inl (by simp))
      have hl2 := hl.resolve_left hus
      split
      · rename_i t l1 hm
        have hlt := item_lt _ _ _ hm
        obtain ⟨c, ⟨hcl, hr⟩, -⟩ := item_locS _ _ _ hm
        obtain ⟨vs, rfl⟩ := not_real_suf hcl hr
        have hne : c ≠ [] := by rintro rfl; rw [hcl] at hlt; simp at hlt
        rw [hcl] at hi hb hl2
        exact items_order n f _ ds vs (inc_suf hi) (fun t ht => hb t (List.mem_append_right _ ht)) hd0 (.inr fun d hd => Int.lt_trans (hl2 d hd) (inc_lt hi hne (by simp)))
      · rename_i er l1 hm
        obtain ⟨he, c, hcl, hr⟩ := item_er _ _ _ hm
        obtain ⟨vs, rfl⟩ := not_real_suf hcl hr
        have hlv : leaveM (us ++ [sent n]) (vs ++ [sent n]) = skipF (vs ++ [sent n]).length (((us ++ [sent n]).take ((us ++ [sent n]).length - (vs ++ [sent n]).length)).foldl brace 0) (vs ++ [sent n]) := rfl
        generalize (((us ++ [sent n]).take ((us ++ [sent n]).length - (vs ++ [sent n]).length)).foldl brace 0) = o at hlv
        obtain ⟨c2, h3, h4, h5⟩ := skip_suf (vs ++ [sent n]).length o (vs ++ [sent n])
        rw [hlv]
        have h6 := h4 (by simp)
        obtain ⟨ws, h7⟩ := suf_sent h3 h6
        rw [h7] at h3 ⊢
        rw [hcl] at hi hb hl2
        have hiv := inc_suf hi
        have hle := inc_le hi (by simp : vs ++ [sent n] ≠ [])
        have hmem : hd (vs ++ [sent n]) ∈ vs ++ [sent n] := by cases vs <;> simp [hd]
        have hbv := hb _ (List.mem_append_right c hmem)
        have hd1 : Dg n (ds ++ [(er, (hd (vs ++ [sent n])).a)]) := by
          refine ⟨List.pairwise_append.2 ⟨hd0.1, by simp, fun x hx y hy => ?_⟩, fun d hd => ?_⟩
          · simp only [List.mem_singleton] at hy
            subst hy
            exact Int.lt_of_lt_of_le (hl2 x hx) hle
          · rcases List.mem_append.1 hd with h8 | h8
            · exact hd0.2 d h8
            · simp only [List.mem_singleton] at h8
              subst h8
              exact ⟨(by show er ≠ 0; rcases he with rfl | rfl <;> decide), hbv⟩
        rw [h3] at hiv
        refine items_order n f acc _ ws (inc_suf hiv) (fun t ht => hb t (List.mem_append_right c (by rw [h3]; exact List.mem_append_right _ ht))) hd1 ?_
        by_cases hv : vs = []
        · left
          subst hv
          have := congrArg List.length h3
          simp only [List.length_append, List.length_cons, List.length_nil] at this
          exact List.eq_nil_of_length_eq_zero (by omega)
        · right
          have hc2 : c2 ≠ [] := h5 (by have := List.length_pos_iff.2 hv; simp; omega) (by simp)
          have hlt2 := inc_lt hiv hc2 (by simp)
          rw [← h3] at hlt2
          intro d hd
          rcases List.mem_append.1 hd with h8 | h8
          · exact Int.lt_trans (Int.lt_of_lt_of_le (hl2 d h8) hle) hlt2
          · simp only [List.mem_singleton] at h8
            subst h8
            exact hlt2
/-- the offsets of a source's tokens -/
theorem Run.inc {s : ByteArray} {r r' : Nat} {ts : List Tk} (h : Run s r ts r') : Inc ts ∧ ∀ t ∈ ts, (gapE s r : Int) ≤ t.a ∧ t.a < s.size := by
  induction h with
  | nil r => exact ⟨List.Pairwise.nil, fun t ht => by cases ht⟩
  | @cons r nx r' tk ts hp hq h ih =>
    have h1 := rd_ok s _ _ _ hp hq
    have h2 := gapE_ge s nx
    have h3 := rd_at s _ _ _ hq
    refine ⟨List.pairwise_cons.2 ⟨fun u hu => ?_, ih.1⟩, fun u hu => ?_⟩
    · have := (ih.2 u hu).1; omega
    · rcases List.mem_cons.1 hu with rfl | hu
      · omega
      · have := ih.2 u hu; omega
/-- the diagnostics of Parse -/
theorem parse_order (s : ByteArray) : Dg s.size (parseM s).2 := by
  have one : ∀ (e p : Int), e ≠ 0 → 0 ≤ p → p ≤ s.size → Dg s.size [(e, p)] := fun e p he h1 h2 => ⟨List.pairwise_singleton _ _, fun d hd => by simp only [List.mem_singleton] at hd; subst hd; exact ⟨he, h1, h2⟩⟩
  unfold parseM
  by_cases he : (lx s).2.1 ≠ 0
  · rw [if_pos he]
    refine one _ _ he (by omega) ?_
    by_cases hs : s.size ≤ 10000
    · obtain ⟨ts, r, h1, h2, h3⟩ := lx_run s hs
      rcases h3 with ⟨h4, h5⟩ | ⟨er, h4, h5, h6, h7⟩
      · rw [h5] at he; exact absurd rfl he
      · rw [h7]; show ((gapE s r : Nat) : Int) ≤ _; omega
    · unfold lx
      rw [if_pos (by omega)]
      show ((0 : Nat) : Int) ≤ _
      omega
  · rw [if_neg he]
    unfold parseT endOf
    have hlx : Inc ((lx s).1 ++ [sent s.size]) ∧ ∀ t ∈ (lx s).1 ++ [sent s.size], 0 ≤ t.a ∧ t.a ≤ s.size := by
      have hs : s.size ≤ 10000 := by
        rcases Nat.lt_or_ge 10000 s.size with h | h
        · exfalso; apply he; unfold lx; rw [if_pos h]; decide
        · exact h
      obtain ⟨ts, r, h1, h2, h3⟩ := lx_run s hs
      rcases h3 with ⟨h4, h5⟩ | ⟨er, h4, h5, h6, h7⟩
      · rw [h5]
        have h8 := h1.inc
        refine ⟨List.pairwise_append.2 ⟨h8.1, by simp, fun x hx y hy => ?_⟩, fun t ht => ?_⟩
        · simp only [List.mem_singleton] at hy
          subst hy
          exact (h8.2 x hx).2
        · rcases List.mem_append.1 ht with h9 | h9
          · have := h8.2 t h9; omega
          · simp only [List.mem_singleton] at h9
            subst h9
            show 0 ≤ (s.size : Int) ∧ (s.size : Int) ≤ s.size
            omega
      · exfalso; apply he; rw [h7]; exact h4
    have ho := items_order s.size ((lx s).1.length + 1) [] [] (lx s).1 hlx.1 hlx.2 ⟨List.Pairwise.nil, fun d hd => by cases hd⟩ (.inr fun d hd => by cases hd)
    split
    · exact ho
    · split
      · exact one 2 0 (by decide) (by decide) (by omega)
      · exact ⟨List.Pairwise.nil, fun d hd => by cases hd⟩
end Go.Proofs.YtdaghppcomckbaaGreatDoor
