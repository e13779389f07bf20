/- A region that draws, each operation with a spec of its own value: whatever the order, all specs hold in the end.
   (For regions with many blocks made side by side: the blocks' numbers differ from order to order, what lies in them does not.) -/
import Derived.Test.YtbjhdfakocfapaaDgA
namespace Go.Proofs.Ytbjhdfakocfapaa
open Go.RowKit
set_option linter.unusedSimpArgs false
set_option linter.unusedVariables false
section
variable {P : Program} {md : Region.Mode} {ops : Array Oper} {Q : Exit → Act → World → Prop} {S : World → Prop}
/-- how many of the first so many -/
def cn (k : Nat → Bool) : Nat → Nat
  | 0 => 0
  | n + 1 => cn k n + (if k n = true then 1 else 0)
theorem cn_congr {k k' : Nat → Bool} : ∀ n : Nat, (∀ j, j < n → k' j = k j) → cn k' n = cn k n
  | 0, _ => rfl
  | n + 1, h => by rw [cn, cn, cn_congr n (fun j hj => h j (by omega)), h n (by omega)]
theorem cn_less {k k' : Nat → Bool} {i : Nat} (hi : k i = true) (hi' : k' i = false) (h : ∀ j, j ≠ i → k' j = k j) : ∀ n : Nat, i < n → cn k' n + 1 = cn k n
  | 0, hn => absurd hn (by omega)
  | n + 1, hn => by
    rw [cn, cn]
    by_cases e : n = i
    · subst e
      rw [cn_congr n (fun j hj => h j (by omega)), hi, hi']; simp
    · have := cn_less hi hi' h n (by omega)
      rw [h n e]; omega
theorem cn_zero {k : Nat → Bool} : ∀ n : Nat, cn k n = 0 → ∀ j, j < n → k j = false
  | 0, _, j, hj => absurd hj (by omega)
  | n + 1, h, j, hj => by
    rw [cn] at h
    by_cases e : j = n
    · subst e
      cases hk : k j
      · rfl
      · rw [hk] at h; simp at h
    · exact cn_zero n (by omega) j (by omega)
/-- one value is set -/
def upd (vs : Nat → Value) (i : Nat) (v : Value) : Nat → Value := fun j => if j = i then v else vs j
theorem upd_at {vs : Nat → Value} {i : Nat} {v : Value} : upd vs i v i = v := by simp [upd]
theorem upd_off {vs : Nat → Value} {i j : Nat} {v : Value} (h : j ≠ i) : upd vs i v j = vs j := by simp [upd, h]
theorem ready_iff {listed : Array Bool} {i : Nat} : i ∈ Region.ready md ops listed ↔ i < ops.size ∧ listed.getD i true = false ∧ ∃ o, ops[i]? = some o ∧ ∀ e ∈ o.after, Region.binds md e = true → listed.getD e.on false = true := by
  unfold Region.ready
  rw [List.mem_filter, List.mem_range]
  constructor
  · rintro ⟨h1, h2⟩
    rw [Bool.and_eq_true] at h2
    obtain ⟨h3, h4⟩ := h2
    refine ⟨h1, by simpa using h3, ?_⟩
    cases ho : ops[i]? with
    | none => rw [ho] at h4; simp at h4
    | some o =>
      rw [ho] at h4
      refine ⟨o, rfl, fun e he hb => ?_⟩
      have h5 : (o.after.all fun e => !Region.binds md e || listed.getD e.on false) = true := by simpa using h4
      rw [Array.all_eq_true'] at h5
      have h6 := h5 e he
      rw [hb] at h6
      simpa using h6
  · rintro ⟨h1, h2, o, ho, h3⟩
    refine ⟨h1, ?_⟩
    rw [Bool.and_eq_true, ho]
    refine ⟨by rw [h2]; rfl, ?_⟩
    show (o.after.all fun e => !Region.binds md e || listed.getD e.on false) = true
    rw [Array.all_eq_true']
    intro e he
    cases hb : Region.binds md e
    · rfl
    · rw [h3 e he hb]; rfl
theorem wpAnyG_spec {f : (Nat → Value) → Act} {R : Nat → Value → World → Prop} {W0 : World} {l0 : Array Bool}
    (hR : ∀ i v w w', R i v w → Gr w w' → R i v w') (hS : ∀ w, Gr W0 w → S w)
    (hput : ∀ i o, ops[i]? = some o → ∀ vs v, (f vs).put o.dst v = f (upd vs i v))
    (hacy : ∀ i o, ops[i]? = some o → ∀ e ∈ o.after, Region.binds md e = true → e.on < i)
    (hstep : ∀ i o, ops[i]? = some o → l0.getD i true = false → ∀ vs w, Gr W0 w → (∀ e ∈ o.after, Region.binds md e = true → R e.on (vs e.on) w) →
      ∀ K' : Act → World → Prop, Shut (∀ v w', Gr w w' → R i v w' → K' ((f vs).put o.dst v) w') →
      if Region.wanted o (yielded ops (f vs).tmps) = true then Oper.wp P o (f vs) w K' Q else K' ((f vs).put o.dst undef) w)
    (hend : ∀ vs w, Gr W0 w → (∀ i, i < ops.size → R i (vs i) w) → Q .normal (f vs) w) :
    ∀ (fuel : Nat) (listed : Array Bool) (vs : Nat → Value) (W : World), listed.size = ops.size → cn (fun i => !listed.getD i true) ops.size ≤ fuel → Gr W0 W →
      (∀ i, i < ops.size → l0.getD i true = true → listed.getD i true = true) → (∀ i, i < ops.size → listed.getD i true = true → R i (vs i) W) → wpAnyG P md ops Q S fuel listed (f vs) W := by
  have hsame : ∀ (listed : Array Bool), listed.size = ops.size → ∀ i, i < ops.size → listed.getD i false = listed.getD i true := by
    intro listed hs i hi
    simp [Array.getD, hs, hi]
  have hall : ∀ listed : Array Bool, listed.size = ops.size → Region.ready md ops listed = [] → ∀ i, i < ops.size → listed.getD i true = true := by
    intro listed hs hr i
    induction i using Nat.strongRecOn with
    | ind i ih =>
      intro hi
      cases hl : listed.getD i true with
      | true => rfl
      | false =>
        exfalso
        have ho : ops[i]? = some ops[i] := Array.getElem?_eq_getElem hi
        have : i ∈ Region.ready md ops listed := ready_iff.2 ⟨hi, hl, _, ho, fun e he hb => by
          have hlt := hacy i _ ho e he hb
          rw [hsame listed hs _ (by omega)]
          exact ih _ hlt (by omega)⟩
        rw [hr] at this; cases this
  intro fuel
  induction fuel with
  | zero =>
    intro listed vs W hs hc hg h0 hv
    have hz := cn_zero _ (Nat.le_zero.1 hc)
    have hrd : Region.ready md ops listed = [] := by
      refine List.eq_nil_iff_forall_not_mem.2 (fun i hi => ?_)
      obtain ⟨h1, h2, _⟩ := ready_iff.1 hi
      have := hz i h1
      simp only [Bool.not_eq_false'] at this
      rw [h2] at this; cases this
    exact ⟨hrd, fun w hw => hend vs w (hg.tr hw) (fun i hi => hR _ _ _ _ (hv i hi (hall listed hs hrd i hi)) hw)⟩
  | succ fuel ih =>
    intro listed vs W hs hc hg h0 hv
    refine ⟨fun hrd w hw => hend vs w (hg.tr hw) (fun i hi => hR _ _ _ _ (hv i hi (hall listed hs hrd i hi)) hw), fun i hi w hw => ?_⟩
    obtain ⟨h1, h2, o, ho, h3⟩ := ready_iff.1 hi
    refine wpOp_step ho (fun K' hK => hstep i o ho ?_ vs w (hg.tr hw) (fun e he hb => ?_) K' (fun v w' hw' hRi => hK _ _ ⟨hS _ ((hg.tr hw).tr hw'), ?_⟩))
    · cases hl : l0.getD i true with
      | false => rfl
      | true => rw [h0 i h1 hl] at h2; cases h2
    · have hlt := hacy i o ho e he hb
      have := h3 e he hb
      rw [hsame listed hs _ (by omega)] at this
      exact hR _ _ _ _ (hv _ (by omega) this) hw
    · rw [hput i o ho]
      have hset : ∀ j, j < ops.size → (listed.setIfInBounds i true).getD j true = if j = i then true else listed.getD j true := by
        intro j hj
        by_cases e : j = i
        · subst e; simp [Array.getD, hs, hj]
        · simp [Array.getD, hs, hj, e, Array.getElem_setIfInBounds, Ne.symm e]
      refine ih _ _ _ (by simp [hs]) ?_ ((hg.tr hw).tr hw') (fun j hj hl => ?_) (fun j hj hl => ?_)
      · have hlt := cn_less (k := fun j => decide (j < ops.size) && !listed.getD j true) (k' := fun j => decide (j < ops.size) && !(listed.setIfInBounds i true).getD j true) (i := i) (by simp [h1, h2]) (by rw [hset i h1]; simp) (fun j hj => by
          by_cases hjs : j < ops.size
          · simp only [hset j hjs, if_neg hj]
          · simp [hjs]) ops.size h1
        have e1 := cn_congr (k := fun j => decide (j < ops.size) && !listed.getD j true) (k' := fun i => !listed.getD i true) ops.size (fun j hj => by simp [hj])
        have e2 := cn_congr (k := fun j => decide (j < ops.size) && !(listed.setIfInBounds i true).getD j true) (k' := fun j => !(listed.setIfInBounds i true).getD j true) ops.size (fun j hj => by simp [hj])
        omega
      · rw [hset j hj]
        split
        · rfl
        · exact h0 j hj hl
      · by_cases e : j = i
        · subst e; rw [upd_at]; exact hRi
        · rw [upd_off e]
          rw [hset j hj, if_neg e] at hl
          exact hR _ _ _ _ (hR _ _ _ _ (hv j hj hl) hw) hw'
/-- the steps of those that are still to come, one for each -/
def AllS (P : Program) (md : Region.Mode) (ops : Array Oper) (Q : Exit → Act → World → Prop) (f : (Nat → Value) → Act) (R : Nat → Value → World → Prop) (W0 : World) (rs : List Nat) : Prop :=
  ∀ i ∈ rs, ∀ o, ops[i]? = some o → ∀ vs w, Gr W0 w → (∀ e ∈ o.after, Region.binds md e = true → R e.on (vs e.on) w) →
      ∀ K' : Act → World → Prop, Shut (∀ v w', Gr w w' → R i v w' → K' ((f vs).put o.dst v) w') →
      if Region.wanted o (yielded ops (f vs).tmps) = true then Oper.wp P o (f vs) w K' Q else K' ((f vs).put o.dst undef) w
theorem AllS.nil {f : (Nat → Value) → Act} {R : Nat → Value → World → Prop} {W0 : World} : AllS P md ops Q f R W0 [] := fun _ h => by cases h
theorem AllS.cons {f : (Nat → Value) → Act} {R : Nat → Value → World → Prop} {W0 : World} {i : Nat} {o : Oper} {rs : List Nat} (ho : ops[i]? = some o)
    (h : ∀ vs w, Gr W0 w → Hid (∀ j, (o.after.any fun e => Region.binds md e && e.on == j) = true → R j (vs j) w) →
      ∀ K' : Act → World → Prop, Shut (∀ v w', Gr w w' → R i v w' → K' ((f vs).put o.dst v) w') →
      if Region.wanted o (yielded ops (f vs).tmps) = true then Oper.wp P o (f vs) w K' Q else K' ((f vs).put o.dst undef) w)
    (hs : AllS P md ops Q f R W0 rs) : AllS P md ops Q f R W0 (i :: rs) := by
  intro j hj o' ho' vs w hg hd K' hK
  rcases List.mem_cons.1 hj with rfl | hj
  · obtain rfl : o' = o := Option.some.inj (ho'.symm.trans ho)
    refine h vs w hg (Lib.hid (fun j hj => ?_)) K' hK
    rw [Array.any_eq_true'] at hj
    obtain ⟨e, he, h2⟩ := hj
    rw [Bool.and_eq_true] at h2
    obtain rfl : e.on = j := by simpa using h2.2
    exact hd e he h2.1
  · exact hs j hj o' ho' vs w hg hd K' hK
/-- no operation waits for a later one -/
def fore (md : Region.Mode) (ops : Array Oper) : Bool := (List.range ops.size).all fun i => match ops[i]? with | none => true | some o => o.after.all fun e => !Region.binds md e || decide (e.on < i)
theorem fore_at {md : Region.Mode} {ops : Array Oper} (h : fore md ops = true) : ∀ i o, ops[i]? = some o → ∀ e ∈ o.after, Region.binds md e = true → e.on < i := by
  intro i o ho e he hb
  have hi : i < ops.size := (Array.getElem?_eq_some_iff.1 ho).1
  have h1 := List.all_eq_true.1 h i (List.mem_range.2 hi)
  rw [ho] at h1
  have h2 : (o.after.all fun e => !Region.binds md e || decide (e.on < i)) = true := h1
  rw [Array.all_eq_true'] at h2
  have h3 := h2 e he
  rw [hb] at h3
  simpa using h3
/-- the walk of such a region: behind some operations that were taken first (l0), those of rs are left -/
theorem wpAnyG_specs {f : (Nat → Value) → Act} {R : Nat → Value → World → Prop} {W : World} {l0 : Array Bool} (rs : List Nat) (vs : Nat → Value) {fuel : Nat} {a : Act}
    (ha : a = f vs) (hfo : fore md ops = true) (hsz : (decide (l0.size = ops.size) && decide (cn (fun i => !l0.getD i true) ops.size ≤ fuel) && ((List.range ops.size).all fun i => l0.getD i true || rs.contains i)) = true)
    (hR : ∀ i v w w', R i v w → Gr w w' → R i v w') (hS : ∀ w, Gr W w → S w)
    (hput : ∀ i, i < ops.size → ∀ vs v, (f vs).put ((ops.getD i default).dst) v = f (upd vs i v))
    (hvs : ∀ i, i < ops.size → l0.getD i true = true → R i (vs i) W)
    (hstep : AllS P md ops Q f R W rs)
    (hend : ∀ vs w, Gr W w → Hid (∀ i, i < ops.size → R i (vs i) w) → Q .normal (f vs) w) : wpAnyG P md ops Q S fuel l0 a W := by
  subst ha
  rw [Bool.and_eq_true, Bool.and_eq_true, decide_eq_true_eq, decide_eq_true_eq] at hsz
  obtain ⟨⟨h1, h2⟩, h3⟩ := hsz
  refine wpAnyG_spec (W0 := W) (l0 := l0) hR hS (fun i o ho vs v => by
    obtain ⟨hi, he⟩ := Array.getElem?_eq_some_iff.1 ho
    have := hput i hi vs v
    rw [show ops.getD i default = o by simp [Array.getD, hi, he]] at this
    exact this) (fore_at hfo) (fun i o ho hl => ?_) (fun vs w hg h => hend vs w hg (Lib.hid h)) fuel l0 vs W h1 h2 (Below.refl _ _) (fun _ _ h => h) hvs
  have hi : i < ops.size := (Array.getElem?_eq_some_iff.1 ho).1
  have h4 := List.all_eq_true.1 h3 i (List.mem_range.2 hi)
  rw [hl] at h4
  exact hstep i (by simpa using h4) o ho
end
end Go.Proofs.Ytbjhdfakocfapaa
