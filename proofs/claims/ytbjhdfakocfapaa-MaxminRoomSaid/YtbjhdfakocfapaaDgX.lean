/- A region that draws its order, with operations behind which what was held need not hold any more (X), if they come behind all that are taken first. No condition. -/
import Derived.Test.YtbjhdfakocfapaaDgA
namespace Go.Proofs.Ytbjhdfakocfapaa
open Go.RowKit
set_option linter.unusedVariables false
set_option linter.unusedSimpArgs false
section
variable {P : Program} {ops : Array Oper} {Q : Exit → Act → World → Prop} {md : Region.Mode} {S : World → Prop} {X : List Nat}
/-- whatever order is picked from here on; S holds behind every operation that is not in X -/
def wpAnyX (P : Program) (md : Region.Mode) (ops : Array Oper) (Q : Exit → Act → World → Prop) (S : World → Prop) (X : List Nat) : Nat → Array Bool → Act → World → Prop
  | 0, listed, a, W => Region.ready md ops listed = [] ∧ ∀ w, Gr W w → Q .normal a w
  | fuel + 1, listed, a, W => (Region.ready md ops listed = [] → ∀ w, Gr W w → Q .normal a w) ∧
    ∀ i ∈ Region.ready md ops listed, ∀ w, Gr W w → wpOp P ops Q i (fun a' w' => (X.contains i = true ∨ S w') ∧ wpAnyX P md ops Q S X fuel (listed.setIfInBounds i true) a' w') a w
theorem wpAnyX.up {fuel : Nat} {listed : Array Bool} {a : Act} {W W' : World} (h : wpAnyX P md ops Q S X fuel listed a W) (hg : Gr W W') : wpAnyX P md ops Q S X fuel listed a W' := by
  cases fuel with
  | zero => exact ⟨h.1, fun w hw => h.2 w (hg.tr hw)⟩
  | succ n => exact ⟨fun hr w hw => h.1 hr w (hg.tr hw), fun i hi w hw => h.2 i hi w (hg.tr hw)⟩
theorem wpAny_of_X : ∀ (fuel : Nat) (listed : Array Bool) (a : Act) (w : World), wpAnyX P md ops Q S X fuel listed a w → wpAny P md ops Q fuel listed a w
  | 0, _, _, w, h => ⟨h.1, h.2 w (Below.refl _ _)⟩
  | fuel + 1, _, _, w, h => ⟨fun hr => h.1 hr w (Below.refl _ _), fun i hi => wpOp_mono (fun a' w' h' => wpAny_of_X fuel _ a' w' h'.2) (h.2 i hi w (Below.refl _ _))⟩
/-- operations that are not done and wait for number i, or for one another -/
def Waits (md : Region.Mode) (ops : Array Oper) (i : Nat) (listed : Array Bool) (C : List Nat) : Prop :=
  ∀ m ∈ C, m ≠ i ∧ listed.getD m true = false ∧ ∃ om, ops[m]? = some om ∧ ∃ e ∈ om.after, Region.binds md e = true ∧ (e.on = i ∨ e.on ∈ C)
theorem Waits.not_ready {i j : Nat} {listed : Array Bool} {C : List Nat} (h : Waits md ops i listed C) (hi : listed.getD i true = false) (hj : j ∈ Region.ready md ops listed) : j ∉ C := by
  intro hc
  obtain ⟨-, oj, hoj, hall⟩ := mem_ready.1 hj
  obtain ⟨-, -, om, hom, e, he, hb, hon⟩ := h j hc
  rw [hoj] at hom
  cases hom
  have h1 := hall e he hb
  have h0 : listed.getD e.on true = false := by
    rcases hon with h2 | h2
    · rw [h2]; exact hi
    · exact (h _ h2).2.1
  rcases Nat.lt_or_ge e.on listed.size with h' | h'
  · simp [h'] at h0 h1; rw [h0] at h1; cases h1
  · simp [Array.getElem?_eq_none h'] at h1
theorem Waits.step {i j : Nat} {listed : Array Bool} {C : List Nat} (h : Waits md ops i listed C) (hj : j ∉ C) : Waits md ops i (listed.setIfInBounds j true) C := fun m hm => by
  obtain ⟨h1, h2, h3⟩ := h m hm
  refine ⟨h1, ?_, h3⟩
  have hne : j ≠ m := fun e => hj (e ▸ hm)
  rw [getD_set_ne true hne]
  exact h2
theorem wpAnyX_first (hSG : ∀ w w', S w → Gr w w' → S w') {i : Nat} {oi : Oper} {v : Value} {C : List Nat} (hi : ops[i]? = some oi) (hsel : ∀ (j : Nat) (o : Oper) cs b, ops[j]? = some o → o.op ≠ .select cs b)
    (hQ : ∀ c a w, Q (.panic c) (a.put oi.dst v) w → Q (.panic c) a w) (hxi : X.contains i = false) :
    ∀ (fuel : Nat) (listed : Array Bool) (a : Act) (W : World), Waits md ops i listed C → (∀ j, X.contains j = true → j ∈ C ∨ listed.getD j true = true) →
      (∀ j oj, ops[j]? = some oj → j ≠ i → listed.getD j true = false → (∀ e ∈ oj.after, Region.binds md e = true → e.on ≠ i) → oi.apart ops oj = true) →
      i ∈ Region.ready md ops listed → Gives P ops S oi v a → S W →
      wpAnyX P md ops Q S X fuel (listed.setIfInBounds i true) (a.put oi.dst v) W → wpAnyX P md ops Q S X (fuel + 1) listed a W := by
  intro fuel
  induction fuel with
  | zero =>
    intro listed a W hC hX _ hr hy hS H
    refine ⟨fun h => (by rw [h] at hr; cases hr), fun j hj w hw => ?_⟩
    by_cases hji : j = i
    · subst hji; exact hy.wpOp hi (hSG _ _ hS hw) (fun w' hw' => ⟨.inr (hSG _ _ hS (hw.tr hw')), H.up (hw.tr hw')⟩)
    · have := ready_mono hj hji
      rw [H.1] at this
      cases this
  | succ fuel ih =>
    intro listed a W hC hX hfree hr hy hS H
    refine ⟨fun h => (by rw [h] at hr; cases hr), fun j hj w hw => ?_⟩
    by_cases hji : j = i
    · subst hji; exact hy.wpOp hi (hSG _ _ hS hw) (fun w' hw' => ⟨.inr (hSG _ _ hS (hw.tr hw')), H.up (hw.tr hw')⟩)
    · have h1 := H.2 j (ready_mono hj hji) w hw
      obtain ⟨hjun, oj, hoj, hall⟩ := mem_ready.1 hj
      have hi0 := (mem_ready.1 hr).1
      have hjC := hC.not_ready hi0 hj
      have hjX : X.contains j = false := by
        rcases hx : X.contains j with _ | _
        · rfl
        · rcases hX j hx with h' | h'
          · exact absurd h' hjC
          · rw [hjun] at h'; cases h'
      have hnot : ∀ e ∈ oj.after, Region.binds md e = true → e.on ≠ i := fun e he hb heq => by
        have h1 := hall e he hb
        have h0 := hi0
        rw [heq] at h1
        rcases Nat.lt_or_ge i listed.size with h' | h'
        · simp [h'] at h0 h1; rw [h0] at h1; cases h1
        · simp [Array.getElem?_eq_none h'] at h1
      have h2 := wpOp_putG hoj (hfree j oj hoj hji hjun hnot) (fun cs b => hsel i oi cs b hi) (fun cs b => hsel j oj cs b hoj) hQ hy h1
      have hfree' : ∀ k ok, ops[k]? = some ok → k ≠ i → (listed.setIfInBounds j true).getD k true = false →
          (∀ e ∈ ok.after, Region.binds md e = true → e.on ≠ i) → oi.apart ops ok = true := fun k ok hk hki hun hno => by
        refine hfree k ok hk hki ?_ hno
        by_cases hjk : j = k
        · subst hjk; exact hjun
        · rw [getD_set_ne true hjk] at hun; exact hun
      have hX' : ∀ k, X.contains k = true → k ∈ C ∨ (listed.setIfInBounds j true).getD k true = true := fun k hk => by
        by_cases hjk : j = k
        · subst hjk; rw [hjX] at hk; cases hk
        · rw [getD_set_ne true hjk]; exact hX k hk
      refine wpOp_mono (fun a' w' h3 => ?_) h2
      have hSw : S w' := h3.2.1.resolve_left (by rw [hjX]; decide)
      refine ⟨.inr hSw, ih (listed.setIfInBounds j true) a' w' (hC.step hjC) hX' hfree' (ready_mono hr (Ne.symm hji)) h3.1 hSw ?_⟩
      rw [Array.setIfInBounds_comm _ _ hji]
      exact h3.2.2
def waitsB (md : Region.Mode) (ops : Array Oper) (listed : Array Bool) (i : Nat) (C : List Nat) : Bool :=
  C.all (fun m => m != i && (!(listed.getD m true) && (match ops[m]? with | none => false | some om => om.after.any (fun e => Region.binds md e && (e.on == i || C.contains e.on)))))
theorem waitsB_spec {i : Nat} {listed : Array Bool} {C : List Nat} (h : waitsB md ops listed i C = true) : Waits md ops i listed C := fun m hm => by
  have h1 := List.all_eq_true.1 h m hm
  simp only [Bool.and_eq_true, bne_iff_ne, ne_eq, Bool.not_eq_true'] at h1
  obtain ⟨h2, h3, h4⟩ := h1
  refine ⟨h2, h3, ?_⟩
  rcases ho : ops[m]? with _ | om
  · rw [ho] at h4; cases h4
  · rw [ho] at h4
    obtain ⟨j, hj, hj2⟩ := Array.any_eq_true.1 h4
    refine ⟨om, rfl, om.after[j], Array.getElem_mem hj, ?_⟩
    simp only [Bool.and_eq_true, Bool.or_eq_true, beq_iff_eq, List.contains_iff_mem] at hj2
    exact hj2
/-- the closed part of a take, for the kernel -/
def takeOkX (md : Region.Mode) (ops : Array Oper) (listed : Array Bool) (i : Nat) (C X : List Nat) : Bool :=
  waitsB md ops listed i C && (X.all (fun j => C.contains j || listed.getD j true) && !(X.contains i))
/-- take number i first -/
theorem wpAnyX_take (hSG : Hid (∀ w w', S w → Gr w w' → S w')) {i : Nat} (C : List Nat) {oi : Oper} {v : Value} {fuel : Nat} {listed : Array Bool} {a : Act} {W : World} (hi : ops[i]? = some oi)
    (hs : Region.noSelect ops = true) (hf : Region.free md ops listed i = true) (hr : (Region.ready md ops listed).contains i = true) (hx : takeOkX md ops listed i C X = true)
    (hQ : ∀ c a w, Q (.panic c) (a.put oi.dst v) w → Q (.panic c) a w) (hy : Gives P ops S oi v a) (hS : Hid (S W))
    (h : wpAnyX P md ops Q S X fuel (listed.setIfInBounds i true) (a.put oi.dst v) W) : wpAnyX P md ops Q S X (fuel + 1) listed a W := by
  simp only [takeOkX, Bool.and_eq_true, Bool.not_eq_true', List.all_eq_true, Bool.or_eq_true, List.contains_iff_mem] at hx
  obtain ⟨h1, h2, h3⟩ := hx
  exact wpAnyX_first hSG.out hi (Region.noSelect_spec hs) hQ h3 fuel listed a W (waitsB_spec h1) (fun j hj => h2 j (by simpa using hj)) (Region.free_spec hi hf) (by simpa using hr) hy hS.out h
/-- all have come up -/
theorem wpAnyX_done {listed : Array Bool} {a : Act} {W : World} (hr : Region.ready md ops listed = []) (h : ∀ w, Gr W w → Q .normal a w) : ∀ fuel, wpAnyX P md ops Q S X fuel listed a W
  | 0 => ⟨hr, h⟩
  | _ + 1 => ⟨fun _ => h, by rw [hr]; simp⟩
/-- one alone may come up now, behind which S holds -/
theorem wpAnyX_one {i : Nat} {o : Oper} {fuel : Nat} {listed : Array Bool} {a : Act} {W : World} (hr : Region.ready md ops listed = [i]) (ho : ops[i]? = some o)
    (h : ∀ w, Gr W w → ∀ K' : Act → World → Prop, Shut (∀ a w, S w → (Hid (S w) → wpAnyX P md ops Q S X fuel (listed.setIfInBounds i true) a w) → K' a w) → if Region.wanted o (yielded ops a.tmps) = true then Oper.wp P o a w K' Q else K' (a.put o.dst undef) w) :
    wpAnyX P md ops Q S X (fuel + 1) listed a W := by
  refine ⟨fun h0 => ?_, fun j hj w hw => ?_⟩
  · rw [hr] at h0; cases h0
  · rw [hr] at hj
    obtain rfl : j = i := by simpa using hj
    exact wpOp_step ho (fun K' hK => h w hw K' (fun a w hS hW => hK a w ⟨.inr hS, hW hS⟩))
/-- one of X alone may come up now -/
theorem wpAnyX_oneX {i : Nat} {o : Oper} {fuel : Nat} {listed : Array Bool} {a : Act} {W : World} (hr : Region.ready md ops listed = [i]) (hx : X.contains i = true) (ho : ops[i]? = some o)
    (h : ∀ w, Gr W w → ∀ K' : Act → World → Prop, Shut (∀ a w, wpAnyX P md ops Q S X fuel (listed.setIfInBounds i true) a w → K' a w) → if Region.wanted o (yielded ops a.tmps) = true then Oper.wp P o a w K' Q else K' (a.put o.dst undef) w) :
    wpAnyX P md ops Q S X (fuel + 1) listed a W := by
  refine ⟨fun h0 => ?_, fun j hj w hw => ?_⟩
  · rw [hr] at h0; cases h0
  · rw [hr] at hj
    obtain rfl : j = i := by simpa using hj
    exact wpOp_step ho (fun K' hK => h w hw K' (fun a w hW => hK a w ⟨.inl hx, hW⟩))
/-- the beginning -/
theorem wp_region_X (X : List Nat) {id : Nat} {a : Act} {w : World} (hm : P.follows .mixedOrders = true) (hS : S w.drew)
    (h : Hid (S w.drew) → wpAnyX P .any ops Q S X ops.size (Array.replicate ops.size false) a w.drew) : (Code.region id ops true).wp P Q a w :=
  wp_region_any hm (wpAny_of_X _ _ _ _ (h hS))
theorem xk (hSG : Hid (∀ w w', S w → Gr w w' → S w')) (i : Nat) (C : List Nat) {oi : Oper} {v : Value} {fuel : Nat} {listed : Array Bool} {a : Act} {W : World} (hi : ops[i]? = some oi) (ho : (okB md ops listed i && takeOkX md ops listed i C X) = true)
    (hQ : ∀ c a w, Q (.panic c) (a.put oi.dst v) w → Q (.panic c) a w) (hw : Region.wanted oi (yielded ops a.tmps) = true) (hy : ∀ w, S w → (execOp a.eval oi).run P w = .ok (.value v) w) (hS : Hid (S W))
    (h : wpAnyX P md ops Q S X fuel (listed.setIfInBounds i true) (a.put oi.dst v) W) : wpAnyX P md ops Q S X (fuel + 1) listed a W :=
  wpAnyX_take hSG C hi (okB_iff (Bool.and_eq_true_iff.1 ho).1).1 (okB_iff (Bool.and_eq_true_iff.1 ho).1).2.1 (okB_iff (Bool.and_eq_true_iff.1 ho).1).2.2 (Bool.and_eq_true_iff.1 ho).2 hQ (YieldsIf.gives (Or.inl ⟨hw, hy⟩)) hS h
theorem xn (hSG : Hid (∀ w w', S w → Gr w w' → S w')) (i : Nat) (C : List Nat) {oi : Oper} {fuel : Nat} {listed : Array Bool} {a : Act} {W : World} (hi : ops[i]? = some oi) (ho : (okB md ops listed i && takeOkX md ops listed i C X) = true)
    (hQ : ∀ c a w, Q (.panic c) (a.put oi.dst undef) w → Q (.panic c) a w) (hw : Region.wanted oi (yielded ops a.tmps) = false) (hS : Hid (S W))
    (h : wpAnyX P md ops Q S X fuel (listed.setIfInBounds i true) (a.put oi.dst undef) W) : wpAnyX P md ops Q S X (fuel + 1) listed a W :=
  wpAnyX_take hSG C hi (okB_iff (Bool.and_eq_true_iff.1 ho).1).1 (okB_iff (Bool.and_eq_true_iff.1 ho).1).2.1 (okB_iff (Bool.and_eq_true_iff.1 ho).1).2.2 (Bool.and_eq_true_iff.1 ho).2 hQ (Or.inr ⟨hw, rfl⟩) hS h
theorem xc (hSG : Hid (∀ w w', S w → Gr w w' → S w')) (i : Nat) (C : List Nat) {oi : Oper} {v : Value} {fuel : Nat} {listed : Array Bool} {a : Act} {W : World} (hi : ops[i]? = some oi) (ho : (okB md ops listed i && takeOkX md ops listed i C X) = true)
    (hQ : ∀ c a w, Q (.panic c) (a.put oi.dst v) w → Q (.panic c) a w) (hw : Region.wanted oi (yielded ops a.tmps) = true) (hy : ∀ w, S w → ∀ K : Act → World → Prop, Shut (∀ w', Gr w w' → K (a.put oi.dst v) w') → Oper.wp P oi a w K NoWay) (hS : Hid (S W))
    (h : wpAnyX P md ops Q S X fuel (listed.setIfInBounds i true) (a.put oi.dst v) W) : wpAnyX P md ops Q S X (fuel + 1) listed a W :=
  wpAnyX_take hSG C hi (okB_iff (Bool.and_eq_true_iff.1 ho).1).1 (okB_iff (Bool.and_eq_true_iff.1 ho).1).2.1 (okB_iff (Bool.and_eq_true_iff.1 ho).1).2.2 (Bool.and_eq_true_iff.1 ho).2 hQ (Or.inl ⟨hw, hy⟩) hS h
end
end Go.Proofs.Ytbjhdfakocfapaa
