/- A region that draws its order: an operation whose value is the same in every world that has only grown may come first, calls that make memory too. No condition. -/
import Derived.OrdersHeld
import Derived.Below
import Derived.Deep.RegionHeld
import Derived.Lib.Hide
namespace Go.Proofs.Ytbjhdfakocfapaa
open Go.RowKit
set_option linter.unusedVariables false
set_option linter.unusedSimpArgs false

/-- the world has only grown -/
abbrev Gr (w w' : World) : Prop := Below w.heap.size w w'
theorem Gr.tr {a b c : World} (h : Gr a b) (k : Gr b c) : Gr a c := Below.trans h (Below.mono k h.size)
section
variable {P : Program} {ops : Array Oper} {Q : Exit → Act → World → Prop} {md : Region.Mode} {S : World → Prop}
def NoWay : Exit → Act → World → Prop := fun _ _ _ => False
theorem wp_any_way {o : Oper} {a : Act} {w : World} {K : Act → World → Prop} (h : Oper.wp P o a w K NoWay) : Oper.wp P o a w K Q := by
  unfold Oper.wp at *
  generalize (execOp a.eval o).run P w = r at *
  cases r with
  | ok n w' =>
    cases n <;> simp only [Oper.upon] at h ⊢ <;>
      first
        | exact h
        | exact Calls.mono h (fun e w'' he => by cases e <;> first | exact he | exact (he : False).elim | (obtain ⟨_, _, hf⟩ := he; exact (hf : False).elim))
  | halt x w' => cases x <;> simp only [Oper.upon] at h ⊢ <;> exact (h : False).elim
/-- in every world that meets S, operation o leaves v in its temporary, and the world has only grown -/
def Gives (P : Program) (ops : Array Oper) (S : World → Prop) (o : Oper) (v : Value) (a : Act) : Prop :=
  (Region.wanted o (yielded ops a.tmps) = true ∧ ∀ w, S w → ∀ K : Act → World → Prop, Shut (∀ w', Gr w w' → K (a.put o.dst v) w') → Oper.wp P o a w K NoWay) ∨ (Region.wanted o (yielded ops a.tmps) = false ∧ v = undef)
theorem YieldsIf.gives {o : Oper} {v : Value} {a : Act} (h : YieldsIf P ops S o v a) : Gives P ops S o v a :=
  h.imp (fun ⟨hw, hv⟩ => ⟨hw, fun w hS K hK => by unfold Oper.wp; rw [hv w hS]; exact hK.out _ (Below.refl _ _)⟩) id
theorem Gives.wpOp {i : Nat} {o : Oper} {v : Value} {a : Act} (hi : ops[i]? = some o) (hy : Gives P ops S o v a) {K : Act → World → Prop} {w : World} (hS : S w) (h : ∀ w', Gr w w' → K (a.put o.dst v) w') : wpOp P ops Q i K a w := by
  unfold Go.wpOp
  simp only [hi]
  rcases hy with ⟨hw, hv⟩ | ⟨hw, rfl⟩
  · simp only [hw, if_true]; exact .inl (wp_any_way (hv w hS K h))
  · simp only [hw, Bool.false_eq_true, if_false]; exact h w (Below.refl _ _)
theorem put_defs (a : Act) (d : Option Tmp) (v : Value) : (a.put d v).defers = a.defers := by unfold Act.put; split <;> rfl
/-- a state that differs only in what o does not look at, and not in what it writes -/
theorem Gives.of_same {o : Oper} {v : Value} {a a' : Act} (f : Act → Act) (hf : ∀ u, f (a.put o.dst u) = a'.put o.dst u) (hy : Gives P ops S o v a) (he : execOp a'.eval o = execOp a.eval o)
    (hw : Region.wanted o (yielded ops a'.tmps) = Region.wanted o (yielded ops a.tmps)) : Gives P ops S o v a' := by
  unfold Gives at *
  rw [hw]
  refine hy.imp (fun ⟨h1, h2⟩ => ⟨h1, fun w hS K hK => ?_⟩) id
  have h := h2 w hS (fun a2 w' => K (f a2) w') (fun w' hg => by rw [hf]; exact hK.out w' hg)
  have hd := h2 w hS (fun a2 w' => a2.defers = a.defers) (fun w' hg => put_defs _ _ _)
  unfold Oper.wp at *
  rw [he]
  generalize (execOp a.eval o).run P w = r at *
  cases r with
  | ok n w' =>
    cases n <;> simp only [Oper.upon] at h hd ⊢
    case value u => rw [hf] at h; exact h
    case skip => rw [hf] at h; exact h
    case defer d =>
      have h3 := put_defs { a with defers := d :: a.defers } o.dst undef
      have h4 := congrArg List.length (h3.symm.trans hd)
      simp at h4
    case enter g args =>
      refine Calls.mono h fun e w'' he => ?_
      cases e with
      | returned u => simp only at he ⊢; rw [hf] at he; exact he
      | panicked c => exact he
      | outgrown => exact he
    case row row args => exact Rows.mono h fun u w'' he => by rw [hf] at he; exact he
  | halt x w' => cases x <;> simp only [Oper.upon] at h ⊢ <;> exact h
theorem wpOp_putG {j : Nat} {oi oj : Oper} {v : Value} (hj : ops[j]? = some oj) (hap : oi.apart ops oj = true)
    (hsi : ∀ cs b, oi.op ≠ .select cs b) (hsj : ∀ cs b, oj.op ≠ .select cs b)
    (hQ : ∀ c a w, Q (.panic c) (a.put oi.dst v) w → Q (.panic c) a w) {K : Act → World → Prop} {a : Act} {w : World}
    (hy : Gives P ops S oi v a) (h : wpOp P ops Q j K (a.put oi.dst v) w) :
    wpOp P ops Q j (fun a' w' => Gives P ops S oi v a' ∧ K (a'.put oi.dst v) w') a w := by
  obtain ⟨h1, h2, h3⟩ := Oper.apart_spec hap
  have keep : ∀ (a : Act), Gives P ops S oi v a → ∀ u, Gives P ops S oi v (a.put oj.dst u) := fun a hy u =>
    Gives.of_same (fun b => b.put oj.dst u) (fun u' => Act.put_comm a u' u h2) hy (execOp_put oi hsi a oj.dst u h3) (wanted_put oi a oj.dst u h3)
  have keepD : ∀ d, Gives P ops S oi v { a with defers := d :: a.defers } := fun d =>
    Gives.of_same (fun b => { b with defers := d :: b.defers }) (fun u' => by rw [Act.put_defers]) hy rfl rfl
  unfold wpOp at *
  simp only [hj] at *
  rw [wanted_put oj a oi.dst v h1] at h
  split
  · rename_i hw
    simp only [hw, if_true] at h
    rcases h with h | ⟨hasks, hlets⟩
    case inr => exact .inr ⟨by unfold Oper.asks at *; rw [execOp_put oj hsj a oi.dst v h1] at hasks; exact hasks, hlets⟩
    refine .inl ?_
    unfold Oper.wp at *
    rw [execOp_put oj hsj a oi.dst v h1] at h
    generalize (execOp a.eval oj).run P w = r at *
    cases r with
    | ok n w' =>
      cases n <;> simp only [Oper.upon] at h ⊢
      case value u => exact ⟨keep a hy u, by rw [← Act.put_comm a v u h2]; exact h⟩
      case skip => exact ⟨keep a hy _, by rw [← Act.put_comm a v undef h2]; exact h⟩
      case defer d =>
        refine ⟨keep _ (keepD d) _, ?_⟩
        rw [← Act.put_comm _ v undef h2, ← Act.put_defers]
        exact h
      case enter f args =>
        refine Calls.mono h fun e w'' he => ?_
        cases e with
        | returned u => exact ⟨keep a hy u, by rw [← Act.put_comm a v u h2]; exact he⟩
        | panicked c => exact hQ _ _ _ he
        | outgrown => exact he
      case row row args => exact Rows.mono h fun u w'' he => ⟨keep a hy u, by rw [← Act.put_comm a v u h2]; exact he⟩
    | halt x w' =>
      cases x <;> simp only [Oper.upon] at h ⊢
      case panic u => exact hQ _ _ _ h
  · rename_i hw
    simp only [hw] at h
    exact ⟨keep a hy _, by rw [← Act.put_comm a v undef h2]; exact h⟩
/-- whatever order is picked from here on, from whatever world that has only grown; S holds behind every operation -/
def wpAnyG (P : Program) (md : Region.Mode) (ops : Array Oper) (Q : Exit → Act → World → Prop) (S : World → Prop) : Nat → Array Bool → Act → World → Prop
  | 0, listed, a, W => Region.ready md ops listed = [] ∧ ∀ w, Gr W w → Q .normal a w
  | fuel + 1, listed, a, W => (Region.ready md ops listed = [] → ∀ w, Gr W w → Q .normal a w) ∧
    ∀ i ∈ Region.ready md ops listed, ∀ w, Gr W w → wpOp P ops Q i (fun a' w' => S w' ∧ wpAnyG P md ops Q S fuel (listed.setIfInBounds i true) a' w') a w
theorem wpAnyG.up {fuel : Nat} {listed : Array Bool} {a : Act} {W W' : World} (h : wpAnyG P md ops Q S fuel listed a W) (hg : Gr W W') : wpAnyG P md ops Q S fuel listed a W' := by
  cases fuel with
  | zero => exact ⟨h.1, fun w hw => h.2 w (hg.tr hw)⟩
  | succ n => exact ⟨fun hr w hw => h.1 hr w (hg.tr hw), fun i hi w hw => h.2 i hi w (hg.tr hw)⟩
theorem wpAny_of_G : ∀ (fuel : Nat) (listed : Array Bool) (a : Act) (w : World), wpAnyG P md ops Q S fuel listed a w → wpAny P md ops Q fuel listed a w
  | 0, _, _, w, h => ⟨h.1, h.2 w (Below.refl _ _)⟩
  | fuel + 1, _, _, w, h => ⟨fun hr => h.1 hr w (Below.refl _ _), fun i hi => wpOp_mono (fun a' w' h' => wpAny_of_G fuel _ a' w' h'.2) (h.2 i hi w (Below.refl _ _))⟩
theorem wpAnyG_first (hSG : ∀ w w', S w → Gr w w' → S w') {i : Nat} {oi : Oper} {v : Value} (hi : ops[i]? = some oi) (hsel : ∀ (j : Nat) (o : Oper) cs b, ops[j]? = some o → o.op ≠ .select cs b)
    (hQ : ∀ c a w, Q (.panic c) (a.put oi.dst v) w → Q (.panic c) a w) :
    ∀ (fuel : Nat) (listed : Array Bool) (a : Act) (W : World),
      (∀ j oj, ops[j]? = some oj → j ≠ i → listed.getD j true = false → (∀ e ∈ oj.after, Region.binds md e = true → e.on ≠ i) → oi.apart ops oj = true) →
      i ∈ Region.ready md ops listed → Gives P ops S oi v a → S W →
      wpAnyG P md ops Q S fuel (listed.setIfInBounds i true) (a.put oi.dst v) W → wpAnyG P md ops Q S (fuel + 1) listed a W := by
  intro fuel
  induction fuel with
  | zero =>
    intro listed a W _ hr hy hS H
    refine ⟨fun h => (by rw [h] at hr; cases hr), fun j hj w hw => ?_⟩
    by_cases hji : j = i
    · subst hji; exact hy.wpOp hi (hSG _ _ hS hw) (fun w' hw' => ⟨hSG _ _ hS (hw.tr hw'), H.up (hw.tr hw')⟩)
    · have := ready_mono hj hji
      rw [H.1] at this
      cases this
  | succ fuel ih =>
    intro listed a W hfree hr hy hS H
    refine ⟨fun h => (by rw [h] at hr; cases hr), fun j hj w hw => ?_⟩
    by_cases hji : j = i
    · subst hji; exact hy.wpOp hi (hSG _ _ hS hw) (fun w' hw' => ⟨hSG _ _ hS (hw.tr hw'), H.up (hw.tr hw')⟩)
    · have h1 := H.2 j (ready_mono hj hji) w hw
      obtain ⟨hjun, oj, hoj, hall⟩ := mem_ready.1 hj
      have hnot : ∀ e ∈ oj.after, Region.binds md e = true → e.on ≠ i := fun e he hb heq => by
        have h1 := hall e he hb
        have h0 := (mem_ready.1 hr).1
        rw [heq] at h1
        rcases Nat.lt_or_ge i listed.size with h' | h'
        · simp [h'] at h0 h1; rw [h0] at h1; cases h1
        · simp [Array.getElem?_eq_none h'] at h1
      have h2 := wpOp_putG hoj (hfree j oj hoj hji hjun hnot) (fun cs b => hsel i oi cs b hi) (fun cs b => hsel j oj cs b hoj) hQ hy h1
      have hfree' : ∀ k ok, ops[k]? = some ok → k ≠ i → (listed.setIfInBounds j true).getD k true = false →
          (∀ e ∈ ok.after, Region.binds md e = true → e.on ≠ i) → oi.apart ops ok = true := fun k ok hk hki hun hno => by
        refine hfree k ok hk hki ?_ hno
        by_cases hjk : j = k
        · subst hjk; exact hjun
        · rw [getD_set_ne true hjk] at hun; exact hun
      refine wpOp_mono (fun a' w' h3 => ⟨h3.2.1, ih (listed.setIfInBounds j true) a' w' hfree' (ready_mono hr (Ne.symm hji)) h3.1 h3.2.1 ?_⟩) h2
      rw [Array.setIfInBounds_comm _ _ hji]
      exact h3.2.2
/-- take number i first -/
theorem wpAnyG_take (hSG : Hid (∀ w w', S w → Gr w w' → S w')) {i : Nat} {oi : Oper} {v : Value} {fuel : Nat} {listed : Array Bool} {a : Act} {W : World} (hi : ops[i]? = some oi)
    (hs : Region.noSelect ops = true) (hf : Region.free md ops listed i = true) (hr : (Region.ready md ops listed).contains i = true)
    (hQ : ∀ c a w, Q (.panic c) (a.put oi.dst v) w → Q (.panic c) a w) (hy : Gives P ops S oi v a) (hS : Hid (S W))
    (h : wpAnyG P md ops Q S fuel (listed.setIfInBounds i true) (a.put oi.dst v) W) : wpAnyG P md ops Q S (fuel + 1) listed a W :=
  wpAnyG_first hSG.out hi (Region.noSelect_spec hs) hQ fuel listed a W (Region.free_spec hi hf) (by simpa using hr) hy hS.out h
/-- all have come up -/
theorem wpAnyG_done {listed : Array Bool} {a : Act} {W : World} (hr : Region.ready md ops listed = []) (h : ∀ w, Gr W w → Q .normal a w) : ∀ fuel, wpAnyG P md ops Q S fuel listed a W
  | 0 => ⟨hr, h⟩
  | _ + 1 => ⟨fun _ => h, by rw [hr]; simp⟩
/-- each of those that may come up -/
def AllG (P : Program) (md : Region.Mode) (ops : Array Oper) (Q : Exit → Act → World → Prop) (S : World → Prop) (fuel : Nat) (listed : Array Bool) (a : Act) (W : World) (rs : List Nat) : Prop :=
  ∀ i ∈ rs, ∀ w, Gr W w → wpOp P ops Q i (fun a' w' => S w' ∧ wpAnyG P md ops Q S fuel (listed.setIfInBounds i true) a' w') a w
theorem AllG.nil {fuel : Nat} {listed : Array Bool} {a : Act} {W : World} : AllG P md ops Q S fuel listed a W [] := fun _ h => by cases h
theorem AllG.cons {i : Nat} {o : Oper} {rs : List Nat} {fuel : Nat} {listed : Array Bool} {a : Act} {W : World} (ho : ops[i]? = some o)
    (h : ∀ w, Gr W w → ∀ K' : Act → World → Prop, Shut (∀ a w, S w → (Hid (S w) → wpAnyG P md ops Q S fuel (listed.setIfInBounds i true) a w) → K' a w) → if Region.wanted o (yielded ops a.tmps) = true then Oper.wp P o a w K' Q else K' (a.put o.dst undef) w)
    (hs : AllG P md ops Q S fuel listed a W rs) : AllG P md ops Q S fuel listed a W (i :: rs) := by
  intro j hj w hw
  rcases List.mem_cons.1 hj with rfl | hj
  · exact wpOp_step ho (fun K' hK => h w hw K' (fun a w hS hW => hK a w ⟨hS, hW hS⟩))
  · exact hs j hj w hw
theorem wpAnyG_ready {rs : List Nat} {fuel : Nat} {listed : Array Bool} {a : Act} {W : World} (hr : Region.ready md ops listed = rs) (hne : rs ≠ [])
    (h : AllG P md ops Q S fuel listed a W rs) : wpAnyG P md ops Q S (fuel + 1) listed a W := ⟨fun h0 => absurd (hr ▸ h0) hne, hr ▸ h⟩
/-- one alone may come up now -/
theorem wpAnyG_one {i : Nat} {o : Oper} {fuel : Nat} {listed : Array Bool} {a : Act} {W : World} (hr : Region.ready md ops listed = [i]) (ho : ops[i]? = some o)
    (h : ∀ w, Gr W w → ∀ K' : Act → World → Prop, Shut (∀ a w, S w → (Hid (S w) → wpAnyG P md ops Q S fuel (listed.setIfInBounds i true) a w) → K' a w) → if Region.wanted o (yielded ops a.tmps) = true then Oper.wp P o a w K' Q else K' (a.put o.dst undef) w) :
    wpAnyG P md ops Q S (fuel + 1) listed a W := by
  refine ⟨fun h0 => ?_, fun j hj w hw => ?_⟩
  · rw [hr] at h0; cases h0
  · rw [hr] at hj
    obtain rfl : j = i := by simpa using hj
    exact wpOp_step ho (fun K' hK => h w hw K' (fun a w hS hW => hK a w ⟨hS, hW hS⟩))
/-- the closed part of a take, for the kernel -/
def takeOk (md : Region.Mode) (ops : Array Oper) (listed : Array Bool) (i : Nat) (d : Option Tmp) : Bool :=
  decide (i < ops.size) && (Region.noSelect ops && (Region.free md ops listed i && ((Region.ready md ops listed).contains i && ((ops.getD i default).dst == d))))
/-- take number i first; all that is closed by the kernel -/
theorem wpAnyG_takeK (hSG : Hid (∀ w w', S w → Gr w w' → S w')) (i : Nat) (d : Option Tmp) (v : Value) {fuel : Nat} {listed : Array Bool} {a : Act} {W : World} (h0 : takeOk md ops listed i d = true)
    (hQ : ∀ c a w, Q (.panic c) (a.put d v) w → Q (.panic c) a w) (hy : Gives P ops S (ops.getD i default) v a) (hS : Hid (S W))
    (h : wpAnyG P md ops Q S fuel (listed.setIfInBounds i true) (a.put d v) W) : wpAnyG P md ops Q S (fuel + 1) listed a W := by
  simp only [takeOk, Bool.and_eq_true, decide_eq_true_eq, beq_iff_eq] at h0
  obtain ⟨h1, h2, h3, h4, h5⟩ := h0
  have hi : ops[i]? = some (ops.getD i default) := by simp [Array.getD, h1]
  subst h5
  exact wpAnyG_take hSG hi h2 h3 h4 hQ hy hS h
theorem Gives.q {o : Oper} {v : Value} {a : Act} (h1 : Region.wanted o (yielded ops a.tmps) = true) (h2 : ∀ w, (execOp a.eval o).run P w = .ok (.value v) w) : Gives P ops S o v a :=
  YieldsIf.gives (Or.inl ⟨h1, fun w _ => h2 w⟩)
theorem Gives.s {o : Oper} {v : Value} {a : Act} (h1 : Region.wanted o (yielded ops a.tmps) = true) (h2 : ∀ w, S w → (execOp a.eval o).run P w = .ok (.value v) w) : Gives P ops S o v a :=
  YieldsIf.gives (Or.inl ⟨h1, h2⟩)
theorem Gives.no {o : Oper} {a : Act} (h1 : Region.wanted o (yielded ops a.tmps) = false) : Gives P ops S o undef a := Or.inr ⟨h1, rfl⟩
theorem Gives.call {o : Oper} {v : Value} {a : Act} {f : FuncId} {args : Array Value} (h1 : Region.wanted o (yielded ops a.tmps) = true) (h2 : ∀ w, (execOp a.eval o).run P w = .ok (.enter f args) w)
    (h3 : ∀ w, S w → Calls P f args w (fun e w' => e = .returned v ∧ Gr w w')) : Gives P ops S o v a :=
  Or.inl ⟨h1, fun w hS K hK => by
    unfold Oper.wp
    rw [h2 w]
    refine (h3 w hS).mono fun e w' he => ?_
    obtain ⟨rfl, hb⟩ := he
    exact hK.out _ hb⟩
/-- a load, whatever the operation is called -/
def ldN (T : TypeId) (p : Addr) : Sem Next := execOp (fun _ => .pointer (some p)) ⟨none, .load T (.tmp 0), T, "", #[], none⟩
theorem Gives.ld {o : Oper} {v : Value} {a : Act} {T : TypeId} {p : Addr} (h1 : Region.wanted o (yielded ops a.tmps) = true) (h2 : execOp a.eval o = ldN T p)
    (h3 : ∀ w, S w → (ldN T p).run P w = .ok (.value v) w) : Gives P ops S o v a := Gives.s h1 (fun w hS => by rw [h2]; exact h3 w hS)
theorem grCell {w w' : World} (hg : Gr w w') {p : Addr} {v : Value} (h : w.cell? p = some v) : w'.cell? p = some v := (World.cell?_of_block (hg.block _ (World.block_lt_of_cell? _ _ h))).trans h
theorem grBlk {w w' : World} (hg : Gr w w') {b : Nat} {o : Obj} (h : w.heap[b]? = some o) : w'.heap[b]? = some o := (hg.block _ (Array.getElem?_eq_some_iff.1 h).1).trans h
theorem grAlloc (w : World) (o : Obj) : Gr w (w.alloc o) := (Below.refl _ _).alloc (Nat.le_refl _) o
theorem grDrew (w : World) : Gr w w.drew := (Below.refl _ _).drew
/-- the beginning -/
theorem wp_region_G {id : Nat} {a : Act} {w : World} (hm : P.follows .mixedOrders = true) (hS : S w.drew)
    (h : Hid (S w.drew) → wpAnyG P .any ops Q S ops.size (Array.replicate ops.size false) a w.drew) : (Code.region id ops true).wp P Q a w :=
  wp_region_any hm (wpAny_of_G _ _ _ _ (h hS))
/-- number i may come first -/
def okB (md : Region.Mode) (ops : Array Oper) (listed : Array Bool) (i : Nat) : Bool := Region.noSelect ops && (Region.free md ops listed i && (Region.ready md ops listed).contains i)
theorem okB_iff {md : Region.Mode} {ops : Array Oper} {listed : Array Bool} {i : Nat} (h : okB md ops listed i = true) : Region.noSelect ops = true ∧ Region.free md ops listed i = true ∧ (Region.ready md ops listed).contains i = true := by
  unfold okB at h
  rw [Bool.and_eq_true, Bool.and_eq_true] at h
  exact h
theorem tk (hSG : Hid (∀ w w', S w → Gr w w' → S w')) (i : Nat) {oi : Oper} {v : Value} {fuel : Nat} {listed : Array Bool} {a : Act} {W : World} (hi : ops[i]? = some oi) (ho : okB md ops listed i = true)
    (hQ : ∀ c a w, Q (.panic c) (a.put oi.dst v) w → Q (.panic c) a w) (hw : Region.wanted oi (yielded ops a.tmps) = true) (hy : ∀ w, S w → (execOp a.eval oi).run P w = .ok (.value v) w) (hS : Hid (S W))
    (h : wpAnyG P md ops Q S fuel (listed.setIfInBounds i true) (a.put oi.dst v) W) : wpAnyG P md ops Q S (fuel + 1) listed a W :=
  wpAnyG_take hSG hi (okB_iff ho).1 (okB_iff ho).2.1 (okB_iff ho).2.2 hQ (YieldsIf.gives (Or.inl ⟨hw, hy⟩)) hS h
theorem tn (hSG : Hid (∀ w w', S w → Gr w w' → S w')) (i : Nat) {oi : Oper} {fuel : Nat} {listed : Array Bool} {a : Act} {W : World} (hi : ops[i]? = some oi) (ho : okB md ops listed i = true)
    (hQ : ∀ c a w, Q (.panic c) (a.put oi.dst undef) w → Q (.panic c) a w) (hw : Region.wanted oi (yielded ops a.tmps) = false) (hS : Hid (S W))
    (h : wpAnyG P md ops Q S fuel (listed.setIfInBounds i true) (a.put oi.dst undef) W) : wpAnyG P md ops Q S (fuel + 1) listed a W :=
  wpAnyG_take hSG hi (okB_iff ho).1 (okB_iff ho).2.1 (okB_iff ho).2.2 hQ (Or.inr ⟨hw, rfl⟩) hS h
theorem tc (hSG : Hid (∀ w w', S w → Gr w w' → S w')) (i : Nat) {oi : Oper} {v : Value} {fuel : Nat} {listed : Array Bool} {a : Act} {W : World} (hi : ops[i]? = some oi) (ho : okB md ops listed i = true)
    (hQ : ∀ c a w, Q (.panic c) (a.put oi.dst v) w → Q (.panic c) a w) (hw : Region.wanted oi (yielded ops a.tmps) = true) (hy : ∀ w, S w → ∀ K : Act → World → Prop, Shut (∀ w', Gr w w' → K (a.put oi.dst v) w') → Oper.wp P oi a w K NoWay) (hS : Hid (S W))
    (h : wpAnyG P md ops Q S fuel (listed.setIfInBounds i true) (a.put oi.dst v) W) : wpAnyG P md ops Q S (fuel + 1) listed a W :=
  wpAnyG_take hSG hi (okB_iff ho).1 (okB_iff ho).2.1 (okB_iff ho).2.2 hQ (Or.inl ⟨hw, hy⟩) hS h
end
theorem zq1 {α : Type _} {xs : List α} {i : Nat} (h : i < xs.toArray.size) : xs.toArray[i] = xs[i] := rfl
theorem zq2 {α : Type _} (a : α) (l : List α) (i : Nat) (h : i + 1 < (a :: l).length) : (a :: l)[i + 1] = l[i]'(Nat.lt_of_succ_lt_succ h) := rfl
theorem zq3 {α : Type _} (a : α) (l : List α) (h : 0 < (a :: l).length) : (a :: l)[0] = a := rfl
theorem zq4 {α : Type _} (l : List α) (i : Nat) (a : α) : l.toArray.setIfInBounds i a = (l.set i a).toArray := List.setIfInBounds_toArray l i a
theorem zq5 {α : Type _} {x : α} {xs : List α} {a : α} : (x :: xs).set 0 a = a :: xs := rfl
theorem zq6 {α : Type _} {x : α} {xs : List α} {i : Nat} {a : α} : (x :: xs).set (i + 1) a = x :: xs.set i a := rfl
end Go.Proofs.Ytbjhdfakocfapaa
