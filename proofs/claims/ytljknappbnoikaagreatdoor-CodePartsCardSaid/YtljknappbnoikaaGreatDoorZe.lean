/- Texts of one proof: DgA, DgX, KyC. -/
import Derived.OrdersHeld
import Derived.Below
import Derived.Deep.RegionHeld
import Derived.Lib.Hide
import Derived.Test.YtljknappbnoikaaGreatDoorZd
import Derived.Test.YtljknappbnoikaaGreatDoorProg
import Derived.StillTailTactics
import Derived.Deep.DeepCutAuto
import Derived.Deep.Cut
import Derived.BigQuiet
import Derived.Deep.QuietTactic
import Derived.WalkSpells
set_option linter.unusedVariables false
set_option linter.unusedSimpArgs false
set_option maxRecDepth 100000
set_option maxHeartbeats 8000000
namespace Go.Proofs.YtljknappbnoikaaGreatDoor
open Go.RowKit
abbrev Gr (w w' : World) : Prop := Below w.heap.size w w'
theorem Gr.tr {a b c : World} (h : Gr a b) (k : Gr b c) : Gr a c := Below.trans h (Below.mono k h.size)
section
variable {P : Program} {ops : Array Oper} {Q : Exit → Act → World → Prop} {md : Region.Mode} {S : World → Prop}
def NoWay : Exit → Act → World → Prop := fun _ _ _ => False
theorem wp_any_way {o : Oper} {a : Act} {w : World} {K : Act → World → Prop} (h : Oper.wp P o a w K NoWay) : Oper.wp P o a w K Q := by
 unfold Oper.wp at *
 generalize (execOp a.eval o).run P w = r at *
 cases r with
 | ok n w' =>
  cases n <;> simp only [Oper.upon] at h ⊢ <;>
   first
    | exact h
    | exact Calls.mono h (fun e w'' he => by cases e <;> first | exact he | exact (he : False).elim | (obtain ⟨_, _, hf⟩ := he; exact (hf : False).elim))
 | halt x w' => cases x <;> simp only [Oper.upon] at h ⊢ <;> exact (h : False).elim
def Gives (P : Program) (ops : Array Oper) (S : World → Prop) (o : Oper) (v : Value) (a : Act) : Prop :=
 (Region.wanted o (yielded ops a.tmps) = true ∧ ∀ w, S w → ∀ K : Act → World → Prop, Shut (∀ w', Gr w w' → K (a.put o.dst v) w') → Oper.wp P o a w K NoWay) ∨ (Region.wanted o (yielded ops a.tmps) = false ∧ v = undef)
theorem YieldsIf.gives {o : Oper} {v : Value} {a : Act} (h : YieldsIf P ops S o v a) : Gives P ops S o v a :=
 h.imp (fun ⟨hw, hv⟩ => ⟨hw, fun w hS K hK => by unfold Oper.wp; rw [hv w hS]; exact hK.out _ (Below.refl _ _)⟩) id
theorem Gives.wpOp {i : Nat} {o : Oper} {v : Value} {a : Act} (hi : ops[i]? = some o) (hy : Gives P ops S o v a) {K : Act → World → Prop} {w : World} (hS : S w) (h : ∀ w', Gr w w' → K (a.put o.dst v) w') : wpOp P ops Q i K a w := by
 unfold Go.wpOp
 simp only [hi]
 rcases hy with ⟨hw, hv⟩ | ⟨hw, rfl⟩
 ·simp only [hw, if_true]; exact .inl (wp_any_way (hv w hS K h))
 ·simp only [hw, Bool.false_eq_true, if_false]; exact h w (Below.refl _ _)
theorem put_defs (a : Act) (d : Option Tmp) (v : Value) : (a.put d v).defers = a.defers := by unfold Act.put; split <;> rfl
theorem Gives.of_same {o : Oper} {v : Value} {a a' : Act} (f : Act → Act) (hf : ∀ u, f (a.put o.dst u) = a'.put o.dst u) (hy : Gives P ops S o v a) (he : execOp a'.eval o = execOp a.eval o)
  (hw : Region.wanted o (yielded ops a'.tmps) = Region.wanted o (yielded ops a.tmps)) : Gives P ops S o v a' := by
 unfold Gives at *
 rw [hw]
 refine hy.imp (fun ⟨h1, h2⟩ => ⟨h1, fun w hS K hK => ?_⟩) id
 have h := h2 w hS (fun a2 w' => K (f a2) w') (fun w' hg => by rw [hf]; exact hK.out w' hg)
 have hd := h2 w hS (fun a2 w' => a2.defers = a.defers) (fun w' hg => put_defs _ _ _)
 unfold Oper.wp at *
 rw [he]
 generalize (execOp a.eval o).run P w = r at *
 cases r with
 | ok n w' =>
  cases n <;> simp only [Oper.upon] at h hd ⊢
  case value u => rw [hf] at h; exact h
  case skip => rw [hf] at h; exact h
  case defer d =>
   have h3 := put_defs { a with defers := d :: a.defers } o.dst undef
   have h4 := congrArg List.length (h3.symm.trans hd)
   simp at h4
  case enter g args =>
   refine Calls.mono h fun e w'' he => ?_
   cases e with
   | returned u => simp only at he ⊢; rw [hf] at he; exact he
   | panicked c => exact he
   | outgrown => exact he
  case row row args => exact Rows.mono h fun u w'' he => by rw [hf] at he; exact he
 | halt x w' => cases x <;> simp only [Oper.upon] at h ⊢ <;> exact h
theorem wpOp_putG {j : Nat} {oi oj : Oper} {v : Value} (hj : ops[j]? = some oj) (hap : oi.apart ops oj = true)
  (hsi : ∀ cs b, oi.op ≠ .select cs b) (hsj : ∀ cs b, oj.op ≠ .select cs b)
  (hQ : ∀ c a w, Q (.panic c) (a.put oi.dst v) w → Q (.panic c) a w) {K : Act → World → Prop} {a : Act} {w : World}
  (hy : Gives P ops S oi v a) (h : wpOp P ops Q j K (a.put oi.dst v) w) :
  wpOp P ops Q j (fun a' w' => Gives P ops S oi v a' ∧ K (a'.put oi.dst v) w') a w := by
 obtain ⟨h1, h2, h3⟩ := Oper.apart_spec hap
 have keep : ∀ (a : Act), Gives P ops S oi v a → ∀ u, Gives P ops S oi v (a.put oj.dst u) := fun a hy u =>
  Gives.of_same (fun b => b.put oj.dst u) (fun u' => Act.put_comm a u' u h2) hy (execOp_put oi hsi a oj.dst u h3) (wanted_put oi a oj.dst u h3)
 have keepD : ∀ d, Gives P ops S oi v { a with defers := d :: a.defers } := fun d =>
  Gives.of_same (fun b => { b with defers := d :: b.defers }) (fun u' => by rw [Act.put_defers]) hy rfl rfl
 unfold wpOp at *
 simp only [hj] at *
 rw [wanted_put oj a oi.dst v h1] at h
 split
 ·rename_i hw
  simp only [hw, if_true] at h
  rcases h with h | ⟨hasks, hlets⟩
  case inr => exact .inr ⟨by unfold Oper.asks at *; rw [execOp_put oj hsj a oi.dst v h1] at hasks; exact hasks, hlets⟩
  refine .inl ?_
  unfold Oper.wp at *
  rw [execOp_put oj hsj a oi.dst v h1] at h
  generalize (execOp a.eval oj).run P w = r at *
  cases r with
  | ok n w' =>
   cases n <;> simp only [Oper.upon] at h ⊢
   case value u => exact ⟨keep a hy u, by rw [← Act.put_comm a v u h2]; exact h⟩
   case skip => exact ⟨keep a hy _, by rw [← Act.put_comm a v undef h2]; exact h⟩
   case defer d =>
    refine ⟨keep _ (keepD d) _, ?_⟩
    rw [← Act.put_comm _ v undef h2, ← Act.put_defers]
    exact h
   case enter f args =>
    refine Calls.mono h fun e w'' he => ?_
    cases e with
    | returned u => exact ⟨keep a hy u, by rw [← Act.put_comm a v u h2]; exact he⟩
    | panicked c => exact hQ _ _ _ he
    | outgrown => exact he
   case row row args => exact Rows.mono h fun u w'' he => ⟨keep a hy u, by rw [← Act.put_comm a v u h2]; exact he⟩
  | halt x w' =>
   cases x <;> simp only [Oper.upon] at h ⊢
   case panic u => exact hQ _ _ _ h
 ·rename_i hw
  simp only [hw] at h
  exact ⟨keep a hy _, by rw [← Act.put_comm a v undef h2]; exact h⟩
def wpAnyG (P : Program) (md : Region.Mode) (ops : Array Oper) (Q : Exit → Act → World → Prop) (S : World → Prop) : Nat → Array Bool → Act → World → Prop
 | 0, listed, a, W => Region.ready md ops listed = [] ∧ ∀ w, Gr W w → Q .normal a w
 | fuel + 1, listed, a, W => (Region.ready md ops listed = [] → ∀ w, Gr W w → Q .normal a w) ∧
  ∀ i ∈ Region.ready md ops listed, ∀ w, Gr W w → wpOp P ops Q i (fun a' w' => S w' ∧ wpAnyG P md ops Q S fuel (listed.setIfInBounds i true) a' w') a w
theorem wpAnyG.up {fuel : Nat} {listed : Array Bool} {a : Act} {W W' : World} (h : wpAnyG P md ops Q S fuel listed a W) (hg : Gr W W') : wpAnyG P md ops Q S fuel listed a W' := by
 cases fuel with
 | zero => exact ⟨h.1, fun w hw => h.2 w (hg.tr hw)⟩
 | succ n => exact ⟨fun hr w hw => h.1 hr w (hg.tr hw), fun i hi w hw => h.2 i hi w (hg.tr hw)⟩
theorem wpAny_of_G : ∀ (fuel : Nat) (listed : Array Bool) (a : Act) (w : World), wpAnyG P md ops Q S fuel listed a w → wpAny P md ops Q fuel listed a w
 | 0, _, _, w, h => ⟨h.1, h.2 w (Below.refl _ _)⟩
 | fuel + 1, _, _, w, h => ⟨fun hr => h.1 hr w (Below.refl _ _), fun i hi => wpOp_mono (fun a' w' h' => wpAny_of_G fuel _ a' w' h'.2) (h.2 i hi w (Below.refl _ _))⟩
theorem wpAnyG_first (hSG : ∀ w w', S w → Gr w w' → S w') {i : Nat} {oi : Oper} {v : Value} (hi : ops[i]? = some oi) (hsel : ∀ (j : Nat) (o : Oper) cs b, ops[j]? = some o → o.op ≠ .select cs b)
  (hQ : ∀ c a w, Q (.panic c) (a.put oi.dst v) w → Q (.panic c) a w) :
  ∀ (fuel : Nat) (listed : Array Bool) (a : Act) (W : World),
   (∀ j oj, ops[j]? = some oj → j ≠ i → listed.getD j true = false → (∀ e ∈ oj.after, Region.binds md e = true → e.on ≠ i) → oi.apart ops oj = true) →
   i ∈ Region.ready md ops listed → Gives P ops S oi v a → S W →
   wpAnyG P md ops Q S fuel (listed.setIfInBounds i true) (a.put oi.dst v) W → wpAnyG P md ops Q S (fuel + 1) listed a W := by
 intro fuel
 induction fuel with
 | zero =>
  intro listed a W _ hr hy hS H
  refine ⟨fun h => (by rw [h] at hr; cases hr), fun j hj w hw => ?_⟩
  by_cases hji : j = i
  ·subst hji; exact hy.wpOp hi (hSG _ _ hS hw) (fun w' hw' => ⟨hSG _ _ hS (hw.tr hw'), H.up (hw.tr hw')⟩)
  ·have := ready_mono hj hji
   rw [H.1] at this
   cases this
 | succ fuel ih =>
  intro listed a W hfree hr hy hS H
  refine ⟨fun h => (by rw [h] at hr; cases hr), fun j hj w hw => ?_⟩
  by_cases hji : j = i
  ·subst hji; exact hy.wpOp hi (hSG _ _ hS hw) (fun w' hw' => ⟨hSG _ _ hS (hw.tr hw'), H.up (hw.tr hw')⟩)
  ·have h1 := H.2 j (ready_mono hj hji) w hw
   obtain ⟨hjun, oj, hoj, hall⟩ := mem_ready.1 hj
   have hnot : ∀ e ∈ oj.after, Region.binds md e = true → e.on ≠ i := fun e he hb heq => by
    have h1 := hall e he hb
    have h0 := (mem_ready.1 hr).1
    rw [heq] at h1
    rcases Nat.lt_or_ge i listed.size with h' | h'
    ·simp [h'] at h0 h1; rw [h0] at h1; cases h1
    ·simp [Array.getElem?_eq_none h'] at h1
   have h2 := wpOp_putG hoj (hfree j oj hoj hji hjun hnot) (fun cs b => hsel i oi cs b hi) (fun cs b => hsel j oj cs b hoj) hQ hy h1
   have hfree' : ∀ k ok, ops[k]? = some ok → k ≠ i → (listed.setIfInBounds j true).getD k true = false →
     (∀ e ∈ ok.after, Region.binds md e = true → e.on ≠ i) → oi.apart ops ok = true := fun k ok hk hki hun hno => by
    refine hfree k ok hk hki ?_ hno
    by_cases hjk : j = k
    ·subst hjk; exact hjun
    ·rw [getD_set_ne true hjk] at hun; exact hun
   refine wpOp_mono (fun a' w' h3 => ⟨h3.2.1, ih (listed.setIfInBounds j true) a' w' hfree' (ready_mono hr (Ne.symm hji)) h3.1 h3.2.1 ?_⟩) h2
   rw [Array.setIfInBounds_comm _ _ hji]
   exact h3.2.2
theorem wpAnyG_take (hSG : Hid (∀ w w', S w → Gr w w' → S w')) {i : Nat} {oi : Oper} {v : Value} {fuel : Nat} {listed : Array Bool} {a : Act} {W : World} (hi : ops[i]? = some oi)
  (hs : Region.noSelect ops = true) (hf : Region.free md ops listed i = true) (hr : (Region.ready md ops listed).contains i = true)
  (hQ : ∀ c a w, Q (.panic c) (a.put oi.dst v) w → Q (.panic c) a w) (hy : Gives P ops S oi v a) (hS : Hid (S W))
  (h : wpAnyG P md ops Q S fuel (listed.setIfInBounds i true) (a.put oi.dst v) W) : wpAnyG P md ops Q S (fuel + 1) listed a W :=
 wpAnyG_first hSG.out hi (Region.noSelect_spec hs) hQ fuel listed a W (Region.free_spec hi hf) (by simpa using hr) hy hS.out h
theorem wpAnyG_done {listed : Array Bool} {a : Act} {W : World} (hr : Region.ready md ops listed = []) (h : ∀ w, Gr W w → Q .normal a w) : ∀ fuel, wpAnyG P md ops Q S fuel listed a W
 | 0 => ⟨hr, h⟩
 | _ + 1 => ⟨fun _ => h, by rw [hr]; simp⟩
def AllG (P : Program) (md : Region.Mode) (ops : Array Oper) (Q : Exit → Act → World → Prop) (S : World → Prop) (fuel : Nat) (listed : Array Bool) (a : Act) (W : World) (rs : List Nat) : Prop :=
 ∀ i ∈ rs, ∀ w, Gr W w → wpOp P ops Q i (fun a' w' => S w' ∧ wpAnyG P md ops Q S fuel (listed.setIfInBounds i true) a' w') a w
theorem AllG.nil {fuel : Nat} {listed : Array Bool} {a : Act} {W : World} : AllG P md ops Q S fuel listed a W [] := fun _ h => by cases h
theorem AllG.cons {i : Nat} {o : Oper} {rs : List Nat} {fuel : Nat} {listed : Array Bool} {a : Act} {W : World} (ho : ops[i]? = some o)
  (h : ∀ w, Gr W w → ∀ K' : Act → World → Prop, Shut (∀ a w, S w → (Hid (S w) → wpAnyG P md ops Q S fuel (listed.setIfInBounds i true) a w) → K' a w) → if Region.wanted o (yielded ops a.tmps) = true then Oper.wp P o a w K' Q else K' (a.put o.dst undef) w)
  (hs : AllG P md ops Q S fuel listed a W rs) : AllG P md ops Q S fuel listed a W (i :: rs) := by
 intro j hj w hw
 rcases List.mem_cons.1 hj with rfl | hj
 ·exact wpOp_step ho (fun K' hK => h w hw K' (fun a w hS hW => hK a w ⟨hS, hW hS⟩))
 ·exact hs j hj w hw
theorem wpAnyG_ready {rs : List Nat} {fuel : Nat} {listed : Array Bool} {a : Act} {W : World} (hr : Region.ready md ops listed = rs) (hne : rs ≠ [])
  (h : AllG P md ops Q S fuel listed a W rs) : wpAnyG P md ops Q S (fuel + 1) listed a W := ⟨fun h0 => absurd (hr ▸ h0) hne, hr ▸ h⟩
theorem grCell {w w' : World} (hg : Gr w w') {p : Addr} {v : Value} (h : w.cell? p = some v) : w'.cell? p = some v := (World.cell?_of_block (hg.block _ (World.block_lt_of_cell? _ _ h))).trans h
theorem grBlk {w w' : World} (hg : Gr w w') {b : Nat} {o : Obj} (h : w.heap[b]? = some o) : w'.heap[b]? = some o := (hg.block _ (Array.getElem?_eq_some_iff.1 h).1).trans h
theorem grAlloc (w : World) (o : Obj) : Gr w (w.alloc o) := (Below.refl _ _).alloc (Nat.le_refl _) o
theorem grDrew (w : World) : Gr w w.drew := (Below.refl _ _).drew
theorem wp_region_G {id : Nat} {a : Act} {w : World} (hm : P.follows .mixedOrders = true) (hS : S w.drew)
  (h : Hid (S w.drew) → wpAnyG P .any ops Q S ops.size (Array.replicate ops.size false) a w.drew) : (Code.region id ops true).wp P Q a w :=
 wp_region_any hm (wpAny_of_G _ _ _ _ (h hS))
def okB (md : Region.Mode) (ops : Array Oper) (listed : Array Bool) (i : Nat) : Bool := Region.noSelect ops && (Region.free md ops listed i && (Region.ready md ops listed).contains i)
theorem okB_iff {md : Region.Mode} {ops : Array Oper} {listed : Array Bool} {i : Nat} (h : okB md ops listed i = true) : Region.noSelect ops = true ∧ Region.free md ops listed i = true ∧ (Region.ready md ops listed).contains i = true := by
 unfold okB at h
 rw [Bool.and_eq_true, Bool.and_eq_true] at h
 exact h
theorem tk (hSG : Hid (∀ w w', S w → Gr w w' → S w')) (i : Nat) {oi : Oper} {v : Value} {fuel : Nat} {listed : Array Bool} {a : Act} {W : World} (hi : ops[i]? = some oi) (ho : okB md ops listed i = true)
  (hQ : ∀ c a w, Q (.panic c) (a.put oi.dst v) w → Q (.panic c) a w) (hw : Region.wanted oi (yielded ops a.tmps) = true) (hy : ∀ w, S w → (execOp a.eval oi).run P w = .ok (.value v) w) (hS : Hid (S W))
  (h : wpAnyG P md ops Q S fuel (listed.setIfInBounds i true) (a.put oi.dst v) W) : wpAnyG P md ops Q S (fuel + 1) listed a W :=
 wpAnyG_take hSG hi (okB_iff ho).1 (okB_iff ho).2.1 (okB_iff ho).2.2 hQ (YieldsIf.gives (Or.inl ⟨hw, hy⟩)) hS h
theorem tn (hSG : Hid (∀ w w', S w → Gr w w' → S w')) (i : Nat) {oi : Oper} {fuel : Nat} {listed : Array Bool} {a : Act} {W : World} (hi : ops[i]? = some oi) (ho : okB md ops listed i = true)
  (hQ : ∀ c a w, Q (.panic c) (a.put oi.dst undef) w → Q (.panic c) a w) (hw : Region.wanted oi (yielded ops a.tmps) = false) (hS : Hid (S W))
  (h : wpAnyG P md ops Q S fuel (listed.setIfInBounds i true) (a.put oi.dst undef) W) : wpAnyG P md ops Q S (fuel + 1) listed a W :=
 wpAnyG_take hSG hi (okB_iff ho).1 (okB_iff ho).2.1 (okB_iff ho).2.2 hQ (Or.inr ⟨hw, rfl⟩) hS h
theorem tc (hSG : Hid (∀ w w', S w → Gr w w' → S w')) (i : Nat) {oi : Oper} {v : Value} {fuel : Nat} {listed : Array Bool} {a : Act} {W : World} (hi : ops[i]? = some oi) (ho : okB md ops listed i = true)
  (hQ : ∀ c a w, Q (.panic c) (a.put oi.dst v) w → Q (.panic c) a w) (hw : Region.wanted oi (yielded ops a.tmps) = true) (hy : ∀ w, S w → ∀ K : Act → World → Prop, Shut (∀ w', Gr w w' → K (a.put oi.dst v) w') → Oper.wp P oi a w K NoWay) (hS : Hid (S W))
  (h : wpAnyG P md ops Q S fuel (listed.setIfInBounds i true) (a.put oi.dst v) W) : wpAnyG P md ops Q S (fuel + 1) listed a W :=
 wpAnyG_take hSG hi (okB_iff ho).1 (okB_iff ho).2.1 (okB_iff ho).2.2 hQ (Or.inl ⟨hw, hy⟩) hS h
end
theorem zq1 {α : Type _} {xs : List α} {i : Nat} (h : i < xs.toArray.size) : xs.toArray[i] = xs[i] := rfl
theorem zq2 {α : Type _} (a : α) (l : List α) (i : Nat) (h : i + 1 < (a :: l).length) : (a :: l)[i + 1] = l[i]'(Nat.lt_of_succ_lt_succ h) := rfl
theorem zq3 {α : Type _} (a : α) (l : List α) (h : 0 < (a :: l).length) : (a :: l)[0] = a := rfl
theorem zq4 {α : Type _} (l : List α) (i : Nat) (a : α) : l.toArray.setIfInBounds i a = (l.set i a).toArray := List.setIfInBounds_toArray l i a
theorem zq5 {α : Type _} {x : α} {xs : List α} {a : α} : (x :: xs).set 0 a = a :: xs := rfl
theorem zq6 {α : Type _} {x : α} {xs : List α} {i : Nat} {a : α} : (x :: xs).set (i + 1) a = x :: xs.set i a := rfl
end Go.Proofs.YtljknappbnoikaaGreatDoor
namespace Go.Proofs.YtljknappbnoikaaGreatDoor
open Go.RowKit
section
variable {P : Program} {ops : Array Oper} {Q : Exit → Act → World → Prop} {md : Region.Mode} {S : World → Prop} {X : List Nat}
def wpAnyX (P : Program) (md : Region.Mode) (ops : Array Oper) (Q : Exit → Act → World → Prop) (S : World → Prop) (X : List Nat) : Nat → Array Bool → Act → World → Prop
 | 0, listed, a, W => Region.ready md ops listed = [] ∧ ∀ w, Gr W w → Q .normal a w
 | fuel + 1, listed, a, W => (Region.ready md ops listed = [] → ∀ w, Gr W w → Q .normal a w) ∧
  ∀ i ∈ Region.ready md ops listed, ∀ w, Gr W w → wpOp P ops Q i (fun a' w' => (X.contains i = true ∨ S w') ∧ wpAnyX P md ops Q S X fuel (listed.setIfInBounds i true) a' w') a w
theorem wpAnyX.up {fuel : Nat} {listed : Array Bool} {a : Act} {W W' : World} (h : wpAnyX P md ops Q S X fuel listed a W) (hg : Gr W W') : wpAnyX P md ops Q S X fuel listed a W' := by
 cases fuel with
 | zero => exact ⟨h.1, fun w hw => h.2 w (hg.tr hw)⟩
 | succ n => exact ⟨fun hr w hw => h.1 hr w (hg.tr hw), fun i hi w hw => h.2 i hi w (hg.tr hw)⟩
theorem wpAny_of_X : ∀ (fuel : Nat) (listed : Array Bool) (a : Act) (w : World), wpAnyX P md ops Q S X fuel listed a w → wpAny P md ops Q fuel listed a w
 | 0, _, _, w, h => ⟨h.1, h.2 w (Below.refl _ _)⟩
 | fuel + 1, _, _, w, h => ⟨fun hr => h.1 hr w (Below.refl _ _), fun i hi => wpOp_mono (fun a' w' h' => wpAny_of_X fuel _ a' w' h'.2) (h.2 i hi w (Below.refl _ _))⟩
def Waits (md : Region.Mode) (ops : Array Oper) (i : Nat) (listed : Array Bool) (C : List Nat) : Prop :=
 ∀ m ∈ C, m ≠ i ∧ listed.getD m true = false ∧ ∃ om, ops[m]? = some om ∧ ∃ e ∈ om.after, Region.binds md e = true ∧ (e.on = i ∨ e.on ∈ C)
theorem Waits.not_ready {i j : Nat} {listed : Array Bool} {C : List Nat} (h : Waits md ops i listed C) (hi : listed.getD i true = false) (hj : j ∈ Region.ready md ops listed) : j ∉ C := by
 intro hc
 obtain ⟨-, oj, hoj, hall⟩ := mem_ready.1 hj
 obtain ⟨-, -, om, hom, e, he, hb, hon⟩ := h j hc
 rw [hoj] at hom
 cases hom
 have h1 := hall e he hb
 have h0 : listed.getD e.on true = false := by
  rcases hon with h2 | h2
  ·rw [h2]; exact hi
  ·exact (h _ h2).2.1
 rcases Nat.lt_or_ge e.on listed.size with h' | h'
 ·simp [h'] at h0 h1; rw [h0] at h1; cases h1
 ·simp [Array.getElem?_eq_none h'] at h1
theorem Waits.step {i j : Nat} {listed : Array Bool} {C : List Nat} (h : Waits md ops i listed C) (hj : j ∉ C) : Waits md ops i (listed.setIfInBounds j true) C := fun m hm => by
 obtain ⟨h1, h2, h3⟩ := h m hm
 refine ⟨h1, ?_, h3⟩
 have hne : j ≠ m := fun e => hj (e ▸ hm)
 rw [getD_set_ne true hne]
 exact h2
theorem wpAnyX_first (hSG : ∀ w w', S w → Gr w w' → S w') {i : Nat} {oi : Oper} {v : Value} {C : List Nat} (hi : ops[i]? = some oi) (hsel : ∀ (j : Nat) (o : Oper) cs b, ops[j]? = some o → o.op ≠ .select cs b)
  (hQ : ∀ c a w, Q (.panic c) (a.put oi.dst v) w → Q (.panic c) a w) (hxi : X.contains i = false) :
  ∀ (fuel : Nat) (listed : Array Bool) (a : Act) (W : World), Waits md ops i listed C → (∀ j, X.contains j = true → j ∈ C ∨ listed.getD j true = true) →
   (∀ j oj, ops[j]? = some oj → j ≠ i → listed.getD j true = false → (∀ e ∈ oj.after, Region.binds md e = true → e.on ≠ i) → oi.apart ops oj = true) →
   i ∈ Region.ready md ops listed → Gives P ops S oi v a → S W →
   wpAnyX P md ops Q S X fuel (listed.setIfInBounds i true) (a.put oi.dst v) W → wpAnyX P md ops Q S X (fuel + 1) listed a W := by
 intro fuel
 induction fuel with
 | zero =>
  intro listed a W hC hX _ hr hy hS H
  refine ⟨fun h => (by rw [h] at hr; cases hr), fun j hj w hw => ?_⟩
  by_cases hji : j = i
  ·subst hji; exact hy.wpOp hi (hSG _ _ hS hw) (fun w' hw' => ⟨.inr (hSG _ _ hS (hw.tr hw')), H.up (hw.tr hw')⟩)
  ·have := ready_mono hj hji
   rw [H.1] at this
   cases this
 | succ fuel ih =>
  intro listed a W hC hX hfree hr hy hS H
  refine ⟨fun h => (by rw [h] at hr; cases hr), fun j hj w hw => ?_⟩
  by_cases hji : j = i
  ·subst hji; exact hy.wpOp hi (hSG _ _ hS hw) (fun w' hw' => ⟨.inr (hSG _ _ hS (hw.tr hw')), H.up (hw.tr hw')⟩)
  ·have h1 := H.2 j (ready_mono hj hji) w hw
   obtain ⟨hjun, oj, hoj, hall⟩ := mem_ready.1 hj
   have hi0 := (mem_ready.1 hr).1
   have hjC := hC.not_ready hi0 hj
   have hjX : X.contains j = false := by
    rcases hx : X.contains j with _ | _
    ·rfl
    ·rcases hX j hx with h' | h'
     ·exact absurd h' hjC
     ·rw [hjun] at h'; cases h'
   have hnot : ∀ e ∈ oj.after, Region.binds md e = true → e.on ≠ i := fun e he hb heq => by
    have h1 := hall e he hb
    have h0 := hi0
    rw [heq] at h1
    rcases Nat.lt_or_ge i listed.size with h' | h'
    ·simp [h'] at h0 h1; rw [h0] at h1; cases h1
    ·simp [Array.getElem?_eq_none h'] at h1
   have h2 := wpOp_putG hoj (hfree j oj hoj hji hjun hnot) (fun cs b => hsel i oi cs b hi) (fun cs b => hsel j oj cs b hoj) hQ hy h1
   have hfree' : ∀ k ok, ops[k]? = some ok → k ≠ i → (listed.setIfInBounds j true).getD k true = false →
     (∀ e ∈ ok.after, Region.binds md e = true → e.on ≠ i) → oi.apart ops ok = true := fun k ok hk hki hun hno => by
    refine hfree k ok hk hki ?_ hno
    by_cases hjk : j = k
    ·subst hjk; exact hjun
    ·rw [getD_set_ne true hjk] at hun; exact hun
   have hX' : ∀ k, X.contains k = true → k ∈ C ∨ (listed.setIfInBounds j true).getD k true = true := fun k hk => by
    by_cases hjk : j = k
    ·subst hjk; rw [hjX] at hk; cases hk
    ·rw [getD_set_ne true hjk]; exact hX k hk
   refine wpOp_mono (fun a' w' h3 => ?_) h2
   have hSw : S w' := h3.2.1.resolve_left (by rw [hjX]; decide)
   refine ⟨.inr hSw, ih (listed.setIfInBounds j true) a' w' (hC.step hjC) hX' hfree' (ready_mono hr (Ne.symm hji)) h3.1 hSw ?_⟩
   rw [Array.setIfInBounds_comm _ _ hji]
   exact h3.2.2
def waitsB (md : Region.Mode) (ops : Array Oper) (listed : Array Bool) (i : Nat) (C : List Nat) : Bool :=
 C.all (fun m => m != i && (!(listed.getD m true) && (match ops[m]? with | none => false | some om => om.after.any (fun e => Region.binds md e && (e.on == i || C.contains e.on)))))
theorem waitsB_spec {i : Nat} {listed : Array Bool} {C : List Nat} (h : waitsB md ops listed i C = true) : Waits md ops i listed C := fun m hm => by
 have h1 := List.all_eq_true.1 h m hm
 simp only [Bool.and_eq_true, bne_iff_ne, ne_eq, Bool.not_eq_true'] at h1
 obtain ⟨h2, h3, h4⟩ := h1
 refine ⟨h2, h3, ?_⟩
 rcases ho : ops[m]? with _ | om
 ·rw [ho] at h4; cases h4
 ·rw [ho] at h4
  obtain ⟨j, hj, hj2⟩ := Array.any_eq_true.1 h4
  refine ⟨om, rfl, om.after[j], Array.getElem_mem hj, ?_⟩
  simp only [Bool.and_eq_true, Bool.or_eq_true, beq_iff_eq, List.contains_iff_mem] at hj2
  exact hj2
def takeOkX (md : Region.Mode) (ops : Array Oper) (listed : Array Bool) (i : Nat) (C X : List Nat) : Bool :=
 waitsB md ops listed i C && (X.all (fun j => C.contains j || listed.getD j true) && !(X.contains i))
theorem wpAnyX_take (hSG : Hid (∀ w w', S w → Gr w w' → S w')) {i : Nat} (C : List Nat) {oi : Oper} {v : Value} {fuel : Nat} {listed : Array Bool} {a : Act} {W : World} (hi : ops[i]? = some oi)
  (hs : Region.noSelect ops = true) (hf : Region.free md ops listed i = true) (hr : (Region.ready md ops listed).contains i = true) (hx : takeOkX md ops listed i C X = true)
  (hQ : ∀ c a w, Q (.panic c) (a.put oi.dst v) w → Q (.panic c) a w) (hy : Gives P ops S oi v a) (hS : Hid (S W))
  (h : wpAnyX P md ops Q S X fuel (listed.setIfInBounds i true) (a.put oi.dst v) W) : wpAnyX P md ops Q S X (fuel + 1) listed a W := by
 simp only [takeOkX, Bool.and_eq_true, Bool.not_eq_true', List.all_eq_true, Bool.or_eq_true, List.contains_iff_mem] at hx
 obtain ⟨h1, h2, h3⟩ := hx
 exact wpAnyX_first hSG.out hi (Region.noSelect_spec hs) hQ h3 fuel listed a W (waitsB_spec h1) (fun j hj => h2 j (by simpa using hj)) (Region.free_spec hi hf) (by simpa using hr) hy hS.out h
theorem wpAnyX_done {listed : Array Bool} {a : Act} {W : World} (hr : Region.ready md ops listed = []) (h : ∀ w, Gr W w → Q .normal a w) : ∀ fuel, wpAnyX P md ops Q S X fuel listed a W
 | 0 => ⟨hr, h⟩
 | _ + 1 => ⟨fun _ => h, by rw [hr]; simp⟩
theorem wpAnyX_one {i : Nat} {o : Oper} {fuel : Nat} {listed : Array Bool} {a : Act} {W : World} (hr : Region.ready md ops listed = [i]) (ho : ops[i]? = some o)
  (h : ∀ w, Gr W w → ∀ K' : Act → World → Prop, Shut (∀ a w, S w → (Hid (S w) → wpAnyX P md ops Q S X fuel (listed.setIfInBounds i true) a w) → K' a w) → if Region.wanted o (yielded ops a.tmps) = true then Oper.wp P o a w K' Q else K' (a.put o.dst undef) w) :
  wpAnyX P md ops Q S X (fuel + 1) listed a W := by
 refine ⟨fun h0 => ?_, fun j hj w hw => ?_⟩
 ·rw [hr] at h0; cases h0
 ·rw [hr] at hj
  obtain rfl : j = i := by simpa using hj
  exact wpOp_step ho (fun K' hK => h w hw K' (fun a w hS hW => hK a w ⟨.inr hS, hW hS⟩))
theorem wpAnyX_oneX {i : Nat} {o : Oper} {fuel : Nat} {listed : Array Bool} {a : Act} {W : World} (hr : Region.ready md ops listed = [i]) (hx : X.contains i = true) (ho : ops[i]? = some o)
  (h : ∀ w, Gr W w → ∀ K' : Act → World → Prop, Shut (∀ a w, wpAnyX P md ops Q S X fuel (listed.setIfInBounds i true) a w → K' a w) → if Region.wanted o (yielded ops a.tmps) = true then Oper.wp P o a w K' Q else K' (a.put o.dst undef) w) :
  wpAnyX P md ops Q S X (fuel + 1) listed a W := by
 refine ⟨fun h0 => ?_, fun j hj w hw => ?_⟩
 ·rw [hr] at h0; cases h0
 ·rw [hr] at hj
  obtain rfl : j = i := by simpa using hj
  exact wpOp_step ho (fun K' hK => h w hw K' (fun a w hW => hK a w ⟨.inl hx, hW⟩))
theorem wp_region_X (X : List Nat) {id : Nat} {a : Act} {w : World} (hm : P.follows .mixedOrders = true) (hS : S w.drew)
  (h : Hid (S w.drew) → wpAnyX P .any ops Q S X ops.size (Array.replicate ops.size false) a w.drew) : (Code.region id ops true).wp P Q a w :=
 wp_region_any hm (wpAny_of_X _ _ _ _ (h hS))
theorem xk (hSG : Hid (∀ w w', S w → Gr w w' → S w')) (i : Nat) (C : List Nat) {oi : Oper} {v : Value} {fuel : Nat} {listed : Array Bool} {a : Act} {W : World} (hi : ops[i]? = some oi) (ho : (okB md ops listed i && takeOkX md ops listed i C X) = true)
  (hQ : ∀ c a w, Q (.panic c) (a.put oi.dst v) w → Q (.panic c) a w) (hw : Region.wanted oi (yielded ops a.tmps) = true) (hy : ∀ w, S w → (execOp a.eval oi).run P w = .ok (.value v) w) (hS : Hid (S W))
  (h : wpAnyX P md ops Q S X fuel (listed.setIfInBounds i true) (a.put oi.dst v) W) : wpAnyX P md ops Q S X (fuel + 1) listed a W :=
 wpAnyX_take hSG C hi (okB_iff (Bool.and_eq_true_iff.1 ho).1).1 (okB_iff (Bool.and_eq_true_iff.1 ho).1).2.1 (okB_iff (Bool.and_eq_true_iff.1 ho).1).2.2 (Bool.and_eq_true_iff.1 ho).2 hQ (YieldsIf.gives (Or.inl ⟨hw, hy⟩)) hS h
theorem xn (hSG : Hid (∀ w w', S w → Gr w w' → S w')) (i : Nat) (C : List Nat) {oi : Oper} {fuel : Nat} {listed : Array Bool} {a : Act} {W : World} (hi : ops[i]? = some oi) (ho : (okB md ops listed i && takeOkX md ops listed i C X) = true)
  (hQ : ∀ c a w, Q (.panic c) (a.put oi.dst undef) w → Q (.panic c) a w) (hw : Region.wanted oi (yielded ops a.tmps) = false) (hS : Hid (S W))
  (h : wpAnyX P md ops Q S X fuel (listed.setIfInBounds i true) (a.put oi.dst undef) W) : wpAnyX P md ops Q S X (fuel + 1) listed a W :=
 wpAnyX_take hSG C hi (okB_iff (Bool.and_eq_true_iff.1 ho).1).1 (okB_iff (Bool.and_eq_true_iff.1 ho).1).2.1 (okB_iff (Bool.and_eq_true_iff.1 ho).1).2.2 (Bool.and_eq_true_iff.1 ho).2 hQ (Or.inr ⟨hw, rfl⟩) hS h
theorem xc (hSG : Hid (∀ w w', S w → Gr w w' → S w')) (i : Nat) (C : List Nat) {oi : Oper} {v : Value} {fuel : Nat} {listed : Array Bool} {a : Act} {W : World} (hi : ops[i]? = some oi) (ho : (okB md ops listed i && takeOkX md ops listed i C X) = true)
  (hQ : ∀ c a w, Q (.panic c) (a.put oi.dst v) w → Q (.panic c) a w) (hw : Region.wanted oi (yielded ops a.tmps) = true) (hy : ∀ w, S w → ∀ K : Act → World → Prop, Shut (∀ w', Gr w w' → K (a.put oi.dst v) w') → Oper.wp P oi a w K NoWay) (hS : Hid (S W))
  (h : wpAnyX P md ops Q S X fuel (listed.setIfInBounds i true) (a.put oi.dst v) W) : wpAnyX P md ops Q S X (fuel + 1) listed a W :=
 wpAnyX_take hSG C hi (okB_iff (Bool.and_eq_true_iff.1 ho).1).1 (okB_iff (Bool.and_eq_true_iff.1 ho).1).2.1 (okB_iff (Bool.and_eq_true_iff.1 ho).1).2.2 (Bool.and_eq_true_iff.1 ho).2 hQ (Or.inl ⟨hw, hy⟩) hS h
end
end Go.Proofs.YtljknappbnoikaaGreatDoor
namespace Go.Proofs.YtljknappbnoikaaGreatDoor
open Go.RowKit
namespace K
theorem gbRefl (w : World) (r : Option Nat) : w.grownBy w r := ⟨rfl, rfl, rfl, Nat.le_refl _, fun _ _ _ => rfl⟩
theorem gbSet {w w' : World} {b i : Nat} {v : Value} (h : w.grownBy w' (some b)) : w.grownBy (w'.setCell ⟨b, i, none⟩ v) (some b) :=
 ⟨h.os, h.tape, h.output, by simpa using h.size, fun k hk hn => (heap_setCell_other w' _ k v (fun e => hn (by rw [e]))).trans (h.block k hk hn)⟩
theorem gbAlloc {w w' : World} {r : Option Nat} {o : Obj} (h : w.grownBy w' r) : w.grownBy (w'.alloc o) r :=
 ⟨h.os, h.tape, h.output, by have := h.size; simp; omega, fun k hk hn => (Below.heap_alloc w' o k (Nat.lt_of_lt_of_le hk h.size)).trans (h.block k hk hn)⟩
theorem gbTrans {a b c : World} {r : Option Nat} (h : a.grownBy b r) (k : b.grownBy c r) : a.grownBy c r :=
 ⟨k.os.trans h.os, k.tape.trans h.tape, k.output.trans h.output, Nat.le_trans h.size k.size, fun i hi hn => (k.block i (Nat.lt_of_lt_of_le hi h.size) hn).trans (h.block i hi hn)⟩
theorem gbBelow {a b : World} {B : Nat} {r : Option Nat} (h : a.grownBy b r) (hB : B ≤ a.heap.size) (hr : ∀ k, r = some k → B ≤ k) : Below B a b :=
 ⟨h.os, h.tape, h.output, h.size, fun i hi => h.block i (by omega) (fun e => by have := hr i e.symm; omega)⟩
theorem gbGr {a b : World} {r : Option Nat} (h : Gr a b) : a.grownBy b r := ⟨h.os, h.tape, h.output, h.size, fun i hi _ => h.block i hi⟩
theorem blkLt {w : World} {b : Nat} {o : Obj} (h : w.heap[b]? = some o) : b < w.heap.size := (Array.getElem?_eq_some_iff.1 h).1
def SS (v : Value) (w : World) (e : Ending) (w' : World) : Prop := e = .returned v ∧ w' = w
def GG (v : Value) (w : World) (e : Ending) (w' : World) : Prop := e = .returned v ∧ Gr w w'
def InAt (w : World) (g o : Nat) (x : In) : Prop := w.cell? ⟨g, o, none⟩ = some (.int .i64 x.op) ∧ w.cell? ⟨g, o + 1, none⟩ = some (.int .i64 x.n) ∧ w.cell? ⟨g, o + 2, none⟩ = some (.int .i64 x.r)
def InsR (w : World) (l : List In) (A : Option Addr) : Prop := l = [] ∨ ∃ g o, A = some ⟨g, o, none⟩ ∧ ∀ (i : Nat) (x : In), l[i]? = some x → InAt w g (o + i * 3) x
theorem InsR.gr {w w' : World} {l : List In} {A : Option Addr} (h : InsR w l A) (hg : Gr w w') : InsR w' l A := by
 rcases h with h | ⟨g, o, hA, h⟩
 ·exact .inl h
 ·exact .inr ⟨g, o, hA, fun i x hx => ⟨grCell hg (h i x hx).1, grCell hg (h i x hx).2.1, grCell hg (h i x hx).2.2⟩⟩
theorem InsR.addr {w : World} {l : List In} {A : Option Addr} (h : InsR w l A) (hn : 0 < l.length) : ∃ g o, A = some ⟨g, o, none⟩ ∧ ∀ (i : Nat) (x : In), l[i]? = some x → InAt w g (o + i * 3) x := by
 rcases h with h | h
 ·subst h; simp at hn
 ·exact h
theorem nBlk (w : World) (o : Obj) (b : Nat) (h : b = w.heap.size) : (w.alloc o).heap[b]? = some o := by
 subst h; exact heap_alloc_new w o
theorem cells2k {w : World} {b : Nat} {v0 v1 : Value} {T : TypeId} (h : w.heap[b]? = some (.cells #[v0, v1] T (0, 0))) : w.cell? ⟨b, 0, none⟩ = some v0 ∧ w.cell? ⟨b, 1, none⟩ = some v1 := by
 have e : ∀ j, w.cell? ⟨b, j, none⟩ = (#[v0, v1] : Array Value)[j]? := fun j => cell_of_row _ _ j _ _ (0, 0) h
 exact ⟨e 0, e 1⟩
theorem cells3k {w : World} {b : Nat} {v0 v1 v2 : Value} {T : TypeId} (h : w.heap[b]? = some (.cells #[v0, v1, v2] T (0, 0))) : w.cell? ⟨b, 0, none⟩ = some v0 ∧ w.cell? ⟨b, 1, none⟩ = some v1 ∧ w.cell? ⟨b, 2, none⟩ = some v2 := by
 have e : ∀ j, w.cell? ⟨b, j, none⟩ = (#[v0, v1, v2] : Array Value)[j]? := fun j => cell_of_row _ _ j _ _ (0, 0) h
 exact ⟨e 0, e 1, e 2⟩
theorem between_any (n lo hi : Int) (w : World) : Calls Tryz.prog 42 #[.int .i64 n, .agg #[.int .i64 lo, .int .i64 hi]] w (GG (.bool (btw2 n (lo, hi))) w) := by
 have HX := Lib.hid (nBlk w (.cells #[.int .i64 lo, .int .i64 hi] 86) _ rfl)
 have HB := Lib.hid (grAlloc w (.cells #[.int .i64 lo, .int .i64 hi] 86))
 obtain ⟨s0, s1⟩ := cells2k HX.out
 unfold btw2
 simp only
 by_cases h1 : lo ≤ n
 ·have t1 : decide (lo ≤ n) = true := decide_eq_true h1
  by_cases h2 : n ≤ hi
  ·have t2 : decide (n ≤ hi) = true := decide_eq_true h2
   rw [t1, t2]
   go_enter Tryz.func42, Tryz.ntmps42
   go_wp2
   go_ret
   exact ⟨rfl, HB.out⟩
  ·have t2 : decide (n ≤ hi) = false := decide_eq_false h2
   rw [t1, t2]
   go_enter Tryz.func42, Tryz.ntmps42
   go_wp2
   go_ret
   exact ⟨rfl, HB.out⟩
 ·have t1 : decide (lo ≤ n) = false := decide_eq_false h1
  rw [t1]
  go_enter Tryz.func42, Tryz.ntmps42
  go_wp2
  go_ret
  exact ⟨rfl, HB.out⟩
abbrev hA (ln : Nat) (A : Option Addr) (lc : Nat) (vars : Int) (HA : Option Addr) (hl hc : Nat) : Array Value := #[.slice A ln lc, .int .i64 vars, .slice HA hl hc]
theorem res2k {w : World} {b : Nat} {v0 v1 x y : Value} {T : TypeId} (h : w.heap[b]? = some (.cells #[v0, v1] T (0, 0))) :
  ((w.setCell ⟨b, 0, none⟩ x).setCell ⟨b, 1, none⟩ y).cell? ⟨b, 0, none⟩ = some x ∧ ((w.setCell ⟨b, 0, none⟩ x).setCell ⟨b, 1, none⟩ y).cell? ⟨b, 1, none⟩ = some y := by
 have g0 : (w.setCell ⟨b, 0, none⟩ x).heap[b]? = some (.cells #[x, v1] T (0, 0)) := by rw [heap_setCell_same w b 0 _ _ _ h]; simp
 have g1 : ((w.setCell ⟨b, 0, none⟩ x).setCell ⟨b, 1, none⟩ y).heap[b]? = some (.cells #[x, y] T (0, 0)) := by rw [heap_setCell_same _ b 1 _ _ _ g0]; simp
 exact cells2k g1
theorem belK {B b i : Nat} {a w : World} {u : Value} (h : Below B a w) (hb : B ≤ b) : Below B a (w.setCell ⟨b, i, none⟩ u) := h.setCell hb _
theorem frz {w : World} {b : Nat} {cs : Array Value} {T : TypeId} (h : w.heap[b]? = some (.cells cs T (0, 0))) (i : Nat) : w.frozen? ⟨b, i, none⟩ = false := by simp [World.frozen?, h]
theorem numbers_any (l : List In) (A : Option Addr) (lc : Nat) (vars : Int) (HA : Option Addr) (hl hc : Nat) (i : Nat) (x : In) (hx : l[i]? = some x) (hlen : l.length ≤ 100000) (hv : -1000 ≤ vars ∧ vars ≤ 1000) (w : World) (hR : InsR w l A) :
  Calls Tryz.prog 43 #[.agg (hA l.length A lc vars HA hl hc), .int .i64 i] w (GG (.agg #[.int .i64 (rgN x i l.length vars).1, .int .i64 (rgN x i l.length vars).2]) w) := by
 have hi : i < l.length := (List.getElem?_eq_some_iff.1 hx).1
 obtain ⟨g, o, rfl, hat⟩ := hR.addr (by omega)
 obtain ⟨e0, -, -⟩ := hat i x hx
 have q1 : IntKind.i64.wrap (vars - 1) = vars - 1 := IntWalk.i64_in _ (by omega)
 have q2 : IntKind.i64.wrap ((i : Int) + 1) = (i : Int) + 1 := IntWalk.i64_in _ (by omega)
 obtain ⟨W2, hW2⟩ : ∃ W2, W2 = (w.alloc (.cells (hA l.length (some ⟨g, o, none⟩) lc vars HA hl hc) 54)).alloc (.cells #[.int .i64 0, .int .i64 0] 86) := ⟨_, rfl⟩
 have HB : Hid (Gr w W2) := Lib.hid (by rw [hW2]; exact (grAlloc _ _).tr (grAlloc _ _))
 have HX : Hid (W2.heap[w.heap.size]? = some (.cells (hA l.length (some ⟨g, o, none⟩) lc vars HA hl hc) 54 (0, 0))) := Lib.hid (by rw [hW2]; exact grBlk (grAlloc _ _) (nBlk _ _ _ rfl))
 have HS : Hid (W2.heap[w.heap.size + 1]? = some (.cells #[.int .i64 0, .int .i64 0] 86 (0, 0))) := Lib.hid (by rw [hW2]; exact nBlk _ _ _ (by simp))
 have e0 := grCell HB.out e0
 obtain ⟨x0, x1, x2⟩ := cells3k HX.out
 obtain ⟨s0, s1⟩ := cells2k HS.out
 have d0 := frz HS.out 0
 have d1 := frz HS.out 1
 have HE := Lib.hid (fun (a b : Value) => belK (i := 1) (u := b) (belK (i := 0) (u := a) HB.out (Nat.le_add_right w.heap.size 1)) (Nat.le_add_right w.heap.size 1))
 have HC := Lib.hid (fun (a b : Value) => res2k (x := a) (y := b) HS.out)
 clear hat hR hx
 unfold rgN
 generalize l.length = ln at *
 by_cases h1 : x.op = 1
 ·rw [if_pos h1]
  have t1 : (x.op == 1) = true := by simp; omega
  have t2 : (x.op == 2) = false := by simp; omega
  have t11 : (x.op == 11) = false := by simp; omega
  have t3 : (x.op == 3) = false := by simp; omega
  have t12 : (x.op == 12) = false := by simp; omega
  have t13 : (x.op == 13) = false := by simp; omega
  clear h1
  go_enter Tryz.func43, Tryz.ntmps43
  go_upto_region 1 with fail
  rw [← hW2]
  clear hW2
  go_wp2
  obtain ⟨f0, f1⟩ := HC.out (.int .i64 (-1000000000000)) (.int .i64 1000000000000)
  exact bodyPost_ret (v := .agg #[.int .i64 (-1000000000000), .int .i64 1000000000000]) (by simp [results, Tryz.results43, go_sem, f0, f1]) rfl ⟨rfl, HE.out _ _⟩
 ·by_cases h2 : x.op = 2
  ·rw [if_neg h1, if_pos (.inl h2)]
   have t1 : (x.op == 1) = false := by simp; omega
   have t2 : (x.op == 2) = true := by simp; omega
   have t11 : (x.op == 11) = false := by simp; omega
   have t3 : (x.op == 3) = false := by simp; omega
   have t12 : (x.op == 12) = false := by simp; omega
   have t13 : (x.op == 13) = false := by simp; omega
   clear h1 h2
   go_enter Tryz.func43, Tryz.ntmps43
   go_upto_region 1 with fail
   rw [← hW2]
   clear hW2
   go_wp2
   obtain ⟨f0, f1⟩ := HC.out (.int .i64 0) (.int .i64 (vars - 1))
   exact bodyPost_ret (v := .agg #[.int .i64 0, .int .i64 (vars - 1)]) (by simp [results, Tryz.results43, go_sem, f0, f1]) rfl ⟨rfl, HE.out _ _⟩
  ·by_cases h11 : x.op = 11
   ·rw [if_neg h1, if_pos (.inr h11)]
    have t1 : (x.op == 1) = false := by simp; omega
    have t2 : (x.op == 2) = false := by simp; omega
    have t11 : (x.op == 11) = true := by simp; omega
    have t3 : (x.op == 3) = false := by simp; omega
    have t12 : (x.op == 12) = false := by simp; omega
    have t13 : (x.op == 13) = false := by simp; omega
    clear h1 h2 h11
    go_enter Tryz.func43, Tryz.ntmps43
    go_upto_region 1 with fail
    rw [← hW2]
    clear hW2
    go_wp2
    obtain ⟨f0, f1⟩ := HC.out (.int .i64 0) (.int .i64 (vars - 1))
    exact bodyPost_ret (v := .agg #[.int .i64 0, .int .i64 (vars - 1)]) (by simp [results, Tryz.results43, go_sem, f0, f1]) rfl ⟨rfl, HE.out _ _⟩
   ·by_cases h3 : x.op = 3
    ·rw [if_neg h1, if_neg (by omega), if_pos h3]
     have t1 : (x.op == 1) = false := by simp; omega
     have t2 : (x.op == 2) = false := by simp; omega
     have t11 : (x.op == 11) = false := by simp; omega
     have t3 : (x.op == 3) = true := by simp; omega
     have t12 : (x.op == 12) = false := by simp; omega
     have t13 : (x.op == 13) = false := by simp; omega
     clear h1 h2 h11 h3
     go_enter Tryz.func43, Tryz.ntmps43
     go_upto_region 1 with fail
     rw [← hW2]
     clear hW2
     go_wp2
     obtain ⟨f0, f1⟩ := HC.out (.int .i64 0) (.int .i64 3)
     exact bodyPost_ret (v := .agg #[.int .i64 0, .int .i64 3]) (by simp [results, Tryz.results43, go_sem, f0, f1]) rfl ⟨rfl, HE.out _ _⟩
    ·by_cases h12 : x.op = 12
     ·rw [if_neg h1, if_neg (by omega), if_neg h3, if_pos (.inl h12)]
      have t1 : (x.op == 1) = false := by simp; omega
      have t2 : (x.op == 2) = false := by simp; omega
      have t11 : (x.op == 11) = false := by simp; omega
      have t3 : (x.op == 3) = false := by simp; omega
      have t12 : (x.op == 12) = true := by simp; omega
      have t13 : (x.op == 13) = false := by simp; omega
      clear h1 h2 h11 h3 h12
      go_enter Tryz.func43, Tryz.ntmps43
      go_upto_region 1 with fail
      rw [← hW2]
      clear hW2
      go_wp2
      obtain ⟨f0, f1⟩ := HC.out (.int .i64 ((i : Int) + 1)) (.int .i64 (ln : Int))
      exact bodyPost_ret (v := .agg #[.int .i64 ((i : Int) + 1), .int .i64 (ln : Int)]) (by simp [results, Tryz.results43, go_sem, f0, f1]) rfl ⟨rfl, HE.out _ _⟩
     ·by_cases h13 : x.op = 13
      ·rw [if_neg h1, if_neg (by omega), if_neg h3, if_pos (.inr h13)]
       have t1 : (x.op == 1) = false := by simp; omega
       have t2 : (x.op == 2) = false := by simp; omega
       have t11 : (x.op == 11) = false := by simp; omega
       have t3 : (x.op == 3) = false := by simp; omega
       have t12 : (x.op == 12) = false := by simp; omega
       have t13 : (x.op == 13) = true := by simp; omega
       clear h1 h2 h11 h3 h12 h13
       go_enter Tryz.func43, Tryz.ntmps43
       go_upto_region 1 with fail
       rw [← hW2]
       clear hW2
       go_wp2
       obtain ⟨f0, f1⟩ := HC.out (.int .i64 ((i : Int) + 1)) (.int .i64 (ln : Int))
       exact bodyPost_ret (v := .agg #[.int .i64 ((i : Int) + 1), .int .i64 (ln : Int)]) (by simp [results, Tryz.results43, go_sem, f0, f1]) rfl ⟨rfl, HE.out _ _⟩
      ·rw [if_neg h1, if_neg (by omega), if_neg h3, if_neg (by omega)]
       have t1 : (x.op == 1) = false := by simp; omega
       have t2 : (x.op == 2) = false := by simp; omega
       have t11 : (x.op == 11) = false := by simp; omega
       have t3 : (x.op == 3) = false := by simp; omega
       have t12 : (x.op == 12) = false := by simp; omega
       have t13 : (x.op == 13) = false := by simp; omega
       clear h1 h2 h11 h3 h12 h13
       go_enter Tryz.func43, Tryz.ntmps43
       go_upto_region 1 with fail
       rw [← hW2]
       clear hW2
       go_wp2
       obtain ⟨f0, f1⟩ := HC.out (.int .i64 0) (.int .i64 0)
       exact bodyPost_ret (v := .agg #[.int .i64 0, .int .i64 0]) (by simp [results, Tryz.results43, go_sem, f0, f1]) rfl ⟨rfl, HE.out _ _⟩
end K
end Go.Proofs.YtljknappbnoikaaGreatDoor
