/- Texts of one proof: DgX, KyC, KyD. -/
import Derived.Test.YtfmjbfpjkilpcaaGreatDoorZa
import Derived.Test.YtfmjbfpjkilpcaaGreatDoorProg
import Derived.StillTailTactics
import Derived.Deep.DeepCutAuto
import Derived.Deep.Cut
import Derived.BigQuiet
import Derived.Deep.QuietTactic
import Derived.WalkSpells
set_option linter.unusedVariables false
set_option linter.unusedSimpArgs false
set_option maxRecDepth 100000
set_option maxHeartbeats 8000000
namespace Go.Proofs.YtfmjbfpjkilpcaaGreatDoor
open Go.RowKit
section
variable {P : Program} {ops : Array Oper} {Q : Exit → Act → World → Prop} {md : Region.Mode} {S : World → Prop} {X : List Nat}
def wpAnyX (P : Program) (md : Region.Mode) (ops : Array Oper) (Q : Exit → Act → World → Prop) (S : World → Prop) (X : List Nat) : Nat → Array Bool → Act → World → Prop
 | 0, listed, a, W => Region.ready md ops listed = [] ∧ ∀ w, Gr W w → Q .normal a w
 | fuel + 1, listed, a, W => (Region.ready md ops listed = [] → ∀ w, Gr W w → Q .normal a w) ∧
  ∀ i ∈ Region.ready md ops listed, ∀ w, Gr W w → wpOp P ops Q i (fun a' w' => (X.contains i = true ∨ S w') ∧ wpAnyX P md ops Q S X fuel (listed.setIfInBounds i true) a' w') a w
theorem wpAnyX.up {fuel : Nat} {listed : Array Bool} {a : Act} {W W' : World} (h : wpAnyX P md ops Q S X fuel listed a W) (hg : Gr W W') : wpAnyX P md ops Q S X fuel listed a W' := by
 cases fuel with
 | zero => exact ⟨h.1, fun w hw => h.2 w (hg.tr hw)⟩
 | succ n => exact ⟨fun hr w hw => h.1 hr w (hg.tr hw), fun i hi w hw => h.2 i hi w (hg.tr hw)⟩
theorem wpAny_of_X : ∀ (fuel : Nat) (listed : Array Bool) (a : Act) (w : World), wpAnyX P md ops Q S X fuel listed a w → wpAny P md ops Q fuel listed a w
 | 0, _, _, w, h => ⟨h.1, h.2 w (Below.refl _ _)⟩
 | fuel + 1, _, _, w, h => ⟨fun hr => h.1 hr w (Below.refl _ _), fun i hi => wpOp_mono (fun a' w' h' => wpAny_of_X fuel _ a' w' h'.2) (h.2 i hi w (Below.refl _ _))⟩
def Waits (md : Region.Mode) (ops : Array Oper) (i : Nat) (listed : Array Bool) (C : List Nat) : Prop :=
 ∀ m ∈ C, m ≠ i ∧ listed.getD m true = false ∧ ∃ om, ops[m]? = some om ∧ ∃ e ∈ om.after, Region.binds md e = true ∧ (e.on = i ∨ e.on ∈ C)
theorem Waits.not_ready {i j : Nat} {listed : Array Bool} {C : List Nat} (h : Waits md ops i listed C) (hi : listed.getD i true = false) (hj : j ∈ Region.ready md ops listed) : j ∉ C := by
 intro hc
 obtain ⟨-, oj, hoj, hall⟩ := mem_ready.1 hj
 obtain ⟨-, -, om, hom, e, he, hb, hon⟩ := h j hc
 rw [hoj] at hom
 cases hom
 have h1 := hall e he hb
 have h0 : listed.getD e.on true = false := by
  rcases hon with h2 | h2
  ·rw [h2]; exact hi
  ·exact (h _ h2).2.1
 rcases Nat.lt_or_ge e.on listed.size with h' | h'
 ·simp [h'] at h0 h1; rw [h0] at h1; cases h1
 ·simp [Array.getElem?_eq_none h'] at h1
theorem Waits.step {i j : Nat} {listed : Array Bool} {C : List Nat} (h : Waits md ops i listed C) (hj : j ∉ C) : Waits md ops i (listed.setIfInBounds j true) C := fun m hm => by
 obtain ⟨h1, h2, h3⟩ := h m hm
 refine ⟨h1, ?_, h3⟩
 have hne : j ≠ m := fun e => hj (e ▸ hm)
 rw [getD_set_ne true hne]
 exact h2
theorem wpAnyX_first (hSG : ∀ w w', S w → Gr w w' → S w') {i : Nat} {oi : Oper} {v : Value} {C : List Nat} (hi : ops[i]? = some oi) (hsel : ∀ (j : Nat) (o : Oper) cs b, ops[j]? = some o → o.op ≠ .select cs b)
  (hQ : ∀ c a w, Q (.panic c) (a.put oi.dst v) w → Q (.panic c) a w) (hxi : X.contains i = false) :
  ∀ (fuel : Nat) (listed : Array Bool) (a : Act) (W : World), Waits md ops i listed C → (∀ j, X.contains j = true → j ∈ C ∨ listed.getD j true = true) →
   (∀ j oj, ops[j]? = some oj → j ≠ i → listed.getD j true = false → (∀ e ∈ oj.after, Region.binds md e = true → e.on ≠ i) → oi.apart ops oj = true) →
   i ∈ Region.ready md ops listed → Gives P ops S oi v a → S W →
   wpAnyX P md ops Q S X fuel (listed.setIfInBounds i true) (a.put oi.dst v) W → wpAnyX P md ops Q S X (fuel + 1) listed a W := by
 intro fuel
 induction fuel with
 | zero =>
  intro listed a W hC hX _ hr hy hS H
  refine ⟨fun h => (by rw [h] at hr; cases hr), fun j hj w hw => ?_⟩
  by_cases hji : j = i
  ·subst hji; exact hy.wpOp hi (hSG _ _ hS hw) (fun w' hw' => ⟨.inr (hSG _ _ hS (hw.tr hw')), H.up (hw.tr hw')⟩)
  ·have := ready_mono hj hji
   rw [H.1] at this
   cases this
 | succ fuel ih =>
  intro listed a W hC hX hfree hr hy hS H
  refine ⟨fun h => (by rw [h] at hr; cases hr), fun j hj w hw => ?_⟩
  by_cases hji : j = i
  ·subst hji; exact hy.wpOp hi (hSG _ _ hS hw) (fun w' hw' => ⟨.inr (hSG _ _ hS (hw.tr hw')), H.up (hw.tr hw')⟩)
  ·have h1 := H.2 j (ready_mono hj hji) w hw
   obtain ⟨hjun, oj, hoj, hall⟩ := mem_ready.1 hj
   have hi0 := (mem_ready.1 hr).1
   have hjC := hC.not_ready hi0 hj
   have hjX : X.contains j = false := by
    rcases hx : X.contains j with _ | _
    ·rfl
    ·rcases hX j hx with h' | h'
     ·exact absurd h' hjC
     ·rw [hjun] at h'; cases h'
   have hnot : ∀ e ∈ oj.after, Region.binds md e = true → e.on ≠ i := fun e he hb heq => by
    have h1 := hall e he hb
    have h0 := hi0
    rw [heq] at h1
    rcases Nat.lt_or_ge i listed.size with h' | h'
    ·simp [h'] at h0 h1; rw [h0] at h1; cases h1
    ·simp [Array.getElem?_eq_none h'] at h1
   have h2 := wpOp_putG hoj (hfree j oj hoj hji hjun hnot) (fun cs b => hsel i oi cs b hi) (fun cs b => hsel j oj cs b hoj) hQ hy h1
   have hfree' : ∀ k ok, ops[k]? = some ok → k ≠ i → (listed.setIfInBounds j true).getD k true = false →
     (∀ e ∈ ok.after, Region.binds md e = true → e.on ≠ i) → oi.apart ops ok = true := fun k ok hk hki hun hno => by
    refine hfree k ok hk hki ?_ hno
    by_cases hjk : j = k
    ·subst hjk; exact hjun
    ·rw [getD_set_ne true hjk] at hun; exact hun
   have hX' : ∀ k, X.contains k = true → k ∈ C ∨ (listed.setIfInBounds j true).getD k true = true := fun k hk => by
    by_cases hjk : j = k
    ·subst hjk; rw [hjX] at hk; cases hk
    ·rw [getD_set_ne true hjk]; exact hX k hk
   refine wpOp_mono (fun a' w' h3 => ?_) h2
   have hSw : S w' := h3.2.1.resolve_left (by rw [hjX]; decide)
   refine ⟨.inr hSw, ih (listed.setIfInBounds j true) a' w' (hC.step hjC) hX' hfree' (ready_mono hr (Ne.symm hji)) h3.1 hSw ?_⟩
   rw [Array.setIfInBounds_comm _ _ hji]
   exact h3.2.2
def waitsB (md : Region.Mode) (ops : Array Oper) (listed : Array Bool) (i : Nat) (C : List Nat) : Bool :=
 C.all (fun m => m != i && (!(listed.getD m true) && (match ops[m]? with | none => false | some om => om.after.any (fun e => Region.binds md e && (e.on == i || C.contains e.on)))))
theorem waitsB_spec {i : Nat} {listed : Array Bool} {C : List Nat} (h : waitsB md ops listed i C = true) : Waits md ops i listed C := fun m hm => by
 have h1 := List.all_eq_true.1 h m hm
 simp only [Bool.and_eq_true, bne_iff_ne, ne_eq, Bool.not_eq_true'] at h1
 obtain ⟨h2, h3, h4⟩ := h1
 refine ⟨h2, h3, ?_⟩
 rcases ho : ops[m]? with _ | om
 ·rw [ho] at h4; cases h4
 ·rw [ho] at h4
  obtain ⟨j, hj, hj2⟩ := Array.any_eq_true.1 h4
  refine ⟨om, rfl, om.after[j], Array.getElem_mem hj, ?_⟩
  simp only [Bool.and_eq_true, Bool.or_eq_true, beq_iff_eq, List.contains_iff_mem] at hj2
  exact hj2
def takeOkX (md : Region.Mode) (ops : Array Oper) (listed : Array Bool) (i : Nat) (C X : List Nat) : Bool :=
 waitsB md ops listed i C && (X.all (fun j => C.contains j || listed.getD j true) && !(X.contains i))
theorem wpAnyX_take (hSG : Hid (∀ w w', S w → Gr w w' → S w')) {i : Nat} (C : List Nat) {oi : Oper} {v : Value} {fuel : Nat} {listed : Array Bool} {a : Act} {W : World} (hi : ops[i]? = some oi)
  (hs : Region.noSelect ops = true) (hf : Region.free md ops listed i = true) (hr : (Region.ready md ops listed).contains i = true) (hx : takeOkX md ops listed i C X = true)
  (hQ : ∀ c a w, Q (.panic c) (a.put oi.dst v) w → Q (.panic c) a w) (hy : Gives P ops S oi v a) (hS : Hid (S W))
  (h : wpAnyX P md ops Q S X fuel (listed.setIfInBounds i true) (a.put oi.dst v) W) : wpAnyX P md ops Q S X (fuel + 1) listed a W := by
 simp only [takeOkX, Bool.and_eq_true, Bool.not_eq_true', List.all_eq_true, Bool.or_eq_true, List.contains_iff_mem] at hx
 obtain ⟨h1, h2, h3⟩ := hx
 exact wpAnyX_first hSG.out hi (Region.noSelect_spec hs) hQ h3 fuel listed a W (waitsB_spec h1) (fun j hj => h2 j (by simpa using hj)) (Region.free_spec hi hf) (by simpa using hr) hy hS.out h
theorem wpAnyX_done {listed : Array Bool} {a : Act} {W : World} (hr : Region.ready md ops listed = []) (h : ∀ w, Gr W w → Q .normal a w) : ∀ fuel, wpAnyX P md ops Q S X fuel listed a W
 | 0 => ⟨hr, h⟩
 | _ + 1 => ⟨fun _ => h, by rw [hr]; simp⟩
theorem wpAnyX_one {i : Nat} {o : Oper} {fuel : Nat} {listed : Array Bool} {a : Act} {W : World} (hr : Region.ready md ops listed = [i]) (ho : ops[i]? = some o)
  (h : ∀ w, Gr W w → ∀ K' : Act → World → Prop, Shut (∀ a w, S w → (Hid (S w) → wpAnyX P md ops Q S X fuel (listed.setIfInBounds i true) a w) → K' a w) → if Region.wanted o (yielded ops a.tmps) = true then Oper.wp P o a w K' Q else K' (a.put o.dst undef) w) :
  wpAnyX P md ops Q S X (fuel + 1) listed a W := by
 refine ⟨fun h0 => ?_, fun j hj w hw => ?_⟩
 ·rw [hr] at h0; cases h0
 ·rw [hr] at hj
  obtain rfl : j = i := by simpa using hj
  exact wpOp_step ho (fun K' hK => h w hw K' (fun a w hS hW => hK a w ⟨.inr hS, hW hS⟩))
theorem wpAnyX_oneX {i : Nat} {o : Oper} {fuel : Nat} {listed : Array Bool} {a : Act} {W : World} (hr : Region.ready md ops listed = [i]) (hx : X.contains i = true) (ho : ops[i]? = some o)
  (h : ∀ w, Gr W w → ∀ K' : Act → World → Prop, Shut (∀ a w, wpAnyX P md ops Q S X fuel (listed.setIfInBounds i true) a w → K' a w) → if Region.wanted o (yielded ops a.tmps) = true then Oper.wp P o a w K' Q else K' (a.put o.dst undef) w) :
  wpAnyX P md ops Q S X (fuel + 1) listed a W := by
 refine ⟨fun h0 => ?_, fun j hj w hw => ?_⟩
 ·rw [hr] at h0; cases h0
 ·rw [hr] at hj
  obtain rfl : j = i := by simpa using hj
  exact wpOp_step ho (fun K' hK => h w hw K' (fun a w hW => hK a w ⟨.inl hx, hW⟩))
theorem wp_region_X (X : List Nat) {id : Nat} {a : Act} {w : World} (hm : P.follows .mixedOrders = true) (hS : S w.drew)
  (h : Hid (S w.drew) → wpAnyX P .any ops Q S X ops.size (Array.replicate ops.size false) a w.drew) : (Code.region id ops true).wp P Q a w :=
 wp_region_any hm (wpAny_of_X _ _ _ _ (h hS))
theorem xk (hSG : Hid (∀ w w', S w → Gr w w' → S w')) (i : Nat) (C : List Nat) {oi : Oper} {v : Value} {fuel : Nat} {listed : Array Bool} {a : Act} {W : World} (hi : ops[i]? = some oi) (ho : (okB md ops listed i && takeOkX md ops listed i C X) = true)
  (hQ : ∀ c a w, Q (.panic c) (a.put oi.dst v) w → Q (.panic c) a w) (hw : Region.wanted oi (yielded ops a.tmps) = true) (hy : ∀ w, S w → (execOp a.eval oi).run P w = .ok (.value v) w) (hS : Hid (S W))
  (h : wpAnyX P md ops Q S X fuel (listed.setIfInBounds i true) (a.put oi.dst v) W) : wpAnyX P md ops Q S X (fuel + 1) listed a W :=
 wpAnyX_take hSG C hi (okB_iff (Bool.and_eq_true_iff.1 ho).1).1 (okB_iff (Bool.and_eq_true_iff.1 ho).1).2.1 (okB_iff (Bool.and_eq_true_iff.1 ho).1).2.2 (Bool.and_eq_true_iff.1 ho).2 hQ (YieldsIf.gives (Or.inl ⟨hw, hy⟩)) hS h
theorem xn (hSG : Hid (∀ w w', S w → Gr w w' → S w')) (i : Nat) (C : List Nat) {oi : Oper} {fuel : Nat} {listed : Array Bool} {a : Act} {W : World} (hi : ops[i]? = some oi) (ho : (okB md ops listed i && takeOkX md ops listed i C X) = true)
  (hQ : ∀ c a w, Q (.panic c) (a.put oi.dst undef) w → Q (.panic c) a w) (hw : Region.wanted oi (yielded ops a.tmps) = false) (hS : Hid (S W))
  (h : wpAnyX P md ops Q S X fuel (listed.setIfInBounds i true) (a.put oi.dst undef) W) : wpAnyX P md ops Q S X (fuel + 1) listed a W :=
 wpAnyX_take hSG C hi (okB_iff (Bool.and_eq_true_iff.1 ho).1).1 (okB_iff (Bool.and_eq_true_iff.1 ho).1).2.1 (okB_iff (Bool.and_eq_true_iff.1 ho).1).2.2 (Bool.and_eq_true_iff.1 ho).2 hQ (Or.inr ⟨hw, rfl⟩) hS h
theorem xc (hSG : Hid (∀ w w', S w → Gr w w' → S w')) (i : Nat) (C : List Nat) {oi : Oper} {v : Value} {fuel : Nat} {listed : Array Bool} {a : Act} {W : World} (hi : ops[i]? = some oi) (ho : (okB md ops listed i && takeOkX md ops listed i C X) = true)
  (hQ : ∀ c a w, Q (.panic c) (a.put oi.dst v) w → Q (.panic c) a w) (hw : Region.wanted oi (yielded ops a.tmps) = true) (hy : ∀ w, S w → ∀ K : Act → World → Prop, Shut (∀ w', Gr w w' → K (a.put oi.dst v) w') → Oper.wp P oi a w K NoWay) (hS : Hid (S W))
  (h : wpAnyX P md ops Q S X fuel (listed.setIfInBounds i true) (a.put oi.dst v) W) : wpAnyX P md ops Q S X (fuel + 1) listed a W :=
 wpAnyX_take hSG C hi (okB_iff (Bool.and_eq_true_iff.1 ho).1).1 (okB_iff (Bool.and_eq_true_iff.1 ho).1).2.1 (okB_iff (Bool.and_eq_true_iff.1 ho).1).2.2 (Bool.and_eq_true_iff.1 ho).2 hQ (Or.inl ⟨hw, hy⟩) hS h
end
end Go.Proofs.YtfmjbfpjkilpcaaGreatDoor
namespace Go.Proofs.YtfmjbfpjkilpcaaGreatDoor
open Go.RowKit
namespace K
theorem gbRefl (w : World) (r : Option Nat) : w.grownBy w r := ⟨rfl, rfl, rfl, Nat.le_refl _, fun _ _ _ => rfl⟩
theorem gbSet {w w' : World} {b i : Nat} {v : Value} (h : w.grownBy w' (some b)) : w.grownBy (w'.setCell ⟨b, i, none⟩ v) (some b) :=
 ⟨h.os, h.tape, h.output, by simpa using h.size, fun k hk hn => (heap_setCell_other w' _ k v (fun e => hn (by rw [e]))).trans (h.block k hk hn)⟩
theorem gbAlloc {w w' : World} {r : Option Nat} {o : Obj} (h : w.grownBy w' r) : w.grownBy (w'.alloc o) r :=
 ⟨h.os, h.tape, h.output, by have := h.size; simp; omega, fun k hk hn => (Below.heap_alloc w' o k (Nat.lt_of_lt_of_le hk h.size)).trans (h.block k hk hn)⟩
theorem gbTrans {a b c : World} {r : Option Nat} (h : a.grownBy b r) (k : b.grownBy c r) : a.grownBy c r :=
 ⟨k.os.trans h.os, k.tape.trans h.tape, k.output.trans h.output, Nat.le_trans h.size k.size, fun i hi hn => (k.block i (Nat.lt_of_lt_of_le hi h.size) hn).trans (h.block i hi hn)⟩
theorem gbBelow {a b : World} {B : Nat} {r : Option Nat} (h : a.grownBy b r) (hB : B ≤ a.heap.size) (hr : ∀ k, r = some k → B ≤ k) : Below B a b :=
 ⟨h.os, h.tape, h.output, h.size, fun i hi => h.block i (by omega) (fun e => by have := hr i e.symm; omega)⟩
theorem gbGr {a b : World} {r : Option Nat} (h : Gr a b) : a.grownBy b r := ⟨h.os, h.tape, h.output, h.size, fun i hi _ => h.block i hi⟩
theorem blkLt {w : World} {b : Nat} {o : Obj} (h : w.heap[b]? = some o) : b < w.heap.size := (Array.getElem?_eq_some_iff.1 h).1
def SS (v : Value) (w : World) (e : Ending) (w' : World) : Prop := e = .returned v ∧ w' = w
def GG (v : Value) (w : World) (e : Ending) (w' : World) : Prop := e = .returned v ∧ Gr w w'
def InAt (w : World) (g o : Nat) (x : In) : Prop := w.cell? ⟨g, o, none⟩ = some (.int .i64 x.op) ∧ w.cell? ⟨g, o + 1, none⟩ = some (.int .i64 x.n) ∧ w.cell? ⟨g, o + 2, none⟩ = some (.int .i64 x.r)
def InsR (w : World) (l : List In) (A : Option Addr) : Prop := l = [] ∨ ∃ g o, A = some ⟨g, o, none⟩ ∧ ∀ (i : Nat) (x : In), l[i]? = some x → InAt w g (o + i * 3) x
theorem InsR.gr {w w' : World} {l : List In} {A : Option Addr} (h : InsR w l A) (hg : Gr w w') : InsR w' l A := by
 rcases h with h | ⟨g, o, hA, h⟩
 ·exact .inl h
 ·exact .inr ⟨g, o, hA, fun i x hx => ⟨grCell hg (h i x hx).1, grCell hg (h i x hx).2.1, grCell hg (h i x hx).2.2⟩⟩
theorem InsR.addr {w : World} {l : List In} {A : Option Addr} (h : InsR w l A) (hn : 0 < l.length) : ∃ g o, A = some ⟨g, o, none⟩ ∧ ∀ (i : Nat) (x : In), l[i]? = some x → InAt w g (o + i * 3) x := by
 rcases h with h | h
 ·subst h; simp at hn
 ·exact h
theorem nBlk (w : World) (o : Obj) (b : Nat) (h : b = w.heap.size) : (w.alloc o).heap[b]? = some o := by
 subst h; exact heap_alloc_new w o
theorem cells2k {w : World} {b : Nat} {v0 v1 : Value} {T : TypeId} (h : w.heap[b]? = some (.cells #[v0, v1] T (0, 0))) : w.cell? ⟨b, 0, none⟩ = some v0 ∧ w.cell? ⟨b, 1, none⟩ = some v1 := by
 have e : ∀ j, w.cell? ⟨b, j, none⟩ = (#[v0, v1] : Array Value)[j]? := fun j => cell_of_row _ _ j _ _ (0, 0) h
 exact ⟨e 0, e 1⟩
theorem cells3k {w : World} {b : Nat} {v0 v1 v2 : Value} {T : TypeId} (h : w.heap[b]? = some (.cells #[v0, v1, v2] T (0, 0))) : w.cell? ⟨b, 0, none⟩ = some v0 ∧ w.cell? ⟨b, 1, none⟩ = some v1 ∧ w.cell? ⟨b, 2, none⟩ = some v2 := by
 have e : ∀ j, w.cell? ⟨b, j, none⟩ = (#[v0, v1, v2] : Array Value)[j]? := fun j => cell_of_row _ _ j _ _ (0, 0) h
 exact ⟨e 0, e 1, e 2⟩
theorem between_any (n lo hi : Int) (w : World) : Calls Tryz.prog 20 #[.int .i64 n, .agg #[.int .i64 lo, .int .i64 hi]] w (GG (.bool (btw2 n (lo, hi))) w) := by
 have HX := Lib.hid (nBlk w (.cells #[.int .i64 lo, .int .i64 hi] 66) _ rfl)
 have HB := Lib.hid (grAlloc w (.cells #[.int .i64 lo, .int .i64 hi] 66))
 obtain ⟨s0, s1⟩ := cells2k HX.out
 unfold btw2
 simp only
 by_cases h1 : lo ≤ n
 ·have t1 : decide (lo ≤ n) = true := decide_eq_true h1
  by_cases h2 : n ≤ hi
  ·have t2 : decide (n ≤ hi) = true := decide_eq_true h2
   rw [t1, t2]
   go_enter Tryz.func20, Tryz.ntmps20
   go_wp2
   go_ret
   exact ⟨rfl, HB.out⟩
  ·have t2 : decide (n ≤ hi) = false := decide_eq_false h2
   rw [t1, t2]
   go_enter Tryz.func20, Tryz.ntmps20
   go_wp2
   go_ret
   exact ⟨rfl, HB.out⟩
 ·have t1 : decide (lo ≤ n) = false := decide_eq_false h1
  rw [t1]
  go_enter Tryz.func20, Tryz.ntmps20
  go_wp2
  go_ret
  exact ⟨rfl, HB.out⟩
abbrev hA (ln : Nat) (A : Option Addr) (lc : Nat) (vars : Int) (HA : Option Addr) (hl hc : Nat) : Array Value := #[.slice A ln lc, .int .i64 vars, .slice HA hl hc]
theorem res2k {w : World} {b : Nat} {v0 v1 x y : Value} {T : TypeId} (h : w.heap[b]? = some (.cells #[v0, v1] T (0, 0))) :
  ((w.setCell ⟨b, 0, none⟩ x).setCell ⟨b, 1, none⟩ y).cell? ⟨b, 0, none⟩ = some x ∧ ((w.setCell ⟨b, 0, none⟩ x).setCell ⟨b, 1, none⟩ y).cell? ⟨b, 1, none⟩ = some y := by
 have g0 : (w.setCell ⟨b, 0, none⟩ x).heap[b]? = some (.cells #[x, v1] T (0, 0)) := by rw [heap_setCell_same w b 0 _ _ _ h]; simp
 have g1 : ((w.setCell ⟨b, 0, none⟩ x).setCell ⟨b, 1, none⟩ y).heap[b]? = some (.cells #[x, y] T (0, 0)) := by rw [heap_setCell_same _ b 1 _ _ _ g0]; simp
 exact cells2k g1
theorem belK {B b i : Nat} {a w : World} {u : Value} (h : Below B a w) (hb : B ≤ b) : Below B a (w.setCell ⟨b, i, none⟩ u) := h.setCell hb _
theorem frz {w : World} {b : Nat} {cs : Array Value} {T : TypeId} (h : w.heap[b]? = some (.cells cs T (0, 0))) (i : Nat) : w.frozen? ⟨b, i, none⟩ = false := by simp [World.frozen?, h]
theorem numbers_any (l : List In) (A : Option Addr) (lc : Nat) (vars : Int) (HA : Option Addr) (hl hc : Nat) (i : Nat) (x : In) (hx : l[i]? = some x) (hlen : l.length ≤ 100000) (hv : -1000 ≤ vars ∧ vars ≤ 1000) (w : World) (hR : InsR w l A) :
  Calls Tryz.prog 21 #[.agg (hA l.length A lc vars HA hl hc), .int .i64 i] w (GG (.agg #[.int .i64 (rgN x i l.length vars).1, .int .i64 (rgN x i l.length vars).2]) w) := by
 have hi : i < l.length := (List.getElem?_eq_some_iff.1 hx).1
 obtain ⟨g, o, rfl, hat⟩ := hR.addr (by omega)
 obtain ⟨e0, -, -⟩ := hat i x hx
 have q1 : IntKind.i64.wrap (vars - 1) = vars - 1 := IntWalk.i64_in _ (by omega)
 have q2 : IntKind.i64.wrap ((i : Int) + 1) = (i : Int) + 1 := IntWalk.i64_in _ (by omega)
 obtain ⟨W2, hW2⟩ : ∃ W2, W2 = (w.alloc (.cells (hA l.length (some ⟨g, o, none⟩) lc vars HA hl hc) 49)).alloc (.cells #[.int .i64 0, .int .i64 0] 66) := ⟨_, rfl⟩
 have HB : Hid (Gr w W2) := Lib.hid (by rw [hW2]; exact (grAlloc _ _).tr (grAlloc _ _))
 have HX : Hid (W2.heap[w.heap.size]? = some (.cells (hA l.length (some ⟨g, o, none⟩) lc vars HA hl hc) 49 (0, 0))) := Lib.hid (by rw [hW2]; exact grBlk (grAlloc _ _) (nBlk _ _ _ rfl))
 have HS : Hid (W2.heap[w.heap.size + 1]? = some (.cells #[.int .i64 0, .int .i64 0] 66 (0, 0))) := Lib.hid (by rw [hW2]; exact nBlk _ _ _ (by simp))
 have e0 := grCell HB.out e0
 obtain ⟨x0, x1, x2⟩ := cells3k HX.out
 obtain ⟨s0, s1⟩ := cells2k HS.out
 have d0 := frz HS.out 0
 have d1 := frz HS.out 1
 have HE := Lib.hid (fun (a b : Value) => belK (i := 1) (u := b) (belK (i := 0) (u := a) HB.out (Nat.le_add_right w.heap.size 1)) (Nat.le_add_right w.heap.size 1))
 have HC := Lib.hid (fun (a b : Value) => res2k (x := a) (y := b) HS.out)
 clear hat hR hx
 unfold rgN
 generalize l.length = ln at *
 by_cases h1 : x.op = 1
 ·rw [if_pos h1]
  have t1 : (x.op == 1) = true := by simp; omega
  have t2 : (x.op == 2) = false := by simp; omega
  have t11 : (x.op == 11) = false := by simp; omega
  have t3 : (x.op == 3) = false := by simp; omega
  have t12 : (x.op == 12) = false := by simp; omega
  have t13 : (x.op == 13) = false := by simp; omega
  clear h1
  go_enter Tryz.func21, Tryz.ntmps21
  go_upto_region 1 with fail
  rw [← hW2]
  clear hW2
  go_wp2
  obtain ⟨f0, f1⟩ := HC.out (.int .i64 (-1000000000000)) (.int .i64 1000000000000)
  exact bodyPost_ret (v := .agg #[.int .i64 (-1000000000000), .int .i64 1000000000000]) (by simp [results, Tryz.results21, go_sem, f0, f1]) rfl ⟨rfl, HE.out _ _⟩
 ·by_cases h2 : x.op = 2
  ·rw [if_neg h1, if_pos (.inl h2)]
   have t1 : (x.op == 1) = false := by simp; omega
   have t2 : (x.op == 2) = true := by simp; omega
   have t11 : (x.op == 11) = false := by simp; omega
   have t3 : (x.op == 3) = false := by simp; omega
   have t12 : (x.op == 12) = false := by simp; omega
   have t13 : (x.op == 13) = false := by simp; omega
   clear h1 h2
   go_enter Tryz.func21, Tryz.ntmps21
   go_upto_region 1 with fail
   rw [← hW2]
   clear hW2
   go_wp2
   obtain ⟨f0, f1⟩ := HC.out (.int .i64 0) (.int .i64 (vars - 1))
   exact bodyPost_ret (v := .agg #[.int .i64 0, .int .i64 (vars - 1)]) (by simp [results, Tryz.results21, go_sem, f0, f1]) rfl ⟨rfl, HE.out _ _⟩
  ·by_cases h11 : x.op = 11
   ·rw [if_neg h1, if_pos (.inr h11)]
    have t1 : (x.op == 1) = false := by simp; omega
    have t2 : (x.op == 2) = false := by simp; omega
    have t11 : (x.op == 11) = true := by simp; omega
    have t3 : (x.op == 3) = false := by simp; omega
    have t12 : (x.op == 12) = false := by simp; omega
    have t13 : (x.op == 13) = false := by simp; omega
    clear h1 h2 h11
    go_enter Tryz.func21, Tryz.ntmps21
    go_upto_region 1 with fail
    rw [← hW2]
    clear hW2
    go_wp2
    obtain ⟨f0, f1⟩ := HC.out (.int .i64 0) (.int .i64 (vars - 1))
    exact bodyPost_ret (v := .agg #[.int .i64 0, .int .i64 (vars - 1)]) (by simp [results, Tryz.results21, go_sem, f0, f1]) rfl ⟨rfl, HE.out _ _⟩
   ·by_cases h3 : x.op = 3
    ·rw [if_neg h1, if_neg (by omega), if_pos h3]
     have t1 : (x.op == 1) = false := by simp; omega
     have t2 : (x.op == 2) = false := by simp; omega
     have t11 : (x.op == 11) = false := by simp; omega
     have t3 : (x.op == 3) = true := by simp; omega
     have t12 : (x.op == 12) = false := by simp; omega
     have t13 : (x.op == 13) = false := by simp; omega
     clear h1 h2 h11 h3
     go_enter Tryz.func21, Tryz.ntmps21
     go_upto_region 1 with fail
     rw [← hW2]
     clear hW2
     go_wp2
     obtain ⟨f0, f1⟩ := HC.out (.int .i64 0) (.int .i64 3)
     exact bodyPost_ret (v := .agg #[.int .i64 0, .int .i64 3]) (by simp [results, Tryz.results21, go_sem, f0, f1]) rfl ⟨rfl, HE.out _ _⟩
    ·by_cases h12 : x.op = 12
     ·rw [if_neg h1, if_neg (by omega), if_neg h3, if_pos (.inl h12)]
      have t1 : (x.op == 1) = false := by simp; omega
      have t2 : (x.op == 2) = false := by simp; omega
      have t11 : (x.op == 11) = false := by simp; omega
      have t3 : (x.op == 3) = false := by simp; omega
      have t12 : (x.op == 12) = true := by simp; omega
      have t13 : (x.op == 13) = false := by simp; omega
      clear h1 h2 h11 h3 h12
      go_enter Tryz.func21, Tryz.ntmps21
      go_upto_region 1 with fail
      rw [← hW2]
      clear hW2
      go_wp2
      obtain ⟨f0, f1⟩ := HC.out (.int .i64 ((i : Int) + 1)) (.int .i64 (ln : Int))
      exact bodyPost_ret (v := .agg #[.int .i64 ((i : Int) + 1), .int .i64 (ln : Int)]) (by simp [results, Tryz.results21, go_sem, f0, f1]) rfl ⟨rfl, HE.out _ _⟩
     ·by_cases h13 : x.op = 13
      ·rw [if_neg h1, if_neg (by omega), if_neg h3, if_pos (.inr h13)]
       have t1 : (x.op == 1) = false := by simp; omega
       have t2 : (x.op == 2) = false := by simp; omega
       have t11 : (x.op == 11) = false := by simp; omega
       have t3 : (x.op == 3) = false := by simp; omega
       have t12 : (x.op == 12) = false := by simp; omega
       have t13 : (x.op == 13) = true := by simp; omega
       clear h1 h2 h11 h3 h12 h13
       go_enter Tryz.func21, Tryz.ntmps21
       go_upto_region 1 with fail
       rw [← hW2]
       clear hW2
       go_wp2
       obtain ⟨f0, f1⟩ := HC.out (.int .i64 ((i : Int) + 1)) (.int .i64 (ln : Int))
       exact bodyPost_ret (v := .agg #[.int .i64 ((i : Int) + 1), .int .i64 (ln : Int)]) (by simp [results, Tryz.results21, go_sem, f0, f1]) rfl ⟨rfl, HE.out _ _⟩
      ·rw [if_neg h1, if_neg (by omega), if_neg h3, if_neg (by omega)]
       have t1 : (x.op == 1) = false := by simp; omega
       have t2 : (x.op == 2) = false := by simp; omega
       have t11 : (x.op == 11) = false := by simp; omega
       have t3 : (x.op == 3) = false := by simp; omega
       have t12 : (x.op == 12) = false := by simp; omega
       have t13 : (x.op == 13) = false := by simp; omega
       clear h1 h2 h11 h3 h12 h13
       go_enter Tryz.func21, Tryz.ntmps21
       go_upto_region 1 with fail
       rw [← hW2]
       clear hW2
       go_wp2
       obtain ⟨f0, f1⟩ := HC.out (.int .i64 0) (.int .i64 0)
       exact bodyPost_ret (v := .agg #[.int .i64 0, .int .i64 0]) (by simp [results, Tryz.results21, go_sem, f0, f1]) rfl ⟨rfl, HE.out _ _⟩
end K
end Go.Proofs.YtfmjbfpjkilpcaaGreatDoor
namespace Go.Proofs.YtfmjbfpjkilpcaaGreatDoor
open Go.RowKit
namespace K
def iA (hs : List Int) : Array Value := (hs.map (Value.int .i64)).toArray
theorem iA_at {w : World} {g : Nat} {hs : List Int} {T : TypeId} (h : w.heap[g]? = some (.cells (iA hs) T (0, 0))) {i : Nat} (hi : i < hs.length) : w.cell? ⟨g, i, none⟩ = some (.int .i64 ((hs[i]?).getD 0)) := by
 rw [cell_of_row _ _ i _ _ (0, 0) h]
 simp [iA, hi]
theorem iA_set {w : World} {g : Nat} {hs : List Int} {T : TypeId} (h : w.heap[g]? = some (.cells (iA hs) T (0, 0))) (i : Nat) (v : Int) : (w.setCell ⟨g, i, none⟩ (.int .i64 v)).heap[g]? = some (.cells (iA (hs.set i v)) T (0, 0)) := by
 rw [heap_setCell_same _ g i _ _ _ h]
 simp [iA, List.map_set]
theorem retb {a b : Bool} (h : a = b) : Ending.returned (.bool a) = .returned (.bool b) := by rw [h]
def ReP (W0 : World) (g : Nat) (r : List Int × Bool) (w : World) (e : Ending) (w' : World) : Prop :=
 e = .returned (.bool r.2) ∧ w'.heap[g]? = some (.cells (iA r.1) 3 (0, 0)) ∧ Gr W0 w' ∧ w.grownBy w' (some g)
theorem reach_any (W0 : World) (hs : List Int) (ln : Nat) (A : Option Addr) (lc : Nat) (vars : Int) (g hc i : Nat) (h : Int) (hi : i < hs.length) (hl : hs.length ≤ 100000) (w : World) (hG : Gr W0 w) (hg : W0.heap.size ≤ g) (hH : w.heap[g]? = some (.cells (iA hs) 3 (0, 0))) :
  Calls Tryz.prog 22 #[.agg (hA ln A lc vars (some ⟨g, 0, none⟩) hs.length hc), .int .i64 i, .int .i64 h] w (ReP W0 g (reach hs i h) w) := by
 have hgl : g < w.heap.size := (Array.getElem?_eq_some_iff.1 hH).1
 obtain ⟨W1, hW1⟩ : ∃ W1, W1 = w.alloc (.cells (hA ln A lc vars (some ⟨g, 0, none⟩) hs.length hc) 49) := ⟨_, rfl⟩
 have HB : Hid (Gr W0 W1) := Lib.hid (by rw [hW1]; exact hG.tr (grAlloc _ _))
 have HK : Hid (w.grownBy W1 (some g)) := Lib.hid (by rw [hW1]; exact gbAlloc (gbRefl _ _))
 have HX : Hid (W1.heap[w.heap.size]? = some (.cells (hA ln A lc vars (some ⟨g, 0, none⟩) hs.length hc) 49 (0, 0))) := Lib.hid (by rw [hW1]; exact nBlk _ _ _ rfl)
 have HH : Hid (W1.heap[g]? = some (.cells (iA hs) 3 (0, 0))) := Lib.hid (by rw [hW1]; exact grBlk (grAlloc _ _) hH)
 obtain ⟨x0, x1, x2⟩ := cells3k HX.out
 have c0 := iA_at HH.out hi
 have d0 := frz HH.out i
 unfold reach
 clear hH hG
 by_cases hu : (hs[i]?).getD 0 = -1
 ·rw [if_pos hu]
  rw [hu] at c0
  obtain ⟨W2, hW2⟩ : ∃ W2, W2 = W1.setCell ⟨g, i, none⟩ (.int .i64 h) := ⟨_, rfl⟩
  have HB2 : Hid (Gr W0 W2) := Lib.hid (by rw [hW2]; exact belK HB.out hg)
  have HK2 : Hid (w.grownBy W2 (some g)) := Lib.hid (by rw [hW2]; exact gbSet HK.out)
  have HX2 : Hid (W2.heap[w.heap.size]? = some (.cells (hA ln A lc vars (some ⟨g, 0, none⟩) hs.length hc) 49 (0, 0))) := Lib.hid (by rw [hW2]; exact (heap_setCell_other _ _ _ _ (show w.heap.size ≠ g by omega)).trans HX.out)
  have HH2 : Hid (W2.heap[g]? = some (.cells (iA (hs.set i h)) 3 (0, 0))) := Lib.hid (by rw [hW2]; exact iA_set HH.out i h)
  have c2 := iA_at HH2.out (i := i) (by simpa using hi)
  have e2 : ((hs.set i h)[i]?).getD 0 = h := by simp [hi]
  rw [e2] at c2
  obtain ⟨z0, z1, z2⟩ := cells3k HX2.out
  clear hu e2
  go_enter Tryz.func22, Tryz.ntmps22
  go_upto_region 1 with fail
  rw [← hW1]
  clear hW1
  go_upto_region 3 with fail
  rw [← hW2]
  clear hW2 x0 x1 x2 c0 d0
  by_cases h64 : h ≤ 64
  ·have t : decide (h ≤ 64) = true := decide_eq_true h64
   go_wp2
   go_ret
   exact ⟨by first | rfl | exact retb t.symm | exact retb (by simp [t, hq]) | exact retb (by simp [t]), HH2.out, HB2.out, HK2.out⟩
  ·have t : decide (h ≤ 64) = false := decide_eq_false h64
   go_wp2
   go_ret
   exact ⟨by first | rfl | exact retb t.symm | exact retb (by simp [t, hq]) | exact retb (by simp [t]), HH2.out, HB2.out, HK2.out⟩
 ·rw [if_neg hu]
  have tu : ((hs[i]?).getD 0 == -1) = false := by simp [hu]
  generalize (hs[i]?).getD 0 = q at *
  clear hu
  go_enter Tryz.func22, Tryz.ntmps22
  go_upto_region 1 with fail
  rw [← hW1]
  clear hW1
  by_cases hq : q = h
  ·have tq : (q == h) = true := by simp [hq]
   by_cases h64 : h ≤ 64
   ·have t : decide (h ≤ 64) = true := decide_eq_true h64
    go_wp2
    go_ret
    exact ⟨by first | rfl | exact retb t.symm | exact retb (by simp [t, hq]) | exact retb (by simp [t]), HH.out, HB.out, HK.out⟩
   ·have t : decide (h ≤ 64) = false := decide_eq_false h64
    go_wp2
    go_ret
    exact ⟨by first | rfl | exact retb t.symm | exact retb (by simp [t, hq]) | exact retb (by simp [t]), HH.out, HB.out, HK.out⟩
  ·have tq : (q == h) = false := by simp [hq]
   go_wp2
   go_ret
   exact ⟨by first | rfl | exact retb (by simp [hq]), HH.out, HB.out, HK.out⟩
end K
end Go.Proofs.YtfmjbfpjkilpcaaGreatDoor
