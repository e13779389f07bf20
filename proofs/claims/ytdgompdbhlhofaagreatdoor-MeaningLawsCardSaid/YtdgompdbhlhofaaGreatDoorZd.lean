/- Texts of one proof: UxG, UxH, UxI, UxJ, IxA, IxB, IxD, IxN. -/
import Derived.Test.YtdgompdbhlhofaaGreatDoorZc
import Derived.Recover
import Derived.Defers
import Derived.WalkKit
import Derived.LoopTactic
import Derived.Outline
import Derived.Deep.QuietTactic
import Derived.Deep.LoopGhost
import Derived.Deep.RegionWith
import Derived.Deep.RegionLaw
import Derived.Deep.AppendLies
import Derived.WalkLawsBesides
import Derived.BigQuiet
import Derived.BigCall
import Derived.OwnWalk
import Derived.WalkMore
import Derived.Laws.AppendOwn
import Derived.Laws.Rows
import Derived.Laws.NewBlocks
import Derived.Lib.Hide
import Derived.Below
import Derived.IntWalk
import Derived.Deep.RegionHeld3
import Derived.Deep.DeepCutAuto
import Derived.Deep.Cut
import Derived.Test.YtdgompdbhlhofaaGreatDoorChecked
import Derived.StillTailTactics
namespace Go.Proofs.YtdgompdbhlhofaaGreatDoor.U
open Go.RowKit
set_option linter.unusedVariables false
set_option linter.unusedSimpArgs false
def scopeF (acc : List Pw) : List Vr → Option (List Pw)
  | [] => some acc
  | v :: vs => if btw v.u 0 4 = true then scopeF (acc ++ [kindP v.u]) vs else none
theorem scopeF_eq : ∀ (vs : List Vr) (acc : List Pw), scopeF acc vs = if (vs.map (·.u)).all (fun u => btw u 0 4) = true then some (acc ++ (vs.map (·.u)).map kindP) else none
  | [], acc => by simp [scopeF]
  | v :: vs, acc => by
    rw [scopeF, scopeF_eq vs]
    by_cases h : btw v.u 0 4 = true
    · simp [h]
    · simp [h]
theorem scopeM_F (vs : List Vr) (h : vs.length ≤ 12) : scopeM (vs.map (·.u)) = scopeF [] vs := by
  rw [scopeF_eq]
  unfold scopeM
  simp only [List.length_map, h, true_and, List.nil_append]
def ScopeP (B : Nat) (r : Option (List Pw)) (w : World) (e : Ending) (w' : World) : Prop :=
  (match r with
    | some s => ∃ A c, e = .returned (.tuple #[.slice A s.length (s.length + c), .bool true]) ∧ PwsR w' s A
    | none => e = .returned (.tuple #[.slice none 0 0, .bool false])) ∧ Below w.heap.size w w'
theorem ScopeP.some {B : Nat} {r : Option (List Pw)} {s : List Pw} {A : Option Addr} {c : Nat} {w w' : World} (hr : some s = r) (hp : PwsR w' s A) (hb : Below w.heap.size w w') : ScopeP B r w (.returned (.tuple #[.slice A s.length (s.length + c), .bool true])) w' := by
  subst hr
  exact ⟨⟨A, c, rfl, hp⟩, hb⟩
theorem ScopeP.none {B : Nat} {r : Option (List Pw)} {w w' : World} (hr : none = r) (hb : Below w.heap.size w w') : ScopeP B r w (.returned (.tuple #[.slice none 0 0, .bool false])) w' := by
  subst hr
  exact ⟨rfl, hb⟩
abbrev vArr (v : Vr) : Array Value := #[.string v.x, .int .i64 v.u, .int .i64 v.lo, .int .i64 v.hi, .int .i64 v.i]
set_option maxHeartbeats 2000000 in
set_option maxRecDepth 100000 in
theorem scopeOf_any (vs : List Vr) (A : Option Addr) (m : Nat) (w : World) (hL : LaidW w) (hV : VarsR w vs A) : Calls Tryz.prog 41 #[.slice A vs.length m] w (ScopeP 0 (scopeM (vs.map (·.u))) w) := by
  by_cases hmany : vs.length ≤ 12
  · rw [scopeM_F vs hmany]
    obtain ⟨r, hr⟩ : ∃ r, scopeF [] vs = r := ⟨_, rfl⟩
    rw [hr]
    have hR := Lib.hid hr
    have HL := Lib.hid hL
    have HV := Lib.hid hV
    obtain ⟨i0, hi, hz0, hz1, hz2⟩ := info_parts pwInfo
    clear hr hL hV
    go_enter Tryz.func41, Tryz.ntmps41
    go_wp2_with fail
    go_loopg [4, 12] (vs.length) (fun gk v i wr => ∃ (k : Nat) (acc : List Pw), k + gk = vs.length ∧ i = .int .i64 k ∧ acc.length = k ∧ Hid (scopeF acc (vs.drop k) = r) ∧ Hid (wr.ownsRow w.heap.size 100 3 v acc.length (psCells acc)) ∧ Hid (Below w.heap.size w wr))
    case atStart => exact ⟨0, [], by omega, rfl, rfl, hR, Lib.hid (World.ownsRow_nil _ _ _ _), Lib.hid (Below.refl _ _)⟩
    case round =>
      obtain ⟨k, acc, hk, rfl, hacc, hG, hO, hW⟩ := hrel
      subst hacc
      obtain ⟨Av, cv, rfl, hAv⟩ := own_pws hO.out
      have hAv := Lib.hid hAv
      by_cases hlt : acc.length < vs.length
      · obtain ⟨g, rfl⟩ : ∃ g, gk = g + 1 := ⟨gk - 1, by omega⟩
        obtain ⟨ga, oa, rfl, hat⟩ := (HV.out.below hW.out).addr (by omega)
        obtain ⟨e0, e1, e2, e3, e4⟩ := hat _ _ (List.getElem?_eq_getElem hlt)
        have hG1 := hG.out
        rw [List.drop_eq_getElem_cons hlt, scopeF] at hG1
        clear hat
        generalize vs[acc.length] = t at *
        have hbk : Below wr.heap.size wr (wr.alloc (.cells (vArr t) 47)) := (Below.refl _ _).alloc (Nat.le_refl _) _
        have HK := Lib.hid (isKind_any t.u)
        cases hb : btw t.u 0 4 with
        | false =>
          rw [hb, if_neg (by simp)] at hG1
          rw [hb] at HK
          have hF := Lib.hid (ScopeP.none (B := 0) hG1 (hW.out.trans (hbk.mono hW.out.size)))
          clear hb hG1 hG
          go_wp2_with (go_at_call 51; refine (HK.out _).mono ?_; rintro e w1 ⟨rfl, hw2⟩; have hw2 := hw2.symm; subst hw2)
          exact bodyPost_ret (v := .tuple #[.slice none 0 0, .bool false]) (by simp [results, Tryz.results41, go_sem]) rfl hF.out
        | true =>
          rw [hb, if_pos rfl] at hG1
          rw [hb] at HK
          have hG2 := Lib.hid hG1
          obtain ⟨hu0, hu1⟩ := btw_iff.1 hb
          obtain ⟨j, hj⟩ : ∃ j : Nat, t.u = j := ⟨t.u.toNat, by omega⟩
          have hj5 : j < 5 := by omega
          obtain ⟨k0, k1, k2⟩ := ((HL.out.below hW.out).below hbk).kinds j hj5
          have hg0 := World.block_lt_of_cell? _ _ k0
          obtain ⟨tx, tu, tlo, thi, ti⟩ := t
          simp only at hj
          subst hj
          have hown := owns_below hO.out hbk.block
          have hlt2 := hown.lt
          have hWk := hW.out.trans (hbk.mono hW.out.size)
          simp only at hG2 e1 HK
          clear hb hG1 hG hu0 hu1
          generalize hp : kindP (j : Int) = p at *
          go_wp2_with (first
            | (go_at_call 51; refine (HK.out _).mono ?_; rintro e w1 ⟨rfl, hw2⟩; have hw2 := hw2.symm; subst hw2)
            | (at_builtin; refine wpList_append_lies _ rfl _ _ 81 rfl w.heap.size 100 i0 (.agg (pArr ⟨0, 0, 0⟩)) 3 24 Tryz.underlying81 hi hz0 hz1 hz2 rfl (by decide) _ _ (psCells acc) rfl (hown.alloc _) ⟨wr.heap.size + 1, 0, none⟩ 1 1 (pCells p) rfl rfl ?c1 ?c2 (by decide) ?c3 ?c4 ?c5 (wr.heap.size + 1 + 1) ?c6 ?_))
          case c1 => exact new_cells _ (pArr p) _ _ (by simp)
          case c2 => exact p_one p
          case c3 => unfold maxLen; omega
          case c4 => omega
          case c5 => have := hWk.size; simp at this ⊢; omega
          case c6 => simp
          intro gb cap w3 hown3 hgrow hat hlt3
          have hown4 : Hid (w3.ownsRow w.heap.size 100 3 (.slice (some ⟨gb, 0, none⟩) (acc.length + 1) cap) (acc ++ [p]).length (psCells (acc ++ [p]))) := Lib.hid (by rw [psCells_snoc, List.length_append]; exact hown3)
          have hW3 := Lib.hid (hWk.trans (gbBelow (B := w.heap.size) (gbTrans (gbAlloc (gbRefl _ _)) hgrow) hWk.size (fun k e => (hlt2 k e).1)))
          clear hgrow hown3 hown hlt2 hat hWk
          go_wp2
          go_roundg g
          case measure => omega
          case rel => exact ⟨acc.length + 1, acc ++ [p], by omega, by go_num, by simp, hG2, hown4, hW3⟩
      · obtain rfl : gk = 0 := by omega
        have hF : Hid (some acc = r) := Lib.hid (by have := hG.out; rw [List.drop_eq_nil_of_le (by omega), scopeF] at this; exact this)
        have hE := Lib.hid (ScopeP.some (B := 0) (c := cv) hF.out hAv.out hW.out)
        clear hG
        go_wp2_with fail
        exact bodyPost_ret (v := .tuple #[.slice Av acc.length (acc.length + cv), .bool true]) (by simp [results, Tryz.results41, go_sem]) rfl hE.out
  · have e : scopeM (vs.map (·.u)) = none := by unfold scopeM; rw [if_neg]; simp; intro h; omega
    rw [e]
    go_enter Tryz.func41, Tryz.ntmps41
    go_wp2_with fail
    exact bodyPost_ret (v := .tuple #[.slice none 0 0, .bool false]) (by simp [results, Tryz.results41, go_sem]) rfl ⟨rfl, Below.refl _ _⟩
end Go.Proofs.YtdgompdbhlhofaaGreatDoor.U

namespace Go.Proofs.YtdgompdbhlhofaaGreatDoor.U
open Go.RowKit
set_option linter.unusedVariables false
set_option linter.unusedSimpArgs false
def resP : Except Int Pw → Pw × Int
  | .ok p => (p, 0)
  | .error er => (⟨0, 0, 0⟩, er)
theorem ta_nil (w : World) : (Instr.typeAssert .nilIface 20 23 true).run Tryz.prog w = .ok (.tuple #[.int .i64 0, .bool false]) w := by
  simp [Instr.typeAssert, go_sem]
theorem ta_err (er : Int) (w : World) : (Instr.typeAssert (.iface 23 (.int .i64 er)) 20 23 true).run Tryz.prog w = .ok (.tuple #[.int .i64 er, .bool true]) w := by
  simp [Instr.typeAssert, go_sem]
set_option maxHeartbeats 1000000 in
set_option maxRecDepth 100000 in
theorem inf_idle (p : Addr) (w : World) :
    CallsD Tryz.prog 105 #[.pointer (some p)] .returning w fun e u' w' => e = .returned (.tuple #[]) ∧ u' = .returning ∧ w' = w := by
  refine callsD_of_wpS Tryz.func105 rfl fun c₀ cs hu => ?_
  apply wpS_seq
  apply wpS_region
  simp [wpOpsS, go_sem, recoverD, hu, Tryz.ntmps105, Exit.thenS, ta_nil, Array.replicate_succ]
  refine wpS_of_wp ?_
  go_wp2
  cases c₀
  simp_all [bodyPostS, results, Tryz.results105]
set_option maxHeartbeats 1000000 in
set_option maxRecDepth 100000 in
theorem inf_rec (b : Nat) (er : Int) (w : World) (v0 : Value) (hb : w.heap[b]? = some (.cells #[v0] 23 (0, 0))) :
    CallsD Tryz.prog 105 #[.pointer (some ⟨b, 0, none⟩)] (.panicking [{ v := .iface 23 (.int .i64 er), recovered := false }]) w fun e u' w' =>
      e = .returned (.tuple #[]) ∧ u' = .panicking [{ v := .iface 23 (.int .i64 er), recovered := true }] ∧ w' = w.setCell ⟨b, 0, none⟩ (.int .i64 er) := by
  refine callsD_of_wpS Tryz.func105 rfl fun c₀ cs hu => ?_
  apply wpS_seq
  apply wpS_region
  simp [wpOpsS, go_sem, recoverD, hu, Tryz.ntmps105, Exit.thenS, ta_err, Array.replicate_succ]
  refine wpS_of_wp ?_
  obtain ⟨hc, hf⟩ : w.cell? ⟨b, 0, none⟩ = some v0 ∧ w.frozen? ⟨b, 0, none⟩ = false := ⟨by rw [cell_of_row _ _ 0 _ _ (0, 0) hb]; rfl, by simp [World.frozen?, hb]⟩
  have hlt := blkLt hb
  clear hb
  go_wp2
  exact ⟨rfl, _, rfl, .tuple #[], by simp [results, Tryz.results105], rfl, rfl, rfl⟩
set_option maxHeartbeats 2000000 in
set_option maxRecDepth 100000 in
theorem infer_any {s : List Pw} (hs : allRg s) (hl : s.length ≤ 12) (t : Ex) (w : World) (A B : Option Addr) (c d : Nat) (hL : LaidW w) (hP : PwsR w s B) (hK : KidsE w t.kids A) (hsz : t.size ≤ 60) :
    Calls Tryz.prog 95 #[.slice B s.length (s.length + d), ev t A c] w (VV (.tuple #[pv (resP (inf s t)).1, .int .i64 (resP (inf s t)).2]) w) := by
  have hmf : ∀ (fn : Fn) (first cap : Array Value) (w : World), (Instr.makeFunc fn first cap).run Tryz.prog w = .ok (.func fn first cap) w := fun _ _ _ _ => rfl
  have HB0 := (((Below.refl w.heap.size w).alloc (Nat.le_refl _) (.cells (eArr t A c) 41)).alloc (by simp) (.cells (pArr ⟨0, 0, 0⟩) 100)).alloc (by simp <;> omega) (.cells #[.int .i64 0] 23)
  have HP0 : Hid ((((w.alloc (.cells (eArr t A c) 41)).alloc (.cells (pArr ⟨0, 0, 0⟩) 100)).alloc (.cells #[.int .i64 0] 23)).heap[w.heap.size + 1]? = some (.cells (pArr ⟨0, 0, 0⟩) 100 (0, 0))) :=
    Lib.hid ((Below.heap_alloc _ _ _ (by simp)).trans (newBlk _ _ _ (by simp)))
  have HE0 : Hid ((((w.alloc (.cells (eArr t A c) 41)).alloc (.cells (pArr ⟨0, 0, 0⟩) 100)).alloc (.cells #[.int .i64 0] 23)).heap[w.heap.size + 1 + 1]? = some (.cells #[.int .i64 0] 23 (0, 0))) :=
    Lib.hid (newBlk _ _ _ (by simp))
  have HI := Lib.hid (expr_any hs hl t _ A B c d (hL.below HB0) (hP.below HB0) (hK.below HB0) hsz)
  have HB0 := Lib.hid HB0
  obtain ⟨r, hr⟩ : ∃ r, inf s t = r := ⟨_, rfl⟩
  rw [hr] at HI ⊢
  clear hr hL hP hK hs hl hsz
  go_enter_defers Tryz.func95, Tryz.ntmps95
  go_wp2_with fail
  refine HI.out.mono ?_
  rintro e w1 ⟨he, hb1⟩
  have hP1 := Lib.hid ((hb1.block (w.heap.size + 1) (by simp <;> omega)).trans HP0.out)
  have hE1 := Lib.hid ((hb1.block (w.heap.size + 1 + 1) (by simp)).trans HE0.out)
  have hW1 := Lib.hid (HB0.out.trans (hb1.mono (by simp <;> omega)))
  clear hb1 HP0 HE0 HB0 HI
  have hx1 := blkLt hE1.out
  rcases r with er | p
  · simp only at he
    subst he
    go_wp2
    refine leaves_cons (f := 105) (args := #[.pointer (some ⟨w.heap.size + 1 + 1, 0, none⟩)]) (by simp) (by simp [go_sem]) ?_
    refine (inf_rec (w.heap.size + 1 + 1) er w1 _ hE1.out).mono ?_
    rintro e u' w'' ⟨rfl, rfl, rfl⟩
    obtain ⟨⟨c0, c1, c2⟩, -⟩ := cells3 hP1.out
    have f0 : (w1.setCell ⟨w.heap.size + 1 + 1, 0, none⟩ (.int .i64 er)).cell? ⟨w.heap.size + 1 + 1, 0, none⟩ = some (.int .i64 er) := World.cell?_setCell_same _ _ _ (u := .int .i64 0) (by rw [cell_of_row _ _ 0 _ _ (0, 0) hE1.out]; rfl)
    have hF := Lib.hid (belowSet (u := .int .i64 er) (i := 0) hW1.out (show w.heap.size ≤ w.heap.size + 1 + 1 by omega))
    simp [Leaves, settle, results, Tryz.results95, go_sem, c0, c1, c2, f0]
    exact ⟨rfl, hF.out⟩
  · simp only at he
    subst he
    obtain ⟨⟨c0, c1, c2⟩, d0, d1, d2⟩ := cells3 hP1.out
    have e0 : w1.cell? ⟨w.heap.size + 1 + 1, 0, none⟩ = some (.int .i64 0) := by rw [cell_of_row _ _ 0 _ _ (0, 0) hE1.out]; rfl
    have e1 : w1.frozen? ⟨w.heap.size + 1 + 1, 0, none⟩ = false := by simp [World.frozen?, hE1.out]
    go_wp2
    refine leaves_cons (f := 105) (args := #[.pointer (some ⟨w.heap.size + 1 + 1, 0, none⟩)]) (by simp) (by simp [go_sem]) ?_
    refine (inf_idle _ _).mono ?_
    rintro e u' w'' ⟨rfl, rfl, rfl⟩
    obtain ⟨f0, f1, f2⟩ := res3 (x := .int .i64 p.a) (y := .int .i64 p.b) (z := .int .i64 p.c) hP1.out
    have f3 : ((((w1.setCell ⟨w.heap.size + 1, 0, none⟩ (.int .i64 p.a)).setCell ⟨w.heap.size + 1, 1, none⟩ (.int .i64 p.b)).setCell ⟨w.heap.size + 1, 2, none⟩ (.int .i64 p.c)).setCell ⟨w.heap.size + 1 + 1, 0, none⟩ (.int .i64 0)).cell? ⟨w.heap.size + 1 + 1, 0, none⟩ = some (.int .i64 0) := World.cell?_setCell_same _ _ _ (u := .int .i64 0) (by rw [cell_of_row _ _ 0 _ _ (0, 0) ((heap_setCell_other _ _ _ _ (by simp)).trans ((heap_setCell_other _ _ _ _ (by simp)).trans ((heap_setCell_other _ _ _ _ (by simp)).trans hE1.out)))]; rfl)
    have hF := Lib.hid (belowSet (u := .int .i64 0) (i := 0) (below3 (v0 := .int .i64 p.a) (v1 := .int .i64 p.b) (v2 := .int .i64 p.c) hW1.out (Nat.le_add_right w.heap.size 1)) (show w.heap.size ≤ w.heap.size + 1 + 1 by omega))
    simp [Leaves, settle, results, Tryz.results95, go_sem, f0, f1, f2, f3]
    exact ⟨rfl, hF.out⟩
end Go.Proofs.YtdgompdbhlhofaaGreatDoor.U

namespace Go.Proofs.YtdgompdbhlhofaaGreatDoor.U
open Go.RowKit
set_option linter.unusedVariables false
set_option linter.unusedSimpArgs false
theorem scopeM_rg {us : List Int} {s : List Pw} (h : scopeM us = some s) : allRg s ∧ s.length ≤ 12 ∧ s = us.map kindP := by
  unfold scopeM at h
  split at h
  · rename_i hc
    simp only [Option.some.injEq] at h
    subst h
    exact ⟨kinds_rg us, by simpa using hc.1, rfl⟩
  · simp at h
end Go.Proofs.YtdgompdbhlhofaaGreatDoor.U

namespace Go.Proofs.YtdgompdbhlhofaaGreatDoor.U
open Go.RowKit
set_option linter.unusedVariables false
set_option linter.unusedSimpArgs false
inductive St where
  | mk (kind var rel : Int) (a b : Ex) (th el : List St)
def St.kind : St → Int | .mk k _ _ _ _ _ _ => k
def St.var : St → Int | .mk _ v _ _ _ _ _ => v
def St.rel : St → Int | .mk _ _ r _ _ _ _ => r
def St.a : St → Ex | .mk _ _ _ a _ _ _ => a
def St.b : St → Ex | .mk _ _ _ _ b _ _ => b
def St.th : St → List St | .mk _ _ _ _ _ t _ => t
def St.el : St → List St | .mk _ _ _ _ _ _ e => e
def okS (k : Int) (a b : Ex) (n : Int) : Bool := decide (0 ≤ n) && (!decide (60 < a.size) && (!decide (k = 2) || !decide (60 < b.size)))
mutual
def evS : St → Int → Bool × Int
  | .mk k v r a b th el, n =>
    if okS k a b (n - 1) = true then (if k = 2 then (match evL th (n - 1) with | (true, m) => evL el m | (false, m) => (false, m)) else (true, n - 1)) else (false, n - 1)
def evL : List St → Int → Bool × Int
  | [], n => (true, n)
  | x :: xs, n => match evS x n with | (true, m) => evL xs m | (false, m) => (false, m)
end
mutual
theorem evS_range : ∀ (x : St) (n : Int), 0 ≤ n → -1 ≤ (evS x n).2 ∧ (evS x n).2 ≤ n ∧ ((evS x n).1 = true → 0 ≤ (evS x n).2)
  | .mk k v r a b th el, n, h => by
    rw [evS]
    by_cases ho : okS k a b (n - 1) = true
    · have h1 : 0 ≤ n - 1 := by simp [okS] at ho; omega
      rw [if_pos ho]
      by_cases hk : k = 2
      · rw [if_pos hk]
        have h2 := evL_range th (n - 1) h1
        rcases he : evL th (n - 1) with ⟨b1, m⟩
        rw [he] at h2
        cases b1 with
        | false => simp only at h2 ⊢; exact ⟨h2.1, by omega, by simp⟩
        | true =>
          simp only at h2 ⊢
          have h3 := evL_range el m (h2.2.2 trivial)
          exact ⟨h3.1, by omega, h3.2.2⟩
      · rw [if_neg hk]
        exact ⟨by simp only; omega, by simp only; omega, fun _ => h1⟩
    · rw [if_neg ho]
      exact ⟨by simp only; omega, by simp only; omega, by simp⟩
theorem evL_range : ∀ (l : List St) (n : Int), 0 ≤ n → -1 ≤ (evL l n).2 ∧ (evL l n).2 ≤ n ∧ ((evL l n).1 = true → 0 ≤ (evL l n).2)
  | [], n, h => by rw [evL]; exact ⟨by simp only; omega, by simp, fun _ => h⟩
  | x :: xs, n, h => by
    rw [evL]
    have h2 := evS_range x n h
    rcases he : evS x n with ⟨b1, m⟩
    rw [he] at h2
    cases b1 with
    | false => simp only at h2 ⊢; exact ⟨h2.1, by omega, by simp⟩
    | true =>
      simp only at h2 ⊢
      have h3 := evL_range xs m (h2.2.2 trivial)
      exact ⟨h3.1, by omega, h3.2.2⟩
end
mutual
def szS : St → Prop
  | .mk k v r a b th el => a.size ≤ 60 ∧ (k = 2 → b.size ≤ 60 ∧ szL th ∧ szL el)
def szL : List St → Prop
  | [] => True
  | x :: xs => szS x ∧ szL xs
end
mutual
theorem evS_sz : ∀ (x : St) (n : Int), (evS x n).1 = true → szS x
  | .mk k v r a b th el, n, h => by
    rw [evS] at h
    rw [szS]
    by_cases ho : okS k a b (n - 1) = true
    · rw [if_pos ho] at h
      simp [okS] at ho
      refine ⟨ho.2.1, fun hk => ?_⟩
      rw [if_pos hk] at h
      rcases he : evL th (n - 1) with ⟨b1, m⟩
      rw [he] at h
      cases b1 with
      | false => simp at h
      | true =>
        simp only at h
        exact ⟨by rcases ho.2.2 with h1 | h1 <;> first | exact h1 | exact absurd hk h1, evL_sz th (n - 1) (by rw [he]), evL_sz el m h⟩
    · rw [if_neg ho] at h
      simp at h
theorem evL_sz : ∀ (l : List St) (n : Int), (evL l n).1 = true → szL l
  | [], n, h => trivial
  | x :: xs, n, h => by
    rw [evL] at h
    rw [szL]
    rcases he : evS x n with ⟨b1, m⟩
    rw [he] at h
    cases b1 with
    | false => simp at h
    | true => simp only at h; exact ⟨evS_sz x n (by rw [he]), evL_sz xs m h⟩
end
theorem szL_mem : ∀ {l : List St} {x : St}, x ∈ l → szL l → szS x
  | [], x, h, _ => by cases h
  | y :: ys, x, h, hs => by
    rw [szL] at hs
    rcases List.mem_cons.1 h with rfl | h
    · exact hs.1
    · exact szL_mem h hs.2
def assignM (s : List Pw) (v : Int) (a : Ex) : Int :=
  if btw v 0 ((s.length : Int) - 1) = true then (match inf s a with | .error e => e | .ok p => if p = s.getD v.toNat ⟨0, 0, 0⟩ then 0 else 13) else 1
def cmpM (s : List Pw) (a b : Ex) : Int :=
  match inf s a with
  | .error e => e
  | .ok p => match inf s b with
    | .error e => e
    | .ok q => if p = q then 0 else 13
mutual
def stM (s : List Pw) : St → Int
  | .mk k v r a b th el =>
    if k = 1 then assignM s v a
    else if k = 2 then (if btw r 1 6 = true then (if cmpM s a b = 0 then (if stsM s th = 0 then stsM s el else stsM s th) else cmpM s a b) else 1)
    else 1
def stsM (s : List Pw) : List St → Int
  | [] => 0
  | x :: xs => if stM s x = 0 then stsM s xs else stM s x
end
def handM (s : List Pw) (l : List St) : Int := if (evL l 100).1 = true then stsM s l else 2
mutual
theorem inf_err {s : List Pw} : ∀ (t : Ex) {e : Int}, inf s t = .error e → e = 1 ∨ e = 13
  | .mk op n u ks, e, h => by
    rw [inf] at h
    rcases hk : infK s ks with er | ps <;> rw [hk] at h <;> simp only at h
    · simp only [Except.error.injEq] at h
      subst h
      exact infK_err ks hk
    · unfold nodeP at h
      split at h
      · split at h
        · simp at h
        · split at h
          · simp at h
          · split at h
            · simp at h
            · unfold twoP at h
              have hl : ∀ p : Pw, limP p = .error e → e = 1 ∨ e = 13 := fun p hp => by
                unfold limP at hp
                split at hp <;> simp at hp
                exact .inr hp.symm
              split at h
              · exact hl _ h
              · split at h
                · exact hl _ h
                · split at h <;> simp at h
                  exact .inr h.symm
      · simp at h
        exact .inl h.symm
theorem infK_err {s : List Pw} : ∀ (ks : List Ex) {e : Int}, infK s ks = .error e → e = 1 ∨ e = 13
  | [], e, h => by simp [infK] at h
  | k :: ks, e, h => by
    simp only [infK] at h
    rcases hk : inf s k with er | p <;> rw [hk] at h <;> simp only at h
    · simp only [Except.error.injEq] at h
      subst h
      exact inf_err k hk
    · rcases hks : infK s ks with er | qs <;> rw [hks] at h <;> simp at h
      subst h
      exact infK_err ks hks
end
abbrev sv (x : St) (A : Option Addr) (c : Nat) (B : Option Addr) (d : Nat) (T : Option Addr) (m : Nat) (E : Option Addr) (n : Nat) : Value :=
  .agg #[.int .i64 x.kind, .int .i64 x.var, .int .i64 x.rel, .int .i64 x.a.op, .int .i64 x.a.n, .int .i64 x.a.unit, .slice A x.a.kids.length (x.a.kids.length + c), .int .i64 x.b.op, .int .i64 x.b.n, .int .i64 x.b.unit, .slice B x.b.kids.length (x.b.kids.length + d), .slice T x.th.length m, .slice E x.el.length n]
abbrev sArr (x : St) (A : Option Addr) (c : Nat) (B : Option Addr) (d : Nat) (T : Option Addr) (m : Nat) (E : Option Addr) (n : Nat) : Array Value :=
  #[.int .i64 x.kind, .int .i64 x.var, .int .i64 x.rel, .int .i64 x.a.op, .int .i64 x.a.n, .int .i64 x.a.unit, .slice A x.a.kids.length (x.a.kids.length + c), .int .i64 x.b.op, .int .i64 x.b.n, .int .i64 x.b.unit, .slice B x.b.kids.length (x.b.kids.length + d), .slice T x.th.length m, .slice E x.el.length n]
def StAt (w : World) (x : St) (g o : Nat) (A : Option Addr) (c : Nat) (B : Option Addr) (d : Nat) (T : Option Addr) (m : Nat) (E : Option Addr) (n : Nat) : Prop :=
  w.cell? ⟨g, o, none⟩ = some (.int .i64 x.kind) ∧ w.cell? ⟨g, o + 1, none⟩ = some (.int .i64 x.var) ∧ w.cell? ⟨g, o + 2, none⟩ = some (.int .i64 x.rel) ∧
  w.cell? ⟨g, o + 3, none⟩ = some (.int .i64 x.a.op) ∧ w.cell? ⟨g, o + 4, none⟩ = some (.int .i64 x.a.n) ∧ w.cell? ⟨g, o + 5, none⟩ = some (.int .i64 x.a.unit) ∧ w.cell? ⟨g, o + 6, none⟩ = some (.slice A x.a.kids.length (x.a.kids.length + c)) ∧
  w.cell? ⟨g, o + 7, none⟩ = some (.int .i64 x.b.op) ∧ w.cell? ⟨g, o + 8, none⟩ = some (.int .i64 x.b.n) ∧ w.cell? ⟨g, o + 9, none⟩ = some (.int .i64 x.b.unit) ∧ w.cell? ⟨g, o + 10, none⟩ = some (.slice B x.b.kids.length (x.b.kids.length + d)) ∧
  w.cell? ⟨g, o + 11, none⟩ = some (.slice T x.th.length m) ∧ w.cell? ⟨g, o + 12, none⟩ = some (.slice E x.el.length n)
mutual
def StsR (w : World) : List St → Option Addr → Prop
  | [], _ => True
  | t :: ts, A => ∃ g o, A = some ⟨g, o, none⟩ ∧ StR w t g o ∧ StsR w ts (some ⟨g, o + 13, none⟩)
def StR (w : World) : St → Nat → Nat → Prop
  | .mk k v r a b th el, g, o => ∃ A c B d T m E n, StAt w (.mk k v r a b th el) g o A c B d T m E n ∧ KidsE w a.kids A ∧ KidsE w b.kids B ∧ StsR w th T ∧ StsR w el E ∧ th.length ≤ maxLen ∧ el.length ≤ maxLen
end
theorem StAt.keep {w w' : World} {x : St} {g o : Nat} {A B T E : Option Addr} {c d m n : Nat} (h : StAt w x g o A c B d T m E n) (hb : w'.heap[g]? = w.heap[g]?) : StAt w' x g o A c B d T m E n := by
  have e : ∀ i, w'.cell? ⟨g, i, none⟩ = w.cell? ⟨g, i, none⟩ := fun i => World.cell?_of_block (a := ⟨g, i, none⟩) hb
  unfold StAt
  simp only [e]
  exact h
theorem StR.cells {w : World} {x : St} {g o : Nat} (h : StR w x g o) : ∃ A c B d T m E n, StAt w x g o A c B d T m E n ∧ KidsE w x.a.kids A ∧ KidsE w x.b.kids B ∧ StsR w x.th T ∧ StsR w x.el E ∧ x.th.length ≤ maxLen ∧ x.el.length ≤ maxLen := by
  obtain ⟨k, v, r, a, b, th, el⟩ := x
  unfold StR at h
  exact h
theorem StsR.get {w : World} : ∀ (ts : List St) (g o : Nat), StsR w ts (some ⟨g, o, none⟩) → ∀ (i : Nat) (t : St), ts[i]? = some t → StR w t g (o + i * 13)
  | [], g, o, h, i, t, ht => by simp at ht
  | u :: us, g, o, h, i, t, ht => by
    unfold StsR at h
    obtain ⟨g', o', hA, h1, h2⟩ := h
    cases hA
    cases i with
    | zero => simp at ht; subst ht; simpa using h1
    | succ i =>
      have := StsR.get us g (o + 13) h2 i t (by simpa using ht)
      rw [show o + (i + 1) * 13 = o + 13 + i * 13 by omega]
      exact this
theorem StsR.addr {w : World} {ts : List St} {A : Option Addr} (h : StsR w ts A) (hn : 0 < ts.length) : ∃ g o, A = some ⟨g, o, none⟩ := by
  cases ts with
  | nil => simp at hn
  | cons t ts => unfold StsR at h; obtain ⟨g, o, hA, _⟩ := h; exact ⟨g, o, hA⟩
mutual
theorem StsR.keep {w w' : World} (hb : ∀ k, k < w.heap.size → w'.heap[k]? = w.heap[k]?) : ∀ (ts : List St) (A : Option Addr), StsR w ts A → StsR w' ts A
  | [], _, _ => trivial
  | t :: ts, A, h => by
    unfold StsR at h ⊢
    obtain ⟨g, o, hA, h1, h2⟩ := h
    exact ⟨g, o, hA, StR.keep hb t g o h1, StsR.keep hb ts _ h2⟩
theorem StR.keep {w w' : World} (hb : ∀ k, k < w.heap.size → w'.heap[k]? = w.heap[k]?) : ∀ (t : St) (g o : Nat), StR w t g o → StR w' t g o
  | .mk k v r a b th el, g, o, h => by
    unfold StR at h ⊢
    obtain ⟨A, c, B, d, T, m, E, n, h0, h1, h2, h3, h4, h5⟩ := h
    exact ⟨A, c, B, d, T, m, E, n, h0.keep (hb g (World.block_lt_of_cell? w _ h0.1)), h1.keep hb _ _, h2.keep hb _ _, StsR.keep hb th T h3, StsR.keep hb el E h4, h5⟩
end
theorem StsR.below {w w' : World} {ts : List St} {A : Option Addr} (h : StsR w ts A) (hb : Below w.heap.size w w') : StsR w' ts A := h.keep hb.block ts A
structure KpL (L : Nat) (w w' : World) : Prop where
  os : w'.os = w.os
  tape : w'.tape = w.tape
  output : w'.output = w.output
  size : w.heap.size ≤ w'.heap.size
  block : ∀ k, k < w.heap.size → k ≠ L → w'.heap[k]? = w.heap[k]?
theorem KpL.refl (L : Nat) (w : World) : KpL L w w := ⟨rfl, rfl, rfl, Nat.le_refl _, fun _ _ _ => rfl⟩
theorem KpL.trans {L : Nat} {a b c : World} (h : KpL L a b) (k : KpL L b c) : KpL L a c :=
  ⟨k.os.trans h.os, k.tape.trans h.tape, k.output.trans h.output, Nat.le_trans h.size k.size, fun i hi h1 => (k.block i (Nat.lt_of_lt_of_le hi h.size) h1).trans (h.block i hi h1)⟩
theorem Below.kpl {L : Nat} {a b : World} (h : Below a.heap.size a b) : KpL L a b := ⟨h.os, h.tape, h.output, h.size, fun i hi _ => h.block i hi⟩
theorem KpL.alloc {L : Nat} {a b : World} (h : KpL L a b) (o : Obj) : KpL L a (b.alloc o) := h.trans (Below.kpl ((Below.refl _ _).alloc (Nat.le_refl _) _))
theorem KpL.set {L i : Nat} {a b : World} (h : KpL L a b) (v : Value) : KpL L a (b.setCell ⟨L, i, none⟩ v) :=
  ⟨h.os, h.tape, h.output, by simpa using h.size, fun k hk h1 => (heap_setCell_other b _ k v h1).trans (h.block k hk h1)⟩
theorem KpL.below {L B : Nat} {w0 a b : World} (h0 : Below B w0 a) (h : KpL L a b) (hB : B ≤ a.heap.size) (hL : B ≤ L) : Below B w0 b :=
  h0.trans ⟨h.os, h.tape, h.output, h.size, fun i hi => h.block i (by omega) (by omega)⟩
end Go.Proofs.YtdgompdbhlhofaaGreatDoor.U

namespace Go.Proofs.YtdgompdbhlhofaaGreatDoor.I
set_option linter.unusedVariables false
set_option linter.unusedSimpArgs false
structure Sp where
  lo : Int
  hi : Int
def vN (n : Int) : Bool := decide (-1000000000000 ≤ n) && decide (n ≤ 1000000000000)
theorem vN_iff {n : Int} : vN n = true ↔ -1000000000000 ≤ n ∧ n ≤ 1000000000000 := by simp [vN]
def absF (x : Int) : Int := max x (-x)
def divF (x y : Int) : Int := x.fdiv y
theorem absF_nonneg (x : Int) : 0 ≤ absF x := by unfold absF; omega
theorem absF_pos {x : Int} (h : x ≠ 0) : 1 ≤ absF x := by unfold absF; omega
theorem absF_mul (x y : Int) : absF (x * y) = absF x * absF y := by
  unfold absF
  rcases Int.le_total 0 x with hx | hx <;> rcases Int.le_total 0 y with hy | hy
  · have := Int.mul_nonneg hx hy
    rw [Int.max_eq_left (by omega), Int.max_eq_left (by omega), Int.max_eq_left (by omega)]
  · have := Int.mul_nonneg hx (show 0 ≤ -y by omega)
    rw [Int.mul_neg] at this
    rw [Int.max_eq_right (by omega), Int.max_eq_left (by omega), Int.max_eq_right (by omega), Int.mul_neg]
  · have := Int.mul_nonneg (show 0 ≤ -x by omega) hy
    rw [Int.neg_mul] at this
    rw [Int.max_eq_right (by omega), Int.max_eq_right (by omega), Int.max_eq_left (by omega), Int.neg_mul]
  · have := Int.mul_nonneg (show 0 ≤ -x by omega) (show 0 ≤ -y by omega)
    rw [Int.neg_mul_neg] at this
    rw [Int.max_eq_left (by omega), Int.max_eq_right (by omega), Int.max_eq_right (by omega), Int.neg_mul_neg]
theorem fdiv_pos (x : Int) {y : Int} (h : 0 < y) : x.fdiv y = x / y := Int.fdiv_eq_ediv_of_nonneg x (by omega)
theorem fdiv_negneg (x y : Int) : (-x).fdiv (-y) = x.fdiv y := by simp
theorem fdiv_neg_eq (x : Int) {y : Int} (h : y < 0) : x.fdiv y = (-x) / (-y) := by rw [← fdiv_negneg, fdiv_pos _ (by omega)]
theorem tdiv_bd (x y : Int) : (0 ≤ x.tdiv y ∧ x.tdiv y ≤ absF x) ∨ (x.tdiv y ≤ 0 ∧ - absF x ≤ x.tdiv y) := by
  have h : (x.tdiv y).natAbs ≤ x.natAbs := by rw [Int.natAbs_tdiv]; exact Nat.div_le_self _ _
  unfold absF; omega
theorem floor_eq (x y : Int) (hy : y ≠ 0) : x.fdiv y = if x.tmod y ≠ 0 ∧ ((decide (x < 0) == decide (y < 0)) = false) then x.tdiv y - 1 else x.tdiv y := by
  rw [Int.fdiv_eq_tdiv]
  have h := @Int.dvd_iff_tmod_eq_zero y x
  by_cases hd : y ∣ x
  · rw [if_pos hd, if_neg (by simp [h.1 hd])]; omega
  · have ht : x.tmod y ≠ 0 := fun e => hd (h.2 e)
    rw [if_neg hd]
    rcases Int.lt_or_gt_of_ne hy with hy' | hy'
    · have s : y.sign = -1 := Int.sign_eq_neg_one_of_neg hy'
      by_cases hx : 0 ≤ x
      · rw [if_pos hx, if_neg (by omega), if_pos ⟨ht, by simp; omega⟩]
      · rw [if_neg hx, if_neg (by omega), if_neg (by simp; omega), s]; omega
    · have s : y.sign = 1 := Int.sign_eq_one_of_pos hy'
      by_cases hx : 0 ≤ x
      · rw [if_pos hx, if_pos (by omega), if_neg (by simp; omega)]; omega
      · rw [if_neg hx, if_pos (by omega), if_pos ⟨ht, by simp; omega⟩, s]
end Go.Proofs.YtdgompdbhlhofaaGreatDoor.I

namespace Go.Proofs.YtdgompdbhlhofaaGreatDoor.I
open Go.RowKit
set_option linter.unusedVariables false
set_option linter.unusedSimpArgs false
abbrev sv (s : Sp) : Value := .agg #[.int .i64 s.lo, .int .i64 s.hi]
abbrev rv (r : Sp × Int) : Value := .tuple #[sv r.1, .int .i64 r.2]
def BB (b : Bool) (w : World) (e : Ending) (w' : World) : Prop := e = .returned (.bool b) ∧ Below w.heap.size w w'
def VV (v : Value) (w : World) (e : Ending) (w' : World) : Prop := e = .returned v ∧ Below w.heap.size w w'
def SS (v : Value) (w : World) (e : Ending) (w' : World) : Prop := e = .returned v ∧ w' = w
theorem blkLt {w : World} {b : Nat} {o : Obj} (h : w.heap[b]? = some o) : b < w.heap.size := (Array.getElem?_eq_some_iff.1 h).1
theorem newBlk (w : World) (o : Obj) (b : Nat) (h : b = w.heap.size) : (w.alloc o).heap[b]? = some o := by subst h; exact heap_alloc_new w o
theorem ret_int {k : IntKind} {a b : Int} (h : a = b) : Ending.returned (.int k a) = .returned (.int k b) := by rw [h]
theorem ret_bool {a b : Bool} (h : a = b) : Ending.returned (.bool a) = .returned (.bool b) := by rw [h]
def Fit (n : Int) : Prop := -4000000000000000000 ≤ n ∧ n ≤ 4000000000000000000
end Go.Proofs.YtdgompdbhlhofaaGreatDoor.I

namespace Go.Proofs.YtdgompdbhlhofaaGreatDoor.I
open Go.RowKit
set_option linter.unusedVariables false
set_option linter.unusedSimpArgs false
theorem ss {P : Program} {f : FuncId} {args : Array Value} {w : World} {v : Value} (h : Calls P f args w (SS v w)) : Calls P f args w (fun e w'' => e = .returned v ∧ w'' = w) := h
end Go.Proofs.YtdgompdbhlhofaaGreatDoor.I

namespace Go.Proofs.YtdgompdbhlhofaaGreatDoor.I
set_option linter.unusedVariables false
set_option linter.unusedSimpArgs false
def Part (c a : Sp) : Prop := a.lo ≤ c.lo ∧ c.lo ≤ c.hi ∧ c.hi ≤ a.hi
def InS (n : Int) (a : Sp) : Prop := a.lo ≤ n ∧ n ≤ a.hi
end Go.Proofs.YtdgompdbhlhofaaGreatDoor.I
