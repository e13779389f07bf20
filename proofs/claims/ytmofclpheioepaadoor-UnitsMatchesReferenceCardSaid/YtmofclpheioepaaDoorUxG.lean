/- Contracts of package units: scopeOf, infer, Infer. -/
import Derived.Test.YtmofclpheioepaaDoorUxF
import Derived.Recover
import Derived.Defers
namespace Go.Proofs.YtmofclpheioepaaDoor
open Go.RowKit
set_option linter.unusedVariables false
set_option linter.unusedSimpArgs false

/-- the variables' kinds, as they are taken one after the other -/
def scopeF (acc : List Pw) : List Vr → Option (List Pw)
  | [] => some acc
  | v :: vs => if btw v.u 0 4 = true then scopeF (acc ++ [kindP v.u]) vs else none
theorem scopeF_eq : ∀ (vs : List Vr) (acc : List Pw), scopeF acc vs = if (vs.map (·.u)).all (fun u => btw u 0 4) = true then some (acc ++ (vs.map (·.u)).map kindP) else none
  | [], acc => by simp [scopeF]
  | v :: vs, acc => by
    rw [scopeF, scopeF_eq vs]
    by_cases h : btw v.u 0 4 = true
    · simp [h]
    · simp [h]
theorem scopeM_F (vs : List Vr) (h : vs.length ≤ 12) : scopeM (vs.map (·.u)) = scopeF [] vs := by
  rw [scopeF_eq]
  unfold scopeM
  simp only [List.length_map, h, true_and, List.nil_append]
/-- what scopeOf leaves -/
def ScopeP (B : Nat) (r : Option (List Pw)) (w : World) (e : Ending) (w' : World) : Prop :=
  (match r with
    | some s => ∃ A c, e = .returned (.tuple #[.slice A s.length (s.length + c), .bool true]) ∧ PwsR w' s A
    | none => e = .returned (.tuple #[.slice none 0 0, .bool false])) ∧ Below w.heap.size w w'
theorem ScopeP.some {B : Nat} {r : Option (List Pw)} {s : List Pw} {A : Option Addr} {c : Nat} {w w' : World} (hr : some s = r) (hp : PwsR w' s A) (hb : Below w.heap.size w w') : ScopeP B r w (.returned (.tuple #[.slice A s.length (s.length + c), .bool true])) w' := by
  subst hr
  exact ⟨⟨A, c, rfl, hp⟩, hb⟩
theorem ScopeP.none {B : Nat} {r : Option (List Pw)} {w w' : World} (hr : none = r) (hb : Below w.heap.size w w') : ScopeP B r w (.returned (.tuple #[.slice none 0 0, .bool false])) w' := by
  subst hr
  exact ⟨rfl, hb⟩
theorem varInfo : True := trivial
abbrev vArr (v : Vr) : Array Value := #[.string v.x, .int .i64 v.u, .int .i64 v.lo, .int .i64 v.hi, .int .i64 v.i]
set_option maxHeartbeats 2000000 in
set_option maxRecDepth 100000 in
theorem scopeOf_any (vs : List Vr) (A : Option Addr) (m : Nat) (w : World) (hL : LaidW w) (hV : VarsR w vs A) : Calls Tryd.prog 28 #[.slice A vs.length m] w (ScopeP 0 (scopeM (vs.map (·.u))) w) := by
  by_cases hmany : vs.length ≤ 12
  · rw [scopeM_F vs hmany]
    obtain ⟨r, hr⟩ : ∃ r, scopeF [] vs = r := ⟨_, rfl⟩
    rw [hr]
    have hR := Lib.hid hr
    have HL := Lib.hid hL
    have HV := Lib.hid hV
    obtain ⟨i0, hi, hz0, hz1, hz2⟩ := info_parts pwInfo
    clear hr hL hV
    go_enter Tryd.func28, Tryd.ntmps28
    go_wp2_with fail
    go_loopg [4, 12] (vs.length) (fun gk v i wr => ∃ (k : Nat) (acc : List Pw), k + gk = vs.length ∧ i = .int .i64 k ∧ acc.length = k ∧ Hid (scopeF acc (vs.drop k) = r) ∧ Hid (wr.ownsRow w.heap.size 67 3 v acc.length (psCells acc)) ∧ Hid (Below w.heap.size w wr))
    case atStart => exact ⟨0, [], by omega, rfl, rfl, hR, Lib.hid (World.ownsRow_nil _ _ _ _), Lib.hid (Below.refl _ _)⟩
    case round =>
      obtain ⟨k, acc, hk, rfl, hacc, hG, hO, hW⟩ := hrel
      subst hacc
      obtain ⟨Av, cv, rfl, hAv⟩ := own_pws hO.out
      have hAv := Lib.hid hAv
      by_cases hlt : acc.length < vs.length
      · obtain ⟨g, rfl⟩ : ∃ g, gk = g + 1 := ⟨gk - 1, by omega⟩
        obtain ⟨ga, oa, rfl, hat⟩ := (HV.out.below hW.out).addr (by omega)
        obtain ⟨e0, e1, e2, e3, e4⟩ := hat _ _ (List.getElem?_eq_getElem hlt)
        have hG1 := hG.out
        rw [List.drop_eq_getElem_cons hlt, scopeF] at hG1
        clear hat
        generalize vs[acc.length] = t at *
        have hbk : Below wr.heap.size wr (wr.alloc (.cells (vArr t) 50)) := (Below.refl _ _).alloc (Nat.le_refl _) _
        have HK := Lib.hid (isKind_any t.u)
        cases hb : btw t.u 0 4 with
        | false =>
          rw [hb, if_neg (by simp)] at hG1
          rw [hb] at HK
          have hF := Lib.hid (ScopeP.none (B := 0) hG1 (hW.out.trans (hbk.mono hW.out.size)))
          clear hb hG1 hG
          go_wp2_with (go_at_call 36; refine (HK.out _).mono ?_; rintro e w1 ⟨rfl, hw2⟩; have hw2 := hw2.symm; subst hw2)
          exact bodyPost_ret (v := .tuple #[.slice none 0 0, .bool false]) (by simp [results, Tryd.results28, go_sem]) rfl hF.out
        | true =>
          rw [hb, if_pos rfl] at hG1
          rw [hb] at HK
          have hG2 := Lib.hid hG1
          obtain ⟨hu0, hu1⟩ := btw_iff.1 hb
          obtain ⟨j, hj⟩ : ∃ j : Nat, t.u = j := ⟨t.u.toNat, by omega⟩
          have hj5 : j < 5 := by omega
          obtain ⟨k0, k1, k2⟩ := ((HL.out.below hW.out).below hbk).kinds j hj5
          have hg0 := World.block_lt_of_cell? _ _ k0
          obtain ⟨tx, tu, tlo, thi, ti⟩ := t
          simp only at hj
          subst hj
          have hown := owns_below hO.out hbk.block
          have hlt2 := hown.lt
          have hWk := hW.out.trans (hbk.mono hW.out.size)
          simp only at hG2 e1 HK
          clear hb hG1 hG hu0 hu1
          generalize hp : kindP (j : Int) = p at *
          go_wp2_with (first
            | (go_at_call 36; refine (HK.out _).mono ?_; rintro e w1 ⟨rfl, hw2⟩; have hw2 := hw2.symm; subst hw2)
            | (at_builtin; refine wpList_append_lies _ rfl _ _ 62 rfl w.heap.size 67 i0 (.agg (pArr ⟨0, 0, 0⟩)) 3 24 Tryd.underlying62 hi hz0 hz1 hz2 rfl (by decide) _ _ (psCells acc) rfl (hown.alloc _) ⟨wr.heap.size + 1, 0, none⟩ 1 1 (pCells p) rfl rfl ?c1 ?c2 (by decide) ?c3 ?c4 ?c5 (wr.heap.size + 1 + 1) ?c6 ?_))
          case c1 => exact new_cells _ (pArr p) _ _ (by simp)
          case c2 => exact p_one p
          case c3 => unfold maxLen; omega
          case c4 => omega
          case c5 => have := hWk.size; simp at this ⊢; omega
          case c6 => simp
          intro gb cap w3 hown3 hgrow hat hlt3
          have hown4 : Hid (w3.ownsRow w.heap.size 67 3 (.slice (some ⟨gb, 0, none⟩) (acc.length + 1) cap) (acc ++ [p]).length (psCells (acc ++ [p]))) := Lib.hid (by rw [psCells_snoc, List.length_append]; exact hown3)
          have hW3 := Lib.hid (hWk.trans (gbBelow (B := w.heap.size) (gbTrans (gbAlloc (gbRefl _ _)) hgrow) hWk.size (fun k e => (hlt2 k e).1)))
          clear hgrow hown3 hown hlt2 hat hWk
          go_wp2
          go_roundg g
          case measure => omega
          case rel => exact ⟨acc.length + 1, acc ++ [p], by omega, by go_num, by simp, hG2, hown4, hW3⟩
      · obtain rfl : gk = 0 := by omega
        have hF : Hid (some acc = r) := Lib.hid (by have := hG.out; rw [List.drop_eq_nil_of_le (by omega), scopeF] at this; exact this)
        have hE := Lib.hid (ScopeP.some (B := 0) (c := cv) hF.out hAv.out hW.out)
        clear hG
        go_wp2_with fail
        exact bodyPost_ret (v := .tuple #[.slice Av acc.length (acc.length + cv), .bool true]) (by simp [results, Tryd.results28, go_sem]) rfl hE.out
  · have e : scopeM (vs.map (·.u)) = none := by unfold scopeM; rw [if_neg]; simp; intro h; omega
    rw [e]
    go_enter Tryd.func28, Tryd.ntmps28
    go_wp2_with fail
    exact bodyPost_ret (v := .tuple #[.slice none 0 0, .bool false]) (by simp [results, Tryd.results28, go_sem]) rfl ⟨rfl, Below.refl _ _⟩
end Go.Proofs.YtmofclpheioepaaDoor
