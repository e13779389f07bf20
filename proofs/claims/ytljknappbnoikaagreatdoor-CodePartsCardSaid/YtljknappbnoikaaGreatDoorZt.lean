/- Texts of one proof: QaB, QaC. -/
import Derived.Test.YtljknappbnoikaaGreatDoorZs
import Derived.Deep.RegionLaw
set_option linter.unusedVariables false
set_option linter.unusedSimpArgs false
set_option maxRecDepth 100000
set_option maxHeartbeats 8000000
namespace Go.Proofs.YtljknappbnoikaaGreatDoor
open Go.RowKit
def lead (P : Nd → Bool) : List Nd → Nat
 | [] => 0
 | t :: ts => if P t = true then lead P ts + 1 else 0
theorem lead_le (P : Nd → Bool) : ∀ ts, lead P ts ≤ ts.length
 | [] => Nat.le_refl _
 | t :: ts => by
  rw [lead]
  have := lead_le P ts
  split
  ·simp only [List.length_cons]; omega
  ·omega
theorem lead_yes (P : Nd → Bool) (ts : List Nd) (k : Nat) (hk : k < ts.length) (h : P ts[k] = true) : lead P (ts.drop k) = lead P (ts.drop (k + 1)) + 1 := by
 rw [List.drop_eq_getElem_cons hk, lead, if_pos h]
theorem lead_no (P : Nd → Bool) (ts : List Nd) (k : Nat) (hk : k < ts.length) (h : P ts[k] = false) : lead P (ts.drop k) = 0 := by
 rw [List.drop_eq_getElem_cons hk, lead, if_neg (by rw [h]; decide)]
theorem lead_end (P : Nd → Bool) (ts : List Nd) (k : Nat) (hk : ¬ k < ts.length) : lead P (ts.drop k) = 0 := by
 rw [List.drop_eq_nil_of_le (by omega)]; rfl
def allB (P : Nd → Bool) : List Nd → Bool
 | [] => true
 | t :: ts => P t && allB P ts
theorem lead_all (P : Nd → Bool) : ∀ ts, decide (lead P ts = ts.length) = allB P ts
 | [] => rfl
 | t :: ts => by
  rw [lead, allB, ← lead_all P ts]
  cases P t <;> simp
theorem intb (n m : Nat) : ((n : Int) == (m : Int)) = decide (n = m) := by
 rw [Bool.eq_iff_iff, beq_iff_eq, decide_eq_true_iff]
 omega
def NN (n : Nat) (w : World) (e : Ending) (w' : World) : Prop := e = .returned (.int .i64 (n : Nat)) ∧ Below w.heap.size w w'
def Does (f : FuncId) (xs : Array Value) (P : Nd → Bool) (ts : List Nd) (w : World) : Prop :=
 ∀ t ∈ ts, ∀ (wx : World) (A : Option Addr) (c : Nat), Below w.heap.size w wx → KidsR wx (From 0) t.kids A → Calls Tryz.prog f (#[nv t A c] ++ xs) wx (BB (P t) wx)
theorem lead_validName (P : Nd → Bool) (ts : List Nd) (A : Option Addr) (c : Nat) (w : World) (hK : KidsR w (From 0) ts A) (hD : Does 90 #[] P ts w) (hlen : ts.length ≤ maxLen) :
  Calls Tryz.prog 88 #[.slice A ts.length c, .func (.func 90) #[] #[]] w (NN (lead P ts) w) := by
 obtain ⟨r, hr⟩ : ∃ r, lead P ts = r := ⟨_, rfl⟩
 rw [hr]
 have hR := Lib.hid hr
 have hKH := Lib.hid hK
 have hDH := Lib.hid hD
 clear hr hK hD
 unfold maxLen at hlen
 go_enter Tryz.func88, Tryz.ntmps88
 go_wp2
 go_loopg [9] (ts.length) (fun gk i wr => ∃ (k : Nat), k + gk = ts.length ∧ i = .int .i64 k ∧ Hid (k + lead P (ts.drop k) = r) ∧ Hid (Below w.heap.size w wr))
 case atStart => exact ⟨0, by omega, rfl, Lib.hid (by rw [Nat.zero_add, List.drop_zero]; exact hR.out), Lib.hid (Below.refl _ _)⟩
 case round =>
  obtain ⟨k, hk, rfl, hS, hW⟩ := hrel
  by_cases hlt : k < ts.length
  ·obtain ⟨g, rfl⟩ : ∃ g, gk = g + 1 := ⟨gk - 1, by omega⟩
   have hKw : KidsR wr (From 0) ts A := hKH.out.keep (fun q h1 h2 => ⟨hW.out.block q h2, h1⟩)
   obtain ⟨ga, oa, rfl⟩ := hKw.addr (by omega)
   obtain ⟨A1, c1, ⟨e0, e1, e2, e3, e4, e5⟩, hK1⟩ := (hKw.get _ _ _ k _ (List.getElem?_eq_getElem hlt)).cells
   have hmem : ts[k] ∈ ts := List.getElem_mem hlt
   have hK1H := Lib.hid hK1
   have hI : Hid (∀ wx, Below wr.heap.size wr wx → Calls Tryz.prog 90 (#[nv ts[k] A1 c1] ++ #[]) wx (BB (P ts[k]) wx)) :=
    fun wx hb => hDH.out _ hmem wx A1 c1 (hW.out.trans (hb.mono hW.out.size)) (hK1H.out.keep (fun q h1 h2 => ⟨hb.block q h2, h1⟩))
   have hY := Lib.hid (lead_yes P ts k hlt)
   have hNo := Lib.hid (lead_no P ts k hlt)
   clear hKw hmem hK1
   generalize ts[k] = u at *
   rcases hP : P u with _ | _
   ·have hq := hS.out
    rw [hNo.out hP, Nat.add_zero] at hq
    have hS1 := Lib.hid hq
    clear hq
    rw [hP] at hI
    clear hP
    go_wp2_with fail
    refine (hI.out _ ((Below.refl _ _).alloc (Nat.le_refl _) _)).mono ?_
    rintro e w2 ⟨rfl, hb2⟩
    go_wp2
    go_ret
    exact ⟨ret_i (by rw [hS1.out]), (hW.out.alloc hW.out.size _).trans (hb2.mono (by have := hW.out.size; simp; omega))⟩
   ·have hq := hS.out
    rw [hY.out hP, Nat.add_comm (lead P _) 1, ← Nat.add_assoc] at hq
    have hS1 := Lib.hid hq
    clear hq
    rw [hP] at hI
    clear hP
    go_wp2_with fail
    refine (hI.out _ ((Below.refl _ _).alloc (Nat.le_refl _) _)).mono ?_
    rintro e w2 ⟨rfl, hb2⟩
    have hW2 := Lib.hid ((hW.out.alloc hW.out.size _).trans (hb2.mono (by have := hW.out.size; simp; omega)))
    clear hb2 e0 e1 e2 e3 e4 e5
    go_wp2
    go_roundg g
    case measure => omega
    case rel => exact ⟨k + 1, by omega, by go_num, hS1, hW2⟩
  ·have hq := hS.out
   rw [lead_end P ts k hlt, Nat.add_zero] at hq
   obtain rfl : k = ts.length := by omega
   have hF := Lib.hid hq
   clear hq
   go_wp2
   go_ret
   exact ⟨ret_i (by rw [hF.out]), hW.out⟩
theorem lead_validNumber (P : Nd → Bool) (ts : List Nd) (A : Option Addr) (c : Nat) (w : World) (hK : KidsR w (From 0) ts A) (hD : Does 105 #[] P ts w) (hlen : ts.length ≤ maxLen) :
  Calls Tryz.prog 88 #[.slice A ts.length c, .func (.func 105) #[] #[]] w (NN (lead P ts) w) := by
 obtain ⟨r, hr⟩ : ∃ r, lead P ts = r := ⟨_, rfl⟩
 rw [hr]
 have hR := Lib.hid hr
 have hKH := Lib.hid hK
 have hDH := Lib.hid hD
 clear hr hK hD
 unfold maxLen at hlen
 go_enter Tryz.func88, Tryz.ntmps88
 go_wp2
 go_loopg [9] (ts.length) (fun gk i wr => ∃ (k : Nat), k + gk = ts.length ∧ i = .int .i64 k ∧ Hid (k + lead P (ts.drop k) = r) ∧ Hid (Below w.heap.size w wr))
 case atStart => exact ⟨0, by omega, rfl, Lib.hid (by rw [Nat.zero_add, List.drop_zero]; exact hR.out), Lib.hid (Below.refl _ _)⟩
 case round =>
  obtain ⟨k, hk, rfl, hS, hW⟩ := hrel
  by_cases hlt : k < ts.length
  ·obtain ⟨g, rfl⟩ : ∃ g, gk = g + 1 := ⟨gk - 1, by omega⟩
   have hKw : KidsR wr (From 0) ts A := hKH.out.keep (fun q h1 h2 => ⟨hW.out.block q h2, h1⟩)
   obtain ⟨ga, oa, rfl⟩ := hKw.addr (by omega)
   obtain ⟨A1, c1, ⟨e0, e1, e2, e3, e4, e5⟩, hK1⟩ := (hKw.get _ _ _ k _ (List.getElem?_eq_getElem hlt)).cells
   have hmem : ts[k] ∈ ts := List.getElem_mem hlt
   have hK1H := Lib.hid hK1
   have hI : Hid (∀ wx, Below wr.heap.size wr wx → Calls Tryz.prog 105 (#[nv ts[k] A1 c1] ++ #[]) wx (BB (P ts[k]) wx)) :=
    fun wx hb => hDH.out _ hmem wx A1 c1 (hW.out.trans (hb.mono hW.out.size)) (hK1H.out.keep (fun q h1 h2 => ⟨hb.block q h2, h1⟩))
   have hY := Lib.hid (lead_yes P ts k hlt)
   have hNo := Lib.hid (lead_no P ts k hlt)
   clear hKw hmem hK1
   generalize ts[k] = u at *
   rcases hP : P u with _ | _
   ·have hq := hS.out
    rw [hNo.out hP, Nat.add_zero] at hq
    have hS1 := Lib.hid hq
    clear hq
    rw [hP] at hI
    clear hP
    go_wp2_with fail
    refine (hI.out _ ((Below.refl _ _).alloc (Nat.le_refl _) _)).mono ?_
    rintro e w2 ⟨rfl, hb2⟩
    go_wp2
    go_ret
    exact ⟨ret_i (by rw [hS1.out]), (hW.out.alloc hW.out.size _).trans (hb2.mono (by have := hW.out.size; simp; omega))⟩
   ·have hq := hS.out
    rw [hY.out hP, Nat.add_comm (lead P _) 1, ← Nat.add_assoc] at hq
    have hS1 := Lib.hid hq
    clear hq
    rw [hP] at hI
    clear hP
    go_wp2_with fail
    refine (hI.out _ ((Below.refl _ _).alloc (Nat.le_refl _) _)).mono ?_
    rintro e w2 ⟨rfl, hb2⟩
    have hW2 := Lib.hid ((hW.out.alloc hW.out.size _).trans (hb2.mono (by have := hW.out.size; simp; omega)))
    clear hb2 e0 e1 e2 e3 e4 e5
    go_wp2
    go_roundg g
    case measure => omega
    case rel => exact ⟨k + 1, by omega, by go_num, hS1, hW2⟩
  ·have hq := hS.out
   rw [lead_end P ts k hlt, Nat.add_zero] at hq
   obtain rfl : k = ts.length := by omega
   have hF := Lib.hid hq
   clear hq
   go_wp2
   go_ret
   exact ⟨ret_i (by rw [hF.out]), hW.out⟩
theorem every_validNumber (P : Nd → Bool) (ts : List Nd) (A : Option Addr) (c : Nat) (w : World) (hK : KidsR w (From 0) ts A) (hD : Does 105 #[] P ts w) (hlen : ts.length ≤ maxLen) :
  Calls Tryz.prog 75 #[.slice A ts.length c, .func (.func 105) #[] #[]] w (BB (allB P ts) w) := by
 have hM := Lib.hid (lead_validNumber P ts A c w hK hD hlen)
 have hA := Lib.hid (lead_all P ts)
 generalize lead P ts = n at *
 clear hK hD
 go_enter Tryz.func75, Tryz.ntmps75
 go_wp2_with fail
 refine hM.out.mono ?_
 rintro e w1 ⟨rfl, hb1⟩
 go_wp2
 go_ret
 refine ⟨?_, hb1⟩
 rw [← hA.out, intb]
 rfl
theorem lead_validVar (P : Nd → Bool) (ts : List Nd) (A : Option Addr) (c : Nat) (w : World) (hK : KidsR w (From 0) ts A) (hD : Does 109 #[] P ts w) (hlen : ts.length ≤ maxLen) :
  Calls Tryz.prog 88 #[.slice A ts.length c, .func (.func 109) #[] #[]] w (NN (lead P ts) w) := by
 obtain ⟨r, hr⟩ : ∃ r, lead P ts = r := ⟨_, rfl⟩
 rw [hr]
 have hR := Lib.hid hr
 have hKH := Lib.hid hK
 have hDH := Lib.hid hD
 clear hr hK hD
 unfold maxLen at hlen
 go_enter Tryz.func88, Tryz.ntmps88
 go_wp2
 go_loopg [9] (ts.length) (fun gk i wr => ∃ (k : Nat), k + gk = ts.length ∧ i = .int .i64 k ∧ Hid (k + lead P (ts.drop k) = r) ∧ Hid (Below w.heap.size w wr))
 case atStart => exact ⟨0, by omega, rfl, Lib.hid (by rw [Nat.zero_add, List.drop_zero]; exact hR.out), Lib.hid (Below.refl _ _)⟩
 case round =>
  obtain ⟨k, hk, rfl, hS, hW⟩ := hrel
  by_cases hlt : k < ts.length
  ·obtain ⟨g, rfl⟩ : ∃ g, gk = g + 1 := ⟨gk - 1, by omega⟩
   have hKw : KidsR wr (From 0) ts A := hKH.out.keep (fun q h1 h2 => ⟨hW.out.block q h2, h1⟩)
   obtain ⟨ga, oa, rfl⟩ := hKw.addr (by omega)
   obtain ⟨A1, c1, ⟨e0, e1, e2, e3, e4, e5⟩, hK1⟩ := (hKw.get _ _ _ k _ (List.getElem?_eq_getElem hlt)).cells
   have hmem : ts[k] ∈ ts := List.getElem_mem hlt
   have hK1H := Lib.hid hK1
   have hI : Hid (∀ wx, Below wr.heap.size wr wx → Calls Tryz.prog 109 (#[nv ts[k] A1 c1] ++ #[]) wx (BB (P ts[k]) wx)) :=
    fun wx hb => hDH.out _ hmem wx A1 c1 (hW.out.trans (hb.mono hW.out.size)) (hK1H.out.keep (fun q h1 h2 => ⟨hb.block q h2, h1⟩))
   have hY := Lib.hid (lead_yes P ts k hlt)
   have hNo := Lib.hid (lead_no P ts k hlt)
   clear hKw hmem hK1
   generalize ts[k] = u at *
   rcases hP : P u with _ | _
   ·have hq := hS.out
    rw [hNo.out hP, Nat.add_zero] at hq
    have hS1 := Lib.hid hq
    clear hq
    rw [hP] at hI
    clear hP
    go_wp2_with fail
    refine (hI.out _ ((Below.refl _ _).alloc (Nat.le_refl _) _)).mono ?_
    rintro e w2 ⟨rfl, hb2⟩
    go_wp2
    go_ret
    exact ⟨ret_i (by rw [hS1.out]), (hW.out.alloc hW.out.size _).trans (hb2.mono (by have := hW.out.size; simp; omega))⟩
   ·have hq := hS.out
    rw [hY.out hP, Nat.add_comm (lead P _) 1, ← Nat.add_assoc] at hq
    have hS1 := Lib.hid hq
    clear hq
    rw [hP] at hI
    clear hP
    go_wp2_with fail
    refine (hI.out _ ((Below.refl _ _).alloc (Nat.le_refl _) _)).mono ?_
    rintro e w2 ⟨rfl, hb2⟩
    have hW2 := Lib.hid ((hW.out.alloc hW.out.size _).trans (hb2.mono (by have := hW.out.size; simp; omega)))
    clear hb2 e0 e1 e2 e3 e4 e5
    go_wp2
    go_roundg g
    case measure => omega
    case rel => exact ⟨k + 1, by omega, by go_num, hS1, hW2⟩
  ·have hq := hS.out
   rw [lead_end P ts k hlt, Nat.add_zero] at hq
   obtain rfl : k = ts.length := by omega
   have hF := Lib.hid hq
   clear hq
   go_wp2
   go_ret
   exact ⟨ret_i (by rw [hF.out]), hW.out⟩
theorem lead_validHandler (P : Nd → Bool) (ts : List Nd) (A : Option Addr) (c : Nat) (w : World) (hK : KidsR w (From 0) ts A) (hD : Does 110 #[] P ts w) (hlen : ts.length ≤ maxLen) :
  Calls Tryz.prog 88 #[.slice A ts.length c, .func (.func 110) #[] #[]] w (NN (lead P ts) w) := by
 obtain ⟨r, hr⟩ : ∃ r, lead P ts = r := ⟨_, rfl⟩
 rw [hr]
 have hR := Lib.hid hr
 have hKH := Lib.hid hK
 have hDH := Lib.hid hD
 clear hr hK hD
 unfold maxLen at hlen
 go_enter Tryz.func88, Tryz.ntmps88
 go_wp2
 go_loopg [9] (ts.length) (fun gk i wr => ∃ (k : Nat), k + gk = ts.length ∧ i = .int .i64 k ∧ Hid (k + lead P (ts.drop k) = r) ∧ Hid (Below w.heap.size w wr))
 case atStart => exact ⟨0, by omega, rfl, Lib.hid (by rw [Nat.zero_add, List.drop_zero]; exact hR.out), Lib.hid (Below.refl _ _)⟩
 case round =>
  obtain ⟨k, hk, rfl, hS, hW⟩ := hrel
  by_cases hlt : k < ts.length
  ·obtain ⟨g, rfl⟩ : ∃ g, gk = g + 1 := ⟨gk - 1, by omega⟩
   have hKw : KidsR wr (From 0) ts A := hKH.out.keep (fun q h1 h2 => ⟨hW.out.block q h2, h1⟩)
   obtain ⟨ga, oa, rfl⟩ := hKw.addr (by omega)
   obtain ⟨A1, c1, ⟨e0, e1, e2, e3, e4, e5⟩, hK1⟩ := (hKw.get _ _ _ k _ (List.getElem?_eq_getElem hlt)).cells
   have hmem : ts[k] ∈ ts := List.getElem_mem hlt
   have hK1H := Lib.hid hK1
   have hI : Hid (∀ wx, Below wr.heap.size wr wx → Calls Tryz.prog 110 (#[nv ts[k] A1 c1] ++ #[]) wx (BB (P ts[k]) wx)) :=
    fun wx hb => hDH.out _ hmem wx A1 c1 (hW.out.trans (hb.mono hW.out.size)) (hK1H.out.keep (fun q h1 h2 => ⟨hb.block q h2, h1⟩))
   have hY := Lib.hid (lead_yes P ts k hlt)
   have hNo := Lib.hid (lead_no P ts k hlt)
   clear hKw hmem hK1
   generalize ts[k] = u at *
   rcases hP : P u with _ | _
   ·have hq := hS.out
    rw [hNo.out hP, Nat.add_zero] at hq
    have hS1 := Lib.hid hq
    clear hq
    rw [hP] at hI
    clear hP
    go_wp2_with fail
    refine (hI.out _ ((Below.refl _ _).alloc (Nat.le_refl _) _)).mono ?_
    rintro e w2 ⟨rfl, hb2⟩
    go_wp2
    go_ret
    exact ⟨ret_i (by rw [hS1.out]), (hW.out.alloc hW.out.size _).trans (hb2.mono (by have := hW.out.size; simp; omega))⟩
   ·have hq := hS.out
    rw [hY.out hP, Nat.add_comm (lead P _) 1, ← Nat.add_assoc] at hq
    have hS1 := Lib.hid hq
    clear hq
    rw [hP] at hI
    clear hP
    go_wp2_with fail
    refine (hI.out _ ((Below.refl _ _).alloc (Nat.le_refl _) _)).mono ?_
    rintro e w2 ⟨rfl, hb2⟩
    have hW2 := Lib.hid ((hW.out.alloc hW.out.size _).trans (hb2.mono (by have := hW.out.size; simp; omega)))
    clear hb2 e0 e1 e2 e3 e4 e5
    go_wp2
    go_roundg g
    case measure => omega
    case rel => exact ⟨k + 1, by omega, by go_num, hS1, hW2⟩
  ·have hq := hS.out
   rw [lead_end P ts k hlt, Nat.add_zero] at hq
   obtain rfl : k = ts.length := by omega
   have hF := Lib.hid hq
   clear hq
   go_wp2
   go_ret
   exact ⟨ret_i (by rw [hF.out]), hW.out⟩
theorem lead_validItem (P : Nd → Bool) (ts : List Nd) (A : Option Addr) (c : Nat) (w : World) (hK : KidsR w (From 0) ts A) (hD : Does 76 #[] P ts w) (hlen : ts.length ≤ maxLen) :
  Calls Tryz.prog 88 #[.slice A ts.length c, .func (.func 76) #[] #[]] w (NN (lead P ts) w) := by
 obtain ⟨r, hr⟩ : ∃ r, lead P ts = r := ⟨_, rfl⟩
 rw [hr]
 have hR := Lib.hid hr
 have hKH := Lib.hid hK
 have hDH := Lib.hid hD
 clear hr hK hD
 unfold maxLen at hlen
 go_enter Tryz.func88, Tryz.ntmps88
 go_wp2
 go_loopg [9] (ts.length) (fun gk i wr => ∃ (k : Nat), k + gk = ts.length ∧ i = .int .i64 k ∧ Hid (k + lead P (ts.drop k) = r) ∧ Hid (Below w.heap.size w wr))
 case atStart => exact ⟨0, by omega, rfl, Lib.hid (by rw [Nat.zero_add, List.drop_zero]; exact hR.out), Lib.hid (Below.refl _ _)⟩
 case round =>
  obtain ⟨k, hk, rfl, hS, hW⟩ := hrel
  by_cases hlt : k < ts.length
  ·obtain ⟨g, rfl⟩ : ∃ g, gk = g + 1 := ⟨gk - 1, by omega⟩
   have hKw : KidsR wr (From 0) ts A := hKH.out.keep (fun q h1 h2 => ⟨hW.out.block q h2, h1⟩)
   obtain ⟨ga, oa, rfl⟩ := hKw.addr (by omega)
   obtain ⟨A1, c1, ⟨e0, e1, e2, e3, e4, e5⟩, hK1⟩ := (hKw.get _ _ _ k _ (List.getElem?_eq_getElem hlt)).cells
   have hmem : ts[k] ∈ ts := List.getElem_mem hlt
   have hK1H := Lib.hid hK1
   have hI : Hid (∀ wx, Below wr.heap.size wr wx → Calls Tryz.prog 76 (#[nv ts[k] A1 c1] ++ #[]) wx (BB (P ts[k]) wx)) :=
    fun wx hb => hDH.out _ hmem wx A1 c1 (hW.out.trans (hb.mono hW.out.size)) (hK1H.out.keep (fun q h1 h2 => ⟨hb.block q h2, h1⟩))
   have hY := Lib.hid (lead_yes P ts k hlt)
   have hNo := Lib.hid (lead_no P ts k hlt)
   clear hKw hmem hK1
   generalize ts[k] = u at *
   rcases hP : P u with _ | _
   ·have hq := hS.out
    rw [hNo.out hP, Nat.add_zero] at hq
    have hS1 := Lib.hid hq
    clear hq
    rw [hP] at hI
    clear hP
    go_wp2_with fail
    refine (hI.out _ ((Below.refl _ _).alloc (Nat.le_refl _) _)).mono ?_
    rintro e w2 ⟨rfl, hb2⟩
    go_wp2
    go_ret
    exact ⟨ret_i (by rw [hS1.out]), (hW.out.alloc hW.out.size _).trans (hb2.mono (by have := hW.out.size; simp; omega))⟩
   ·have hq := hS.out
    rw [hY.out hP, Nat.add_comm (lead P _) 1, ← Nat.add_assoc] at hq
    have hS1 := Lib.hid hq
    clear hq
    rw [hP] at hI
    clear hP
    go_wp2_with fail
    refine (hI.out _ ((Below.refl _ _).alloc (Nat.le_refl _) _)).mono ?_
    rintro e w2 ⟨rfl, hb2⟩
    have hW2 := Lib.hid ((hW.out.alloc hW.out.size _).trans (hb2.mono (by have := hW.out.size; simp; omega)))
    clear hb2 e0 e1 e2 e3 e4 e5
    go_wp2
    go_roundg g
    case measure => omega
    case rel => exact ⟨k + 1, by omega, by go_num, hS1, hW2⟩
  ·have hq := hS.out
   rw [lead_end P ts k hlt, Nat.add_zero] at hq
   obtain rfl : k = ts.length := by omega
   have hF := Lib.hid hq
   clear hq
   go_wp2
   go_ret
   exact ⟨ret_i (by rw [hF.out]), hW.out⟩
theorem every_validItem (P : Nd → Bool) (ts : List Nd) (A : Option Addr) (c : Nat) (w : World) (hK : KidsR w (From 0) ts A) (hD : Does 76 #[] P ts w) (hlen : ts.length ≤ maxLen) :
  Calls Tryz.prog 75 #[.slice A ts.length c, .func (.func 76) #[] #[]] w (BB (allB P ts) w) := by
 have hM := Lib.hid (lead_validItem P ts A c w hK hD hlen)
 have hA := Lib.hid (lead_all P ts)
 generalize lead P ts = n at *
 clear hK hD
 go_enter Tryz.func75, Tryz.ntmps75
 go_wp2_with fail
 refine hM.out.mono ?_
 rintro e w1 ⟨rfl, hb1⟩
 go_wp2
 go_ret
 refine ⟨?_, hb1⟩
 rw [← hA.out, intb]
 rfl
theorem lead_validStmts1 (cp : Value) (P : Nd → Bool) (ts : List Nd) (A : Option Addr) (c : Nat) (w : World) (hK : KidsR w (From 0) ts A) (hD : Does 135 #[cp] P ts w) (hlen : ts.length ≤ maxLen) :
  Calls Tryz.prog 88 #[.slice A ts.length c, .func (.func 135) #[] #[cp]] w (NN (lead P ts) w) := by
 obtain ⟨r, hr⟩ : ∃ r, lead P ts = r := ⟨_, rfl⟩
 rw [hr]
 have hR := Lib.hid hr
 have hKH := Lib.hid hK
 have hDH := Lib.hid hD
 clear hr hK hD
 unfold maxLen at hlen
 go_enter Tryz.func88, Tryz.ntmps88
 go_wp2
 go_loopg [9] (ts.length) (fun gk i wr => ∃ (k : Nat), k + gk = ts.length ∧ i = .int .i64 k ∧ Hid (k + lead P (ts.drop k) = r) ∧ Hid (Below w.heap.size w wr))
 case atStart => exact ⟨0, by omega, rfl, Lib.hid (by rw [Nat.zero_add, List.drop_zero]; exact hR.out), Lib.hid (Below.refl _ _)⟩
 case round =>
  obtain ⟨k, hk, rfl, hS, hW⟩ := hrel
  by_cases hlt : k < ts.length
  ·obtain ⟨g, rfl⟩ : ∃ g, gk = g + 1 := ⟨gk - 1, by omega⟩
   have hKw : KidsR wr (From 0) ts A := hKH.out.keep (fun q h1 h2 => ⟨hW.out.block q h2, h1⟩)
   obtain ⟨ga, oa, rfl⟩ := hKw.addr (by omega)
   obtain ⟨A1, c1, ⟨e0, e1, e2, e3, e4, e5⟩, hK1⟩ := (hKw.get _ _ _ k _ (List.getElem?_eq_getElem hlt)).cells
   have hmem : ts[k] ∈ ts := List.getElem_mem hlt
   have hK1H := Lib.hid hK1
   have hI : Hid (∀ wx, Below wr.heap.size wr wx → Calls Tryz.prog 135 (#[nv ts[k] A1 c1] ++ #[cp]) wx (BB (P ts[k]) wx)) :=
    fun wx hb => hDH.out _ hmem wx A1 c1 (hW.out.trans (hb.mono hW.out.size)) (hK1H.out.keep (fun q h1 h2 => ⟨hb.block q h2, h1⟩))
   have hY := Lib.hid (lead_yes P ts k hlt)
   have hNo := Lib.hid (lead_no P ts k hlt)
   clear hKw hmem hK1
   generalize ts[k] = u at *
   rcases hP : P u with _ | _
   ·have hq := hS.out
    rw [hNo.out hP, Nat.add_zero] at hq
    have hS1 := Lib.hid hq
    clear hq
    rw [hP] at hI
    clear hP
    go_wp2_with fail
    refine (hI.out _ ((Below.refl _ _).alloc (Nat.le_refl _) _)).mono ?_
    rintro e w2 ⟨rfl, hb2⟩
    go_wp2
    go_ret
    exact ⟨ret_i (by rw [hS1.out]), (hW.out.alloc hW.out.size _).trans (hb2.mono (by have := hW.out.size; simp; omega))⟩
   ·have hq := hS.out
    rw [hY.out hP, Nat.add_comm (lead P _) 1, ← Nat.add_assoc] at hq
    have hS1 := Lib.hid hq
    clear hq
    rw [hP] at hI
    clear hP
    go_wp2_with fail
    refine (hI.out _ ((Below.refl _ _).alloc (Nat.le_refl _) _)).mono ?_
    rintro e w2 ⟨rfl, hb2⟩
    have hW2 := Lib.hid ((hW.out.alloc hW.out.size _).trans (hb2.mono (by have := hW.out.size; simp; omega)))
    clear hb2 e0 e1 e2 e3 e4 e5
    go_wp2
    go_roundg g
    case measure => omega
    case rel => exact ⟨k + 1, by omega, by go_num, hS1, hW2⟩
  ·have hq := hS.out
   rw [lead_end P ts k hlt, Nat.add_zero] at hq
   obtain rfl : k = ts.length := by omega
   have hF := Lib.hid hq
   clear hq
   go_wp2
   go_ret
   exact ⟨ret_i (by rw [hF.out]), hW.out⟩
theorem every_validStmts1 (cp : Value) (P : Nd → Bool) (ts : List Nd) (A : Option Addr) (c : Nat) (w : World) (hK : KidsR w (From 0) ts A) (hD : Does 135 #[cp] P ts w) (hlen : ts.length ≤ maxLen) :
  Calls Tryz.prog 75 #[.slice A ts.length c, .func (.func 135) #[] #[cp]] w (BB (allB P ts) w) := by
 have hM := Lib.hid (lead_validStmts1 cp P ts A c w hK hD hlen)
 have hA := Lib.hid (lead_all P ts)
 generalize lead P ts = n at *
 clear hK hD
 go_enter Tryz.func75, Tryz.ntmps75
 go_wp2_with fail
 refine hM.out.mono ?_
 rintro e w1 ⟨rfl, hb1⟩
 go_wp2
 go_ret
 refine ⟨?_, hb1⟩
 rw [← hA.out, intb]
 rfl
theorem lead_validIf1 (cp : Value) (P : Nd → Bool) (ts : List Nd) (A : Option Addr) (c : Nat) (w : World) (hK : KidsR w (From 0) ts A) (hD : Does 151 #[cp] P ts w) (hlen : ts.length ≤ maxLen) :
  Calls Tryz.prog 88 #[.slice A ts.length c, .func (.func 151) #[] #[cp]] w (NN (lead P ts) w) := by
 obtain ⟨r, hr⟩ : ∃ r, lead P ts = r := ⟨_, rfl⟩
 rw [hr]
 have hR := Lib.hid hr
 have hKH := Lib.hid hK
 have hDH := Lib.hid hD
 clear hr hK hD
 unfold maxLen at hlen
 go_enter Tryz.func88, Tryz.ntmps88
 go_wp2
 go_loopg [9] (ts.length) (fun gk i wr => ∃ (k : Nat), k + gk = ts.length ∧ i = .int .i64 k ∧ Hid (k + lead P (ts.drop k) = r) ∧ Hid (Below w.heap.size w wr))
 case atStart => exact ⟨0, by omega, rfl, Lib.hid (by rw [Nat.zero_add, List.drop_zero]; exact hR.out), Lib.hid (Below.refl _ _)⟩
 case round =>
  obtain ⟨k, hk, rfl, hS, hW⟩ := hrel
  by_cases hlt : k < ts.length
  ·obtain ⟨g, rfl⟩ : ∃ g, gk = g + 1 := ⟨gk - 1, by omega⟩
   have hKw : KidsR wr (From 0) ts A := hKH.out.keep (fun q h1 h2 => ⟨hW.out.block q h2, h1⟩)
   obtain ⟨ga, oa, rfl⟩ := hKw.addr (by omega)
   obtain ⟨A1, c1, ⟨e0, e1, e2, e3, e4, e5⟩, hK1⟩ := (hKw.get _ _ _ k _ (List.getElem?_eq_getElem hlt)).cells
   have hmem : ts[k] ∈ ts := List.getElem_mem hlt
   have hK1H := Lib.hid hK1
   have hI : Hid (∀ wx, Below wr.heap.size wr wx → Calls Tryz.prog 151 (#[nv ts[k] A1 c1] ++ #[cp]) wx (BB (P ts[k]) wx)) :=
    fun wx hb => hDH.out _ hmem wx A1 c1 (hW.out.trans (hb.mono hW.out.size)) (hK1H.out.keep (fun q h1 h2 => ⟨hb.block q h2, h1⟩))
   have hY := Lib.hid (lead_yes P ts k hlt)
   have hNo := Lib.hid (lead_no P ts k hlt)
   clear hKw hmem hK1
   generalize ts[k] = u at *
   rcases hP : P u with _ | _
   ·have hq := hS.out
    rw [hNo.out hP, Nat.add_zero] at hq
    have hS1 := Lib.hid hq
    clear hq
    rw [hP] at hI
    clear hP
    go_wp2_with fail
    refine (hI.out _ ((Below.refl _ _).alloc (Nat.le_refl _) _)).mono ?_
    rintro e w2 ⟨rfl, hb2⟩
    go_wp2
    go_ret
    exact ⟨ret_i (by rw [hS1.out]), (hW.out.alloc hW.out.size _).trans (hb2.mono (by have := hW.out.size; simp; omega))⟩
   ·have hq := hS.out
    rw [hY.out hP, Nat.add_comm (lead P _) 1, ← Nat.add_assoc] at hq
    have hS1 := Lib.hid hq
    clear hq
    rw [hP] at hI
    clear hP
    go_wp2_with fail
    refine (hI.out _ ((Below.refl _ _).alloc (Nat.le_refl _) _)).mono ?_
    rintro e w2 ⟨rfl, hb2⟩
    have hW2 := Lib.hid ((hW.out.alloc hW.out.size _).trans (hb2.mono (by have := hW.out.size; simp; omega)))
    clear hb2 e0 e1 e2 e3 e4 e5
    go_wp2
    go_roundg g
    case measure => omega
    case rel => exact ⟨k + 1, by omega, by go_num, hS1, hW2⟩
  ·have hq := hS.out
   rw [lead_end P ts k hlt, Nat.add_zero] at hq
   obtain rfl : k = ts.length := by omega
   have hF := Lib.hid hq
   clear hq
   go_wp2
   go_ret
   exact ⟨ret_i (by rw [hF.out]), hW.out⟩
theorem every_validIf1 (cp : Value) (P : Nd → Bool) (ts : List Nd) (A : Option Addr) (c : Nat) (w : World) (hK : KidsR w (From 0) ts A) (hD : Does 151 #[cp] P ts w) (hlen : ts.length ≤ maxLen) :
  Calls Tryz.prog 75 #[.slice A ts.length c, .func (.func 151) #[] #[cp]] w (BB (allB P ts) w) := by
 have hM := Lib.hid (lead_validIf1 cp P ts A c w hK hD hlen)
 have hA := Lib.hid (lead_all P ts)
 generalize lead P ts = n at *
 clear hK hD
 go_enter Tryz.func75, Tryz.ntmps75
 go_wp2_with fail
 refine hM.out.mono ?_
 rintro e w1 ⟨rfl, hb1⟩
 go_wp2
 go_ret
 refine ⟨?_, hb1⟩
 rw [← hA.out, intb]
 rfl
end Go.Proofs.YtljknappbnoikaaGreatDoor
namespace Go.Proofs.YtljknappbnoikaaGreatDoor
open Go.RowKit
theorem set6A {w : World} {b : Nat} {a0 a1 a2 a3 a4 a5 v0 v1 v2 v3 v4 v5 : Value} {T : TypeId} (h : w.heap[b]? = some (.cells #[a0, a1, a2, a3, a4, a5] T (0, 0))) :
  ((((((w.setCell ⟨b, 0, none⟩ v0).setCell ⟨b, 1, none⟩ v1).setCell ⟨b, 2, none⟩ v2).setCell ⟨b, 3, none⟩ v3).setCell ⟨b, 4, none⟩ v4).setCell ⟨b, 5, none⟩ v5).heap[b]? = some (.cells #[v0, v1, v2, v3, v4, v5] T (0, 0)) :=
 set6_5 (set6_4 (set6_3 (set6_2 (set6_1 (set6_0 h)))))
theorem below6 {B b : Nat} {a w : World} {v0 v1 v2 v3 v4 v5 : Value} (h : Below B a w) (hb : B ≤ b) :
  Below B a ((((((w.setCell ⟨b, 0, none⟩ v0).setCell ⟨b, 1, none⟩ v1).setCell ⟨b, 2, none⟩ v2).setCell ⟨b, 3, none⟩ v3).setCell ⟨b, 4, none⟩ v4).setCell ⟨b, 5, none⟩ v5) :=
 (((((h.setCell hb _).setCell hb _).setCell hb _).setCell hb _).setCell hb _).setCell hb _
theorem size6 {b : Nat} {w : World} {v0 v1 v2 v3 v4 v5 : Value} : ((((((w.setCell ⟨b, 0, none⟩ v0).setCell ⟨b, 1, none⟩ v1).setCell ⟨b, 2, none⟩ v2).setCell ⟨b, 3, none⟩ v3).setCell ⟨b, 4, none⟩ v4).setCell ⟨b, 5, none⟩ v5).heap.size = w.heap.size := by simp
theorem empty_len (l : List Nd) : ((l.length : Int) == 0) = l.isEmpty := by cases l <;> simp <;> omega
def vName (t : Nd) : Bool := namedB t 14 && t.kids.isEmpty
theorem validName_any (t : Nd) (A : Option Addr) (c : Nat) (w : World) (hL : LaidW w) (hw : 8 < w.heap.size) (hm : t.name.size ≤ maxLen) : Calls Tryz.prog 90 #[nv t A c] w (BB (vName t) w) := by
 have hb0 := (Below.refl w.heap.size w).alloc (Nat.le_refl _) (.cells (ndArr t A c) 79)
 have HN := Lib.hid (named_any t A c 14 (w.alloc (.cells (ndArr t A c) 79)) (hL.below hb0 hw) (by simp; omega) hm)
 have HB := Lib.hid (newBlk w (.cells (ndArr t A c) 79) _ rfl)
 have he := empty_len t.kids
 go_enter Tryz.func90, Tryz.ntmps90
 go_wp2_with (refine HN.out.mono ?_; rintro e w2 ⟨rfl, hb2⟩; obtain ⟨⟨b0, b1, b2, b3, b4, b5⟩, -⟩ := cells6 ((hb2.block _ (blkLt HB.out)).trans HB.out); have hx2 := Nat.lt_of_lt_of_le (blkLt HB.out) hb2.size; have HW2 := Lib.hid (hb0.trans (hb2.mono (by simp))); clear hb2)
 all_goals
  go_ret
  refine ⟨?_, HW2.out⟩
  simp [vName, *]
theorem bdrew {w w' : World} (h : Below w.drew.heap.size w.drew w') : Below w.heap.size w w' := ⟨h.os, h.tape, h.output, h.size, h.block⟩
theorem bb_of {b v : Bool} {f : FuncId} {args : Array Value} {w : World} (h : b = v) (hc : Calls Tryz.prog f args w (BB b w)) : Calls Tryz.prog f args w (BB v w) := h ▸ hc
theorem policySize_int (k : Int) (h : 1 ≤ k ∧ k ≤ 6) (w : World) : Calls Tryz.prog 108 #[.int .i64 k] w fun e w' => e = .returned (.int .i64 (psz k.toNat : Nat)) ∧ Below w.heap.size w w' := by
 have e : ((k.toNat : Nat) : Int) = k := by omega
 have h1 := policySize_any k.toNat w (by omega)
 rw [e] at h1
 exact h1
theorem btw_range {n lo hi : Int} (h : btw n lo hi = true) : lo ≤ n ∧ n ≤ hi := by simpa [btw] using h
def vNumber (t : Nd) : Bool := btw t.n 0 1000000000 && plainB (zn t) 13 && t.kids.isEmpty
theorem zn_kids (t : Nd) : (zn t).kids = t.kids := rfl
theorem validNumber_any (t : Nd) (A : Option Addr) (c : Nat) (w : World) : Calls Tryz.prog 105 #[nv t A c] w (BB (vNumber t) w) := by
 have he := empty_len t.kids
 have hb0 := (Below.refl w.heap.size w).alloc (Nat.le_refl _) (.cells (ndArr t A c) 79)
 have HB := Lib.hid (newBlk w (.cells (ndArr t A c) 79) _ rfl)
 go_enter Tryz.func105, Tryz.ntmps105
 go_wp2_with (first
  | (go_at_call 106; refine (take_any t A c _).mono ?_; rintro e w1 ⟨rfl, hb1⟩; have HB1 := Lib.hid ((hb1.block _ (blkLt HB.out)).trans HB.out); obtain ⟨⟨b0, b1, b2, b3, b4, b5⟩, d0, d1, d2, d3, d4, d5⟩ := cells6 HB1.out; have hx1 := blkLt HB1.out; have HW1 := Lib.hid (hb0.trans (hb1.mono (by simp))); clear hb1)
  | (go_at_call 107; refine (between_any t.n 0 1000000000 _).mono ?_; rintro e w2 ⟨rfl, hb2⟩; have HB2 := Lib.hid ((hb2.block _ (by rw [size6]; exact hx1)).trans (set6A HB1.out)); clear b0 b1 b2 b3 b4 b5 d0 d1 d2 d3 d4 d5; obtain ⟨⟨b0, b1, b2, b3, b4, b5⟩, -⟩ := cells6 HB2.out; have hx2 := blkLt HB2.out; have HW2 := Lib.hid ((below6 HW1.out (Nat.le_refl _)).trans (hb2.mono (by rw [size6]; exact HW1.out.size))); clear hb2)
  | (go_at_call 74; refine (plain_any (zn t) A c 13 _).mono ?_; rintro e w3 ⟨rfl, hb3⟩; have HB3 := Lib.hid ((hb3.block _ hx2).trans HB2.out); clear b0 b1 b2 b3 b4 b5; obtain ⟨⟨b0, b1, b2, b3, b4, b5⟩, -⟩ := cells6 HB3.out; have hx3 := blkLt HB3.out; have HW3 := Lib.hid (HW2.out.trans (hb3.mono HW2.out.size)); clear hb3))
 all_goals
  go_ret
  refine ⟨?_, by first | exact HW4.out | exact HW3.out | exact HW2.out⟩
  simp [vNumber, zn_kids, *]
def vNumbers (ts : List Nd) (n : Int) : Bool := decide ((ts.length : Int) = n) && allB vNumber ts
theorem does_numbers (ts : List Nd) (w : World) : Does 105 #[] vNumber ts w := fun t _ wx A c _ _ => validNumber_any t A c wx
theorem validNumbers_any (ts : List Nd) (A : Option Addr) (c : Nat) (n : Int) (w : World) (hK : KidsR w (From 0) ts A) (hlen : ts.length ≤ maxLen) : Calls Tryz.prog 91 #[.slice A ts.length c, .int .i64 n] w (BB (vNumbers ts n) w) := by
 have HE := Lib.hid (every_validNumber vNumber ts A c w hK (does_numbers ts w) hlen)
 clear hK
 go_enter Tryz.func91, Tryz.ntmps91
 by_cases hn : (ts.length : Int) = n
 ·have hnb : ((ts.length : Int) == n) = true := by simp [hn]
  go_wp2_with (refine HE.out.mono ?_; rintro e w2 ⟨rfl, hb2⟩)
  go_ret
  refine ⟨?_, hb2⟩
  simp [vNumbers, hn]
 ·have hnb : ((ts.length : Int) == n) = false := by simp [hn]
  go_wp2_with fail
  go_ret
  refine ⟨?_, Below.refl _ _⟩
  simp [vNumbers, hn]
def vVar (t : Nd) : Bool := btw t.n 0 4 && namedB (zn t) 7 && vNumbers t.kids 3
theorem validVar_any (t : Nd) (A : Option Addr) (c : Nat) (w : World) (hL : LaidW w) (hw : 8 < w.heap.size) (hm : t.name.size ≤ maxLen) (hK : KidsR w (From 0) t.kids A) (hlen : t.kids.length ≤ maxLen) : Calls Tryz.prog 109 #[nv t A c] w (BB (vVar t) w) := by
 have he := empty_len t.kids
 have hKH := Lib.hid hK
 clear hK
 have hb0 := (Below.refl w.heap.size w).alloc (Nat.le_refl _) (.cells (ndArr t A c) 79)
 have HB := Lib.hid (newBlk w (.cells (ndArr t A c) 79) _ rfl)
 go_enter Tryz.func109, Tryz.ntmps109
 go_wp2_with (first
  | (go_at_call 106; refine (take_any t A c _).mono ?_; rintro e w1 ⟨rfl, hb1⟩; have HB1 := Lib.hid ((hb1.block _ (blkLt HB.out)).trans HB.out); obtain ⟨⟨b0, b1, b2, b3, b4, b5⟩, d0, d1, d2, d3, d4, d5⟩ := cells6 HB1.out; have hx1 := blkLt HB1.out; have HW1 := Lib.hid (hb0.trans (hb1.mono (by simp))); clear hb1)
  | (go_at_call 107; refine (between_any t.n 0 4 _).mono ?_; rintro e w2 ⟨rfl, hb2⟩; have HB2 := Lib.hid ((hb2.block _ (by rw [size6]; exact hx1)).trans (set6A HB1.out)); clear b0 b1 b2 b3 b4 b5 d0 d1 d2 d3 d4 d5; obtain ⟨⟨b0, b1, b2, b3, b4, b5⟩, -⟩ := cells6 HB2.out; have hx2 := blkLt HB2.out; have HW2 := Lib.hid ((below6 HW1.out (Nat.le_refl _)).trans (hb2.mono (by rw [size6]; exact HW1.out.size))); clear hb2)
  | (go_at_call 89; refine (named_any (zn t) A c 7 _ (hL.below HW2.out hw) (Nat.lt_of_lt_of_le hw HW2.out.size) hm).mono ?_; rintro e w3 ⟨rfl, hb3⟩; have HB3 := Lib.hid ((hb3.block _ hx2).trans HB2.out); clear b0 b1 b2 b3 b4 b5; obtain ⟨⟨b0, b1, b2, b3, b4, b5⟩, -⟩ := cells6 HB3.out; have hx3 := blkLt HB3.out; have HW3 := Lib.hid (HW2.out.trans (hb3.mono HW2.out.size)); clear hb3)
  | (go_at_call 91; refine (validNumbers_any t.kids A (t.kids.length + c) (3) _ (hKH.out.keep (fun q h1 h2 => ⟨HW3.out.block q h2, h1⟩)) hlen).mono ?_; rintro e w4 ⟨rfl, hb4⟩; have HW4 := Lib.hid (HW3.out.trans (hb4.mono HW3.out.size)); clear hb4))
 all_goals
  go_ret
  refine ⟨?_, by first | exact HW4.out | exact HW3.out | exact HW2.out⟩
  simp [vVar, zn_kids, *]
def vPolicy (t : Nd) : Bool := btw t.n 1 6 && plainB (zn t) 3 && vNumbers t.kids (psz t.n.toNat : Nat)
theorem validPolicy_any (t : Nd) (A : Option Addr) (c : Nat) (w : World) (hK : KidsR w (From 0) t.kids A) (hlen : t.kids.length ≤ maxLen) : Calls Tryz.prog 92 #[nv t A c] w (BB (vPolicy t) w) := by
 have hKH := Lib.hid hK
 clear hK
 have hb0 := (Below.refl w.heap.size w).alloc (Nat.le_refl _) (.cells (ndArr t A c) 79)
 have HB := Lib.hid (newBlk w (.cells (ndArr t A c) 79) _ rfl)
 obtain ⟨r, hr⟩ : ∃ r, vPolicy t = r := ⟨_, rfl⟩
 rw [hr]
 unfold vPolicy at hr
 cases hb : btw t.n 1 6 with
 | false =>
  rw [hb] at hr
  subst hr
  go_enter Tryz.func92, Tryz.ntmps92
  go_wp2_with (refine (take_any t A c _).mono ?_; rintro e w1 ⟨rfl, hb1⟩; have HB1 := Lib.hid ((hb1.block _ (blkLt HB.out)).trans HB.out); obtain ⟨⟨b0, b1, b2, b3, b4, b5⟩, d0, d1, d2, d3, d4, d5⟩ := cells6 HB1.out; have hx1 := blkLt HB1.out; have HW1 := Lib.hid (hb0.trans (hb1.mono (by simp))); clear hb1)
  have HBW := Lib.hid (set6A (v0 := .int .i64 (zn t).kind) (v1 := .string (zn t).name) (v2 := .int .i64 (zn t).n) (v3 := .int .i64 (zn t).unit) (v4 := .int .i64 (zn t).at0) (v5 := .slice A (zn t).kids.length ((zn t).kids.length + c)) HB1.out)
  have HWW := Lib.hid (below6 (v0 := .int .i64 (zn t).kind) (v1 := .string (zn t).name) (v2 := .int .i64 (zn t).n) (v3 := .int .i64 (zn t).unit) (v4 := .int .i64 (zn t).at0) (v5 := .slice A (zn t).kids.length ((zn t).kids.length + c)) HW1.out (Nat.le_refl _))
  generalize ((((((w1.setCell ⟨w.heap.size, 0, none⟩ (.int .i64 (zn t).kind)).setCell ⟨w.heap.size, 1, none⟩ (.string (zn t).name)).setCell ⟨w.heap.size, 2, none⟩ (.int .i64 (zn t).n)).setCell ⟨w.heap.size, 3, none⟩ (.int .i64 (zn t).unit)).setCell ⟨w.heap.size, 4, none⟩ (.int .i64 (zn t).at0)).setCell ⟨w.heap.size, 5, none⟩ (.slice A (zn t).kids.length ((zn t).kids.length + c))) = W at *
  clear b0 b1 b2 b3 b4 b5 d0 d1 d2 d3 d4 d5
  obtain ⟨⟨b0, b1, b2, b3, b4, b5⟩, -⟩ := cells6 HBW.out
  have hxW := blkLt HBW.out
  first | (go_region_with (first
   | (go_at_call 107; refine (bb_of hb (between_any t.n 1 6 _)).mono ?_; rintro e w2 ⟨rfl, hb2⟩; have hb2 := bdrew hb2; have HB2 := Lib.hid ((hb2.block _ hxW).trans HBW.out); clear b0 b1 b2 b3 b4 b5; obtain ⟨⟨b0, b1, b2, b3, b4, b5⟩, -⟩ := cells6 HB2.out; have hx2 := blkLt HB2.out; have HW2 := Lib.hid (HWW.out.trans (hb2.mono HWW.out.size)); clear hb2))) | skip
  all_goals
   go_wp2
   go_ret
   exact ⟨rfl, by first | exact HW4.out | exact HW3.out | exact HW2.out⟩
 | true =>
  have hrg := btw_range hb
  cases hp : plainB (zn t) 3 with
  | false =>
   rw [hb, hp] at hr
   subst hr
   go_enter Tryz.func92, Tryz.ntmps92
   go_wp2_with (refine (take_any t A c _).mono ?_; rintro e w1 ⟨rfl, hb1⟩; have HB1 := Lib.hid ((hb1.block _ (blkLt HB.out)).trans HB.out); obtain ⟨⟨b0, b1, b2, b3, b4, b5⟩, d0, d1, d2, d3, d4, d5⟩ := cells6 HB1.out; have hx1 := blkLt HB1.out; have HW1 := Lib.hid (hb0.trans (hb1.mono (by simp))); clear hb1)
   have HBW := Lib.hid (set6A (v0 := .int .i64 (zn t).kind) (v1 := .string (zn t).name) (v2 := .int .i64 (zn t).n) (v3 := .int .i64 (zn t).unit) (v4 := .int .i64 (zn t).at0) (v5 := .slice A (zn t).kids.length ((zn t).kids.length + c)) HB1.out)
   have HWW := Lib.hid (below6 (v0 := .int .i64 (zn t).kind) (v1 := .string (zn t).name) (v2 := .int .i64 (zn t).n) (v3 := .int .i64 (zn t).unit) (v4 := .int .i64 (zn t).at0) (v5 := .slice A (zn t).kids.length ((zn t).kids.length + c)) HW1.out (Nat.le_refl _))
   generalize ((((((w1.setCell ⟨w.heap.size, 0, none⟩ (.int .i64 (zn t).kind)).setCell ⟨w.heap.size, 1, none⟩ (.string (zn t).name)).setCell ⟨w.heap.size, 2, none⟩ (.int .i64 (zn t).n)).setCell ⟨w.heap.size, 3, none⟩ (.int .i64 (zn t).unit)).setCell ⟨w.heap.size, 4, none⟩ (.int .i64 (zn t).at0)).setCell ⟨w.heap.size, 5, none⟩ (.slice A (zn t).kids.length ((zn t).kids.length + c))) = W at *
   clear b0 b1 b2 b3 b4 b5 d0 d1 d2 d3 d4 d5
   obtain ⟨⟨b0, b1, b2, b3, b4, b5⟩, -⟩ := cells6 HBW.out
   have hxW := blkLt HBW.out
   first | (go_region_with (first
    | (go_at_call 107; refine (bb_of hb (between_any t.n 1 6 _)).mono ?_; rintro e w2 ⟨rfl, hb2⟩; have hb2 := bdrew hb2; have HB2 := Lib.hid ((hb2.block _ hxW).trans HBW.out); clear b0 b1 b2 b3 b4 b5; obtain ⟨⟨b0, b1, b2, b3, b4, b5⟩, -⟩ := cells6 HB2.out; have hx2 := blkLt HB2.out; have HW2 := Lib.hid (HWW.out.trans (hb2.mono HWW.out.size)); clear hb2)
    | (go_at_call 74; refine (bb_of hp (plain_any (zn t) A c 3 _)).mono ?_; rintro e w3 ⟨rfl, hb3⟩; have HB3 := Lib.hid ((hb3.block _ hx2).trans HB2.out); clear b0 b1 b2 b3 b4 b5; obtain ⟨⟨b0, b1, b2, b3, b4, b5⟩, -⟩ := cells6 HB3.out; have hx3 := blkLt HB3.out; have HW3 := Lib.hid (HW2.out.trans (hb3.mono HW2.out.size)); clear hb3))) | skip
   all_goals
    go_wp2
    go_ret
    exact ⟨rfl, by first | exact HW4.out | exact HW3.out | exact HW2.out⟩
  | true =>
   have HR : Hid (vNumbers t.kids (psz t.n.toNat : Nat) = r) := by rw [hb, hp] at hr; exact hr
   clear hr
   go_enter Tryz.func92, Tryz.ntmps92
   go_wp2_with (refine (take_any t A c _).mono ?_; rintro e w1 ⟨rfl, hb1⟩; have HB1 := Lib.hid ((hb1.block _ (blkLt HB.out)).trans HB.out); obtain ⟨⟨b0, b1, b2, b3, b4, b5⟩, d0, d1, d2, d3, d4, d5⟩ := cells6 HB1.out; have hx1 := blkLt HB1.out; have HW1 := Lib.hid (hb0.trans (hb1.mono (by simp))); clear hb1)
   have HBW := Lib.hid (set6A (v0 := .int .i64 (zn t).kind) (v1 := .string (zn t).name) (v2 := .int .i64 (zn t).n) (v3 := .int .i64 (zn t).unit) (v4 := .int .i64 (zn t).at0) (v5 := .slice A (zn t).kids.length ((zn t).kids.length + c)) HB1.out)
   have HWW := Lib.hid (below6 (v0 := .int .i64 (zn t).kind) (v1 := .string (zn t).name) (v2 := .int .i64 (zn t).n) (v3 := .int .i64 (zn t).unit) (v4 := .int .i64 (zn t).at0) (v5 := .slice A (zn t).kids.length ((zn t).kids.length + c)) HW1.out (Nat.le_refl _))
   generalize ((((((w1.setCell ⟨w.heap.size, 0, none⟩ (.int .i64 (zn t).kind)).setCell ⟨w.heap.size, 1, none⟩ (.string (zn t).name)).setCell ⟨w.heap.size, 2, none⟩ (.int .i64 (zn t).n)).setCell ⟨w.heap.size, 3, none⟩ (.int .i64 (zn t).unit)).setCell ⟨w.heap.size, 4, none⟩ (.int .i64 (zn t).at0)).setCell ⟨w.heap.size, 5, none⟩ (.slice A (zn t).kids.length ((zn t).kids.length + c))) = W at *
   clear b0 b1 b2 b3 b4 b5 d0 d1 d2 d3 d4 d5
   obtain ⟨⟨b0, b1, b2, b3, b4, b5⟩, -⟩ := cells6 HBW.out
   have hxW := blkLt HBW.out
   first | (go_region_with (first
    | (go_at_call 107; refine (bb_of hb (between_any t.n 1 6 _)).mono ?_; rintro e w2 ⟨rfl, hb2⟩; have hb2 := bdrew hb2; have HB2 := Lib.hid ((hb2.block _ hxW).trans HBW.out); clear b0 b1 b2 b3 b4 b5; obtain ⟨⟨b0, b1, b2, b3, b4, b5⟩, -⟩ := cells6 HB2.out; have hx2 := blkLt HB2.out; have HW2 := Lib.hid (HWW.out.trans (hb2.mono HWW.out.size)); clear hb2)
    | (go_at_call 74; refine (bb_of hp (plain_any (zn t) A c 3 _)).mono ?_; rintro e w3 ⟨rfl, hb3⟩; have HB3 := Lib.hid ((hb3.block _ hx2).trans HB2.out); clear b0 b1 b2 b3 b4 b5; obtain ⟨⟨b0, b1, b2, b3, b4, b5⟩, -⟩ := cells6 HB3.out; have hx3 := blkLt HB3.out; have HW3 := Lib.hid (HW2.out.trans (hb3.mono HW2.out.size)); clear hb3)
    | (go_at_call 108; refine (policySize_int t.n hrg _).mono ?_; rintro e w5 ⟨rfl, hb5⟩; have HB5 := Lib.hid ((hb5.block _ hx3).trans HB3.out); clear b0 b1 b2 b3 b4 b5; obtain ⟨⟨b0, b1, b2, b3, b4, b5⟩, -⟩ := cells6 HB5.out; have HW5 := Lib.hid (HW3.out.trans (hb5.mono HW3.out.size)); clear hb5)
    | (go_at_call 91; refine (bb_of HR.out (validNumbers_any t.kids A (t.kids.length + c) (psz t.n.toNat : Nat) _ ?hk hlen)).mono ?_; (case hk => exact hKH.out.keep (fun q h1 h2 => ⟨HW5.out.block q h2, h1⟩)); rintro e w4 ⟨rfl, hb4⟩; have HW4 := Lib.hid (HW5.out.trans (hb4.mono HW5.out.size)); clear hb4))) | skip
   all_goals
    go_wp2
    go_ret
    exact ⟨rfl, by first | exact HW4.out | exact HW3.out | exact HW2.out⟩
end Go.Proofs.YtljknappbnoikaaGreatDoor
