/- Texts of one proof: QaB. -/
import Derived.Test.YtdgompdbhlhofaaGreatDoorZq
namespace Go.Proofs.YtdgompdbhlhofaaGreatDoor
open Go.RowKit
set_option linter.unusedVariables false
set_option linter.unusedSimpArgs false
def lead (P : Nd → Bool) : List Nd → Nat
  | [] => 0
  | t :: ts => if P t = true then lead P ts + 1 else 0
theorem lead_le (P : Nd → Bool) : ∀ ts, lead P ts ≤ ts.length
  | [] => Nat.le_refl _
  | t :: ts => by
    rw [lead]
    have := lead_le P ts
    split
    · simp only [List.length_cons]; omega
    · omega
theorem lead_yes (P : Nd → Bool) (ts : List Nd) (k : Nat) (hk : k < ts.length) (h : P ts[k] = true) : lead P (ts.drop k) = lead P (ts.drop (k + 1)) + 1 := by
  rw [List.drop_eq_getElem_cons hk, lead, if_pos h]
theorem lead_no (P : Nd → Bool) (ts : List Nd) (k : Nat) (hk : k < ts.length) (h : P ts[k] = false) : lead P (ts.drop k) = 0 := by
  rw [List.drop_eq_getElem_cons hk, lead, if_neg (by rw [h]; decide)]
theorem lead_end (P : Nd → Bool) (ts : List Nd) (k : Nat) (hk : ¬ k < ts.length) : lead P (ts.drop k) = 0 := by
  rw [List.drop_eq_nil_of_le (by omega)]; rfl
def allB (P : Nd → Bool) : List Nd → Bool
  | [] => true
  | t :: ts => P t && allB P ts
theorem lead_all (P : Nd → Bool) : ∀ ts, decide (lead P ts = ts.length) = allB P ts
  | [] => rfl
  | t :: ts => by
    rw [lead, allB, ← lead_all P ts]
    cases P t <;> simp
theorem intb (n m : Nat) : ((n : Int) == (m : Int)) = decide (n = m) := by
  rw [Bool.eq_iff_iff, beq_iff_eq, decide_eq_true_iff]
  omega
def NN (n : Nat) (w : World) (e : Ending) (w' : World) : Prop := e = .returned (.int .i64 (n : Nat)) ∧ Below w.heap.size w w'
def Does (f : FuncId) (xs : Array Value) (P : Nd → Bool) (ts : List Nd) (w : World) : Prop :=
  ∀ t ∈ ts, ∀ (wx : World) (A : Option Addr) (c : Nat), Below w.heap.size w wx → KidsR wx (From 0) t.kids A → Calls Tryz.prog f (#[nv t A c] ++ xs) wx (BB (P t) wx)
set_option maxHeartbeats 1000000 in
set_option maxRecDepth 100000 in
theorem lead_validName (P : Nd → Bool) (ts : List Nd) (A : Option Addr) (c : Nat) (w : World) (hK : KidsR w (From 0) ts A) (hD : Does 68 #[] P ts w) (hlen : ts.length ≤ maxLen) :
    Calls Tryz.prog 66 #[.slice A ts.length c, .func (.func 68) #[] #[]] w (NN (lead P ts) w) := by
  obtain ⟨r, hr⟩ : ∃ r, lead P ts = r := ⟨_, rfl⟩
  rw [hr]
  have hR := Lib.hid hr
  have hKH := Lib.hid hK
  have hDH := Lib.hid hD
  clear hr hK hD
  unfold maxLen at hlen
  go_enter Tryz.func66, Tryz.ntmps66
  go_wp2
  go_loopg [9] (ts.length) (fun gk i wr => ∃ (k : Nat), k + gk = ts.length ∧ i = .int .i64 k ∧ Hid (k + lead P (ts.drop k) = r) ∧ Hid (Below w.heap.size w wr))
  case atStart => exact ⟨0, by omega, rfl, Lib.hid (by rw [Nat.zero_add, List.drop_zero]; exact hR.out), Lib.hid (Below.refl _ _)⟩
  case round =>
    obtain ⟨k, hk, rfl, hS, hW⟩ := hrel
    by_cases hlt : k < ts.length
    · obtain ⟨g, rfl⟩ : ∃ g, gk = g + 1 := ⟨gk - 1, by omega⟩
      have hKw : KidsR wr (From 0) ts A := hKH.out.keep (fun q h1 h2 => ⟨hW.out.block q h2, h1⟩)
      obtain ⟨ga, oa, rfl⟩ := hKw.addr (by omega)
      obtain ⟨A1, c1, ⟨e0, e1, e2, e3, e4, e5⟩, hK1⟩ := (hKw.get _ _ _ k _ (List.getElem?_eq_getElem hlt)).cells
      have hmem : ts[k] ∈ ts := List.getElem_mem hlt
      have hK1H := Lib.hid hK1
      have hI : Hid (∀ wx, Below wr.heap.size wr wx → Calls Tryz.prog 68 (#[nv ts[k] A1 c1] ++ #[]) wx (BB (P ts[k]) wx)) :=
        fun wx hb => hDH.out _ hmem wx A1 c1 (hW.out.trans (hb.mono hW.out.size)) (hK1H.out.keep (fun q h1 h2 => ⟨hb.block q h2, h1⟩))
      have hY := Lib.hid (lead_yes P ts k hlt)
      have hNo := Lib.hid (lead_no P ts k hlt)
      clear hKw hmem hK1
      generalize ts[k] = u at *
      rcases hP : P u with _ | _
      · have hq := hS.out
        rw [hNo.out hP, Nat.add_zero] at hq
        have hS1 := Lib.hid hq
        clear hq
        rw [hP] at hI
        clear hP
        go_wp2_with fail
        refine (hI.out _ ((Below.refl _ _).alloc (Nat.le_refl _) _)).mono ?_
        rintro e w2 ⟨rfl, hb2⟩
        go_wp2
        go_ret
        exact ⟨ret_i (by rw [hS1.out]), (hW.out.alloc hW.out.size _).trans (hb2.mono (by have := hW.out.size; simp; omega))⟩
      · have hq := hS.out
        rw [hY.out hP, Nat.add_comm (lead P _) 1, ← Nat.add_assoc] at hq
        have hS1 := Lib.hid hq
        clear hq
        rw [hP] at hI
        clear hP
        go_wp2_with fail
        refine (hI.out _ ((Below.refl _ _).alloc (Nat.le_refl _) _)).mono ?_
        rintro e w2 ⟨rfl, hb2⟩
        have hW2 := Lib.hid ((hW.out.alloc hW.out.size _).trans (hb2.mono (by have := hW.out.size; simp; omega)))
        clear hb2 e0 e1 e2 e3 e4 e5
        go_wp2
        go_roundg g
        case measure => omega
        case rel => exact ⟨k + 1, by omega, by go_num, hS1, hW2⟩
    · have hq := hS.out
      rw [lead_end P ts k hlt, Nat.add_zero] at hq
      obtain rfl : k = ts.length := by omega
      have hF := Lib.hid hq
      clear hq
      go_wp2
      go_ret
      exact ⟨ret_i (by rw [hF.out]), hW.out⟩
set_option maxHeartbeats 1000000 in
set_option maxRecDepth 100000 in
theorem lead_validNumber (P : Nd → Bool) (ts : List Nd) (A : Option Addr) (c : Nat) (w : World) (hK : KidsR w (From 0) ts A) (hD : Does 82 #[] P ts w) (hlen : ts.length ≤ maxLen) :
    Calls Tryz.prog 66 #[.slice A ts.length c, .func (.func 82) #[] #[]] w (NN (lead P ts) w) := by
  obtain ⟨r, hr⟩ : ∃ r, lead P ts = r := ⟨_, rfl⟩
  rw [hr]
  have hR := Lib.hid hr
  have hKH := Lib.hid hK
  have hDH := Lib.hid hD
  clear hr hK hD
  unfold maxLen at hlen
  go_enter Tryz.func66, Tryz.ntmps66
  go_wp2
  go_loopg [9] (ts.length) (fun gk i wr => ∃ (k : Nat), k + gk = ts.length ∧ i = .int .i64 k ∧ Hid (k + lead P (ts.drop k) = r) ∧ Hid (Below w.heap.size w wr))
  case atStart => exact ⟨0, by omega, rfl, Lib.hid (by rw [Nat.zero_add, List.drop_zero]; exact hR.out), Lib.hid (Below.refl _ _)⟩
  case round =>
    obtain ⟨k, hk, rfl, hS, hW⟩ := hrel
    by_cases hlt : k < ts.length
    · obtain ⟨g, rfl⟩ : ∃ g, gk = g + 1 := ⟨gk - 1, by omega⟩
      have hKw : KidsR wr (From 0) ts A := hKH.out.keep (fun q h1 h2 => ⟨hW.out.block q h2, h1⟩)
      obtain ⟨ga, oa, rfl⟩ := hKw.addr (by omega)
      obtain ⟨A1, c1, ⟨e0, e1, e2, e3, e4, e5⟩, hK1⟩ := (hKw.get _ _ _ k _ (List.getElem?_eq_getElem hlt)).cells
      have hmem : ts[k] ∈ ts := List.getElem_mem hlt
      have hK1H := Lib.hid hK1
      have hI : Hid (∀ wx, Below wr.heap.size wr wx → Calls Tryz.prog 82 (#[nv ts[k] A1 c1] ++ #[]) wx (BB (P ts[k]) wx)) :=
        fun wx hb => hDH.out _ hmem wx A1 c1 (hW.out.trans (hb.mono hW.out.size)) (hK1H.out.keep (fun q h1 h2 => ⟨hb.block q h2, h1⟩))
      have hY := Lib.hid (lead_yes P ts k hlt)
      have hNo := Lib.hid (lead_no P ts k hlt)
      clear hKw hmem hK1
      generalize ts[k] = u at *
      rcases hP : P u with _ | _
      · have hq := hS.out
        rw [hNo.out hP, Nat.add_zero] at hq
        have hS1 := Lib.hid hq
        clear hq
        rw [hP] at hI
        clear hP
        go_wp2_with fail
        refine (hI.out _ ((Below.refl _ _).alloc (Nat.le_refl _) _)).mono ?_
        rintro e w2 ⟨rfl, hb2⟩
        go_wp2
        go_ret
        exact ⟨ret_i (by rw [hS1.out]), (hW.out.alloc hW.out.size _).trans (hb2.mono (by have := hW.out.size; simp; omega))⟩
      · have hq := hS.out
        rw [hY.out hP, Nat.add_comm (lead P _) 1, ← Nat.add_assoc] at hq
        have hS1 := Lib.hid hq
        clear hq
        rw [hP] at hI
        clear hP
        go_wp2_with fail
        refine (hI.out _ ((Below.refl _ _).alloc (Nat.le_refl _) _)).mono ?_
        rintro e w2 ⟨rfl, hb2⟩
        have hW2 := Lib.hid ((hW.out.alloc hW.out.size _).trans (hb2.mono (by have := hW.out.size; simp; omega)))
        clear hb2 e0 e1 e2 e3 e4 e5
        go_wp2
        go_roundg g
        case measure => omega
        case rel => exact ⟨k + 1, by omega, by go_num, hS1, hW2⟩
    · have hq := hS.out
      rw [lead_end P ts k hlt, Nat.add_zero] at hq
      obtain rfl : k = ts.length := by omega
      have hF := Lib.hid hq
      clear hq
      go_wp2
      go_ret
      exact ⟨ret_i (by rw [hF.out]), hW.out⟩
set_option maxHeartbeats 1000000 in
set_option maxRecDepth 100000 in
theorem every_validNumber (P : Nd → Bool) (ts : List Nd) (A : Option Addr) (c : Nat) (w : World) (hK : KidsR w (From 0) ts A) (hD : Does 82 #[] P ts w) (hlen : ts.length ≤ maxLen) :
    Calls Tryz.prog 56 #[.slice A ts.length c, .func (.func 82) #[] #[]] w (BB (allB P ts) w) := by
  have hM := Lib.hid (lead_validNumber P ts A c w hK hD hlen)
  have hA := Lib.hid (lead_all P ts)
  generalize lead P ts = n at *
  clear hK hD
  go_enter Tryz.func56, Tryz.ntmps56
  go_wp2_with fail
  refine hM.out.mono ?_
  rintro e w1 ⟨rfl, hb1⟩
  go_wp2
  go_ret
  refine ⟨?_, hb1⟩
  rw [← hA.out, intb]
  rfl
set_option maxHeartbeats 1000000 in
set_option maxRecDepth 100000 in
theorem lead_validVar (P : Nd → Bool) (ts : List Nd) (A : Option Addr) (c : Nat) (w : World) (hK : KidsR w (From 0) ts A) (hD : Does 86 #[] P ts w) (hlen : ts.length ≤ maxLen) :
    Calls Tryz.prog 66 #[.slice A ts.length c, .func (.func 86) #[] #[]] w (NN (lead P ts) w) := by
  obtain ⟨r, hr⟩ : ∃ r, lead P ts = r := ⟨_, rfl⟩
  rw [hr]
  have hR := Lib.hid hr
  have hKH := Lib.hid hK
  have hDH := Lib.hid hD
  clear hr hK hD
  unfold maxLen at hlen
  go_enter Tryz.func66, Tryz.ntmps66
  go_wp2
  go_loopg [9] (ts.length) (fun gk i wr => ∃ (k : Nat), k + gk = ts.length ∧ i = .int .i64 k ∧ Hid (k + lead P (ts.drop k) = r) ∧ Hid (Below w.heap.size w wr))
  case atStart => exact ⟨0, by omega, rfl, Lib.hid (by rw [Nat.zero_add, List.drop_zero]; exact hR.out), Lib.hid (Below.refl _ _)⟩
  case round =>
    obtain ⟨k, hk, rfl, hS, hW⟩ := hrel
    by_cases hlt : k < ts.length
    · obtain ⟨g, rfl⟩ : ∃ g, gk = g + 1 := ⟨gk - 1, by omega⟩
      have hKw : KidsR wr (From 0) ts A := hKH.out.keep (fun q h1 h2 => ⟨hW.out.block q h2, h1⟩)
      obtain ⟨ga, oa, rfl⟩ := hKw.addr (by omega)
      obtain ⟨A1, c1, ⟨e0, e1, e2, e3, e4, e5⟩, hK1⟩ := (hKw.get _ _ _ k _ (List.getElem?_eq_getElem hlt)).cells
      have hmem : ts[k] ∈ ts := List.getElem_mem hlt
      have hK1H := Lib.hid hK1
      have hI : Hid (∀ wx, Below wr.heap.size wr wx → Calls Tryz.prog 86 (#[nv ts[k] A1 c1] ++ #[]) wx (BB (P ts[k]) wx)) :=
        fun wx hb => hDH.out _ hmem wx A1 c1 (hW.out.trans (hb.mono hW.out.size)) (hK1H.out.keep (fun q h1 h2 => ⟨hb.block q h2, h1⟩))
      have hY := Lib.hid (lead_yes P ts k hlt)
      have hNo := Lib.hid (lead_no P ts k hlt)
      clear hKw hmem hK1
      generalize ts[k] = u at *
      rcases hP : P u with _ | _
      · have hq := hS.out
        rw [hNo.out hP, Nat.add_zero] at hq
        have hS1 := Lib.hid hq
        clear hq
        rw [hP] at hI
        clear hP
        go_wp2_with fail
        refine (hI.out _ ((Below.refl _ _).alloc (Nat.le_refl _) _)).mono ?_
        rintro e w2 ⟨rfl, hb2⟩
        go_wp2
        go_ret
        exact ⟨ret_i (by rw [hS1.out]), (hW.out.alloc hW.out.size _).trans (hb2.mono (by have := hW.out.size; simp; omega))⟩
      · have hq := hS.out
        rw [hY.out hP, Nat.add_comm (lead P _) 1, ← Nat.add_assoc] at hq
        have hS1 := Lib.hid hq
        clear hq
        rw [hP] at hI
        clear hP
        go_wp2_with fail
        refine (hI.out _ ((Below.refl _ _).alloc (Nat.le_refl _) _)).mono ?_
        rintro e w2 ⟨rfl, hb2⟩
        have hW2 := Lib.hid ((hW.out.alloc hW.out.size _).trans (hb2.mono (by have := hW.out.size; simp; omega)))
        clear hb2 e0 e1 e2 e3 e4 e5
        go_wp2
        go_roundg g
        case measure => omega
        case rel => exact ⟨k + 1, by omega, by go_num, hS1, hW2⟩
    · have hq := hS.out
      rw [lead_end P ts k hlt, Nat.add_zero] at hq
      obtain rfl : k = ts.length := by omega
      have hF := Lib.hid hq
      clear hq
      go_wp2
      go_ret
      exact ⟨ret_i (by rw [hF.out]), hW.out⟩
set_option maxHeartbeats 1000000 in
set_option maxRecDepth 100000 in
theorem lead_validHandler (P : Nd → Bool) (ts : List Nd) (A : Option Addr) (c : Nat) (w : World) (hK : KidsR w (From 0) ts A) (hD : Does 87 #[] P ts w) (hlen : ts.length ≤ maxLen) :
    Calls Tryz.prog 66 #[.slice A ts.length c, .func (.func 87) #[] #[]] w (NN (lead P ts) w) := by
  obtain ⟨r, hr⟩ : ∃ r, lead P ts = r := ⟨_, rfl⟩
  rw [hr]
  have hR := Lib.hid hr
  have hKH := Lib.hid hK
  have hDH := Lib.hid hD
  clear hr hK hD
  unfold maxLen at hlen
  go_enter Tryz.func66, Tryz.ntmps66
  go_wp2
  go_loopg [9] (ts.length) (fun gk i wr => ∃ (k : Nat), k + gk = ts.length ∧ i = .int .i64 k ∧ Hid (k + lead P (ts.drop k) = r) ∧ Hid (Below w.heap.size w wr))
  case atStart => exact ⟨0, by omega, rfl, Lib.hid (by rw [Nat.zero_add, List.drop_zero]; exact hR.out), Lib.hid (Below.refl _ _)⟩
  case round =>
    obtain ⟨k, hk, rfl, hS, hW⟩ := hrel
    by_cases hlt : k < ts.length
    · obtain ⟨g, rfl⟩ : ∃ g, gk = g + 1 := ⟨gk - 1, by omega⟩
      have hKw : KidsR wr (From 0) ts A := hKH.out.keep (fun q h1 h2 => ⟨hW.out.block q h2, h1⟩)
      obtain ⟨ga, oa, rfl⟩ := hKw.addr (by omega)
      obtain ⟨A1, c1, ⟨e0, e1, e2, e3, e4, e5⟩, hK1⟩ := (hKw.get _ _ _ k _ (List.getElem?_eq_getElem hlt)).cells
      have hmem : ts[k] ∈ ts := List.getElem_mem hlt
      have hK1H := Lib.hid hK1
      have hI : Hid (∀ wx, Below wr.heap.size wr wx → Calls Tryz.prog 87 (#[nv ts[k] A1 c1] ++ #[]) wx (BB (P ts[k]) wx)) :=
        fun wx hb => hDH.out _ hmem wx A1 c1 (hW.out.trans (hb.mono hW.out.size)) (hK1H.out.keep (fun q h1 h2 => ⟨hb.block q h2, h1⟩))
      have hY := Lib.hid (lead_yes P ts k hlt)
      have hNo := Lib.hid (lead_no P ts k hlt)
      clear hKw hmem hK1
      generalize ts[k] = u at *
      rcases hP : P u with _ | _
      · have hq := hS.out
        rw [hNo.out hP, Nat.add_zero] at hq
        have hS1 := Lib.hid hq
        clear hq
        rw [hP] at hI
        clear hP
        go_wp2_with fail
        refine (hI.out _ ((Below.refl _ _).alloc (Nat.le_refl _) _)).mono ?_
        rintro e w2 ⟨rfl, hb2⟩
        go_wp2
        go_ret
        exact ⟨ret_i (by rw [hS1.out]), (hW.out.alloc hW.out.size _).trans (hb2.mono (by have := hW.out.size; simp; omega))⟩
      · have hq := hS.out
        rw [hY.out hP, Nat.add_comm (lead P _) 1, ← Nat.add_assoc] at hq
        have hS1 := Lib.hid hq
        clear hq
        rw [hP] at hI
        clear hP
        go_wp2_with fail
        refine (hI.out _ ((Below.refl _ _).alloc (Nat.le_refl _) _)).mono ?_
        rintro e w2 ⟨rfl, hb2⟩
        have hW2 := Lib.hid ((hW.out.alloc hW.out.size _).trans (hb2.mono (by have := hW.out.size; simp; omega)))
        clear hb2 e0 e1 e2 e3 e4 e5
        go_wp2
        go_roundg g
        case measure => omega
        case rel => exact ⟨k + 1, by omega, by go_num, hS1, hW2⟩
    · have hq := hS.out
      rw [lead_end P ts k hlt, Nat.add_zero] at hq
      obtain rfl : k = ts.length := by omega
      have hF := Lib.hid hq
      clear hq
      go_wp2
      go_ret
      exact ⟨ret_i (by rw [hF.out]), hW.out⟩
set_option maxHeartbeats 1000000 in
set_option maxRecDepth 100000 in
theorem lead_validItem (P : Nd → Bool) (ts : List Nd) (A : Option Addr) (c : Nat) (w : World) (hK : KidsR w (From 0) ts A) (hD : Does 57 #[] P ts w) (hlen : ts.length ≤ maxLen) :
    Calls Tryz.prog 66 #[.slice A ts.length c, .func (.func 57) #[] #[]] w (NN (lead P ts) w) := by
  obtain ⟨r, hr⟩ : ∃ r, lead P ts = r := ⟨_, rfl⟩
  rw [hr]
  have hR := Lib.hid hr
  have hKH := Lib.hid hK
  have hDH := Lib.hid hD
  clear hr hK hD
  unfold maxLen at hlen
  go_enter Tryz.func66, Tryz.ntmps66
  go_wp2
  go_loopg [9] (ts.length) (fun gk i wr => ∃ (k : Nat), k + gk = ts.length ∧ i = .int .i64 k ∧ Hid (k + lead P (ts.drop k) = r) ∧ Hid (Below w.heap.size w wr))
  case atStart => exact ⟨0, by omega, rfl, Lib.hid (by rw [Nat.zero_add, List.drop_zero]; exact hR.out), Lib.hid (Below.refl _ _)⟩
  case round =>
    obtain ⟨k, hk, rfl, hS, hW⟩ := hrel
    by_cases hlt : k < ts.length
    · obtain ⟨g, rfl⟩ : ∃ g, gk = g + 1 := ⟨gk - 1, by omega⟩
      have hKw : KidsR wr (From 0) ts A := hKH.out.keep (fun q h1 h2 => ⟨hW.out.block q h2, h1⟩)
      obtain ⟨ga, oa, rfl⟩ := hKw.addr (by omega)
      obtain ⟨A1, c1, ⟨e0, e1, e2, e3, e4, e5⟩, hK1⟩ := (hKw.get _ _ _ k _ (List.getElem?_eq_getElem hlt)).cells
      have hmem : ts[k] ∈ ts := List.getElem_mem hlt
      have hK1H := Lib.hid hK1
      have hI : Hid (∀ wx, Below wr.heap.size wr wx → Calls Tryz.prog 57 (#[nv ts[k] A1 c1] ++ #[]) wx (BB (P ts[k]) wx)) :=
        fun wx hb => hDH.out _ hmem wx A1 c1 (hW.out.trans (hb.mono hW.out.size)) (hK1H.out.keep (fun q h1 h2 => ⟨hb.block q h2, h1⟩))
      have hY := Lib.hid (lead_yes P ts k hlt)
      have hNo := Lib.hid (lead_no P ts k hlt)
      clear hKw hmem hK1
      generalize ts[k] = u at *
      rcases hP : P u with _ | _
      · have hq := hS.out
        rw [hNo.out hP, Nat.add_zero] at hq
        have hS1 := Lib.hid hq
        clear hq
        rw [hP] at hI
        clear hP
        go_wp2_with fail
        refine (hI.out _ ((Below.refl _ _).alloc (Nat.le_refl _) _)).mono ?_
        rintro e w2 ⟨rfl, hb2⟩
        go_wp2
        go_ret
        exact ⟨ret_i (by rw [hS1.out]), (hW.out.alloc hW.out.size _).trans (hb2.mono (by have := hW.out.size; simp; omega))⟩
      · have hq := hS.out
        rw [hY.out hP, Nat.add_comm (lead P _) 1, ← Nat.add_assoc] at hq
        have hS1 := Lib.hid hq
        clear hq
        rw [hP] at hI
        clear hP
        go_wp2_with fail
        refine (hI.out _ ((Below.refl _ _).alloc (Nat.le_refl _) _)).mono ?_
        rintro e w2 ⟨rfl, hb2⟩
        have hW2 := Lib.hid ((hW.out.alloc hW.out.size _).trans (hb2.mono (by have := hW.out.size; simp; omega)))
        clear hb2 e0 e1 e2 e3 e4 e5
        go_wp2
        go_roundg g
        case measure => omega
        case rel => exact ⟨k + 1, by omega, by go_num, hS1, hW2⟩
    · have hq := hS.out
      rw [lead_end P ts k hlt, Nat.add_zero] at hq
      obtain rfl : k = ts.length := by omega
      have hF := Lib.hid hq
      clear hq
      go_wp2
      go_ret
      exact ⟨ret_i (by rw [hF.out]), hW.out⟩
set_option maxHeartbeats 1000000 in
set_option maxRecDepth 100000 in
theorem every_validItem (P : Nd → Bool) (ts : List Nd) (A : Option Addr) (c : Nat) (w : World) (hK : KidsR w (From 0) ts A) (hD : Does 57 #[] P ts w) (hlen : ts.length ≤ maxLen) :
    Calls Tryz.prog 56 #[.slice A ts.length c, .func (.func 57) #[] #[]] w (BB (allB P ts) w) := by
  have hM := Lib.hid (lead_validItem P ts A c w hK hD hlen)
  have hA := Lib.hid (lead_all P ts)
  generalize lead P ts = n at *
  clear hK hD
  go_enter Tryz.func56, Tryz.ntmps56
  go_wp2_with fail
  refine hM.out.mono ?_
  rintro e w1 ⟨rfl, hb1⟩
  go_wp2
  go_ret
  refine ⟨?_, hb1⟩
  rw [← hA.out, intb]
  rfl
set_option maxHeartbeats 1000000 in
set_option maxRecDepth 100000 in
theorem lead_validStmts1 (cp : Value) (P : Nd → Bool) (ts : List Nd) (A : Option Addr) (c : Nat) (w : World) (hK : KidsR w (From 0) ts A) (hD : Does 110 #[cp] P ts w) (hlen : ts.length ≤ maxLen) :
    Calls Tryz.prog 66 #[.slice A ts.length c, .func (.func 110) #[] #[cp]] w (NN (lead P ts) w) := by
  obtain ⟨r, hr⟩ : ∃ r, lead P ts = r := ⟨_, rfl⟩
  rw [hr]
  have hR := Lib.hid hr
  have hKH := Lib.hid hK
  have hDH := Lib.hid hD
  clear hr hK hD
  unfold maxLen at hlen
  go_enter Tryz.func66, Tryz.ntmps66
  go_wp2
  go_loopg [9] (ts.length) (fun gk i wr => ∃ (k : Nat), k + gk = ts.length ∧ i = .int .i64 k ∧ Hid (k + lead P (ts.drop k) = r) ∧ Hid (Below w.heap.size w wr))
  case atStart => exact ⟨0, by omega, rfl, Lib.hid (by rw [Nat.zero_add, List.drop_zero]; exact hR.out), Lib.hid (Below.refl _ _)⟩
  case round =>
    obtain ⟨k, hk, rfl, hS, hW⟩ := hrel
    by_cases hlt : k < ts.length
    · obtain ⟨g, rfl⟩ : ∃ g, gk = g + 1 := ⟨gk - 1, by omega⟩
      have hKw : KidsR wr (From 0) ts A := hKH.out.keep (fun q h1 h2 => ⟨hW.out.block q h2, h1⟩)
      obtain ⟨ga, oa, rfl⟩ := hKw.addr (by omega)
      obtain ⟨A1, c1, ⟨e0, e1, e2, e3, e4, e5⟩, hK1⟩ := (hKw.get _ _ _ k _ (List.getElem?_eq_getElem hlt)).cells
      have hmem : ts[k] ∈ ts := List.getElem_mem hlt
      have hK1H := Lib.hid hK1
      have hI : Hid (∀ wx, Below wr.heap.size wr wx → Calls Tryz.prog 110 (#[nv ts[k] A1 c1] ++ #[cp]) wx (BB (P ts[k]) wx)) :=
        fun wx hb => hDH.out _ hmem wx A1 c1 (hW.out.trans (hb.mono hW.out.size)) (hK1H.out.keep (fun q h1 h2 => ⟨hb.block q h2, h1⟩))
      have hY := Lib.hid (lead_yes P ts k hlt)
      have hNo := Lib.hid (lead_no P ts k hlt)
      clear hKw hmem hK1
      generalize ts[k] = u at *
      rcases hP : P u with _ | _
      · have hq := hS.out
        rw [hNo.out hP, Nat.add_zero] at hq
        have hS1 := Lib.hid hq
        clear hq
        rw [hP] at hI
        clear hP
        go_wp2_with fail
        refine (hI.out _ ((Below.refl _ _).alloc (Nat.le_refl _) _)).mono ?_
        rintro e w2 ⟨rfl, hb2⟩
        go_wp2
        go_ret
        exact ⟨ret_i (by rw [hS1.out]), (hW.out.alloc hW.out.size _).trans (hb2.mono (by have := hW.out.size; simp; omega))⟩
      · have hq := hS.out
        rw [hY.out hP, Nat.add_comm (lead P _) 1, ← Nat.add_assoc] at hq
        have hS1 := Lib.hid hq
        clear hq
        rw [hP] at hI
        clear hP
        go_wp2_with fail
        refine (hI.out _ ((Below.refl _ _).alloc (Nat.le_refl _) _)).mono ?_
        rintro e w2 ⟨rfl, hb2⟩
        have hW2 := Lib.hid ((hW.out.alloc hW.out.size _).trans (hb2.mono (by have := hW.out.size; simp; omega)))
        clear hb2 e0 e1 e2 e3 e4 e5
        go_wp2
        go_roundg g
        case measure => omega
        case rel => exact ⟨k + 1, by omega, by go_num, hS1, hW2⟩
    · have hq := hS.out
      rw [lead_end P ts k hlt, Nat.add_zero] at hq
      obtain rfl : k = ts.length := by omega
      have hF := Lib.hid hq
      clear hq
      go_wp2
      go_ret
      exact ⟨ret_i (by rw [hF.out]), hW.out⟩
set_option maxHeartbeats 1000000 in
set_option maxRecDepth 100000 in
theorem every_validStmts1 (cp : Value) (P : Nd → Bool) (ts : List Nd) (A : Option Addr) (c : Nat) (w : World) (hK : KidsR w (From 0) ts A) (hD : Does 110 #[cp] P ts w) (hlen : ts.length ≤ maxLen) :
    Calls Tryz.prog 56 #[.slice A ts.length c, .func (.func 110) #[] #[cp]] w (BB (allB P ts) w) := by
  have hM := Lib.hid (lead_validStmts1 cp P ts A c w hK hD hlen)
  have hA := Lib.hid (lead_all P ts)
  generalize lead P ts = n at *
  clear hK hD
  go_enter Tryz.func56, Tryz.ntmps56
  go_wp2_with fail
  refine hM.out.mono ?_
  rintro e w1 ⟨rfl, hb1⟩
  go_wp2
  go_ret
  refine ⟨?_, hb1⟩
  rw [← hA.out, intb]
  rfl
set_option maxHeartbeats 1000000 in
set_option maxRecDepth 100000 in
theorem lead_validIf1 (cp : Value) (P : Nd → Bool) (ts : List Nd) (A : Option Addr) (c : Nat) (w : World) (hK : KidsR w (From 0) ts A) (hD : Does 126 #[cp] P ts w) (hlen : ts.length ≤ maxLen) :
    Calls Tryz.prog 66 #[.slice A ts.length c, .func (.func 126) #[] #[cp]] w (NN (lead P ts) w) := by
  obtain ⟨r, hr⟩ : ∃ r, lead P ts = r := ⟨_, rfl⟩
  rw [hr]
  have hR := Lib.hid hr
  have hKH := Lib.hid hK
  have hDH := Lib.hid hD
  clear hr hK hD
  unfold maxLen at hlen
  go_enter Tryz.func66, Tryz.ntmps66
  go_wp2
  go_loopg [9] (ts.length) (fun gk i wr => ∃ (k : Nat), k + gk = ts.length ∧ i = .int .i64 k ∧ Hid (k + lead P (ts.drop k) = r) ∧ Hid (Below w.heap.size w wr))
  case atStart => exact ⟨0, by omega, rfl, Lib.hid (by rw [Nat.zero_add, List.drop_zero]; exact hR.out), Lib.hid (Below.refl _ _)⟩
  case round =>
    obtain ⟨k, hk, rfl, hS, hW⟩ := hrel
    by_cases hlt : k < ts.length
    · obtain ⟨g, rfl⟩ : ∃ g, gk = g + 1 := ⟨gk - 1, by omega⟩
      have hKw : KidsR wr (From 0) ts A := hKH.out.keep (fun q h1 h2 => ⟨hW.out.block q h2, h1⟩)
      obtain ⟨ga, oa, rfl⟩ := hKw.addr (by omega)
      obtain ⟨A1, c1, ⟨e0, e1, e2, e3, e4, e5⟩, hK1⟩ := (hKw.get _ _ _ k _ (List.getElem?_eq_getElem hlt)).cells
      have hmem : ts[k] ∈ ts := List.getElem_mem hlt
      have hK1H := Lib.hid hK1
      have hI : Hid (∀ wx, Below wr.heap.size wr wx → Calls Tryz.prog 126 (#[nv ts[k] A1 c1] ++ #[cp]) wx (BB (P ts[k]) wx)) :=
        fun wx hb => hDH.out _ hmem wx A1 c1 (hW.out.trans (hb.mono hW.out.size)) (hK1H.out.keep (fun q h1 h2 => ⟨hb.block q h2, h1⟩))
      have hY := Lib.hid (lead_yes P ts k hlt)
      have hNo := Lib.hid (lead_no P ts k hlt)
      clear hKw hmem hK1
      generalize ts[k] = u at *
      rcases hP : P u with _ | _
      · have hq := hS.out
        rw [hNo.out hP, Nat.add_zero] at hq
        have hS1 := Lib.hid hq
        clear hq
        rw [hP] at hI
        clear hP
        go_wp2_with fail
        refine (hI.out _ ((Below.refl _ _).alloc (Nat.le_refl _) _)).mono ?_
        rintro e w2 ⟨rfl, hb2⟩
        go_wp2
        go_ret
        exact ⟨ret_i (by rw [hS1.out]), (hW.out.alloc hW.out.size _).trans (hb2.mono (by have := hW.out.size; simp; omega))⟩
      · have hq := hS.out
        rw [hY.out hP, Nat.add_comm (lead P _) 1, ← Nat.add_assoc] at hq
        have hS1 := Lib.hid hq
        clear hq
        rw [hP] at hI
        clear hP
        go_wp2_with fail
        refine (hI.out _ ((Below.refl _ _).alloc (Nat.le_refl _) _)).mono ?_
        rintro e w2 ⟨rfl, hb2⟩
        have hW2 := Lib.hid ((hW.out.alloc hW.out.size _).trans (hb2.mono (by have := hW.out.size; simp; omega)))
        clear hb2 e0 e1 e2 e3 e4 e5
        go_wp2
        go_roundg g
        case measure => omega
        case rel => exact ⟨k + 1, by omega, by go_num, hS1, hW2⟩
    · have hq := hS.out
      rw [lead_end P ts k hlt, Nat.add_zero] at hq
      obtain rfl : k = ts.length := by omega
      have hF := Lib.hid hq
      clear hq
      go_wp2
      go_ret
      exact ⟨ret_i (by rw [hF.out]), hW.out⟩
set_option maxHeartbeats 1000000 in
set_option maxRecDepth 100000 in
theorem every_validIf1 (cp : Value) (P : Nd → Bool) (ts : List Nd) (A : Option Addr) (c : Nat) (w : World) (hK : KidsR w (From 0) ts A) (hD : Does 126 #[cp] P ts w) (hlen : ts.length ≤ maxLen) :
    Calls Tryz.prog 56 #[.slice A ts.length c, .func (.func 126) #[] #[cp]] w (BB (allB P ts) w) := by
  have hM := Lib.hid (lead_validIf1 cp P ts A c w hK hD hlen)
  have hA := Lib.hid (lead_all P ts)
  generalize lead P ts = n at *
  clear hK hD
  go_enter Tryz.func56, Tryz.ntmps56
  go_wp2_with fail
  refine hM.out.mono ?_
  rintro e w1 ⟨rfl, hb1⟩
  go_wp2
  go_ret
  refine ⟨?_, hb1⟩
  rw [← hA.out, intb]
  rfl
end Go.Proofs.YtdgompdbhlhofaaGreatDoor
