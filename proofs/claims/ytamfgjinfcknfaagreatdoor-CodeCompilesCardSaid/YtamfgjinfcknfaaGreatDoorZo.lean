/- Texts of one proof: QaA, QaB. -/
import Derived.Test.YtamfgjinfcknfaaGreatDoorZm
set_option linter.unusedVariables false
set_option linter.unusedSimpArgs false
set_option maxRecDepth 100000
set_option maxHeartbeats 8000000
namespace Go.Proofs.YtamfgjinfcknfaaGreatDoor
open Go.RowKit
theorem lexF_many_le0 (s : ByteArray) : (lx s).1.length ≤ 3000 := by
 have h : ∀ (f p c : Nat), c ≤ 3000 → (lexF s f p c).1.length ≤ 3000 - c := by
  intro f
  induction f with
  | zero => intro p c _; simp [lexF]
  | succ f ih =>
   intro p c hc
   rw [lexF]
   split
   ·simp
   ·split
    ·simp
    ·split
     ·simp
     ·have := ih (gapE s (rd s p).2.1) (c + 1) (by omega)
      simp only [List.length_cons]
      omega
 unfold lx
 have := h (s.size + 1) (gapE s 0) 0 (by omega)
 split
 ·simp
 ·split
  ·simp
  ·omega
def BB (b : Bool) (w : World) (e : Ending) (w' : World) : Prop := e = .returned (.bool b) ∧ Below w.heap.size w w'
def plainB (t : Nd) (k : Int) : Bool := decide (t.kind = k) && decide (t.name.toList = []) && decide (t.n = 0) && decide (t.unit = 0)
def btw (n lo hi : Int) : Bool := decide (lo ≤ n) && decide (n ≤ hi)
theorem between_any (n lo hi : Int) (w : World) : Calls Tryz.prog 100 #[.int .i64 n, .int .i64 lo, .int .i64 hi] w (BB (btw n lo hi) w) := by
 go_enter Tryz.func100, Tryz.ntmps100
 go_wp2
 all_goals
  go_ret
  refine ⟨?_, Below.refl _ _⟩
  simp [btw, *]
 all_goals omega
theorem plain_any (t : Nd) (A : Option Addr) (c : Nat) (k : Int) (w : World) : Calls Tryz.prog 67 #[nv t A c, .int .i64 k] w (BB (plainB t k) w) := by
 go_enter Tryz.func67, Tryz.ntmps67
 go_wp2
 all_goals
  go_ret
  refine ⟨?_, (Below.refl _ _).alloc (Nat.le_refl _) _⟩
  simp [plainB, *]
 all_goals rfl
def zn (t : Nd) : Nd := .mk t.kind t.name 0 t.unit t.at0 t.kids
def zu (t : Nd) : Nd := .mk t.kind t.name t.n 0 t.at0 t.kids
def zx (t : Nd) : Nd := .mk t.kind ⟨#[]⟩ t.n t.unit t.at0 t.kids
theorem take_any (t : Nd) (A : Option Addr) (c : Nat) (w : World) : Calls Tryz.prog 99 #[nv t A c] w fun e w' => e = .returned (.tuple #[.int .i64 t.n, nv (zn t) A c]) ∧ Below w.heap.size w w' := by
 go_enter Tryz.func99, Tryz.ntmps99
 go_wp2
 go_region
 all_goals
  go_wp2
  refine bodyPost_ret (v := .tuple #[.int .i64 t.n, nv (zn t) A c]) (by simp [results, Tryz.results99, go_sem, zn, Nd.kind, Nd.name, Nd.n, Nd.unit, Nd.at0, Nd.kids]) rfl ⟨rfl, ?_⟩
 all_goals exact (((Below.refl _ _).alloc (Nat.le_refl _) _).alloc (by simp) _).drew
def tight (k : Int) : Int := if k = 15 ∨ k = 16 then 1 else if k = 17 ∨ k = 18 then 2 else 3
theorem tightness_any (k : Int) (w : World) : Calls Tryz.prog 151 #[.int .i64 k] w fun e w' => e = .returned (.int .i64 (tight k)) ∧ w' = w := by
 go_enter Tryz.func151, Tryz.ntmps151
 go_wp2
 all_goals
  go_ret
  refine ⟨?_, rfl⟩
  simp_all [tight]
def least1 (k : Int) : Int := if tight k = 3 then 4 else tight k
def least2 (k : Int) : Int := if tight k = 3 then 4 else tight k + 1
theorem tight_range (k : Int) : 1 ≤ tight k ∧ tight k ≤ 3 := by unfold tight; split <;> (try split) <;> decide
theorem least_any (k : Int) (w : World) : Calls Tryz.prog 142 #[.int .i64 k] w fun e w' => e = .returned (.tuple #[.int .i64 (least1 k), .int .i64 (least2 k)]) ∧ w' = w := by
 have hr := tight_range k
 by_cases h3 : tight k = 3
 ·have e1 : least1 k = 4 := if_pos h3
  have e2 : least2 k = 4 := if_pos h3
  rw [e1, e2]
  go_enter Tryz.func142, Tryz.ntmps142
  go_wp2_with fail
  refine (tightness_any k _).mono ?_
  rintro e w1 ⟨rfl, rfl⟩
  go_wp2
  exact bodyPost_ret (v := .tuple #[.int .i64 4, .int .i64 4]) (by simp [results, Tryz.results142, go_sem]) rfl ⟨rfl, rfl⟩
 ·have e1 : least1 k = tight k := if_neg h3
  have e2 : least2 k = tight k + 1 := if_neg h3
  rw [e1, e2]
  go_enter Tryz.func142, Tryz.ntmps142
  go_wp2_with fail
  refine (tightness_any k _).mono ?_
  rintro e w1 ⟨rfl, rfl⟩
  go_wp2_with fail
  refine (tightness_any k _).mono ?_
  rintro e w2 ⟨rfl, rfl⟩
  go_wp2_with fail
  refine (tightness_any k _).mono ?_
  rintro e w3 ⟨rfl, rfl⟩
  have q0 : IntKind.i64.wrap (tight k + 1) = tight k + 1 := IntWalk.i64_in _ (by omega)
  go_wp2
  exact bodyPost_ret (v := .tuple #[.int .i64 (tight k), .int .i64 (tight k + 1)]) (by simp [results, Tryz.results142, go_sem]) rfl ⟨rfl, rfl⟩
def nameB1 (x : ByteArray) : Bool := match (lx x).1 with
 | [t] => decide (t.k = 1) && decide (t.x.toList = x.toList) && !keyB x
 | _ => false
theorem LexPost.el0 {s : ByteArray} {w w' : World} {e : Ending} {ts : List Tk} {er : Int} {p : Nat} (h : LexPost s w e w') (hx : lx s = (ts, er, p)) :
  ∃ A c, e = .returned (.tuple #[.slice A ts.length c, .int .i64 er, .int .i64 (p : Nat)]) ∧ w'.ownsRow w.heap.size 161 4 (.slice A ts.length c) ts.length (cellsOf ts) ∧ Below w.heap.size w w' := by
 unfold LexPost at h
 rw [hx] at h
 obtain ⟨v, h1, h2, h3⟩ := h
 obtain ⟨A, c, rfl⟩ := own_slice h2
 exact ⟨A, c, h1, h2, h3⟩
theorem own_tok {w : World} {base c : Nat} {A : Option Addr} {t : Tk} (h : w.ownsRow base 161 4 (.slice A 1 c) 1 (cellsOf [t])) : ∃ g, A = some ⟨g, 0, none⟩ ∧ TkAt w g 0 t := by
 obtain ⟨g, cap, hv, _, _⟩ := h.form (by decide)
 simp only [Value.slice.injEq] at hv
 obtain ⟨rfl, -, -⟩ := hv
 refine ⟨g, rfl, ?_⟩
 have h1 := h.cells (g := g) rfl
 have hadd : ∀ j, (⟨g, 0, none⟩ : Addr).add j = ⟨g, j, none⟩ := fun j => by unfold Addr.add; split <;> simp_all
 have a0 := h1 0 _ rfl
 have a1 := h1 1 _ rfl
 have a2 := h1 2 _ rfl
 have a3 := h1 3 _ rfl
 rw [hadd] at a0 a1 a2 a3
 exact ⟨a0, a1, a2, a3⟩
theorem isName_any (x : ByteArray) (w : World) (hL : LaidW w) (hw : 8 < w.heap.size) (hm : x.size ≤ maxLen) : Calls Tryz.prog 97 #[.string x] w (BB (nameB1 x) w) := by
 obtain ⟨ts, er, p, hx⟩ : ∃ ts er p, lx x = (ts, er, p) := ⟨_, _, _, rfl⟩
 have HX := Lib.hid hx
 have hl := lexF_many_le0 x
 rw [hx] at hl
 rcases ts with _ | ⟨t, _ | ⟨t2, ts⟩⟩
 ·have e1 : nameB1 x = false := by unfold nameB1; rw [hx]
  rw [e1]
  clear hx e1
  go_enter Tryz.func97, Tryz.ntmps97
  go_wp2_with fail
  refine (Lex_any x w hL hw hm).mono ?_
  intro e w1 hp
  obtain ⟨A, c, rfl, -, hb1⟩ := hp.el0 HX.out
  clear hp
  go_wp2
  go_ret
  exact ⟨rfl, hb1⟩
 ·have e1 : nameB1 x = (decide (t.k = 1) && decide (t.x.toList = x.toList) && !keyB x) := by unfold nameB1; rw [hx]
  rw [e1]
  clear hx e1
  have HK := Lib.hid (fun w => isKey_any x w)
  go_enter Tryz.func97, Tryz.ntmps97
  go_wp2_with fail
  refine (Lex_any x w hL hw hm).mono ?_
  intro e w1 hp
  obtain ⟨A, c, rfl, ho, hb1⟩ := hp.el0 HX.out
  clear hp
  obtain ⟨g, rfl, k0, k1, k2, k3⟩ := own_tok ho
  simp only [Nat.zero_mul, Nat.zero_add] at k0 k1 k2 k3
  clear ho k2 k3
  go_wp2_with (refine (HK.out _).mono ?_; rintro e w2 ⟨rfl, rfl⟩)
  all_goals
   go_ret
   refine ⟨?_, hb1⟩
   simp [*]
 ·have e1 : nameB1 x = false := by unfold nameB1; rw [hx]
  rw [e1]
  clear hx e1
  simp only [List.length_cons] at hl
  have hlen : (t :: t2 :: ts).length = ts.length + 2 := rfl
  go_enter Tryz.func97, Tryz.ntmps97
  go_wp2_with fail
  refine (Lex_any x w hL hw hm).mono ?_
  intro e w1 hp
  obtain ⟨A, c, rfl, -, hb1⟩ := hp.el0 HX.out
  clear hp
  have hne : (((t :: t2 :: ts).length : Int) == 1) = false := by rw [hlen]; simp; omega
  go_wp2
  go_ret
  exact ⟨rfl, hb1⟩
def namedB (t : Nd) (k : Int) : Bool := decide (t.kind = k) && nameB1 t.name && decide (t.n = 0) && decide (t.unit = 0)
theorem named_any (t : Nd) (A : Option Addr) (c : Nat) (k : Int) (w : World) (hL : LaidW w) (hw : 8 < w.heap.size) (hm : t.name.size ≤ maxLen) : Calls Tryz.prog 82 #[nv t A c, .int .i64 k] w (BB (namedB t k) w) := by
 by_cases hk : t.kind = k
 ·subst hk
  have hb0 := (Below.refl w.heap.size w).alloc (Nat.le_refl _) (.cells (ndArr t A c) 77)
  have HN := Lib.hid (isName_any t.name (w.alloc (.cells (ndArr t A c) 77)) (hL.below hb0 hw) (by simp; omega) hm)
  have HB := Lib.hid (newBlk w (.cells (ndArr t A c) 77) _ rfl)
  go_enter Tryz.func82, Tryz.ntmps82
  go_wp2_with (refine HN.out.mono ?_; rintro e w2 ⟨rfl, hb2⟩; obtain ⟨⟨b0, b1, b2, b3, b4, b5⟩, -⟩ := cells6 ((hb2.block _ (blkLt HB.out)).trans HB.out); have hx2 := Nat.lt_of_lt_of_le (blkLt HB.out) hb2.size; have HW2 := Lib.hid (hb0.trans (hb2.mono (by simp))); clear hb2)
  all_goals
   go_ret
   refine ⟨?_, HW2.out⟩
   simp [namedB, *]
  all_goals rfl
 ·go_enter Tryz.func82, Tryz.ntmps82
  go_wp2_with fail
  go_ret
  refine ⟨?_, (Below.refl _ _).alloc (Nat.le_refl _) _⟩
  simp [namedB, hk]
end Go.Proofs.YtamfgjinfcknfaaGreatDoor
namespace Go.Proofs.YtamfgjinfcknfaaGreatDoor
open Go.RowKit
def lead (P : Nd → Bool) : List Nd → Nat
 | [] => 0
 | t :: ts => if P t = true then lead P ts + 1 else 0
theorem lead_le (P : Nd → Bool) : ∀ ts, lead P ts ≤ ts.length
 | [] => Nat.le_refl _
 | t :: ts => by
  rw [lead]
  have := lead_le P ts
  split
  ·simp only [List.length_cons]; omega
  ·omega
theorem lead_yes (P : Nd → Bool) (ts : List Nd) (k : Nat) (hk : k < ts.length) (h : P ts[k] = true) : lead P (ts.drop k) = lead P (ts.drop (k + 1)) + 1 := by
 rw [List.drop_eq_getElem_cons hk, lead, if_pos h]
theorem lead_no (P : Nd → Bool) (ts : List Nd) (k : Nat) (hk : k < ts.length) (h : P ts[k] = false) : lead P (ts.drop k) = 0 := by
 rw [List.drop_eq_getElem_cons hk, lead, if_neg (by rw [h]; decide)]
theorem lead_end (P : Nd → Bool) (ts : List Nd) (k : Nat) (hk : ¬ k < ts.length) : lead P (ts.drop k) = 0 := by
 rw [List.drop_eq_nil_of_le (by omega)]; rfl
def allB (P : Nd → Bool) : List Nd → Bool
 | [] => true
 | t :: ts => P t && allB P ts
theorem lead_all (P : Nd → Bool) : ∀ ts, decide (lead P ts = ts.length) = allB P ts
 | [] => rfl
 | t :: ts => by
  rw [lead, allB, ← lead_all P ts]
  cases P t <;> simp
theorem intb (n m : Nat) : ((n : Int) == (m : Int)) = decide (n = m) := by
 rw [Bool.eq_iff_iff, beq_iff_eq, decide_eq_true_iff]
 omega
def NN (n : Nat) (w : World) (e : Ending) (w' : World) : Prop := e = .returned (.int .i64 (n : Nat)) ∧ Below w.heap.size w w'
def Does (f : FuncId) (xs : Array Value) (P : Nd → Bool) (ts : List Nd) (w : World) : Prop :=
 ∀ t ∈ ts, ∀ (wx : World) (A : Option Addr) (c : Nat), Below w.heap.size w wx → KidsR wx (From 0) t.kids A → Calls Tryz.prog f (#[nv t A c] ++ xs) wx (BB (P t) wx)
theorem lead_validName (P : Nd → Bool) (ts : List Nd) (A : Option Addr) (c : Nat) (w : World) (hK : KidsR w (From 0) ts A) (hD : Does 83 #[] P ts w) (hlen : ts.length ≤ maxLen) :
  Calls Tryz.prog 81 #[.slice A ts.length c, .func (.func 83) #[] #[]] w (NN (lead P ts) w) := by
 obtain ⟨r, hr⟩ : ∃ r, lead P ts = r := ⟨_, rfl⟩
 rw [hr]
 have hR := Lib.hid hr
 have hKH := Lib.hid hK
 have hDH := Lib.hid hD
 clear hr hK hD
 unfold maxLen at hlen
 go_enter Tryz.func81, Tryz.ntmps81
 go_wp2
 go_loopg [9] (ts.length) (fun gk i wr => ∃ (k : Nat), k + gk = ts.length ∧ i = .int .i64 k ∧ Hid (k + lead P (ts.drop k) = r) ∧ Hid (Below w.heap.size w wr))
 case atStart => exact ⟨0, by omega, rfl, Lib.hid (by rw [Nat.zero_add, List.drop_zero]; exact hR.out), Lib.hid (Below.refl _ _)⟩
 case round =>
  obtain ⟨k, hk, rfl, hS, hW⟩ := hrel
  by_cases hlt : k < ts.length
  ·obtain ⟨g, rfl⟩ : ∃ g, gk = g + 1 := ⟨gk - 1, by omega⟩
   have hKw : KidsR wr (From 0) ts A := hKH.out.keep (fun q h1 h2 => ⟨hW.out.block q h2, h1⟩)
   obtain ⟨ga, oa, rfl⟩ := hKw.addr (by omega)
   obtain ⟨A1, c1, ⟨e0, e1, e2, e3, e4, e5⟩, hK1⟩ := (hKw.get _ _ _ k _ (List.getElem?_eq_getElem hlt)).cells
   have hmem : ts[k] ∈ ts := List.getElem_mem hlt
   have hK1H := Lib.hid hK1
   have hI : Hid (∀ wx, Below wr.heap.size wr wx → Calls Tryz.prog 83 (#[nv ts[k] A1 c1] ++ #[]) wx (BB (P ts[k]) wx)) :=
    fun wx hb => hDH.out _ hmem wx A1 c1 (hW.out.trans (hb.mono hW.out.size)) (hK1H.out.keep (fun q h1 h2 => ⟨hb.block q h2, h1⟩))
   have hY := Lib.hid (lead_yes P ts k hlt)
   have hNo := Lib.hid (lead_no P ts k hlt)
   clear hKw hmem hK1
   generalize ts[k] = u at *
   rcases hP : P u with _ | _
   ·have hq := hS.out
    rw [hNo.out hP, Nat.add_zero] at hq
    have hS1 := Lib.hid hq
    clear hq
    rw [hP] at hI
    clear hP
    go_wp2_with fail
    refine (hI.out _ ((Below.refl _ _).alloc (Nat.le_refl _) _)).mono ?_
    rintro e w2 ⟨rfl, hb2⟩
    go_wp2
    go_ret
    exact ⟨ret_i (by rw [hS1.out]), (hW.out.alloc hW.out.size _).trans (hb2.mono (by have := hW.out.size; simp; omega))⟩
   ·have hq := hS.out
    rw [hY.out hP, Nat.add_comm (lead P _) 1, ← Nat.add_assoc] at hq
    have hS1 := Lib.hid hq
    clear hq
    rw [hP] at hI
    clear hP
    go_wp2_with fail
    refine (hI.out _ ((Below.refl _ _).alloc (Nat.le_refl _) _)).mono ?_
    rintro e w2 ⟨rfl, hb2⟩
    have hW2 := Lib.hid ((hW.out.alloc hW.out.size _).trans (hb2.mono (by have := hW.out.size; simp; omega)))
    clear hb2 e0 e1 e2 e3 e4 e5
    go_wp2
    go_roundg g
    case measure => omega
    case rel => exact ⟨k + 1, by omega, by go_num, hS1, hW2⟩
  ·have hq := hS.out
   rw [lead_end P ts k hlt, Nat.add_zero] at hq
   obtain rfl : k = ts.length := by omega
   have hF := Lib.hid hq
   clear hq
   go_wp2
   go_ret
   exact ⟨ret_i (by rw [hF.out]), hW.out⟩
theorem lead_validNumber (P : Nd → Bool) (ts : List Nd) (A : Option Addr) (c : Nat) (w : World) (hK : KidsR w (From 0) ts A) (hD : Does 98 #[] P ts w) (hlen : ts.length ≤ maxLen) :
  Calls Tryz.prog 81 #[.slice A ts.length c, .func (.func 98) #[] #[]] w (NN (lead P ts) w) := by
 obtain ⟨r, hr⟩ : ∃ r, lead P ts = r := ⟨_, rfl⟩
 rw [hr]
 have hR := Lib.hid hr
 have hKH := Lib.hid hK
 have hDH := Lib.hid hD
 clear hr hK hD
 unfold maxLen at hlen
 go_enter Tryz.func81, Tryz.ntmps81
 go_wp2
 go_loopg [9] (ts.length) (fun gk i wr => ∃ (k : Nat), k + gk = ts.length ∧ i = .int .i64 k ∧ Hid (k + lead P (ts.drop k) = r) ∧ Hid (Below w.heap.size w wr))
 case atStart => exact ⟨0, by omega, rfl, Lib.hid (by rw [Nat.zero_add, List.drop_zero]; exact hR.out), Lib.hid (Below.refl _ _)⟩
 case round =>
  obtain ⟨k, hk, rfl, hS, hW⟩ := hrel
  by_cases hlt : k < ts.length
  ·obtain ⟨g, rfl⟩ : ∃ g, gk = g + 1 := ⟨gk - 1, by omega⟩
   have hKw : KidsR wr (From 0) ts A := hKH.out.keep (fun q h1 h2 => ⟨hW.out.block q h2, h1⟩)
   obtain ⟨ga, oa, rfl⟩ := hKw.addr (by omega)
   obtain ⟨A1, c1, ⟨e0, e1, e2, e3, e4, e5⟩, hK1⟩ := (hKw.get _ _ _ k _ (List.getElem?_eq_getElem hlt)).cells
   have hmem : ts[k] ∈ ts := List.getElem_mem hlt
   have hK1H := Lib.hid hK1
   have hI : Hid (∀ wx, Below wr.heap.size wr wx → Calls Tryz.prog 98 (#[nv ts[k] A1 c1] ++ #[]) wx (BB (P ts[k]) wx)) :=
    fun wx hb => hDH.out _ hmem wx A1 c1 (hW.out.trans (hb.mono hW.out.size)) (hK1H.out.keep (fun q h1 h2 => ⟨hb.block q h2, h1⟩))
   have hY := Lib.hid (lead_yes P ts k hlt)
   have hNo := Lib.hid (lead_no P ts k hlt)
   clear hKw hmem hK1
   generalize ts[k] = u at *
   rcases hP : P u with _ | _
   ·have hq := hS.out
    rw [hNo.out hP, Nat.add_zero] at hq
    have hS1 := Lib.hid hq
    clear hq
    rw [hP] at hI
    clear hP
    go_wp2_with fail
    refine (hI.out _ ((Below.refl _ _).alloc (Nat.le_refl _) _)).mono ?_
    rintro e w2 ⟨rfl, hb2⟩
    go_wp2
    go_ret
    exact ⟨ret_i (by rw [hS1.out]), (hW.out.alloc hW.out.size _).trans (hb2.mono (by have := hW.out.size; simp; omega))⟩
   ·have hq := hS.out
    rw [hY.out hP, Nat.add_comm (lead P _) 1, ← Nat.add_assoc] at hq
    have hS1 := Lib.hid hq
    clear hq
    rw [hP] at hI
    clear hP
    go_wp2_with fail
    refine (hI.out _ ((Below.refl _ _).alloc (Nat.le_refl _) _)).mono ?_
    rintro e w2 ⟨rfl, hb2⟩
    have hW2 := Lib.hid ((hW.out.alloc hW.out.size _).trans (hb2.mono (by have := hW.out.size; simp; omega)))
    clear hb2 e0 e1 e2 e3 e4 e5
    go_wp2
    go_roundg g
    case measure => omega
    case rel => exact ⟨k + 1, by omega, by go_num, hS1, hW2⟩
  ·have hq := hS.out
   rw [lead_end P ts k hlt, Nat.add_zero] at hq
   obtain rfl : k = ts.length := by omega
   have hF := Lib.hid hq
   clear hq
   go_wp2
   go_ret
   exact ⟨ret_i (by rw [hF.out]), hW.out⟩
theorem every_validNumber (P : Nd → Bool) (ts : List Nd) (A : Option Addr) (c : Nat) (w : World) (hK : KidsR w (From 0) ts A) (hD : Does 98 #[] P ts w) (hlen : ts.length ≤ maxLen) :
  Calls Tryz.prog 68 #[.slice A ts.length c, .func (.func 98) #[] #[]] w (BB (allB P ts) w) := by
 have hM := Lib.hid (lead_validNumber P ts A c w hK hD hlen)
 have hA := Lib.hid (lead_all P ts)
 generalize lead P ts = n at *
 clear hK hD
 go_enter Tryz.func68, Tryz.ntmps68
 go_wp2_with fail
 refine hM.out.mono ?_
 rintro e w1 ⟨rfl, hb1⟩
 go_wp2
 go_ret
 refine ⟨?_, hb1⟩
 rw [← hA.out, intb]
 rfl
theorem lead_validVar (P : Nd → Bool) (ts : List Nd) (A : Option Addr) (c : Nat) (w : World) (hK : KidsR w (From 0) ts A) (hD : Does 102 #[] P ts w) (hlen : ts.length ≤ maxLen) :
  Calls Tryz.prog 81 #[.slice A ts.length c, .func (.func 102) #[] #[]] w (NN (lead P ts) w) := by
 obtain ⟨r, hr⟩ : ∃ r, lead P ts = r := ⟨_, rfl⟩
 rw [hr]
 have hR := Lib.hid hr
 have hKH := Lib.hid hK
 have hDH := Lib.hid hD
 clear hr hK hD
 unfold maxLen at hlen
 go_enter Tryz.func81, Tryz.ntmps81
 go_wp2
 go_loopg [9] (ts.length) (fun gk i wr => ∃ (k : Nat), k + gk = ts.length ∧ i = .int .i64 k ∧ Hid (k + lead P (ts.drop k) = r) ∧ Hid (Below w.heap.size w wr))
 case atStart => exact ⟨0, by omega, rfl, Lib.hid (by rw [Nat.zero_add, List.drop_zero]; exact hR.out), Lib.hid (Below.refl _ _)⟩
 case round =>
  obtain ⟨k, hk, rfl, hS, hW⟩ := hrel
  by_cases hlt : k < ts.length
  ·obtain ⟨g, rfl⟩ : ∃ g, gk = g + 1 := ⟨gk - 1, by omega⟩
   have hKw : KidsR wr (From 0) ts A := hKH.out.keep (fun q h1 h2 => ⟨hW.out.block q h2, h1⟩)
   obtain ⟨ga, oa, rfl⟩ := hKw.addr (by omega)
   obtain ⟨A1, c1, ⟨e0, e1, e2, e3, e4, e5⟩, hK1⟩ := (hKw.get _ _ _ k _ (List.getElem?_eq_getElem hlt)).cells
   have hmem : ts[k] ∈ ts := List.getElem_mem hlt
   have hK1H := Lib.hid hK1
   have hI : Hid (∀ wx, Below wr.heap.size wr wx → Calls Tryz.prog 102 (#[nv ts[k] A1 c1] ++ #[]) wx (BB (P ts[k]) wx)) :=
    fun wx hb => hDH.out _ hmem wx A1 c1 (hW.out.trans (hb.mono hW.out.size)) (hK1H.out.keep (fun q h1 h2 => ⟨hb.block q h2, h1⟩))
   have hY := Lib.hid (lead_yes P ts k hlt)
   have hNo := Lib.hid (lead_no P ts k hlt)
   clear hKw hmem hK1
   generalize ts[k] = u at *
   rcases hP : P u with _ | _
   ·have hq := hS.out
    rw [hNo.out hP, Nat.add_zero] at hq
    have hS1 := Lib.hid hq
    clear hq
    rw [hP] at hI
    clear hP
    go_wp2_with fail
    refine (hI.out _ ((Below.refl _ _).alloc (Nat.le_refl _) _)).mono ?_
    rintro e w2 ⟨rfl, hb2⟩
    go_wp2
    go_ret
    exact ⟨ret_i (by rw [hS1.out]), (hW.out.alloc hW.out.size _).trans (hb2.mono (by have := hW.out.size; simp; omega))⟩
   ·have hq := hS.out
    rw [hY.out hP, Nat.add_comm (lead P _) 1, ← Nat.add_assoc] at hq
    have hS1 := Lib.hid hq
    clear hq
    rw [hP] at hI
    clear hP
    go_wp2_with fail
    refine (hI.out _ ((Below.refl _ _).alloc (Nat.le_refl _) _)).mono ?_
    rintro e w2 ⟨rfl, hb2⟩
    have hW2 := Lib.hid ((hW.out.alloc hW.out.size _).trans (hb2.mono (by have := hW.out.size; simp; omega)))
    clear hb2 e0 e1 e2 e3 e4 e5
    go_wp2
    go_roundg g
    case measure => omega
    case rel => exact ⟨k + 1, by omega, by go_num, hS1, hW2⟩
  ·have hq := hS.out
   rw [lead_end P ts k hlt, Nat.add_zero] at hq
   obtain rfl : k = ts.length := by omega
   have hF := Lib.hid hq
   clear hq
   go_wp2
   go_ret
   exact ⟨ret_i (by rw [hF.out]), hW.out⟩
theorem lead_validHandler (P : Nd → Bool) (ts : List Nd) (A : Option Addr) (c : Nat) (w : World) (hK : KidsR w (From 0) ts A) (hD : Does 103 #[] P ts w) (hlen : ts.length ≤ maxLen) :
  Calls Tryz.prog 81 #[.slice A ts.length c, .func (.func 103) #[] #[]] w (NN (lead P ts) w) := by
 obtain ⟨r, hr⟩ : ∃ r, lead P ts = r := ⟨_, rfl⟩
 rw [hr]
 have hR := Lib.hid hr
 have hKH := Lib.hid hK
 have hDH := Lib.hid hD
 clear hr hK hD
 unfold maxLen at hlen
 go_enter Tryz.func81, Tryz.ntmps81
 go_wp2
 go_loopg [9] (ts.length) (fun gk i wr => ∃ (k : Nat), k + gk = ts.length ∧ i = .int .i64 k ∧ Hid (k + lead P (ts.drop k) = r) ∧ Hid (Below w.heap.size w wr))
 case atStart => exact ⟨0, by omega, rfl, Lib.hid (by rw [Nat.zero_add, List.drop_zero]; exact hR.out), Lib.hid (Below.refl _ _)⟩
 case round =>
  obtain ⟨k, hk, rfl, hS, hW⟩ := hrel
  by_cases hlt : k < ts.length
  ·obtain ⟨g, rfl⟩ : ∃ g, gk = g + 1 := ⟨gk - 1, by omega⟩
   have hKw : KidsR wr (From 0) ts A := hKH.out.keep (fun q h1 h2 => ⟨hW.out.block q h2, h1⟩)
   obtain ⟨ga, oa, rfl⟩ := hKw.addr (by omega)
   obtain ⟨A1, c1, ⟨e0, e1, e2, e3, e4, e5⟩, hK1⟩ := (hKw.get _ _ _ k _ (List.getElem?_eq_getElem hlt)).cells
   have hmem : ts[k] ∈ ts := List.getElem_mem hlt
   have hK1H := Lib.hid hK1
   have hI : Hid (∀ wx, Below wr.heap.size wr wx → Calls Tryz.prog 103 (#[nv ts[k] A1 c1] ++ #[]) wx (BB (P ts[k]) wx)) :=
    fun wx hb => hDH.out _ hmem wx A1 c1 (hW.out.trans (hb.mono hW.out.size)) (hK1H.out.keep (fun q h1 h2 => ⟨hb.block q h2, h1⟩))
   have hY := Lib.hid (lead_yes P ts k hlt)
   have hNo := Lib.hid (lead_no P ts k hlt)
   clear hKw hmem hK1
   generalize ts[k] = u at *
   rcases hP : P u with _ | _
   ·have hq := hS.out
    rw [hNo.out hP, Nat.add_zero] at hq
    have hS1 := Lib.hid hq
    clear hq
    rw [hP] at hI
    clear hP
    go_wp2_with fail
    refine (hI.out _ ((Below.refl _ _).alloc (Nat.le_refl _) _)).mono ?_
    rintro e w2 ⟨rfl, hb2⟩
    go_wp2
    go_ret
    exact ⟨ret_i (by rw [hS1.out]), (hW.out.alloc hW.out.size _).trans (hb2.mono (by have := hW.out.size; simp; omega))⟩
   ·have hq := hS.out
    rw [hY.out hP, Nat.add_comm (lead P _) 1, ← Nat.add_assoc] at hq
    have hS1 := Lib.hid hq
    clear hq
    rw [hP] at hI
    clear hP
    go_wp2_with fail
    refine (hI.out _ ((Below.refl _ _).alloc (Nat.le_refl _) _)).mono ?_
    rintro e w2 ⟨rfl, hb2⟩
    have hW2 := Lib.hid ((hW.out.alloc hW.out.size _).trans (hb2.mono (by have := hW.out.size; simp; omega)))
    clear hb2 e0 e1 e2 e3 e4 e5
    go_wp2
    go_roundg g
    case measure => omega
    case rel => exact ⟨k + 1, by omega, by go_num, hS1, hW2⟩
  ·have hq := hS.out
   rw [lead_end P ts k hlt, Nat.add_zero] at hq
   obtain rfl : k = ts.length := by omega
   have hF := Lib.hid hq
   clear hq
   go_wp2
   go_ret
   exact ⟨ret_i (by rw [hF.out]), hW.out⟩
theorem lead_validItem (P : Nd → Bool) (ts : List Nd) (A : Option Addr) (c : Nat) (w : World) (hK : KidsR w (From 0) ts A) (hD : Does 69 #[] P ts w) (hlen : ts.length ≤ maxLen) :
  Calls Tryz.prog 81 #[.slice A ts.length c, .func (.func 69) #[] #[]] w (NN (lead P ts) w) := by
 obtain ⟨r, hr⟩ : ∃ r, lead P ts = r := ⟨_, rfl⟩
 rw [hr]
 have hR := Lib.hid hr
 have hKH := Lib.hid hK
 have hDH := Lib.hid hD
 clear hr hK hD
 unfold maxLen at hlen
 go_enter Tryz.func81, Tryz.ntmps81
 go_wp2
 go_loopg [9] (ts.length) (fun gk i wr => ∃ (k : Nat), k + gk = ts.length ∧ i = .int .i64 k ∧ Hid (k + lead P (ts.drop k) = r) ∧ Hid (Below w.heap.size w wr))
 case atStart => exact ⟨0, by omega, rfl, Lib.hid (by rw [Nat.zero_add, List.drop_zero]; exact hR.out), Lib.hid (Below.refl _ _)⟩
 case round =>
  obtain ⟨k, hk, rfl, hS, hW⟩ := hrel
  by_cases hlt : k < ts.length
  ·obtain ⟨g, rfl⟩ : ∃ g, gk = g + 1 := ⟨gk - 1, by omega⟩
   have hKw : KidsR wr (From 0) ts A := hKH.out.keep (fun q h1 h2 => ⟨hW.out.block q h2, h1⟩)
   obtain ⟨ga, oa, rfl⟩ := hKw.addr (by omega)
   obtain ⟨A1, c1, ⟨e0, e1, e2, e3, e4, e5⟩, hK1⟩ := (hKw.get _ _ _ k _ (List.getElem?_eq_getElem hlt)).cells
   have hmem : ts[k] ∈ ts := List.getElem_mem hlt
   have hK1H := Lib.hid hK1
   have hI : Hid (∀ wx, Below wr.heap.size wr wx → Calls Tryz.prog 69 (#[nv ts[k] A1 c1] ++ #[]) wx (BB (P ts[k]) wx)) :=
    fun wx hb => hDH.out _ hmem wx A1 c1 (hW.out.trans (hb.mono hW.out.size)) (hK1H.out.keep (fun q h1 h2 => ⟨hb.block q h2, h1⟩))
   have hY := Lib.hid (lead_yes P ts k hlt)
   have hNo := Lib.hid (lead_no P ts k hlt)
   clear hKw hmem hK1
   generalize ts[k] = u at *
   rcases hP : P u with _ | _
   ·have hq := hS.out
    rw [hNo.out hP, Nat.add_zero] at hq
    have hS1 := Lib.hid hq
    clear hq
    rw [hP] at hI
    clear hP
    go_wp2_with fail
    refine (hI.out _ ((Below.refl _ _).alloc (Nat.le_refl _) _)).mono ?_
    rintro e w2 ⟨rfl, hb2⟩
    go_wp2
    go_ret
    exact ⟨ret_i (by rw [hS1.out]), (hW.out.alloc hW.out.size _).trans (hb2.mono (by have := hW.out.size; simp; omega))⟩
   ·have hq := hS.out
    rw [hY.out hP, Nat.add_comm (lead P _) 1, ← Nat.add_assoc] at hq
    have hS1 := Lib.hid hq
    clear hq
    rw [hP] at hI
    clear hP
    go_wp2_with fail
    refine (hI.out _ ((Below.refl _ _).alloc (Nat.le_refl _) _)).mono ?_
    rintro e w2 ⟨rfl, hb2⟩
    have hW2 := Lib.hid ((hW.out.alloc hW.out.size _).trans (hb2.mono (by have := hW.out.size; simp; omega)))
    clear hb2 e0 e1 e2 e3 e4 e5
    go_wp2
    go_roundg g
    case measure => omega
    case rel => exact ⟨k + 1, by omega, by go_num, hS1, hW2⟩
  ·have hq := hS.out
   rw [lead_end P ts k hlt, Nat.add_zero] at hq
   obtain rfl : k = ts.length := by omega
   have hF := Lib.hid hq
   clear hq
   go_wp2
   go_ret
   exact ⟨ret_i (by rw [hF.out]), hW.out⟩
theorem every_validItem (P : Nd → Bool) (ts : List Nd) (A : Option Addr) (c : Nat) (w : World) (hK : KidsR w (From 0) ts A) (hD : Does 69 #[] P ts w) (hlen : ts.length ≤ maxLen) :
  Calls Tryz.prog 68 #[.slice A ts.length c, .func (.func 69) #[] #[]] w (BB (allB P ts) w) := by
 have hM := Lib.hid (lead_validItem P ts A c w hK hD hlen)
 have hA := Lib.hid (lead_all P ts)
 generalize lead P ts = n at *
 clear hK hD
 go_enter Tryz.func68, Tryz.ntmps68
 go_wp2_with fail
 refine hM.out.mono ?_
 rintro e w1 ⟨rfl, hb1⟩
 go_wp2
 go_ret
 refine ⟨?_, hb1⟩
 rw [← hA.out, intb]
 rfl
theorem lead_validStmts1 (cp : Value) (P : Nd → Bool) (ts : List Nd) (A : Option Addr) (c : Nat) (w : World) (hK : KidsR w (From 0) ts A) (hD : Does 128 #[cp] P ts w) (hlen : ts.length ≤ maxLen) :
  Calls Tryz.prog 81 #[.slice A ts.length c, .func (.func 128) #[] #[cp]] w (NN (lead P ts) w) := by
 obtain ⟨r, hr⟩ : ∃ r, lead P ts = r := ⟨_, rfl⟩
 rw [hr]
 have hR := Lib.hid hr
 have hKH := Lib.hid hK
 have hDH := Lib.hid hD
 clear hr hK hD
 unfold maxLen at hlen
 go_enter Tryz.func81, Tryz.ntmps81
 go_wp2
 go_loopg [9] (ts.length) (fun gk i wr => ∃ (k : Nat), k + gk = ts.length ∧ i = .int .i64 k ∧ Hid (k + lead P (ts.drop k) = r) ∧ Hid (Below w.heap.size w wr))
 case atStart => exact ⟨0, by omega, rfl, Lib.hid (by rw [Nat.zero_add, List.drop_zero]; exact hR.out), Lib.hid (Below.refl _ _)⟩
 case round =>
  obtain ⟨k, hk, rfl, hS, hW⟩ := hrel
  by_cases hlt : k < ts.length
  ·obtain ⟨g, rfl⟩ : ∃ g, gk = g + 1 := ⟨gk - 1, by omega⟩
   have hKw : KidsR wr (From 0) ts A := hKH.out.keep (fun q h1 h2 => ⟨hW.out.block q h2, h1⟩)
   obtain ⟨ga, oa, rfl⟩ := hKw.addr (by omega)
   obtain ⟨A1, c1, ⟨e0, e1, e2, e3, e4, e5⟩, hK1⟩ := (hKw.get _ _ _ k _ (List.getElem?_eq_getElem hlt)).cells
   have hmem : ts[k] ∈ ts := List.getElem_mem hlt
   have hK1H := Lib.hid hK1
   have hI : Hid (∀ wx, Below wr.heap.size wr wx → Calls Tryz.prog 128 (#[nv ts[k] A1 c1] ++ #[cp]) wx (BB (P ts[k]) wx)) :=
    fun wx hb => hDH.out _ hmem wx A1 c1 (hW.out.trans (hb.mono hW.out.size)) (hK1H.out.keep (fun q h1 h2 => ⟨hb.block q h2, h1⟩))
   have hY := Lib.hid (lead_yes P ts k hlt)
   have hNo := Lib.hid (lead_no P ts k hlt)
   clear hKw hmem hK1
   generalize ts[k] = u at *
   rcases hP : P u with _ | _
   ·have hq := hS.out
    rw [hNo.out hP, Nat.add_zero] at hq
    have hS1 := Lib.hid hq
    clear hq
    rw [hP] at hI
    clear hP
    go_wp2_with fail
    refine (hI.out _ ((Below.refl _ _).alloc (Nat.le_refl _) _)).mono ?_
    rintro e w2 ⟨rfl, hb2⟩
    go_wp2
    go_ret
    exact ⟨ret_i (by rw [hS1.out]), (hW.out.alloc hW.out.size _).trans (hb2.mono (by have := hW.out.size; simp; omega))⟩
   ·have hq := hS.out
    rw [hY.out hP, Nat.add_comm (lead P _) 1, ← Nat.add_assoc] at hq
    have hS1 := Lib.hid hq
    clear hq
    rw [hP] at hI
    clear hP
    go_wp2_with fail
    refine (hI.out _ ((Below.refl _ _).alloc (Nat.le_refl _) _)).mono ?_
    rintro e w2 ⟨rfl, hb2⟩
    have hW2 := Lib.hid ((hW.out.alloc hW.out.size _).trans (hb2.mono (by have := hW.out.size; simp; omega)))
    clear hb2 e0 e1 e2 e3 e4 e5
    go_wp2
    go_roundg g
    case measure => omega
    case rel => exact ⟨k + 1, by omega, by go_num, hS1, hW2⟩
  ·have hq := hS.out
   rw [lead_end P ts k hlt, Nat.add_zero] at hq
   obtain rfl : k = ts.length := by omega
   have hF := Lib.hid hq
   clear hq
   go_wp2
   go_ret
   exact ⟨ret_i (by rw [hF.out]), hW.out⟩
theorem every_validStmts1 (cp : Value) (P : Nd → Bool) (ts : List Nd) (A : Option Addr) (c : Nat) (w : World) (hK : KidsR w (From 0) ts A) (hD : Does 128 #[cp] P ts w) (hlen : ts.length ≤ maxLen) :
  Calls Tryz.prog 68 #[.slice A ts.length c, .func (.func 128) #[] #[cp]] w (BB (allB P ts) w) := by
 have hM := Lib.hid (lead_validStmts1 cp P ts A c w hK hD hlen)
 have hA := Lib.hid (lead_all P ts)
 generalize lead P ts = n at *
 clear hK hD
 go_enter Tryz.func68, Tryz.ntmps68
 go_wp2_with fail
 refine hM.out.mono ?_
 rintro e w1 ⟨rfl, hb1⟩
 go_wp2
 go_ret
 refine ⟨?_, hb1⟩
 rw [← hA.out, intb]
 rfl
theorem lead_validIf1 (cp : Value) (P : Nd → Bool) (ts : List Nd) (A : Option Addr) (c : Nat) (w : World) (hK : KidsR w (From 0) ts A) (hD : Does 144 #[cp] P ts w) (hlen : ts.length ≤ maxLen) :
  Calls Tryz.prog 81 #[.slice A ts.length c, .func (.func 144) #[] #[cp]] w (NN (lead P ts) w) := by
 obtain ⟨r, hr⟩ : ∃ r, lead P ts = r := ⟨_, rfl⟩
 rw [hr]
 have hR := Lib.hid hr
 have hKH := Lib.hid hK
 have hDH := Lib.hid hD
 clear hr hK hD
 unfold maxLen at hlen
 go_enter Tryz.func81, Tryz.ntmps81
 go_wp2
 go_loopg [9] (ts.length) (fun gk i wr => ∃ (k : Nat), k + gk = ts.length ∧ i = .int .i64 k ∧ Hid (k + lead P (ts.drop k) = r) ∧ Hid (Below w.heap.size w wr))
 case atStart => exact ⟨0, by omega, rfl, Lib.hid (by rw [Nat.zero_add, List.drop_zero]; exact hR.out), Lib.hid (Below.refl _ _)⟩
 case round =>
  obtain ⟨k, hk, rfl, hS, hW⟩ := hrel
  by_cases hlt : k < ts.length
  ·obtain ⟨g, rfl⟩ : ∃ g, gk = g + 1 := ⟨gk - 1, by omega⟩
   have hKw : KidsR wr (From 0) ts A := hKH.out.keep (fun q h1 h2 => ⟨hW.out.block q h2, h1⟩)
   obtain ⟨ga, oa, rfl⟩ := hKw.addr (by omega)
   obtain ⟨A1, c1, ⟨e0, e1, e2, e3, e4, e5⟩, hK1⟩ := (hKw.get _ _ _ k _ (List.getElem?_eq_getElem hlt)).cells
   have hmem : ts[k] ∈ ts := List.getElem_mem hlt
   have hK1H := Lib.hid hK1
   have hI : Hid (∀ wx, Below wr.heap.size wr wx → Calls Tryz.prog 144 (#[nv ts[k] A1 c1] ++ #[cp]) wx (BB (P ts[k]) wx)) :=
    fun wx hb => hDH.out _ hmem wx A1 c1 (hW.out.trans (hb.mono hW.out.size)) (hK1H.out.keep (fun q h1 h2 => ⟨hb.block q h2, h1⟩))
   have hY := Lib.hid (lead_yes P ts k hlt)
   have hNo := Lib.hid (lead_no P ts k hlt)
   clear hKw hmem hK1
   generalize ts[k] = u at *
   rcases hP : P u with _ | _
   ·have hq := hS.out
    rw [hNo.out hP, Nat.add_zero] at hq
    have hS1 := Lib.hid hq
    clear hq
    rw [hP] at hI
    clear hP
    go_wp2_with fail
    refine (hI.out _ ((Below.refl _ _).alloc (Nat.le_refl _) _)).mono ?_
    rintro e w2 ⟨rfl, hb2⟩
    go_wp2
    go_ret
    exact ⟨ret_i (by rw [hS1.out]), (hW.out.alloc hW.out.size _).trans (hb2.mono (by have := hW.out.size; simp; omega))⟩
   ·have hq := hS.out
    rw [hY.out hP, Nat.add_comm (lead P _) 1, ← Nat.add_assoc] at hq
    have hS1 := Lib.hid hq
    clear hq
    rw [hP] at hI
    clear hP
    go_wp2_with fail
    refine (hI.out _ ((Below.refl _ _).alloc (Nat.le_refl _) _)).mono ?_
    rintro e w2 ⟨rfl, hb2⟩
    have hW2 := Lib.hid ((hW.out.alloc hW.out.size _).trans (hb2.mono (by have := hW.out.size; simp; omega)))
    clear hb2 e0 e1 e2 e3 e4 e5
    go_wp2
    go_roundg g
    case measure => omega
    case rel => exact ⟨k + 1, by omega, by go_num, hS1, hW2⟩
  ·have hq := hS.out
   rw [lead_end P ts k hlt, Nat.add_zero] at hq
   obtain rfl : k = ts.length := by omega
   have hF := Lib.hid hq
   clear hq
   go_wp2
   go_ret
   exact ⟨ret_i (by rw [hF.out]), hW.out⟩
theorem every_validIf1 (cp : Value) (P : Nd → Bool) (ts : List Nd) (A : Option Addr) (c : Nat) (w : World) (hK : KidsR w (From 0) ts A) (hD : Does 144 #[cp] P ts w) (hlen : ts.length ≤ maxLen) :
  Calls Tryz.prog 68 #[.slice A ts.length c, .func (.func 144) #[] #[cp]] w (BB (allB P ts) w) := by
 have hM := Lib.hid (lead_validIf1 cp P ts A c w hK hD hlen)
 have hA := Lib.hid (lead_all P ts)
 generalize lead P ts = n at *
 clear hK hD
 go_enter Tryz.func68, Tryz.ntmps68
 go_wp2_with fail
 refine hM.out.mono ?_
 rintro e w1 ⟨rfl, hb1⟩
 go_wp2
 go_ret
 refine ⟨?_, hb1⟩
 rw [← hA.out, intb]
 rfl
end Go.Proofs.YtamfgjinfcknfaaGreatDoor
