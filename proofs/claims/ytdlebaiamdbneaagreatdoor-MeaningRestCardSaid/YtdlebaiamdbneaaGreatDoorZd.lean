/- Texts of one proof: CxC, CxD, CxE, DgA. -/
import Derived.Test.YtdlebaiamdbneaaGreatDoorZc
import Derived.Deep.AppendLies
import Derived.Deep.Cut
import Derived.Deep.DeepCutAuto
import Derived.OrdersHeld
import Derived.Below
import Derived.Deep.RegionHeld
import Derived.Lib.Hide
set_option linter.unusedVariables false
set_option linter.unusedSimpArgs false
set_option maxRecDepth 100000
set_option maxHeartbeats 8000000
namespace Go.Proofs.YtdlebaiamdbneaaGreatDoor
open Go.RowKit
namespace C
theorem ndInfo : (Tryz.prog.info? 82).map (fun i => (i.zero, i.size, i.bytes)) = some (some (.agg zeroNd), 6, 72) := by kernel_rfl
def Old (B : Nat) (k : Nat) : Prop := k < B
theorem KidsR.old {w : World} {P : Nat → Prop} {ts : List Nd} {A : Option Addr} (h : KidsR w P ts A) : KidsR w (Old w.heap.size) ts A := h.keep (fun k _ hl => ⟨rfl, hl⟩)
theorem KidsR.oldTo {w w' : World} {ts : List Nd} {A : Option Addr} (h : KidsR w (From 0) ts A) (hb : Below w.heap.size w w') : KidsR w' (Old w.heap.size) ts A := h.keep (fun k _ hl => ⟨hb.block k hl, hl⟩)
theorem RowsR.oldKeep {B : Nat} {w w' : World} {ts : List Nd} {vs : List Value} (h : RowsR w (Old B) ts vs) (hb : ∀ k, k < B → w'.heap[k]? = w.heap[k]?) : RowsR w' (Old B) ts vs := h.keep (fun k hk _ => ⟨hb k hk, hk⟩)
def OwnO (B : Nat) (w : World) (v : Value) (ts : List Nd) : Prop := ∃ vs, w.ownsRow B 82 6 v ts.length vs ∧ RowsR w (Old B) ts vs
theorem OwnO.kids {B : Nat} {w : World} {v : Value} {ts : List Nd} (h : OwnO B w v ts) : ∃ A c, v = .slice A ts.length (ts.length + c) ∧ KidsR w (From 0) ts A := by
 obtain ⟨vs, h1, h2⟩ := h
 rcases h1.2 with ⟨rfl, h0⟩ | ⟨g, cap, cur, rfl, hb, hg, hn, hc, hs, ht⟩
 ·obtain rfl : ts = [] := List.eq_nil_of_length_eq_zero h0
  exact ⟨none, 0, rfl, trivial⟩
 ·have h2' : RowsR w (From 0) ts vs := h2.keep (fun k hk _ => ⟨rfl, Nat.zero_le _⟩)
  refine ⟨_, cap - ts.length, by rw [Nat.add_sub_cancel' hn], h2'.kids (Nat.zero_le _) ts vs 0 (fun j u hu => ?_)⟩
  have := h1.cells (g := g) rfl j u hu
  have hadd : (⟨g, 0, none⟩ : Addr).add j = ⟨g, 0 + j, none⟩ := by unfold Addr.add; split <;> simp_all
  rw [hadd] at this
  exact this
theorem OwnO.keep {B : Nat} {w w2 : World} {v : Value} {ts : List Nd} (h : OwnO B w v ts) (hB : B ≤ w.heap.size) (h2 : ∀ k, k < w.heap.size → w2.heap[k]? = w.heap[k]?) : OwnO B w2 v ts := by
 obtain ⟨vs, hown, hrows⟩ := h
 refine ⟨vs, ⟨hown.1, ?_⟩, RowsR.oldKeep hrows (fun k hk => h2 k (Nat.lt_of_lt_of_le hk hB))⟩
 rcases hown.2 with hn | ⟨g, cap, cur, hv, hg, hh, rest⟩
 ·exact .inl hn
 ·exact .inr ⟨g, cap, cur, hv, hg, by rw [h2 g (Array.getElem?_eq_some_iff.1 hh).1]; exact hh, rest⟩
theorem gbBelowC {a b : World} {B : Nat} {r : Option Nat} (h : a.grownBy b r) (hB : B ≤ a.heap.size) (hr : ∀ k, r = some k → B ≤ k) : Below B a b :=
 ⟨h.os, h.tape, h.output, h.size, fun i hi => h.block i (by omega) (fun e => by have := hr i e.symm; omega)⟩
theorem nd_one (t : Nd) (A : Option Addr) (c : Nat) : ∀ u ∈ nCells t A c, u.oneCell' = true := by
 intro u hu
 simp only [nCells, List.mem_cons, List.not_mem_nil, or_false] at hu
 rcases hu with rfl | rfl | rfl | rfl | rfl | rfl <;> rfl
def OfP (k : Int) (ts : List Nd) (w : World) (e : Ending) (w' : World) : Prop := (∃ A c, e = .returned (.slice A (ts.filter (fun t => decide (t.kind = k))).length ((ts.filter (fun t => decide (t.kind = k))).length + c)) ∧ KidsR w' (From 0) (ts.filter (fun t => decide (t.kind = k))) A) ∧ Below w.heap.size w w'
theorem ofKind_any (ts : List Nd) (A : Option Addr) (m : Nat) (kd : Int) (w : World) (hK : KidsR w (From 0) ts A) (hlen : ts.length ≤ 100000) : Calls Tryz.prog 72 #[.slice A ts.length m, .int .i64 kd] w (OfP kd ts w) := by
 have HK := Lib.hid hK
 obtain ⟨i0, hi, hz0, hz1, hz2⟩ := info_parts ndInfo
 obtain ⟨r, hr⟩ : ∃ r, ts.filter (fun t => decide (t.kind = kd)) = r := ⟨_, rfl⟩
 unfold OfP
 rw [hr]
 have HR : Hid ([] ++ (ts.drop 0).filter (fun t => decide (t.kind = kd)) = r) := Lib.hid hr
 clear hK hr
 go_enter Tryz.func72, Tryz.ntmps72
 go_wp2
 go_loopg [5, 10] (ts.length) (fun gk v i wr => ∃ (k : Nat) (acc : List Nd), k + gk = ts.length ∧ i = .int .i64 k ∧ acc.length ≤ k ∧ Hid (acc ++ (ts.drop k).filter (fun t => decide (t.kind = kd)) = r) ∧ Hid (OwnO w.heap.size wr v acc) ∧ Hid (Below w.heap.size w wr))
 case atStart => exact ⟨0, [], by omega, rfl, Nat.le_refl _, HR, Lib.hid ⟨[], World.ownsRow_nil _ _ _ _, rfl⟩, Lib.hid (Below.refl _ _)⟩
 case round =>
  obtain ⟨k, acc, hk, rfl, hacc, hM, hO, hW⟩ := hrel
  by_cases hlt : k < ts.length
  ·obtain ⟨g, rfl⟩ : ∃ g, gk = g + 1 := ⟨gk - 1, by omega⟩
   have hKw : KidsR wr (From 0) ts A := KidsR.bel HK.out hW.out
   have hmem := List.getElem_mem hlt
   obtain ⟨ga, oa, rfl⟩ := kids_addr hKw (by omega)
   obtain ⟨A1, a1, ⟨k0, k1, k2, k3, k4, k5⟩, hK1⟩ := one_cells (kids_get _ _ _ hKw k _ (List.getElem?_eq_getElem hlt))
   obtain ⟨A0, a0, ⟨-, -, -, -, -, k05⟩, hK0⟩ := one_cells (kids_get _ _ _ HK.out k _ (List.getElem?_eq_getElem hlt))
   have hsame : A1 = A0 := by
    have hb := World.block_lt_of_cell? w _ k05
    have e := (World.cell?_of_block (a := ⟨ga, oa + k * 6 + 5, none⟩) (hW.out.block ga hb)).trans k05
    have := e.symm.trans k5
    simp at this
    exact this.1.symm
   subst hsame
   have hM1 := hM.out
   rw [List.drop_eq_getElem_cons hlt, List.filter_cons] at hM1
   clear hKw hmem hK1 k05 hM
   generalize ts[k] = u at *
   by_cases hkd : u.kind = kd
   ·have hM2 : Hid ((acc ++ [u]) ++ (ts.drop (k + 1)).filter (fun t => decide (t.kind = kd)) = r) := Lib.hid (by rw [if_pos (by simp [hkd])] at hM1; rw [← hM1]; simp)
    obtain ⟨vs, hown, hrows⟩ := hO.out
    have hrows := Lib.hid hrows
    have hown := Lib.hid hown
    have hol := hown.out.lt
    have hK0 := Lib.hid hK0
    have hwsz := hW.out.size
    clear hM1
    subst hkd
    go_wp2_with (at_builtin; refine wpList_append_lies _ rfl _ _ 80 rfl w.heap.size 82 i0 (.agg zeroNd) 6 72 Tryz.underlying80 hi hz0 hz1 hz2 rfl (by decide) _ acc.length vs rfl ((hown.out.alloc _).alloc _) ⟨wr.heap.size + 1, 0, none⟩ 1 1 (nCells u A1 a1) rfl rfl ?c1 (nd_one _ _ _) (by decide) ?c3 ?c4 ?c5 (wr.heap.size + 1 + 1) ?c6 ?_)
    case c1 => exact World.news_of_block (cs := ndA u A1 a1) (t := 82) (fr := (0, 0)) (newBlkC _ _ _ (by simp))
    case c3 => unfold maxLen; omega
    case c4 => omega
    case c5 => simp; omega
    case c6 => simp
    intro gb cap w3 hown3 hgrow hat hlt3
    have hB3 : Below w.heap.size w w3 := hW.out.trans (gbBelowC (gbTrans (gbAlloc (gbAlloc (gbRefl _ _))) hgrow) hwsz (fun k e => (hol k e).1))
    have hO3 : Hid (OwnO w.heap.size w3 (.slice (some ⟨gb, 0, none⟩) (acc.length + 1) cap) (acc ++ [u])) := Lib.hid ⟨vs ++ nCells u A1 a1, by rw [List.length_append]; exact hown3, RowsR.app (RowsR.one u A1 a1 (KidsR.oldTo hK0.out hB3)) _ _ (RowsR.oldKeep hrows.out (fun k hk => (hB3.block k hk).trans (hW.out.block k hk).symm))⟩
    have hW3 := Lib.hid hB3
    clear hown3 hgrow hat hB3
    go_wp2
    go_roundg g
    case measure => omega
    case rel => exact ⟨k + 1, acc ++ [u], by omega, by go_num, by simp; omega, hM2, hO3, hW3⟩
   ·have hM2 : Hid (acc ++ (ts.drop (k + 1)).filter (fun t => decide (t.kind = kd)) = r) := Lib.hid (by rw [if_neg (by simp [hkd])] at hM1; exact hM1)
    have hkf : (u.kind == kd) = false := by simp [hkd]
    clear hM1
    go_wp2_with fail
    go_roundg g
    case measure => omega
    case rel => exact ⟨k + 1, acc, by omega, by go_num, by omega, hM2, Lib.hid (OwnO.keep hO.out hW.out.size (fun k hk => Below.heap_alloc _ _ _ hk)), Lib.hid (bAllocC hW.out)⟩
  ·have hF : Hid (acc = r) := Lib.hid (by have := hM.out; rw [List.drop_eq_nil_of_le (by omega)] at this; simpa using this)
   have hkl : decide ((k : Int) < (ts.length : Int)) = false := by simp; omega
   obtain ⟨A9, c9, rfl, hK9⟩ := hO.out.kids
   have hK9 := Lib.hid hK9
   clear hM hO
   go_wp2_with fail
   go_ret
   have := hF.out
   subst this
   exact ⟨⟨A9, c9, rfl, hK9.out⟩, hW.out⟩
end C
end Go.Proofs.YtdlebaiamdbneaaGreatDoor
namespace Go.Proofs.YtdlebaiamdbneaaGreatDoor
open Go.RowKit
namespace C
def fidx (p : Nd → Bool) : List Nd → Nat → Int
 | [], _ => -1
 | t :: ts, k => if p t = true then k else fidx p ts (k + 1)
theorem fidx_drop (p : Nd → Bool) (l : List Nd) (k j : Nat) (h : k < l.length) : fidx p (l.drop k) j = if p l[k] = true then (j : Int) else fidx p (l.drop (k + 1)) (j + 1) := by
 rw [List.drop_eq_getElem_cons h, fidx]
theorem fidx_any (p : Nd → Bool) : ∀ (l : List Nd) (k : Nat), decide (0 ≤ fidx p l k) = l.any p
 | [], k => by simp [fidx]
 | t :: ts, k => by
  rw [fidx, List.any_cons]
  cases h : p t with
  | true => simp
  | false => simpa using fidx_any p ts (k + 1)
def isNm (y : ByteArray) (t : Nd) : Bool := decide (y = t.name)
theorem clo1_any (t : Nd) (A : Option Addr) (c b : Nat) (y : ByteArray) (w : World) (hy : w.cell? ⟨b, 0, none⟩ = some (.string y)) : Calls Tryz.prog 120 #[nv t A c, .pointer (some ⟨b, 0, none⟩)] w (V1 (.bool (isNm y t)) w) := by
 have hb := World.block_lt_of_cell? _ _ hy
 unfold isNm
 by_cases h : y = t.name
 ·rw [decide_eq_true h]
  subst h
  have g := toList_eqC t.name
  go_enter Tryz.func120, Tryz.ntmps120
  go_wp2
  go_ret
  exact ⟨rfl, (Below.refl _ _).alloc (Nat.le_refl _) _⟩
 ·rw [decide_eq_false h]
  have g := bne_of t.name y (fun e => h e.symm)
  go_enter Tryz.func120, Tryz.ntmps120
  go_wp2
  go_ret
  exact ⟨rfl, (Below.refl _ _).alloc (Nat.le_refl _) _⟩
theorem IndexN1_any (ts : List Nd) (A : Option Addr) (m b : Nat) (y : ByteArray) (w : World) (hK : KidsR w (From 0) ts A) (hlen : ts.length ≤ 1000000) (hy : w.cell? ⟨b, 0, none⟩ = some (.string y)) :
  Calls Tryz.prog 133 #[.slice A ts.length m, .func (.func 120) #[] #[.pointer (some ⟨b, 0, none⟩)]] w (V1 (.int .i64 (fidx (isNm y) ts 0)) w) := by
 obtain ⟨r, hr⟩ : ∃ r, fidx (isNm y) ts 0 = r := ⟨_, rfl⟩
 rw [hr]
 have HR : Hid (fidx (isNm y) (ts.drop 0) 0 = r) := Lib.hid hr
 have HK := Lib.hid hK
 have hb := World.block_lt_of_cell? _ _ hy
 have HY := Lib.hid (fun wx (h : Below w.heap.size w wx) => (World.cell?_of_block (a := ⟨b, 0, none⟩) (h.block b hb)).trans hy)
 clear hK hr hy
 go_enter Tryz.func133, Tryz.ntmps133
 go_wp2
 go_loopg [8] (ts.length) (fun gk i wr => ∃ (k : Nat), k + gk = ts.length ∧ i = .int .i64 k ∧ Hid (fidx (isNm y) (ts.drop k) k = r) ∧ Hid (Below w.heap.size w wr))
 case atStart => exact ⟨0, by omega, rfl, HR, Lib.hid (Below.refl _ _)⟩
 case round =>
  obtain ⟨k, hk, rfl, hM, hW⟩ := hrel
  by_cases hlt : k < ts.length
  ·obtain ⟨g, rfl⟩ : ∃ g, gk = g + 1 := ⟨gk - 1, by omega⟩
   have hKw : KidsR wr (From 0) ts A := KidsR.bel HK.out hW.out
   obtain ⟨ga, oa, rfl⟩ := kids_addr hKw (by omega)
   obtain ⟨A1, a1, ⟨k0, k1, k2, k3, k4, k5⟩, -⟩ := one_cells (kids_get _ _ _ hKw k _ (List.getElem?_eq_getElem hlt))
   have hM1 := hM.out
   rw [fidx_drop _ _ _ _ hlt] at hM1
   clear hKw hM
   generalize ts[k] = t at *
   have HC := Lib.hid (clo1_any t A1 a1 b y wr (HY.out _ hW.out))
   cases hp : (isNm y) t with
   | true =>
    rw [hp] at HC
    have h3 : Hid ((k : Int) = r) := Lib.hid (by rw [if_pos hp] at hM1; exact hM1)
    clear hM1 hp
    go_wp2_with (go_at_call 120; refine HC.out.mono ?_; rintro e w2 ⟨rfl, hb2⟩; have hW2 := Lib.hid (bCallC hW.out hb2); clear hb2)
    go_ret
    exact ⟨ret_vC h3.out, hW2.out⟩
   | false =>
    rw [hp] at HC
    have h3 : Hid (fidx (isNm y) (ts.drop (k + 1)) (k + 1) = r) := Lib.hid (by rw [if_neg (by simp [hp])] at hM1; exact hM1)
    clear hM1 hp
    go_wp2_with (go_at_call 120; refine HC.out.mono ?_; rintro e w2 ⟨rfl, hb2⟩; have hW2 := Lib.hid (bCallC hW.out hb2); clear hb2)
    go_roundg g
    case measure => omega
    case rel => exact ⟨k + 1, by omega, by go_num, h3, hW2⟩
  ·have hF : Hid ((-1 : Int) = r) := Lib.hid (by have := hM.out; rw [List.drop_eq_nil_of_le (by omega), fidx] at this; exact this)
   have hkl : decide ((k : Int) < (ts.length : Int)) = false := by simp; omega
   clear hM
   go_wp2_with fail
   go_ret
   exact ⟨ret_vC hF.out, hW.out⟩
theorem Contains1_any (ts : List Nd) (A : Option Addr) (m b : Nat) (y : ByteArray) (w : World) (hK : KidsR w (From 0) ts A) (hlen : ts.length ≤ 1000000) (hy : w.cell? ⟨b, 0, none⟩ = some (.string y)) :
  Calls Tryz.prog 119 #[.slice A ts.length m, .func (.func 120) #[] #[.pointer (some ⟨b, 0, none⟩)]] w (V1 (.bool (ts.any (isNm y))) w) := by
 have HI := Lib.hid (IndexN1_any ts A m b y w hK hlen hy)
 rw [← fidx_any (isNm y) ts 0]
 generalize fidx (isNm y) ts 0 = r at *
 generalize ts.length = tn at *
 clear hK hlen hy
 go_enter Tryz.func119, Tryz.ntmps119
 go_wp2_with (go_at_call 133; refine HI.out.mono ?_; rintro e w2 ⟨rfl, hb2⟩)
 go_ret
 exact ⟨rfl, hb2⟩
theorem hasName_any (ts : List Nd) (A : Option Addr) (m : Nat) (y : ByteArray) (w : World) (hK : KidsR w (From 0) ts A) (hlen : ts.length ≤ 1000000) : Calls Tryz.prog 103 #[.slice A ts.length m, .string y] w (V1 (.bool (ts.any (isNm y))) w) := by
 have HB := Lib.hid ((Below.refl w.heap.size w).alloc (Nat.le_refl _) (.cells #[.string y] 9))
 have HX := Lib.hid (newBlkC w (.cells #[.string y] 9) _ rfl)
 have c0 : (w.alloc (.cells #[.string y] 9)).cell? ⟨w.heap.size, 0, none⟩ = some (.string y) := by rw [cell_of_row _ _ 0 _ _ (0, 0) HX.out]; rfl
 have HC := Lib.hid (Contains1_any ts A m w.heap.size y _ (KidsR.bel hK HB.out) hlen c0)
 have hmf : ∀ (fn : Fn) (first cap : Array Value) (w : World), (Instr.makeFunc fn first cap).run Tryz.prog w = .ok (.func fn first cap) w := fun _ _ _ _ => rfl
 generalize ts.any (isNm y) = r at *
 generalize ts.length = tn at *
 clear hK hlen
 go_enter Tryz.func103, Tryz.ntmps103
 go_wp2_with (go_at_call 119; refine HC.out.mono ?_; rintro e w2 ⟨rfl, hb2⟩; have HB := Lib.hid (bCallC HB.out hb2); clear hb2)
 go_ret
 exact ⟨rfl, HB.out⟩
end C
end Go.Proofs.YtdlebaiamdbneaaGreatDoor
namespace Go.Proofs.YtdlebaiamdbneaaGreatDoor
open Go.RowKit
namespace C
theorem cells4C {w : World} {b : Nat} {v0 v1 v2 v3 : Value} {T : TypeId} (h : w.heap[b]? = some (.cells #[v0, v1, v2, v3] T (0, 0))) :
  (w.cell? ⟨b, 0, none⟩ = some v0 ∧ w.cell? ⟨b, 1, none⟩ = some v1 ∧ w.cell? ⟨b, 2, none⟩ = some v2 ∧ w.cell? ⟨b, 3, none⟩ = some v3) ∧ w.frozen? ⟨b, 0, none⟩ = false ∧ w.frozen? ⟨b, 1, none⟩ = false ∧ w.frozen? ⟨b, 2, none⟩ = false ∧ w.frozen? ⟨b, 3, none⟩ = false := by
 have e : ∀ j, w.cell? ⟨b, j, none⟩ = (#[v0, v1, v2, v3] : Array Value)[j]? := fun j => cell_of_row _ _ j _ _ (0, 0) h
 refine ⟨⟨e 0, e 1, e 2, e 3⟩, ?_, ?_, ?_, ?_⟩
 all_goals simp [World.frozen?, h]
end C
end Go.Proofs.YtdlebaiamdbneaaGreatDoor
namespace Go.Proofs.YtdlebaiamdbneaaGreatDoor
open Go.RowKit
abbrev Gr (w w' : World) : Prop := Below w.heap.size w w'
theorem Gr.tr {a b c : World} (h : Gr a b) (k : Gr b c) : Gr a c := Below.trans h (Below.mono k h.size)
section
variable {P : Program} {ops : Array Oper} {Q : Exit → Act → World → Prop} {md : Region.Mode} {S : World → Prop}
def NoWay : Exit → Act → World → Prop := fun _ _ _ => False
theorem wp_any_way {o : Oper} {a : Act} {w : World} {K : Act → World → Prop} (h : Oper.wp P o a w K NoWay) : Oper.wp P o a w K Q := by
 unfold Oper.wp at *
 generalize (execOp a.eval o).run P w = r at *
 cases r with
 | ok n w' =>
  cases n <;> simp only [Oper.upon] at h ⊢ <;>
   first
    | exact h
    | exact Calls.mono h (fun e w'' he => by cases e <;> first | exact he | exact (he : False).elim | (obtain ⟨_, _, hf⟩ := he; exact (hf : False).elim))
 | halt x w' => cases x <;> simp only [Oper.upon] at h ⊢ <;> exact (h : False).elim
def Gives (P : Program) (ops : Array Oper) (S : World → Prop) (o : Oper) (v : Value) (a : Act) : Prop :=
 (Region.wanted o (yielded ops a.tmps) = true ∧ ∀ w, S w → ∀ K : Act → World → Prop, Shut (∀ w', Gr w w' → K (a.put o.dst v) w') → Oper.wp P o a w K NoWay) ∨ (Region.wanted o (yielded ops a.tmps) = false ∧ v = undef)
theorem YieldsIf.gives {o : Oper} {v : Value} {a : Act} (h : YieldsIf P ops S o v a) : Gives P ops S o v a :=
 h.imp (fun ⟨hw, hv⟩ => ⟨hw, fun w hS K hK => by unfold Oper.wp; rw [hv w hS]; exact hK.out _ (Below.refl _ _)⟩) id
theorem Gives.wpOp {i : Nat} {o : Oper} {v : Value} {a : Act} (hi : ops[i]? = some o) (hy : Gives P ops S o v a) {K : Act → World → Prop} {w : World} (hS : S w) (h : ∀ w', Gr w w' → K (a.put o.dst v) w') : wpOp P ops Q i K a w := by
 unfold Go.wpOp
 simp only [hi]
 rcases hy with ⟨hw, hv⟩ | ⟨hw, rfl⟩
 ·simp only [hw, if_true]; exact .inl (wp_any_way (hv w hS K h))
 ·simp only [hw, Bool.false_eq_true, if_false]; exact h w (Below.refl _ _)
theorem put_defs (a : Act) (d : Option Tmp) (v : Value) : (a.put d v).defers = a.defers := by unfold Act.put; split <;> rfl
theorem Gives.of_same {o : Oper} {v : Value} {a a' : Act} (f : Act → Act) (hf : ∀ u, f (a.put o.dst u) = a'.put o.dst u) (hy : Gives P ops S o v a) (he : execOp a'.eval o = execOp a.eval o)
  (hw : Region.wanted o (yielded ops a'.tmps) = Region.wanted o (yielded ops a.tmps)) : Gives P ops S o v a' := by
 unfold Gives at *
 rw [hw]
 refine hy.imp (fun ⟨h1, h2⟩ => ⟨h1, fun w hS K hK => ?_⟩) id
 have h := h2 w hS (fun a2 w' => K (f a2) w') (fun w' hg => by rw [hf]; exact hK.out w' hg)
 have hd := h2 w hS (fun a2 w' => a2.defers = a.defers) (fun w' hg => put_defs _ _ _)
 unfold Oper.wp at *
 rw [he]
 generalize (execOp a.eval o).run P w = r at *
 cases r with
 | ok n w' =>
  cases n <;> simp only [Oper.upon] at h hd ⊢
  case value u => rw [hf] at h; exact h
  case skip => rw [hf] at h; exact h
  case defer d =>
   have h3 := put_defs { a with defers := d :: a.defers } o.dst undef
   have h4 := congrArg List.length (h3.symm.trans hd)
   simp at h4
  case enter g args =>
   refine Calls.mono h fun e w'' he => ?_
   cases e with
   | returned u => simp only at he ⊢; rw [hf] at he; exact he
   | panicked c => exact he
   | outgrown => exact he
  case row row args => exact Rows.mono h fun u w'' he => by rw [hf] at he; exact he
 | halt x w' => cases x <;> simp only [Oper.upon] at h ⊢ <;> exact h
theorem wpOp_putG {j : Nat} {oi oj : Oper} {v : Value} (hj : ops[j]? = some oj) (hap : oi.apart ops oj = true)
  (hsi : ∀ cs b, oi.op ≠ .select cs b) (hsj : ∀ cs b, oj.op ≠ .select cs b)
  (hQ : ∀ c a w, Q (.panic c) (a.put oi.dst v) w → Q (.panic c) a w) {K : Act → World → Prop} {a : Act} {w : World}
  (hy : Gives P ops S oi v a) (h : wpOp P ops Q j K (a.put oi.dst v) w) :
  wpOp P ops Q j (fun a' w' => Gives P ops S oi v a' ∧ K (a'.put oi.dst v) w') a w := by
 obtain ⟨h1, h2, h3⟩ := Oper.apart_spec hap
 have keep : ∀ (a : Act), Gives P ops S oi v a → ∀ u, Gives P ops S oi v (a.put oj.dst u) := fun a hy u =>
  Gives.of_same (fun b => b.put oj.dst u) (fun u' => Act.put_comm a u' u h2) hy (execOp_put oi hsi a oj.dst u h3) (wanted_put oi a oj.dst u h3)
 have keepD : ∀ d, Gives P ops S oi v { a with defers := d :: a.defers } := fun d =>
  Gives.of_same (fun b => { b with defers := d :: b.defers }) (fun u' => by rw [Act.put_defers]) hy rfl rfl
 unfold wpOp at *
 simp only [hj] at *
 rw [wanted_put oj a oi.dst v h1] at h
 split
 ·rename_i hw
  simp only [hw, if_true] at h
  rcases h with h | ⟨hasks, hlets⟩
  case inr => exact .inr ⟨by unfold Oper.asks at *; rw [execOp_put oj hsj a oi.dst v h1] at hasks; exact hasks, hlets⟩
  refine .inl ?_
  unfold Oper.wp at *
  rw [execOp_put oj hsj a oi.dst v h1] at h
  generalize (execOp a.eval oj).run P w = r at *
  cases r with
  | ok n w' =>
   cases n <;> simp only [Oper.upon] at h ⊢
   case value u => exact ⟨keep a hy u, by rw [← Act.put_comm a v u h2]; exact h⟩
   case skip => exact ⟨keep a hy _, by rw [← Act.put_comm a v undef h2]; exact h⟩
   case defer d =>
    refine ⟨keep _ (keepD d) _, ?_⟩
    rw [← Act.put_comm _ v undef h2, ← Act.put_defers]
    exact h
   case enter f args =>
    refine Calls.mono h fun e w'' he => ?_
    cases e with
    | returned u => exact ⟨keep a hy u, by rw [← Act.put_comm a v u h2]; exact he⟩
    | panicked c => exact hQ _ _ _ he
    | outgrown => exact he
   case row row args => exact Rows.mono h fun u w'' he => ⟨keep a hy u, by rw [← Act.put_comm a v u h2]; exact he⟩
  | halt x w' =>
   cases x <;> simp only [Oper.upon] at h ⊢
   case panic u => exact hQ _ _ _ h
 ·rename_i hw
  simp only [hw] at h
  exact ⟨keep a hy _, by rw [← Act.put_comm a v undef h2]; exact h⟩
def wpAnyG (P : Program) (md : Region.Mode) (ops : Array Oper) (Q : Exit → Act → World → Prop) (S : World → Prop) : Nat → Array Bool → Act → World → Prop
 | 0, listed, a, W => Region.ready md ops listed = [] ∧ ∀ w, Gr W w → Q .normal a w
 | fuel + 1, listed, a, W => (Region.ready md ops listed = [] → ∀ w, Gr W w → Q .normal a w) ∧
  ∀ i ∈ Region.ready md ops listed, ∀ w, Gr W w → wpOp P ops Q i (fun a' w' => S w' ∧ wpAnyG P md ops Q S fuel (listed.setIfInBounds i true) a' w') a w
theorem wpAnyG.up {fuel : Nat} {listed : Array Bool} {a : Act} {W W' : World} (h : wpAnyG P md ops Q S fuel listed a W) (hg : Gr W W') : wpAnyG P md ops Q S fuel listed a W' := by
 cases fuel with
 | zero => exact ⟨h.1, fun w hw => h.2 w (hg.tr hw)⟩
 | succ n => exact ⟨fun hr w hw => h.1 hr w (hg.tr hw), fun i hi w hw => h.2 i hi w (hg.tr hw)⟩
theorem wpAny_of_G : ∀ (fuel : Nat) (listed : Array Bool) (a : Act) (w : World), wpAnyG P md ops Q S fuel listed a w → wpAny P md ops Q fuel listed a w
 | 0, _, _, w, h => ⟨h.1, h.2 w (Below.refl _ _)⟩
 | fuel + 1, _, _, w, h => ⟨fun hr => h.1 hr w (Below.refl _ _), fun i hi => wpOp_mono (fun a' w' h' => wpAny_of_G fuel _ a' w' h'.2) (h.2 i hi w (Below.refl _ _))⟩
theorem wpAnyG_first (hSG : ∀ w w', S w → Gr w w' → S w') {i : Nat} {oi : Oper} {v : Value} (hi : ops[i]? = some oi) (hsel : ∀ (j : Nat) (o : Oper) cs b, ops[j]? = some o → o.op ≠ .select cs b)
  (hQ : ∀ c a w, Q (.panic c) (a.put oi.dst v) w → Q (.panic c) a w) :
  ∀ (fuel : Nat) (listed : Array Bool) (a : Act) (W : World),
   (∀ j oj, ops[j]? = some oj → j ≠ i → listed.getD j true = false → (∀ e ∈ oj.after, Region.binds md e = true → e.on ≠ i) → oi.apart ops oj = true) →
   i ∈ Region.ready md ops listed → Gives P ops S oi v a → S W →
   wpAnyG P md ops Q S fuel (listed.setIfInBounds i true) (a.put oi.dst v) W → wpAnyG P md ops Q S (fuel + 1) listed a W := by
 intro fuel
 induction fuel with
 | zero =>
  intro listed a W _ hr hy hS H
  refine ⟨fun h => (by rw [h] at hr; cases hr), fun j hj w hw => ?_⟩
  by_cases hji : j = i
  ·subst hji; exact hy.wpOp hi (hSG _ _ hS hw) (fun w' hw' => ⟨hSG _ _ hS (hw.tr hw'), H.up (hw.tr hw')⟩)
  ·have := ready_mono hj hji
   rw [H.1] at this
   cases this
 | succ fuel ih =>
  intro listed a W hfree hr hy hS H
  refine ⟨fun h => (by rw [h] at hr; cases hr), fun j hj w hw => ?_⟩
  by_cases hji : j = i
  ·subst hji; exact hy.wpOp hi (hSG _ _ hS hw) (fun w' hw' => ⟨hSG _ _ hS (hw.tr hw'), H.up (hw.tr hw')⟩)
  ·have h1 := H.2 j (ready_mono hj hji) w hw
   obtain ⟨hjun, oj, hoj, hall⟩ := mem_ready.1 hj
   have hnot : ∀ e ∈ oj.after, Region.binds md e = true → e.on ≠ i := fun e he hb heq => by
    have h1 := hall e he hb
    have h0 := (mem_ready.1 hr).1
    rw [heq] at h1
    rcases Nat.lt_or_ge i listed.size with h' | h'
    ·simp [h'] at h0 h1; rw [h0] at h1; cases h1
    ·simp [Array.getElem?_eq_none h'] at h1
   have h2 := wpOp_putG hoj (hfree j oj hoj hji hjun hnot) (fun cs b => hsel i oi cs b hi) (fun cs b => hsel j oj cs b hoj) hQ hy h1
   have hfree' : ∀ k ok, ops[k]? = some ok → k ≠ i → (listed.setIfInBounds j true).getD k true = false →
     (∀ e ∈ ok.after, Region.binds md e = true → e.on ≠ i) → oi.apart ops ok = true := fun k ok hk hki hun hno => by
    refine hfree k ok hk hki ?_ hno
    by_cases hjk : j = k
    ·subst hjk; exact hjun
    ·rw [getD_set_ne true hjk] at hun; exact hun
   refine wpOp_mono (fun a' w' h3 => ⟨h3.2.1, ih (listed.setIfInBounds j true) a' w' hfree' (ready_mono hr (Ne.symm hji)) h3.1 h3.2.1 ?_⟩) h2
   rw [Array.setIfInBounds_comm _ _ hji]
   exact h3.2.2
theorem wpAnyG_take (hSG : Hid (∀ w w', S w → Gr w w' → S w')) {i : Nat} {oi : Oper} {v : Value} {fuel : Nat} {listed : Array Bool} {a : Act} {W : World} (hi : ops[i]? = some oi)
  (hs : Region.noSelect ops = true) (hf : Region.free md ops listed i = true) (hr : (Region.ready md ops listed).contains i = true)
  (hQ : ∀ c a w, Q (.panic c) (a.put oi.dst v) w → Q (.panic c) a w) (hy : Gives P ops S oi v a) (hS : Hid (S W))
  (h : wpAnyG P md ops Q S fuel (listed.setIfInBounds i true) (a.put oi.dst v) W) : wpAnyG P md ops Q S (fuel + 1) listed a W :=
 wpAnyG_first hSG.out hi (Region.noSelect_spec hs) hQ fuel listed a W (Region.free_spec hi hf) (by simpa using hr) hy hS.out h
theorem wpAnyG_done {listed : Array Bool} {a : Act} {W : World} (hr : Region.ready md ops listed = []) (h : ∀ w, Gr W w → Q .normal a w) : ∀ fuel, wpAnyG P md ops Q S fuel listed a W
 | 0 => ⟨hr, h⟩
 | _ + 1 => ⟨fun _ => h, by rw [hr]; simp⟩
def AllG (P : Program) (md : Region.Mode) (ops : Array Oper) (Q : Exit → Act → World → Prop) (S : World → Prop) (fuel : Nat) (listed : Array Bool) (a : Act) (W : World) (rs : List Nat) : Prop :=
 ∀ i ∈ rs, ∀ w, Gr W w → wpOp P ops Q i (fun a' w' => S w' ∧ wpAnyG P md ops Q S fuel (listed.setIfInBounds i true) a' w') a w
theorem AllG.nil {fuel : Nat} {listed : Array Bool} {a : Act} {W : World} : AllG P md ops Q S fuel listed a W [] := fun _ h => by cases h
theorem AllG.cons {i : Nat} {o : Oper} {rs : List Nat} {fuel : Nat} {listed : Array Bool} {a : Act} {W : World} (ho : ops[i]? = some o)
  (h : ∀ w, Gr W w → ∀ K' : Act → World → Prop, Shut (∀ a w, S w → (Hid (S w) → wpAnyG P md ops Q S fuel (listed.setIfInBounds i true) a w) → K' a w) → if Region.wanted o (yielded ops a.tmps) = true then Oper.wp P o a w K' Q else K' (a.put o.dst undef) w)
  (hs : AllG P md ops Q S fuel listed a W rs) : AllG P md ops Q S fuel listed a W (i :: rs) := by
 intro j hj w hw
 rcases List.mem_cons.1 hj with rfl | hj
 ·exact wpOp_step ho (fun K' hK => h w hw K' (fun a w hS hW => hK a w ⟨hS, hW hS⟩))
 ·exact hs j hj w hw
theorem wpAnyG_ready {rs : List Nat} {fuel : Nat} {listed : Array Bool} {a : Act} {W : World} (hr : Region.ready md ops listed = rs) (hne : rs ≠ [])
  (h : AllG P md ops Q S fuel listed a W rs) : wpAnyG P md ops Q S (fuel + 1) listed a W := ⟨fun h0 => absurd (hr ▸ h0) hne, hr ▸ h⟩
theorem grCell {w w' : World} (hg : Gr w w') {p : Addr} {v : Value} (h : w.cell? p = some v) : w'.cell? p = some v := (World.cell?_of_block (hg.block _ (World.block_lt_of_cell? _ _ h))).trans h
theorem grBlk {w w' : World} (hg : Gr w w') {b : Nat} {o : Obj} (h : w.heap[b]? = some o) : w'.heap[b]? = some o := (hg.block _ (Array.getElem?_eq_some_iff.1 h).1).trans h
theorem grAlloc (w : World) (o : Obj) : Gr w (w.alloc o) := (Below.refl _ _).alloc (Nat.le_refl _) o
theorem grDrew (w : World) : Gr w w.drew := (Below.refl _ _).drew
theorem wp_region_G {id : Nat} {a : Act} {w : World} (hm : P.follows .mixedOrders = true) (hS : S w.drew)
  (h : Hid (S w.drew) → wpAnyG P .any ops Q S ops.size (Array.replicate ops.size false) a w.drew) : (Code.region id ops true).wp P Q a w :=
 wp_region_any hm (wpAny_of_G _ _ _ _ (h hS))
def okB (md : Region.Mode) (ops : Array Oper) (listed : Array Bool) (i : Nat) : Bool := Region.noSelect ops && (Region.free md ops listed i && (Region.ready md ops listed).contains i)
theorem okB_iff {md : Region.Mode} {ops : Array Oper} {listed : Array Bool} {i : Nat} (h : okB md ops listed i = true) : Region.noSelect ops = true ∧ Region.free md ops listed i = true ∧ (Region.ready md ops listed).contains i = true := by
 unfold okB at h
 rw [Bool.and_eq_true, Bool.and_eq_true] at h
 exact h
theorem tk (hSG : Hid (∀ w w', S w → Gr w w' → S w')) (i : Nat) {oi : Oper} {v : Value} {fuel : Nat} {listed : Array Bool} {a : Act} {W : World} (hi : ops[i]? = some oi) (ho : okB md ops listed i = true)
  (hQ : ∀ c a w, Q (.panic c) (a.put oi.dst v) w → Q (.panic c) a w) (hw : Region.wanted oi (yielded ops a.tmps) = true) (hy : ∀ w, S w → (execOp a.eval oi).run P w = .ok (.value v) w) (hS : Hid (S W))
  (h : wpAnyG P md ops Q S fuel (listed.setIfInBounds i true) (a.put oi.dst v) W) : wpAnyG P md ops Q S (fuel + 1) listed a W :=
 wpAnyG_take hSG hi (okB_iff ho).1 (okB_iff ho).2.1 (okB_iff ho).2.2 hQ (YieldsIf.gives (Or.inl ⟨hw, hy⟩)) hS h
theorem tn (hSG : Hid (∀ w w', S w → Gr w w' → S w')) (i : Nat) {oi : Oper} {fuel : Nat} {listed : Array Bool} {a : Act} {W : World} (hi : ops[i]? = some oi) (ho : okB md ops listed i = true)
  (hQ : ∀ c a w, Q (.panic c) (a.put oi.dst undef) w → Q (.panic c) a w) (hw : Region.wanted oi (yielded ops a.tmps) = false) (hS : Hid (S W))
  (h : wpAnyG P md ops Q S fuel (listed.setIfInBounds i true) (a.put oi.dst undef) W) : wpAnyG P md ops Q S (fuel + 1) listed a W :=
 wpAnyG_take hSG hi (okB_iff ho).1 (okB_iff ho).2.1 (okB_iff ho).2.2 hQ (Or.inr ⟨hw, rfl⟩) hS h
theorem tc (hSG : Hid (∀ w w', S w → Gr w w' → S w')) (i : Nat) {oi : Oper} {v : Value} {fuel : Nat} {listed : Array Bool} {a : Act} {W : World} (hi : ops[i]? = some oi) (ho : okB md ops listed i = true)
  (hQ : ∀ c a w, Q (.panic c) (a.put oi.dst v) w → Q (.panic c) a w) (hw : Region.wanted oi (yielded ops a.tmps) = true) (hy : ∀ w, S w → ∀ K : Act → World → Prop, Shut (∀ w', Gr w w' → K (a.put oi.dst v) w') → Oper.wp P oi a w K NoWay) (hS : Hid (S W))
  (h : wpAnyG P md ops Q S fuel (listed.setIfInBounds i true) (a.put oi.dst v) W) : wpAnyG P md ops Q S (fuel + 1) listed a W :=
 wpAnyG_take hSG hi (okB_iff ho).1 (okB_iff ho).2.1 (okB_iff ho).2.2 hQ (Or.inl ⟨hw, hy⟩) hS h
end
theorem zq1 {α : Type _} {xs : List α} {i : Nat} (h : i < xs.toArray.size) : xs.toArray[i] = xs[i] := rfl
theorem zq2 {α : Type _} (a : α) (l : List α) (i : Nat) (h : i + 1 < (a :: l).length) : (a :: l)[i + 1] = l[i]'(Nat.lt_of_succ_lt_succ h) := rfl
theorem zq3 {α : Type _} (a : α) (l : List α) (h : 0 < (a :: l).length) : (a :: l)[0] = a := rfl
theorem zq4 {α : Type _} (l : List α) (i : Nat) (a : α) : l.toArray.setIfInBounds i a = (l.set i a).toArray := List.setIfInBounds_toArray l i a
theorem zq5 {α : Type _} {x : α} {xs : List α} {a : α} : (x :: xs).set 0 a = a :: xs := rfl
theorem zq6 {α : Type _} {x : α} {xs : List α} {i : Nat} {a : α} : (x :: xs).set (i + 1) a = x :: xs.set i a := rfl
end Go.Proofs.YtdlebaiamdbneaaGreatDoor
