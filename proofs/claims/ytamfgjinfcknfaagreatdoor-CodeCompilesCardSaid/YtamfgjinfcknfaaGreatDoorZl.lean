/- Texts of one proof: CxA, CxB, CxC. -/
import Derived.Test.YtamfgjinfcknfaaGreatDoorZk
import Derived.Test.YtamfgjinfcknfaaGreatDoorZb
import Derived.Deep.AppendLies
set_option linter.unusedVariables false
set_option linter.unusedSimpArgs false
set_option maxRecDepth 100000
set_option maxHeartbeats 8000000
namespace Go.Proofs.YtamfgjinfcknfaaGreatDoor
open Go.RowKit
namespace C
def V1 (v : Value) (w : World) (e : Ending) (w' : World) : Prop := e = .returned v ∧ Below w.heap.size w w'
abbrev dpanic (er at0 : Int) : Ending := .panicked [{ v := .iface 100 (.agg #[.int .i64 er, .int .i64 at0]), recovered := false }]
theorem ret_vC {a b : Int} (h : a = b) : Ending.returned (.int .i64 a) = .returned (.int .i64 b) := by rw [h]
theorem bAllocC {w X : World} {o : Obj} (h : Below w.heap.size w X) : Below w.heap.size w (X.alloc o) := h.alloc h.size o
theorem bCallC {w X w1 : World} (h : Below w.heap.size w X) (hb : Below X.heap.size X w1) : Below w.heap.size w w1 := h.trans (hb.mono h.size)
theorem KidsR.bel {w w' : World} {ts : List Nd} {A : Option Addr} (h : KidsR w (From 0) ts A) (hb : Below w.heap.size w w') : KidsR w' (From 0) ts A := h.keep (fun q h1 h2 => ⟨hb.block q h2, h1⟩)
theorem newBlkC (w : World) (o : Obj) (b : Nat) (h : b = w.heap.size) : (w.alloc o).heap[b]? = some o := by subst h; exact heap_alloc_new w o
theorem blkLtC {w : World} {b : Nat} {o : Obj} (h : w.heap[b]? = some o) : b < w.heap.size := (Array.getElem?_eq_some_iff.1 h).1
abbrev ndA (t : Nd) (A : Option Addr) (c : Nat) : Array Value := #[.int .i64 t.kind, .string t.name, .int .i64 t.n, .int .i64 t.unit, .int .i64 t.at0, .slice A t.kids.length (t.kids.length + c)]
theorem kids_get {w : World} : ∀ (ts : List Nd) (g o : Nat), KidsR w (From 0) ts (some ⟨g, o, none⟩) → ∀ (i : Nat) (t : Nd), ts[i]? = some t → OneR w (From 0) t g (o + i * 6)
 | [], g, o, h, i, t, ht => by simp at ht
 | u :: us, g, o, h, i, t, ht => by
  unfold KidsR at h
  obtain ⟨g', o', hA, -, h1, h2⟩ := h
  cases hA
  cases i with
  | zero => simp at ht; subst ht; simpa using h1
  | succ i =>
   have := kids_get us g (o + 6) h2 i t (by simpa using ht)
   rw [show o + (i + 1) * 6 = o + 6 + i * 6 by omega]
   exact this
theorem kids_addr {w : World} {ts : List Nd} {A : Option Addr} (h : KidsR w (From 0) ts A) (hn : 0 < ts.length) : ∃ g o, A = some ⟨g, o, none⟩ := by
 cases ts with
 | nil => simp at hn
 | cons t ts => unfold KidsR at h; obtain ⟨g, o, hA, _⟩ := h; exact ⟨g, o, hA⟩
theorem one_cells {w : World} {t : Nd} {g o : Nat} (h : OneR w (From 0) t g o) : ∃ A c, (w.cell? ⟨g, o, none⟩ = some (.int .i64 t.kind) ∧ w.cell? ⟨g, o + 1, none⟩ = some (.string t.name) ∧ w.cell? ⟨g, o + 2, none⟩ = some (.int .i64 t.n) ∧
  w.cell? ⟨g, o + 3, none⟩ = some (.int .i64 t.unit) ∧ w.cell? ⟨g, o + 4, none⟩ = some (.int .i64 t.at0) ∧ w.cell? ⟨g, o + 5, none⟩ = some (.slice A t.kids.length (t.kids.length + c))) ∧ KidsR w (From 0) t.kids A := by
 obtain ⟨k, x, n, u, a, kids⟩ := t
 unfold OneR at h
 obtain ⟨A, c, h0, h1, h2, h3, h4, h5, h6⟩ := h
 exact ⟨A, c, ⟨h0, h1, h2, h3, h4, h5⟩, h6⟩
theorem need_any (b : Bool) (er : Int) (t : Nd) (A : Option Addr) (c : Nat) (w : World) : Calls Tryz.prog 87 #[.bool b, .int .i64 er, nv t A c] w (fun e w' => (if b then e = .returned (.tuple #[]) else e = dpanic er t.at0) ∧ Below w.heap.size w w') := by
 cases b
 ·go_enter Tryz.func87, Tryz.ntmps87
  go_wp2
  exact ⟨rfl, rfl, (Below.refl _ _).alloc (Nat.le_refl _) _⟩
 ·go_enter Tryz.func87, Tryz.ntmps87
  go_wp2
  exact ⟨rfl, .tuple #[], by simp [results, Tryz.results87, go_sem], rfl, (Below.refl _ _).alloc (Nat.le_refl _) _⟩
end C
end Go.Proofs.YtamfgjinfcknfaaGreatDoor
namespace Go.Proofs.YtamfgjinfcknfaaGreatDoor
open Go.RowKit
namespace C
theorem toList_eqC (x : ByteArray) : (x.toList == x.toList) = true := by simp
theorem index1_any (v : U.Vr) (b : Nat) (y : ByteArray) (w : World) (hy : w.cell? ⟨b, 1, none⟩ = some (.string y)) :
  Calls Tryz.prog 122 #[.agg #[.string v.x, .int .i64 v.u, .int .i64 v.lo, .int .i64 v.hi, .int .i64 v.i], .pointer (some ⟨b, 0, none⟩)] w (V1 (.bool (decide (y = v.x))) w) := by
 have hb := World.block_lt_of_cell? _ _ hy
 by_cases h : y = v.x
 ·rw [decide_eq_true h]
  subst h
  have g := toList_eqC v.x
  go_enter Tryz.func122, Tryz.ntmps122
  go_wp2
  go_ret
  exact ⟨rfl, (Below.refl _ _).alloc (Nat.le_refl _) _⟩
 ·rw [decide_eq_false h]
  have g := bne_of v.x y (fun e => h e.symm)
  go_enter Tryz.func122, Tryz.ntmps122
  go_wp2
  go_ret
  exact ⟨rfl, (Below.refl _ _).alloc (Nat.le_refl _) _⟩
theorem IndexFunc_any (vs : List U.Vr) (S : Option Addr) (m b : Nat) (y : ByteArray) (w : World) (hV : U.VarsR w vs S) (hlen : vs.length ≤ 1000000) (hy : w.cell? ⟨b, 1, none⟩ = some (.string y)) :
  Calls Tryz.prog 121 #[.slice S vs.length m, .func (.func 122) #[] #[.pointer (some ⟨b, 0, none⟩)]] w (V1 (.int .i64 (idx (vs.map (·.x)) y)) w) := by
 obtain ⟨r, hr⟩ : ∃ r, idx (vs.map (·.x)) y = r := ⟨_, rfl⟩
 rw [hr]
 have HR : Hid (idxF y ((vs.map (·.x)).drop 0) 0 = r) := Lib.hid hr
 have HV := Lib.hid hV
 have hb := World.block_lt_of_cell? _ _ hy
 have HY := Lib.hid (fun wx (h : Below w.heap.size w wx) => (World.cell?_of_block (a := ⟨b, 1, none⟩) (h.block b hb)).trans hy)
 clear hV hr hy
 go_enter Tryz.func121, Tryz.ntmps121
 go_wp2
 go_loopg [8] (vs.length) (fun gk i wr => ∃ (k : Nat), k + gk = vs.length ∧ i = .int .i64 k ∧ Hid (idxF y ((vs.map (·.x)).drop k) k = r) ∧ Hid (Below w.heap.size w wr))
 case atStart => exact ⟨0, by omega, rfl, HR, Lib.hid (Below.refl _ _)⟩
 case round =>
  obtain ⟨k, hk, rfl, hM, hW⟩ := hrel
  by_cases hlt : k < vs.length
  ·obtain ⟨g, rfl⟩ : ∃ g, gk = g + 1 := ⟨gk - 1, by omega⟩
   obtain ⟨ga, oa, rfl, hat⟩ := (HV.out.below hW.out).addr (by omega)
   obtain ⟨e0, e1, e2, e3, e4⟩ := hat _ _ (List.getElem?_eq_getElem hlt)
   have hl2 : k < (vs.map (·.x)).length := by simpa using hlt
   have h1 := Lib.hid (idxF_drop_hit y (vs.map (·.x)) k k hl2)
   have h2 := Lib.hid (idxF_drop_miss y (vs.map (·.x)) k k hl2)
   simp only [List.getElem_map] at h1 h2
   clear hat
   generalize vs[k] = t at *
   have HC := Lib.hid (index1_any t b y wr (HY.out _ hW.out))
   by_cases hxy : y = t.x
   ·rw [decide_eq_true hxy] at HC
    have h3 := Lib.hid ((h1.out hxy).symm.trans hM.out)
    clear h1 h2 hM hxy
    go_wp2_with (go_at_call 122; refine HC.out.mono ?_; rintro e w2 ⟨rfl, hb2⟩; have hW2 := Lib.hid (bCallC hW.out hb2); clear hb2)
    go_ret
    exact ⟨ret_vC h3.out, hW2.out⟩
   ·rw [decide_eq_false hxy] at HC
    have h3 := Lib.hid ((h2.out hxy).symm.trans hM.out)
    clear h1 h2 hM hxy
    go_wp2_with (go_at_call 122; refine HC.out.mono ?_; rintro e w2 ⟨rfl, hb2⟩; have hW2 := Lib.hid (bCallC hW.out hb2); clear hb2)
    go_roundg g
    case measure => omega
    case rel => exact ⟨k + 1, by omega, by go_num, h3, hW2⟩
  ·have hF : Hid ((-1 : Int) = r) := Lib.hid (by have := hM.out; rw [idxF_drop_end _ _ _ _ (by simp; omega)] at this; exact this)
   have hkl : decide ((k : Int) < (vs.length : Int)) = false := by simp; omega
   clear hM
   go_wp2_with fail
   go_ret
   exact ⟨ret_vC hF.out, hW.out⟩
def IxP (i at0 : Int) (w : World) (e : Ending) (w' : World) : Prop := (if 0 ≤ i then e = .returned (.int .i64 i) else e = dpanic 8 at0) ∧ Below w.heap.size w w'
theorem index_any (vs : List U.Vr) (S : Option Addr) (m : Nat) (t : Nd) (A : Option Addr) (c : Nat) (w : World) (hV : U.VarsR w vs S) (hlen : vs.length ≤ 1000000) :
  Calls Tryz.prog 110 #[.slice S vs.length m, nv t A c] w (IxP (idx (vs.map (·.x)) t.name) t.at0 w) := by
 have HB := Lib.hid ((Below.refl w.heap.size w).alloc (Nat.le_refl _) (.cells (ndA t A c) 77))
 have HX := Lib.hid (newBlkC w (.cells (ndA t A c) 77) _ rfl)
 obtain ⟨⟨c0, c1, c2, c3, c4, c5⟩, -⟩ := cells6 HX.out
 have hx := blkLtC HX.out
 have HI := Lib.hid (IndexFunc_any vs S m w.heap.size t.name _ (hV.below HB.out) hlen c1)
 have hmf : ∀ (fn : Fn) (first cap : Array Value) (w : World), (Instr.makeFunc fn first cap).run Tryz.prog w = .ok (.func fn first cap) w := fun _ _ _ _ => rfl
 unfold IxP
 generalize idx (vs.map (·.x)) t.name = i at *
 generalize vs.length = vn at *
 clear hV hlen
 by_cases h0 : 0 ≤ i
 ·have d0 : decide (i ≥ 0) = true := by simp; omega
  simp only [if_pos h0]
  have HN := Lib.hid (fun wx => need_any true 8 t A c wx)
  clear h0
  go_enter Tryz.func110, Tryz.ntmps110
  go_wp2_with (first
   | (go_at_call 121; refine HI.out.mono ?_; rintro e w2 ⟨rfl, hb2⟩; have HX := Lib.hid ((hb2.block _ hx).trans HX.out); have HB := Lib.hid (bCallC HB.out hb2); clear c0 c1 c2 c3 c4 c5 hx; obtain ⟨⟨c0, c1, c2, c3, c4, c5⟩, -⟩ := cells6 HX.out; have hx := blkLtC HX.out; clear hb2)
   | (go_at_call 87; refine (HN.out _).mono ?_; rintro e w3 ⟨he, hb3⟩; simp only [if_pos] at he; subst he; have HB := Lib.hid (bCallC HB.out hb3); clear hb3))
  go_ret
  exact ⟨rfl, HB.out⟩
 ·have d0 : decide (i ≥ 0) = false := by simp; omega
  simp only [if_neg h0]
  have HN := Lib.hid (fun wx => need_any false 8 t A c wx)
  clear h0
  go_enter Tryz.func110, Tryz.ntmps110
  go_wp2_with (first
   | (go_at_call 121; refine HI.out.mono ?_; rintro e w2 ⟨rfl, hb2⟩; have HX := Lib.hid ((hb2.block _ hx).trans HX.out); have HB := Lib.hid (bCallC HB.out hb2); clear c0 c1 c2 c3 c4 c5 hx; obtain ⟨⟨c0, c1, c2, c3, c4, c5⟩, -⟩ := cells6 HX.out; have hx := blkLtC HX.out; clear hb2)
   | (go_at_call 87; refine (HN.out _).mono ?_; rintro e w3 ⟨he, hb3⟩; simp only [Bool.false_eq_true, if_neg, not_false_eq_true] at he; subst he; have HB := Lib.hid (bCallC HB.out hb3); clear hb3))
  exact ⟨rfl, rfl, HB.out⟩
end C
end Go.Proofs.YtamfgjinfcknfaaGreatDoor
namespace Go.Proofs.YtamfgjinfcknfaaGreatDoor
open Go.RowKit
namespace C
theorem ndInfo : (Tryz.prog.info? 77).map (fun i => (i.zero, i.size, i.bytes)) = some (some (.agg zeroNd), 6, 72) := by kernel_rfl
def Old (B : Nat) (k : Nat) : Prop := k < B
theorem KidsR.old {w : World} {P : Nat → Prop} {ts : List Nd} {A : Option Addr} (h : KidsR w P ts A) : KidsR w (Old w.heap.size) ts A := h.keep (fun k _ hl => ⟨rfl, hl⟩)
theorem KidsR.oldTo {w w' : World} {ts : List Nd} {A : Option Addr} (h : KidsR w (From 0) ts A) (hb : Below w.heap.size w w') : KidsR w' (Old w.heap.size) ts A := h.keep (fun k _ hl => ⟨hb.block k hl, hl⟩)
theorem RowsR.oldKeep {B : Nat} {w w' : World} {ts : List Nd} {vs : List Value} (h : RowsR w (Old B) ts vs) (hb : ∀ k, k < B → w'.heap[k]? = w.heap[k]?) : RowsR w' (Old B) ts vs := h.keep (fun k hk _ => ⟨hb k hk, hk⟩)
def OwnO (B : Nat) (w : World) (v : Value) (ts : List Nd) : Prop := ∃ vs, w.ownsRow B 77 6 v ts.length vs ∧ RowsR w (Old B) ts vs
theorem OwnO.kids {B : Nat} {w : World} {v : Value} {ts : List Nd} (h : OwnO B w v ts) : ∃ A c, v = .slice A ts.length (ts.length + c) ∧ KidsR w (From 0) ts A := by
 obtain ⟨vs, h1, h2⟩ := h
 rcases h1.2 with ⟨rfl, h0⟩ | ⟨g, cap, cur, rfl, hb, hg, hn, hc, hs, ht⟩
 ·obtain rfl : ts = [] := List.eq_nil_of_length_eq_zero h0
  exact ⟨none, 0, rfl, trivial⟩
 ·have h2' : RowsR w (From 0) ts vs := h2.keep (fun k hk _ => ⟨rfl, Nat.zero_le _⟩)
  refine ⟨_, cap - ts.length, by rw [Nat.add_sub_cancel' hn], h2'.kids (Nat.zero_le _) ts vs 0 (fun j u hu => ?_)⟩
  have := h1.cells (g := g) rfl j u hu
  have hadd : (⟨g, 0, none⟩ : Addr).add j = ⟨g, 0 + j, none⟩ := by unfold Addr.add; split <;> simp_all
  rw [hadd] at this
  exact this
theorem OwnO.keep {B : Nat} {w w2 : World} {v : Value} {ts : List Nd} (h : OwnO B w v ts) (hB : B ≤ w.heap.size) (h2 : ∀ k, k < w.heap.size → w2.heap[k]? = w.heap[k]?) : OwnO B w2 v ts := by
 obtain ⟨vs, hown, hrows⟩ := h
 refine ⟨vs, ⟨hown.1, ?_⟩, RowsR.oldKeep hrows (fun k hk => h2 k (Nat.lt_of_lt_of_le hk hB))⟩
 rcases hown.2 with hn | ⟨g, cap, cur, hv, hg, hh, rest⟩
 ·exact .inl hn
 ·exact .inr ⟨g, cap, cur, hv, hg, by rw [h2 g (Array.getElem?_eq_some_iff.1 hh).1]; exact hh, rest⟩
theorem gbBelowC {a b : World} {B : Nat} {r : Option Nat} (h : a.grownBy b r) (hB : B ≤ a.heap.size) (hr : ∀ k, r = some k → B ≤ k) : Below B a b :=
 ⟨h.os, h.tape, h.output, h.size, fun i hi => h.block i (by omega) (fun e => by have := hr i e.symm; omega)⟩
theorem nd_one (t : Nd) (A : Option Addr) (c : Nat) : ∀ u ∈ nCells t A c, u.oneCell' = true := by
 intro u hu
 simp only [nCells, List.mem_cons, List.not_mem_nil, or_false] at hu
 rcases hu with rfl | rfl | rfl | rfl | rfl | rfl <;> rfl
def OfP (k : Int) (ts : List Nd) (w : World) (e : Ending) (w' : World) : Prop := (∃ A c, e = .returned (.slice A (ts.filter (fun t => decide (t.kind = k))).length ((ts.filter (fun t => decide (t.kind = k))).length + c)) ∧ KidsR w' (From 0) (ts.filter (fun t => decide (t.kind = k))) A) ∧ Below w.heap.size w w'
theorem ofKind_any (ts : List Nd) (A : Option Addr) (m : Nat) (kd : Int) (w : World) (hK : KidsR w (From 0) ts A) (hlen : ts.length ≤ 100000) : Calls Tryz.prog 52 #[.slice A ts.length m, .int .i64 kd] w (OfP kd ts w) := by
 have HK := Lib.hid hK
 obtain ⟨i0, hi, hz0, hz1, hz2⟩ := info_parts ndInfo
 obtain ⟨r, hr⟩ : ∃ r, ts.filter (fun t => decide (t.kind = kd)) = r := ⟨_, rfl⟩
 unfold OfP
 rw [hr]
 have HR : Hid ([] ++ (ts.drop 0).filter (fun t => decide (t.kind = kd)) = r) := Lib.hid hr
 clear hK hr
 go_enter Tryz.func52, Tryz.ntmps52
 go_wp2
 go_loopg [5, 10] (ts.length) (fun gk v i wr => ∃ (k : Nat) (acc : List Nd), k + gk = ts.length ∧ i = .int .i64 k ∧ acc.length ≤ k ∧ Hid (acc ++ (ts.drop k).filter (fun t => decide (t.kind = kd)) = r) ∧ Hid (OwnO w.heap.size wr v acc) ∧ Hid (Below w.heap.size w wr))
 case atStart => exact ⟨0, [], by omega, rfl, Nat.le_refl _, HR, Lib.hid ⟨[], World.ownsRow_nil _ _ _ _, rfl⟩, Lib.hid (Below.refl _ _)⟩
 case round =>
  obtain ⟨k, acc, hk, rfl, hacc, hM, hO, hW⟩ := hrel
  by_cases hlt : k < ts.length
  ·obtain ⟨g, rfl⟩ : ∃ g, gk = g + 1 := ⟨gk - 1, by omega⟩
   have hKw : KidsR wr (From 0) ts A := KidsR.bel HK.out hW.out
   have hmem := List.getElem_mem hlt
   obtain ⟨ga, oa, rfl⟩ := kids_addr hKw (by omega)
   obtain ⟨A1, a1, ⟨k0, k1, k2, k3, k4, k5⟩, hK1⟩ := one_cells (kids_get _ _ _ hKw k _ (List.getElem?_eq_getElem hlt))
   obtain ⟨A0, a0, ⟨-, -, -, -, -, k05⟩, hK0⟩ := one_cells (kids_get _ _ _ HK.out k _ (List.getElem?_eq_getElem hlt))
   have hsame : A1 = A0 := by
    have hb := World.block_lt_of_cell? w _ k05
    have e := (World.cell?_of_block (a := ⟨ga, oa + k * 6 + 5, none⟩) (hW.out.block ga hb)).trans k05
    have := e.symm.trans k5
    simp at this
    exact this.1.symm
   subst hsame
   have hM1 := hM.out
   rw [List.drop_eq_getElem_cons hlt, List.filter_cons] at hM1
   clear hKw hmem hK1 k05 hM
   generalize ts[k] = u at *
   by_cases hkd : u.kind = kd
   ·have hM2 : Hid ((acc ++ [u]) ++ (ts.drop (k + 1)).filter (fun t => decide (t.kind = kd)) = r) := Lib.hid (by rw [if_pos (by simp [hkd])] at hM1; rw [← hM1]; simp)
    obtain ⟨vs, hown, hrows⟩ := hO.out
    have hrows := Lib.hid hrows
    have hown := Lib.hid hown
    have hol := hown.out.lt
    have hK0 := Lib.hid hK0
    have hwsz := hW.out.size
    clear hM1
    subst hkd
    go_wp2_with (at_builtin; refine wpList_append_lies _ rfl _ _ 75 rfl w.heap.size 77 i0 (.agg zeroNd) 6 72 Tryz.underlying75 hi hz0 hz1 hz2 rfl (by decide) _ acc.length vs rfl ((hown.out.alloc _).alloc _) ⟨wr.heap.size + 1, 0, none⟩ 1 1 (nCells u A1 a1) rfl rfl ?c1 (nd_one _ _ _) (by decide) ?c3 ?c4 ?c5 (wr.heap.size + 1 + 1) ?c6 ?_)
    case c1 => exact World.news_of_block (cs := ndA u A1 a1) (t := 77) (fr := (0, 0)) (newBlkC _ _ _ (by simp))
    case c3 => unfold maxLen; omega
    case c4 => omega
    case c5 => simp; omega
    case c6 => simp
    intro gb cap w3 hown3 hgrow hat hlt3
    have hB3 : Below w.heap.size w w3 := hW.out.trans (gbBelowC (gbTrans (gbAlloc (gbAlloc (gbRefl _ _))) hgrow) hwsz (fun k e => (hol k e).1))
    have hO3 : Hid (OwnO w.heap.size w3 (.slice (some ⟨gb, 0, none⟩) (acc.length + 1) cap) (acc ++ [u])) := Lib.hid ⟨vs ++ nCells u A1 a1, by rw [List.length_append]; exact hown3, RowsR.app (RowsR.one u A1 a1 (KidsR.oldTo hK0.out hB3)) _ _ (RowsR.oldKeep hrows.out (fun k hk => (hB3.block k hk).trans (hW.out.block k hk).symm))⟩
    have hW3 := Lib.hid hB3
    clear hown3 hgrow hat hB3
    go_wp2
    go_roundg g
    case measure => omega
    case rel => exact ⟨k + 1, acc ++ [u], by omega, by go_num, by simp; omega, hM2, hO3, hW3⟩
   ·have hM2 : Hid (acc ++ (ts.drop (k + 1)).filter (fun t => decide (t.kind = kd)) = r) := Lib.hid (by rw [if_neg (by simp [hkd])] at hM1; exact hM1)
    have hkf : (u.kind == kd) = false := by simp [hkd]
    clear hM1
    go_wp2_with fail
    go_roundg g
    case measure => omega
    case rel => exact ⟨k + 1, acc, by omega, by go_num, by omega, hM2, Lib.hid (OwnO.keep hO.out hW.out.size (fun k hk => Below.heap_alloc _ _ _ hk)), Lib.hid (bAllocC hW.out)⟩
  ·have hF : Hid (acc = r) := Lib.hid (by have := hM.out; rw [List.drop_eq_nil_of_le (by omega)] at this; simpa using this)
   have hkl : decide ((k : Int) < (ts.length : Int)) = false := by simp; omega
   obtain ⟨A9, c9, rfl, hK9⟩ := hO.out.kids
   have hK9 := Lib.hid hK9
   clear hM hO
   go_wp2_with fail
   go_ret
   have := hF.out
   subst this
   exact ⟨⟨A9, c9, rfl, hK9.out⟩, hW.out⟩
end C
end Go.Proofs.YtamfgjinfcknfaaGreatDoor
