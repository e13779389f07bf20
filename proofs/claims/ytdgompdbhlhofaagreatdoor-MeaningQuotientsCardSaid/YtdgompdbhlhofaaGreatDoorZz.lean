/- Texts of one proof: RxF, MxC, MxD, RxG, RxI, RxJ. -/
import Derived.Test.YtdgompdbhlhofaaGreatDoorZy
import Derived.Test.YtdgompdbhlhofaaGreatDoorZn
import Derived.MapKept
import Derived.Recover
import Derived.Defers
namespace Go.Proofs.YtdgompdbhlhofaaGreatDoor
open Go.RowKit
set_option linter.unusedVariables false
set_option linter.unusedSimpArgs false
namespace R
open I
open U (Ex St aggE eArr ev KidsE OneE szK szK_len szK_mem owns_below new_cells gbRefl gbAlloc gbTrans gbBelow Ex.size Ex.size_pos)
def exCells (t : Ex) (A : Option Addr) (c : Nat) : List Value := [.int .i64 t.op, .int .i64 t.n, .int .i64 t.unit, .slice A t.kids.length (t.kids.length + c)]
def RowsE (w : World) : List Ex → List Value → Prop
  | [], vs => vs = []
  | t :: ts, vs => ∃ A c rest, vs = exCells t A c ++ rest ∧ (t.kids.length ≤ maxLen ∧ KidsE w t.kids A) ∧ RowsE w ts rest
theorem RowsE.app {w : World} {us : List Ex} {vs' : List Value} (h' : RowsE w us vs') : ∀ (ts : List Ex) (vs : List Value), RowsE w ts vs → RowsE w (ts ++ us) (vs ++ vs')
  | [], vs, h => by obtain rfl := h; exact h'
  | t :: ts, vs, h => by
    obtain ⟨A, c, rest, rfl, h1, h2⟩ := h
    exact ⟨A, c, rest ++ vs', by simp, h1, RowsE.app h' ts rest h2⟩
theorem RowsE.len {w : World} : ∀ (ts : List Ex) (vs : List Value), RowsE w ts vs → vs.length = ts.length * 4
  | [], vs, h => by obtain rfl := h; rfl
  | t :: ts, vs, h => by
    obtain ⟨A, c, rest, rfl, h1, h2⟩ := h
    have := RowsE.len ts rest h2
    simp [exCells]
    omega
theorem RowsE.at {w : World} : ∀ (ts : List Ex) (vs : List Value), RowsE w ts vs → ∀ (i : Nat) (t : Ex), ts[i]? = some t → ∃ A c, vs[i * 4 + 3]? = some (.slice A t.kids.length (t.kids.length + c)) ∧ t.kids.length ≤ maxLen ∧ KidsE w t.kids A
  | t :: ts, vs, h, 0, u, hu => by
    obtain ⟨A, c, rest, rfl, h1, h2⟩ := h
    simp at hu
    subst hu
    exact ⟨A, c, rfl, h1⟩
  | t :: ts, vs, h, i + 1, u, hu => by
    obtain ⟨A, c, rest, rfl, h1, h2⟩ := h
    obtain ⟨A1, c1, e, hk⟩ := RowsE.at ts rest h2 i u (by simpa using hu)
    refine ⟨A1, c1, ?_, hk⟩
    rw [show (i + 1) * 4 + 3 = i * 4 + 3 + 4 by omega, List.getElem?_append_right (by simp [exCells])]
    simpa [exCells] using e
  | [], vs, h, i, u, hu => by simp at hu
end R
end Go.Proofs.YtdgompdbhlhofaaGreatDoor

namespace Go.Proofs.YtdgompdbhlhofaaGreatDoor
open Go.RowKit
set_option linter.unusedVariables false
set_option linter.unusedSimpArgs false
namespace M
open I
open U (Ex St btw ev eArr KidsE OneE rsE rsK rsE_min newBlk blkLt)
open R (epanic)
theorem rsK_drop (ts : List Ex) (k : Nat) (hk : k < ts.length) (b n : Int) (h : n ≤ b) : rsK (ts.drop k) b n = rsK (ts.drop (k + 1)) b (n + rsE ts[k] (b - n)) := by
  rw [List.drop_eq_getElem_cons hk, rsK, if_pos h]
theorem rsK_stop (ts : List Ex) (k : Nat) (b n : Int) (h : b < n) : rsK (ts.drop k) b n = n := by
  cases hd : ts.drop k with
  | nil => rfl
  | cons t us => rw [rsK, if_neg (by omega)]
theorem rsE_range (t : Ex) (b : Int) (h : 0 ≤ b) : 1 ≤ rsE t b ∧ rsE t b ≤ b + 1 := by
  have := rsE_min t b h
  have := t.size_pos
  omega
set_option maxHeartbeats 1000000 in
set_option maxRecDepth 100000 in
theorem size_step (t : Ex) (ih : ∀ u ∈ t.kids, ∀ (w : World) (b : Int) (A : Option Addr) (c : Nat), 0 ≤ b → b ≤ 10000 → KidsE w u.kids A → Calls Tryz.prog 16 #[ev u A c, .int .i64 b] w (VV (.int .i64 (rsE u b)) w))
    (w : World) (b : Int) (A : Option Addr) (c : Nat) (h0 : 0 ≤ b) (h1 : b ≤ 10000) (hK : KidsE w t.kids A) :
    Calls Tryz.prog 16 #[ev t A c, .int .i64 b] w (VV (.int .i64 (rsE t b)) w) := by
  obtain ⟨r, hr⟩ : ∃ r, rsE t b = r := ⟨_, rfl⟩
  rw [hr]
  have hr' : rsK t.kids b 1 = r := by rw [← hr]; cases t; rfl
  have hR := Lib.hid hr'
  have IH := Lib.hid ih
  have hKH := Lib.hid hK
  clear hr hr' ih hK
  go_enter Tryz.func16, Tryz.ntmps16
  go_wp2
  go_loopg [5, 6] (t.kids.length) (fun gk m i wr => ∃ (k : Nat) (mv : Int), k + gk = t.kids.length ∧ i = .int .i64 k ∧ m = .int .i64 mv ∧ (k : Int) + 1 ≤ mv ∧ mv ≤ b + 1 ∧ Hid (rsK (t.kids.drop k) b mv = r) ∧ Hid (wr.heap[w.heap.size]? = some (.cells (eArr t A c) 41 (0, 0))) ∧ Hid (Below w.heap.size w wr))
  case atStart => exact ⟨0, 1, by omega, rfl, rfl, by omega, by omega, hR.out, newBlk _ _ _ rfl, (Below.refl _ _).alloc (Nat.le_refl _) _⟩
  case round =>
    obtain ⟨k, mv, hk, rfl, rfl, hm1, hm2, hS, hB, hW⟩ := hrel
    obtain ⟨⟨b0, b1, b2, b3⟩, -⟩ := U.cells4 hB.out
    have hxb := blkLt hB.out
    clear b0 b1 b2
    by_cases hneg : mv ≤ b
    · by_cases hlt : k < t.kids.length
      · obtain ⟨g, rfl⟩ : ∃ g, gk = g + 1 := ⟨gk - 1, by omega⟩
        have hS1 := hS.out
        rw [rsK_drop _ _ hlt _ _ hneg] at hS1
        have hS1 := Lib.hid hS1
        have hKw : KidsE wr t.kids A := hKH.out.below hW.out
        obtain ⟨ga, oa, rfl⟩ := hKw.addr (by omega)
        obtain ⟨A1, c1, ⟨e0, e1, e2, e3⟩, -, hK1⟩ := (hKw.get _ _ _ k _ (List.getElem?_eq_getElem hlt)).cells
        have hmem : t.kids[k] ∈ t.kids := List.getElem_mem hlt
        have hI := Lib.hid (IH.out _ hmem wr (b - mv) A1 c1 (by omega) (by omega) hK1)
        have hsp := rsE_range t.kids[k] (b - mv) (by omega)
        clear hS hK1 hKw hmem
        generalize t.kids[k] = u at *
        have q0 : IntKind.i64.wrap (b - mv) = b - mv := IntWalk.i64_in _ (by omega)
        generalize hv : rsE u (b - mv) = rv at *
        have q1 : IntKind.i64.wrap (mv + rv) = mv + rv := IntWalk.i64_in _ (by omega)
        have hlt2 : k < t.kids.length := hlt
        go_wp2_with fail
        refine hI.out.mono ?_
        rintro e w2 ⟨rfl, hb2⟩
        have hB2 := Lib.hid ((hb2.block _ hxb).trans hB.out)
        have hW2 := Lib.hid (hW.out.trans (hb2.mono hW.out.size))
        clear hb2 e0 e1 e2 e3
        go_wp2
        clear q0 q1
        go_roundg g
        case measure => omega
        case rel => exact ⟨k + 1, mv + rv, by omega, by go_num, rfl, by omega, by omega, hS1, hB2, hW2⟩
      · have hF : Hid (mv = r) := by have := hS.out; rw [List.drop_eq_nil_of_le (by omega)] at this; exact this
        clear hS
        go_wp2
        go_ret
        exact ⟨ret_int hF.out, hW.out⟩
    · have hF : Hid (mv = r) := by have := hS.out; rw [rsK_stop _ _ _ _ (by omega)] at this; exact this
      have hng : decide (mv ≤ b) = false := by simp; omega
      clear hS
      by_cases hlt : k < t.kids.length
      all_goals
        go_wp2
        go_ret
        exact ⟨ret_int hF.out, hW.out⟩
mutual
theorem size_any : ∀ (t : Ex) (w : World) (b : Int) (A : Option Addr) (c : Nat), 0 ≤ b → b ≤ 10000 → KidsE w t.kids A → Calls Tryz.prog 16 #[ev t A c, .int .i64 b] w (VV (.int .i64 (rsE t b)) w)
  | .mk k x m kids => fun w n A c h0 h1 hK => size_step (.mk k x m kids) (size_all kids) w n A c h0 h1 hK
theorem size_all : ∀ (ts : List Ex), ∀ u ∈ ts, ∀ (w : World) (b : Int) (A : Option Addr) (c : Nat), 0 ≤ b → b ≤ 10000 → KidsE w u.kids A → Calls Tryz.prog 16 #[ev u A c, .int .i64 b] w (VV (.int .i64 (rsE u b)) w)
  | [], u, hu => by cases hu
  | t :: ts, u, hu => by
    rcases List.mem_cons.1 hu with h | h
    · rw [h]; exact size_any t
    · exact size_all ts u h
end
def IntsR (w : World) (l : List Int) (A : Option Addr) : Prop := l = [] ∨ ∃ g o, A = some ⟨g, o, none⟩ ∧ ∀ (i : Nat) (n : Int), l[i]? = some n → w.cell? ⟨g, o + i, none⟩ = some (.int .i64 n)
theorem IntsR.gr {w w' : World} {l : List Int} {A : Option Addr} (h : IntsR w l A) (hg : Gr w w') : IntsR w' l A := by
  rcases h with h | ⟨g, o, hA, h⟩
  · exact .inl h
  · exact .inr ⟨g, o, hA, fun i n hn => grCell hg (h i n hn)⟩
theorem IntsR.addr {w : World} {l : List Int} {A : Option Addr} (h : IntsR w l A) (hl : l ≠ []) : ∃ g o, A = some ⟨g, o, none⟩ ∧ ∀ (i : Nat) (n : Int), l[i]? = some n → w.cell? ⟨g, o + i, none⟩ = some (.int .i64 n) := by
  rcases h with h | h
  · exact absurd h hl
  · exact h
abbrev rdA (SA : Option Addr) (n m : Nat) (i0 i1 i2 i3 : Int) (mb : Nat) : Array Value := #[.slice SA n m, .int .i64 i0, .int .i64 i1, .int .i64 i2, .int .i64 i3, .map (some mb)]
theorem bAl2 {w : World} (a b : Obj) : Below w.heap.size w ((w.alloc a).alloc b) := ((Below.refl w.heap.size w).alloc (Nat.le_refl _) _).alloc (by simp) _
theorem leafE_other {st ins : List Int} {op n : Int} (h1 : op ≠ 1) (h2 : op ≠ 2) (h3 : op ≠ 3) : leafE st ins op n = .error 1 := by
  unfold leafE; rw [if_neg h1, if_neg (by omega), if_neg (by omega)]
set_option maxHeartbeats 4000000 in
set_option maxRecDepth 100000 in
theorem leaf_any (st : List Int) (SA : Option Addr) (m : Nat) (i0 i1 i2 i3 : Int) (mb : Nat) (t : Ex) (A : Option Addr) (c : Nat) (w : World) (hV : IntsR w st SA) (hsl : st.length ≤ 1000000) :
    Calls Tryz.prog 50 #[.agg (rdA SA st.length m i0 i1 i2 i3 mb), ev t A c] w (IntP (leafE st [i0, i1, i2, i3] t.op t.n) w) := by
  have HZ : Hid (Below w.heap.size w ((w.alloc (.cells (rdA SA st.length m i0 i1 i2 i3 mb) 58)).alloc (.cells (eArr t A c) 41))) := Lib.hid (bAl2 _ _)
  have HV := Lib.hid hV
  clear hV
  by_cases hk : t.op = 1
  · have hm : leafE st [i0, i1, i2, i3] t.op t.n = .ok t.n := by unfold leafE; rw [if_pos hk]
    rw [hm]
    have q1 : (t.op == 1) = true := by simp [*]
    have q2 : (t.op == 2) = false := by simp [*]
    have q3 : (t.op == 3) = false := by simp [*]
    clear hk hm
    go_enter Tryz.func50, Tryz.ntmps50
    go_wp2
    go_ret
    exact ⟨rfl, HZ.out⟩
  by_cases hk2 : t.op = 2
  · rcases hx : btw t.n 0 ((st.length : Int) - 1) with _ | _
    · have hx2 : ¬(0 ≤ t.n ∧ t.n < st.length) := by intro hh; have : btw t.n 0 ((st.length : Int) - 1) = true := by simp only [btw, Bool.and_eq_true, decide_eq_true_eq]; omega
                                                    rw [hx] at this; cases this
      have hm : leafE st [i0, i1, i2, i3] t.op t.n = .error 1 := by unfold leafE; rw [if_neg (by omega), if_neg (by omega), if_neg (by omega)]
      rw [hm]
      have HI := Lib.hid (fun wx => isIndex_any t.n st.length (by omega) wx)
      rw [hx] at HI
      have q1 : (t.op == 1) = false := by simp [*]
      have q2 : (t.op == 2) = true := by simp [*]
      have q3 : (t.op == 3) = false := by simp [*]
      clear hk hk2 hx hx2 hm
      go_enter Tryz.func50, Tryz.ntmps50
      go_wp2_with (go_at_call 47; refine (HI.out _).mono ?_; rintro e w2 ⟨rfl, rfl⟩)
      exact ⟨rfl, rfl, HZ.out⟩
    · have hx2 : 0 ≤ t.n ∧ t.n < st.length := by simp only [btw, Bool.and_eq_true, decide_eq_true_eq] at hx; omega
      obtain ⟨k, hkn⟩ : ∃ k : Nat, t.n = k := ⟨t.n.toNat, by omega⟩
      have hkl : k < st.length := by omega
      have hm : leafE st [i0, i1, i2, i3] t.op t.n = .ok st[k] := by unfold leafE; rw [if_neg (by omega), if_pos ⟨hk2, by omega, by omega⟩, hkn, Int.toNat_natCast, List.getElem?_eq_getElem hkl]; rfl
      rw [hm]
      have HI := Lib.hid (fun wx => isIndex_any t.n st.length (by omega) wx)
      rw [hx, hkn] at HI
      obtain ⟨g, o, rfl, hat⟩ := HV.out.addr (by intro h; rw [h] at hkl; simp at hkl)
      have e0 := hat k _ (List.getElem?_eq_getElem hkl)
      generalize st[k] = s at *
      have e1 := grCell (bAl2 (.cells (rdA (some ⟨g, o, none⟩) st.length m i0 i1 i2 i3 mb) 58) (.cells #[.int .i64 t.op, .int .i64 k, .int .i64 t.unit, .slice A t.kids.length (t.kids.length + c)] 41)) e0
      have q1 : (t.op == 1) = false := by simp [*]
      have q2 : (t.op == 2) = true := by simp [*]
      have q3 : (t.op == 3) = false := by simp [*]
      clear hk hk2 hx hx2 hm hat HV
      go_enter Tryz.func50, Tryz.ntmps50
      go_wp2_with (go_at_call 47; refine (HI.out _).mono ?_; rintro e w2 ⟨rfl, rfl⟩)
      go_ret
      exact ⟨rfl, bAl2 _ _⟩
  by_cases hk3 : t.op = 3
  · rcases hx : btw t.n 0 3 with _ | _
    · have hx2 : ¬(0 ≤ t.n ∧ t.n < 4) := by intro hh; have : btw t.n 0 3 = true := by simp only [btw, Bool.and_eq_true, decide_eq_true_eq]; omega
                                            rw [hx] at this; cases this
      have hm : leafE st [i0, i1, i2, i3] t.op t.n = .error 1 := by unfold leafE; rw [if_neg (by omega), if_neg (by omega), if_neg (by omega)]
      rw [hm]
      have HI := Lib.hid (fun wx => isIndex_any t.n 4 (by omega) wx)
      rw [show (4 : Int) - 1 = 3 from rfl, hx] at HI
      have q1 : (t.op == 1) = false := by simp [*]
      have q2 : (t.op == 2) = false := by simp [*]
      have q3 : (t.op == 3) = true := by simp [*]
      clear hk hk2 hk3 hx hx2 hm
      go_enter Tryz.func50, Tryz.ntmps50
      go_wp2_with (go_at_call 47; refine (HI.out _).mono ?_; rintro e w2 ⟨rfl, rfl⟩)
      exact ⟨rfl, rfl, HZ.out⟩
    · have hx2 : 0 ≤ t.n ∧ t.n ≤ 3 := by simp only [btw, Bool.and_eq_true, decide_eq_true_eq] at hx; exact hx
      have hm : ∀ k : Nat, t.n = k → leafE st [i0, i1, i2, i3] t.op t.n = .ok (([i0, i1, i2, i3][k]?).getD 0) := fun k hkn => by unfold leafE; rw [if_neg (by omega), if_neg (by omega), if_pos ⟨hk3, by omega, by omega⟩, hkn, Int.toNat_natCast]
      have HI := Lib.hid (fun wx => isIndex_any t.n 4 (by omega) wx)
      rw [show (4 : Int) - 1 = 3 from rfl, hx] at HI
      have q1 : (t.op == 1) = false := by simp [*]
      have q2 : (t.op == 2) = false := by simp [*]
      have q3 : (t.op == 3) = true := by simp [*]
      clear hk hk2 hk3 hx
      have h4 : t.n = 0 ∨ t.n = 1 ∨ t.n = 2 ∨ t.n = 3 := by omega
      rcases h4 with hk0 | hk0 | hk0 | hk0
      · have hmk := hm 0 hk0
        rw [hmk]
        rw [hk0] at HI
        clear hm hmk hx2 HZ
        go_enter Tryz.func50, Tryz.ntmps50
        go_wp2_with (go_at_call 47; refine (HI.out _).mono ?_; rintro e w2 ⟨rfl, rfl⟩)
        go_ret
        exact ⟨rfl, bAl2 _ _⟩
      · have hmk := hm 1 hk0
        rw [hmk]
        rw [hk0] at HI
        clear hm hmk hx2 HZ
        go_enter Tryz.func50, Tryz.ntmps50
        go_wp2_with (go_at_call 47; refine (HI.out _).mono ?_; rintro e w2 ⟨rfl, rfl⟩)
        go_ret
        exact ⟨rfl, bAl2 _ _⟩
      · have hmk := hm 2 hk0
        rw [hmk]
        rw [hk0] at HI
        clear hm hmk hx2 HZ
        go_enter Tryz.func50, Tryz.ntmps50
        go_wp2_with (go_at_call 47; refine (HI.out _).mono ?_; rintro e w2 ⟨rfl, rfl⟩)
        go_ret
        exact ⟨rfl, bAl2 _ _⟩
      · have hmk := hm 3 hk0
        rw [hmk]
        rw [hk0] at HI
        clear hm hmk hx2 HZ
        go_enter Tryz.func50, Tryz.ntmps50
        go_wp2_with (go_at_call 47; refine (HI.out _).mono ?_; rintro e w2 ⟨rfl, rfl⟩)
        go_ret
        exact ⟨rfl, bAl2 _ _⟩
  · rw [leafE_other hk hk2 hk3]
    have q1 : (t.op == 1) = false := by simp [*]
    have q2 : (t.op == 2) = false := by simp [*]
    have q3 : (t.op == 3) = false := by simp [*]
    clear hk hk2 hk3
    go_enter Tryz.func50, Tryz.ntmps50
    go_wp2
    exact ⟨rfl, rfl, HZ.out⟩
end M
end Go.Proofs.YtdgompdbhlhofaaGreatDoor

namespace Go.Proofs.YtdgompdbhlhofaaGreatDoor
open Go.RowKit
set_option linter.unusedVariables false
set_option linter.unusedSimpArgs false
namespace M
open I
open U (Ex St btw ev eArr KidsE newBlk blkLt)
open R (epanic)
theorem ck_int (e : Bool) (k : Int) (W : World) : (Instr.checkKey e 10000 3 (.int .i64 k)).run Tryz.prog W = .ok () W := by
  rw [show (10000 : Nat) = 9999 + 1 from rfl]
  unfold Instr.checkKey
  simp [run_underlying Tryz.underlying3, go_sem]
def insW (W : World) (b : Nat) (es : Array MapEntry) (c : Nat) (k : Int) (v : Value) : World := { W with heap := W.heap.setIfInBounds b (.map (es.push { key := .int .i64 k, val := v, born := c }) (c + 1)) }
theorem map_ins (W : World) (b : Nat) (es : Array MapEntry) (c : Nat) (k : Int) (v : Value) (h : W.heap[b]? = some (.map es c)) (hk : Instr.findNow (.int .i64) (.int .i64 k) es.toList 0 = some none) :
    (Instr.mapUpdate 55 (.map (some b)) (.int .i64 k) v).run Tryz.prog W = .ok () (insW W b es c k v) := by
  unfold Instr.mapUpdate insW
  simp [run_underlying Tryz.underlying55, go_sem, MapKept.run_getObj_map h, ck_int, MapKept.run_findKey Tryz.underlying3 hk, MapKept.run_setObj_map _ h]
theorem insW_get (W : World) (b : Nat) (es : Array MapEntry) (c : Nat) (k : Int) (v : Value) (h : W.heap[b]? = some (.map es c)) : (insW W b es c k v).heap[b]? = some (.map (es.push { key := .int .i64 k, val := v, born := c }) (c + 1)) := by
  have hlt := blkLt h
  simp [insW, hlt]
theorem insW_below {B : Nat} {W0 W : World} (b : Nat) (es : Array MapEntry) (c : Nat) (k : Int) (v : Value) (h : Below B W0 W) (hb : B ≤ b) : Below B W0 (insW W b es c k v) :=
  ⟨h.os, h.tape, h.output, by simpa [insW] using h.size, fun j hj => by
    have := h.block j hj
    simp only [insW]
    rw [Array.getElem?_setIfInBounds_ne (by omega)]
    exact this⟩
theorem map_get (W : World) (b : Nat) (es : Array MapEntry) (c : Nat) (k : Int) (i : Nat) (v : Value) (h : W.heap[b]? = some (.map es c)) (hk : Instr.findNow (.int .i64) (.int .i64 k) es.toList 0 = some (some (i, v))) :
    (Instr.lookup 55 (.map (some b)) (.int .i64 k) true).run Tryz.prog W = .ok (.tuple #[v, .bool true]) W := by
  unfold Instr.lookup
  simp [run_underlying Tryz.underlying55, go_sem, MapKept.run_getObj_map h, ck_int, MapKept.run_findKey Tryz.underlying3 hk]
def noFn (es : Array MapEntry) (k : Int) : Prop := Instr.findNow (.int .i64) (.int .i64 k) es.toList 0 = some none
theorem map_none (W : World) (b : Nat) (es : Array MapEntry) (c : Nat) (k : Int) (h : W.heap[b]? = some (.map es c)) (hk : noFn es k) :
    ∃ v, (Instr.lookup 55 (.map (some b)) (.int .i64 k) true).run Tryz.prog W = .ok (.tuple #[v, .bool false]) W := by
  unfold noFn at hk
  unfold Instr.lookup
  simp [run_underlying Tryz.underlying55, go_sem, MapKept.run_getObj_map h, ck_int, MapKept.run_findKey Tryz.underlying3 hk]
def es0 : Array MapEntry := #[]
def es1 : Array MapEntry := es0.push { key := .int .i64 4, val := .func (.func 31) #[] #[], born := 0 }
def es2 : Array MapEntry := es1.push { key := .int .i64 5, val := .func (.func 32) #[] #[], born := 1 }
def es3 : Array MapEntry := es2.push { key := .int .i64 6, val := .func (.func 33) #[] #[], born := 2 }
def es4 : Array MapEntry := es3.push { key := .int .i64 7, val := .func (.func 34) #[] #[], born := 3 }
def es5 : Array MapEntry := es4.push { key := .int .i64 8, val := .func (.func 35) #[] #[], born := 4 }
def es6 : Array MapEntry := es5.push { key := .int .i64 9, val := .func (.func 36) #[] #[], born := 5 }
def es7 : Array MapEntry := es6.push { key := .int .i64 10, val := .func (.func 37) #[] #[], born := 6 }
def OpsR (w : World) (mb : Nat) : Prop := w.heap[mb]? = some (.map es7 7)
theorem OpsR.gr {w w' : World} {mb : Nat} (h : OpsR w mb) (hg : Gr w w') : OpsR w' mb := grBlk hg h
theorem esN_no (k : Int) (h : ¬(4 ≤ k ∧ k ≤ 10)) : noFn es7 k := by
  unfold noFn
  have e : ∀ j : Int, 4 ≤ j → j ≤ 10 → (k == j) = false := fun j h1 h2 => by rw [beq_eq_false_iff_ne]; omega
  simp only [es0, es1, es2, es3, es4, es5, es6, es7, Array.toList_push, List.nil_append, List.cons_append, Instr.findNow, Instr.sameNow, e 4 (by omega) (by omega), e 5 (by omega) (by omega), e 6 (by omega) (by omega), e 7 (by omega) (by omega), e 8 (by omega) (by omega), e 9 (by omega) (by omega), e 10 (by omega) (by omega), if_true]
theorem esN_4 : Instr.findNow (.int .i64) (.int .i64 4) es7.toList 0 = some (some (0, .func (.func 31) #[] #[])) := by simp [es0, es1, es2, es3, es4, es5, es6, es7, Instr.findNow, Instr.sameNow]
theorem esN_5 : Instr.findNow (.int .i64) (.int .i64 5) es7.toList 0 = some (some (1, .func (.func 32) #[] #[])) := by simp [es0, es1, es2, es3, es4, es5, es6, es7, Instr.findNow, Instr.sameNow]
theorem esN_6 : Instr.findNow (.int .i64) (.int .i64 6) es7.toList 0 = some (some (2, .func (.func 33) #[] #[])) := by simp [es0, es1, es2, es3, es4, es5, es6, es7, Instr.findNow, Instr.sameNow]
theorem esN_7 : Instr.findNow (.int .i64) (.int .i64 7) es7.toList 0 = some (some (3, .func (.func 34) #[] #[])) := by simp [es0, es1, es2, es3, es4, es5, es6, es7, Instr.findNow, Instr.sameNow]
theorem esN_8 : Instr.findNow (.int .i64) (.int .i64 8) es7.toList 0 = some (some (4, .func (.func 35) #[] #[])) := by simp [es0, es1, es2, es3, es4, es5, es6, es7, Instr.findNow, Instr.sameNow]
theorem esN_9 : Instr.findNow (.int .i64) (.int .i64 9) es7.toList 0 = some (some (5, .func (.func 36) #[] #[])) := by simp [es0, es1, es2, es3, es4, es5, es6, es7, Instr.findNow, Instr.sameNow]
theorem esN_10 : Instr.findNow (.int .i64) (.int .i64 10) es7.toList 0 = some (some (6, .func (.func 37) #[] #[])) := by simp [es0, es1, es2, es3, es4, es5, es6, es7, Instr.findNow, Instr.sameNow]
set_option maxHeartbeats 1000000 in
set_option maxRecDepth 100000 in
theorem operations_any (w : World) : Calls Tryz.prog 19 #[] w (fun e w' => (∃ mb, e = .returned (.map (some mb)) ∧ OpsR w' mb) ∧ Below w.heap.size w w') := by
  obtain ⟨w0, hw0⟩ : ∃ w0, w0 = w.alloc (.map #[] 0) := ⟨_, rfl⟩
  have h0 : w0.heap[w.heap.size]? = some (.map es0 0) := by rw [hw0]; exact newBlk _ _ _ rfl
  have b0 : Below w.heap.size w w0 := by rw [hw0]; exact grAlloc _ _
  have u0 := map_ins w0 w.heap.size es0 0 4 (.func (.func 31) #[] #[]) h0 (by simp [es0, es1, es2, es3, es4, es5, es6, es7, Instr.findNow, Instr.sameNow])
  have h1 : (insW w0 w.heap.size es0 0 4 (.func (.func 31) #[] #[])).heap[w.heap.size]? = some (.map es1 1) := insW_get _ _ _ _ _ _ h0
  have b1 := insW_below w.heap.size es0 0 4 (.func (.func 31) #[] #[]) b0 (Nat.le_refl _)
  generalize insW w0 w.heap.size es0 0 4 (.func (.func 31) #[] #[]) = w1 at *
  have h0 := Lib.hid h0
  have u1 := map_ins w1 w.heap.size es1 1 5 (.func (.func 32) #[] #[]) h1 (by simp [es0, es1, es2, es3, es4, es5, es6, es7, Instr.findNow, Instr.sameNow])
  have h2 : (insW w1 w.heap.size es1 1 5 (.func (.func 32) #[] #[])).heap[w.heap.size]? = some (.map es2 2) := insW_get _ _ _ _ _ _ h1
  have b2 := insW_below w.heap.size es1 1 5 (.func (.func 32) #[] #[]) b1 (Nat.le_refl _)
  generalize insW w1 w.heap.size es1 1 5 (.func (.func 32) #[] #[]) = w2 at *
  have h1 := Lib.hid h1
  have u2 := map_ins w2 w.heap.size es2 2 6 (.func (.func 33) #[] #[]) h2 (by simp [es0, es1, es2, es3, es4, es5, es6, es7, Instr.findNow, Instr.sameNow])
  have h3 : (insW w2 w.heap.size es2 2 6 (.func (.func 33) #[] #[])).heap[w.heap.size]? = some (.map es3 3) := insW_get _ _ _ _ _ _ h2
  have b3 := insW_below w.heap.size es2 2 6 (.func (.func 33) #[] #[]) b2 (Nat.le_refl _)
  generalize insW w2 w.heap.size es2 2 6 (.func (.func 33) #[] #[]) = w3 at *
  have h2 := Lib.hid h2
  have u3 := map_ins w3 w.heap.size es3 3 7 (.func (.func 34) #[] #[]) h3 (by simp [es0, es1, es2, es3, es4, es5, es6, es7, Instr.findNow, Instr.sameNow])
  have h4 : (insW w3 w.heap.size es3 3 7 (.func (.func 34) #[] #[])).heap[w.heap.size]? = some (.map es4 4) := insW_get _ _ _ _ _ _ h3
  have b4 := insW_below w.heap.size es3 3 7 (.func (.func 34) #[] #[]) b3 (Nat.le_refl _)
  generalize insW w3 w.heap.size es3 3 7 (.func (.func 34) #[] #[]) = w4 at *
  have h3 := Lib.hid h3
  have u4 := map_ins w4 w.heap.size es4 4 8 (.func (.func 35) #[] #[]) h4 (by simp [es0, es1, es2, es3, es4, es5, es6, es7, Instr.findNow, Instr.sameNow])
  have h5 : (insW w4 w.heap.size es4 4 8 (.func (.func 35) #[] #[])).heap[w.heap.size]? = some (.map es5 5) := insW_get _ _ _ _ _ _ h4
  have b5 := insW_below w.heap.size es4 4 8 (.func (.func 35) #[] #[]) b4 (Nat.le_refl _)
  generalize insW w4 w.heap.size es4 4 8 (.func (.func 35) #[] #[]) = w5 at *
  have h4 := Lib.hid h4
  have u5 := map_ins w5 w.heap.size es5 5 9 (.func (.func 36) #[] #[]) h5 (by simp [es0, es1, es2, es3, es4, es5, es6, es7, Instr.findNow, Instr.sameNow])
  have h6 : (insW w5 w.heap.size es5 5 9 (.func (.func 36) #[] #[])).heap[w.heap.size]? = some (.map es6 6) := insW_get _ _ _ _ _ _ h5
  have b6 := insW_below w.heap.size es5 5 9 (.func (.func 36) #[] #[]) b5 (Nat.le_refl _)
  generalize insW w5 w.heap.size es5 5 9 (.func (.func 36) #[] #[]) = w6 at *
  have h5 := Lib.hid h5
  have u6 := map_ins w6 w.heap.size es6 6 10 (.func (.func 37) #[] #[]) h6 (by simp [es0, es1, es2, es3, es4, es5, es6, es7, Instr.findNow, Instr.sameNow])
  have h7 : (insW w6 w.heap.size es6 6 10 (.func (.func 37) #[] #[])).heap[w.heap.size]? = some (.map es7 7) := insW_get _ _ _ _ _ _ h6
  have b7 := insW_below w.heap.size es6 6 10 (.func (.func 37) #[] #[]) b6 (Nat.le_refl _)
  generalize insW w6 w.heap.size es6 6 10 (.func (.func 37) #[] #[]) = w7 at *
  have h6 := Lib.hid h6
  have b7 := Lib.hid b7
  have h7 := Lib.hid h7
  clear b0 b1 b2 b3 b4 b5 b6
  rw [hw0] at u0
  clear hw0
  have hmm := @run_makeMap Tryz.prog
  go_enter Tryz.func19, Tryz.ntmps19
  go_wp2
  go_ret
  exact ⟨⟨_, rfl, h7.out⟩, b7.out⟩
end M
end Go.Proofs.YtdgompdbhlhofaaGreatDoor

namespace Go.Proofs.YtdgompdbhlhofaaGreatDoor
open Go.RowKit
set_option linter.unusedVariables false
set_option linter.unusedSimpArgs false
namespace R
open I
theorem ta_nilE (w : World) : (Instr.typeAssert .nilIface 20 23 true).run Tryz.prog w = .ok (.tuple #[.int .i64 0, .bool false]) w := by
  simp [Instr.typeAssert, go_sem]
theorem ta_errE (er : Int) (w : World) : (Instr.typeAssert (.iface 23 (.int .i64 er)) 20 23 true).run Tryz.prog w = .ok (.tuple #[.int .i64 er, .bool true]) w := by
  simp [Instr.typeAssert, go_sem]
def erOf : Except Int Unit → Int
  | .ok _ => 0
  | .error e => e
def LeftP (r : Except Int Unit) (Post : World → Prop) (e : Ending) (w' : World) : Prop :=
  (match r with
    | .ok _ => e = .returned (.tuple #[])
    | .error er => e = epanic er) ∧ Post w'
end R
end Go.Proofs.YtdgompdbhlhofaaGreatDoor

namespace Go.Proofs.YtdgompdbhlhofaaGreatDoor
open Go.RowKit
set_option linter.unusedVariables false
set_option linter.unusedSimpArgs false
namespace R
open I
open U (Ex eArr ev KidsE)
theorem cell1 {w : World} {b : Nat} {v : Value} {T : TypeId} (h : w.heap[b]? = some (.cells #[v] T (0, 0))) : w.cell? ⟨b, 0, none⟩ = some v := by rw [cell_of_row _ _ 0 _ _ (0, 0) h]; rfl
end R
end Go.Proofs.YtdgompdbhlhofaaGreatDoor

namespace Go.Proofs.YtdgompdbhlhofaaGreatDoor
open Go.RowKit
set_option linter.unusedVariables false
set_option linter.unusedSimpArgs false
namespace R
open I
open U (Ex St)
mutual
def WfS (n : Nat) : St → Prop
  | .mk k v r a b th el => (k = 1 ∧ 0 ≤ v ∧ v < n ∧ a.size ≤ 60) ∨ (k = 2 ∧ 1 ≤ r ∧ r ≤ 6 ∧ a.size ≤ 60 ∧ b.size ≤ 60 ∧ WfL n th ∧ WfL n el)
def WfL (n : Nat) : List St → Prop
  | [] => True
  | x :: xs => WfS n x ∧ WfL n xs
end
def insR : List Sp := [⟨1, 1000⟩, ⟨1, 10000000⟩, ⟨1, 10000⟩, ⟨0, 4000⟩]
open U (Pw inf infK nodeP stM stsM handM szS szL evL btw formB) in
mutual
theorem wf_st {s : List Pw} : ∀ x : St, stM s x = 0 → szS x → WfS s.length x
  | .mk k v r a b th el, h, hz => by
    rw [U.stM] at h
    rw [U.szS] at hz
    rw [WfS]
    by_cases h1 : k = 1
    · rw [if_pos h1] at h
      unfold U.assignM at h
      split at h
      · rename_i g
        simp only [U.btw, Bool.and_eq_true, decide_eq_true_eq] at g
        exact .inl ⟨h1, g.1, by omega, hz.1⟩
      · cases h
    · rw [if_neg h1] at h
      split at h
      · rename_i h2
        split at h
        · rename_i g
          simp only [U.btw, Bool.and_eq_true, decide_eq_true_eq] at g
          split at h
          · split at h
            · rename_i gt
              exact .inr ⟨h2, g.1, g.2, hz.1, (hz.2 h2).1, wf_sts th gt (hz.2 h2).2.1, wf_sts el h (hz.2 h2).2.2⟩
            · rename_i gt
              exact absurd h gt
          · rename_i gc
            exact absurd h gc
        · cases h
      · cases h
theorem wf_sts {s : List Pw} : ∀ l : List St, stsM s l = 0 → szL l → WfL s.length l
  | [], _, _ => by rw [WfL]; trivial
  | x :: xs, h, hz => by
    rw [U.stsM] at h
    rw [U.szL] at hz
    rw [WfL]
    split at h
    · rename_i g
      exact ⟨wf_st x g hz.1, wf_sts xs h hz.2⟩
    · rename_i g
      exact absurd h g
end
theorem wf_hand {s : List U.Pw} {l : List St} (h : U.handM s l = 0) : WfL s.length l := by
  unfold U.handM at h
  split at h
  · rename_i g
    exact wf_sts l h (U.evL_sz l 100 g)
  · cases h
theorem chk_all {s : List U.Pw} : ∀ {ls : List (List St)} {k : Nat}, (U.chkL s ls k).2 = 0 → ∀ l ∈ ls, U.handM s l = 0
  | [], _, _, l, hl => by cases hl
  | x :: xs, k, h, l, hl => by
    rw [U.chkL] at h
    split at h
    · rename_i g
      rcases List.mem_cons.1 hl with rfl | hl
      · exact g
      · exact chk_all h l hl
    · rename_i g
      exact absurd h g
theorem check_wf {us : List Int} {on : List (List St)} (h : (U.checkM us on).2 = 0) : ∀ l ∈ on, WfL us.length l := by
  unfold U.checkM at h
  rcases hs : U.scopeM us with _ | s
  · rw [hs] at h; cases h
  · rw [hs] at h
    simp only at h
    have hl : s.length = us.length := by
      unfold U.scopeM at hs
      split at hs
      · cases hs; simp
      · cases hs
    intro l hm
    rw [← hl]
    exact wf_hand (chk_all h l hm)
end R
end Go.Proofs.YtdgompdbhlhofaaGreatDoor
