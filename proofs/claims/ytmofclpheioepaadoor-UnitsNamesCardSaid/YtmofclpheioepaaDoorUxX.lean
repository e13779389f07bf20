/- The law UnitsNames returns true, whatever the arguments; condition: the listed package-level variables hold what the text lays. -/
import Derived.Test.YtmofclpheioepaaDoorUxO
import Derived.Test.YtmofclpheioepaaDoorUxV
import Derived.Deep.RegionHeld3
import Derived.Deep.AppendLies
namespace Go.Proofs.YtmofclpheioepaaDoor
open Go.RowKit
set_option linter.unusedVariables false
set_option linter.unusedSimpArgs false

def vCells (v : Vr) : List Value := [.string v.x, .int .i64 v.u, .int .i64 v.lo, .int .i64 v.hi, .int .i64 v.i]
def vsCells (l : List Vr) : List Value := l.flatMap vCells
theorem vsCells_snoc (l : List Vr) (p : Vr) : vsCells (l ++ [p]) = vsCells l ++ vCells p := by simp [vsCells]
theorem vsCells_at : ∀ (l : List Vr) (i : Nat) (p : Vr), l[i]? = some p → ∀ j, j < 5 → (vsCells l)[i * 5 + j]? = (vCells p)[j]?
  | [], i, p, h, j, hj => by simp at h
  | q :: l, 0, p, h, j, hj => by
    simp at h
    subst h
    show (vCells q ++ vsCells l)[0 * 5 + j]? = _
    rw [List.getElem?_append_left (by simp [vCells]; omega)]
    simp
  | q :: l, i + 1, p, h, j, hj => by
    have h1 := vsCells_at l i p (by simpa using h) j hj
    show (vCells q ++ vsCells l)[(i + 1) * 5 + j]? = _
    rw [List.getElem?_append_right (by simp [vCells]; omega), ← h1]
    congr 1
    simp [vCells]
    omega
/-- a slice of variables that the function has made -/
theorem own_vars {w : World} {B : Nat} {v : Value} {l : List Vr} {T : TypeId} (h : w.ownsRow B T 5 v l.length (vsCells l)) : ∃ A c, v = .slice A l.length (l.length + c) ∧ VarsR w l A := by
  rcases h.2 with ⟨rfl, h0⟩ | ⟨g, cap, cur, rfl, hb, hg, hn, hc, hs, ht⟩
  · obtain rfl : l = [] := List.eq_nil_of_length_eq_zero h0
    exact ⟨none, 0, rfl, .inl rfl⟩
  · refine ⟨_, cap - l.length, by rw [Nat.add_sub_cancel' hn], .inr ⟨g, 0, rfl, fun i p hp => ?_⟩⟩
    have h1 := h.cells (g := g) rfl
    have hadd : ∀ j, (⟨g, 0, none⟩ : Addr).add j = ⟨g, 0 + j, none⟩ := fun j => by unfold Addr.add; split <;> simp_all
    have e : ∀ j, j < 5 → ∀ u, (vCells p)[j]? = some u → w.cell? ⟨g, 0 + i * 5 + j, none⟩ = some u := fun j hj u hu => by
      have := h1 (i * 5 + j) u (by rw [vsCells_at l i p hp j hj]; exact hu)
      rw [hadd, ← Nat.add_assoc] at this
      exact this
    exact ⟨e 0 (by decide) _ rfl, e 1 (by decide) _ rfl, e 2 (by decide) _ rfl, e 3 (by decide) _ rfl, e 4 (by decide) _ rfl⟩
theorem vrInfo : (Tryd.prog.info? 50).map (fun i => (i.zero, i.size, i.bytes)) = some (some (.agg (vArr ⟨⟨#[]⟩, 0, 0, 0, 0⟩)), 5, 48) := by kernel_rfl
theorem vr_one (v : Vr) : ∀ u ∈ vCells v, u.oneCell' = true := by
  intro u hu
  simp only [vCells, List.mem_cons, List.not_mem_nil, or_false] at hu
  rcases hu with rfl | rfl | rfl | rfl | rfl <;> rfl
theorem set9 {w : World} {b : Nat} {v0 v1 v2 v3 v4 v5 v6 v7 v8 x : Value} {T : TypeId} (h : w.heap[b]? = some (.cells #[v0, v1, v2, v3, v4, v5, v6, v7, v8] T (0, 0))) :
    (w.setCell ⟨b, 1, none⟩ x).heap[b]? = some (.cells #[v0, x, v2, v3, v4, v5, v6, v7, v8] T (0, 0)) := by rw [heap_setCell_same w b 1 _ _ _ h]; simp
theorem fz9 {w : World} {b : Nat} {cs : Array Value} {T : TypeId} (h : w.heap[b]? = some (.cells cs T (0, 0))) : w.frozen? ⟨b, 1, none⟩ = false := by simp [World.frozen?, h]
abbrev onArr (x : ByteArray) (v : Value) (o : On) (a : OnA) (wi pa : Int) : Array Value := #[.string x, v, .slice a.a0 o.l0.length a.m0, .slice a.a1 o.l1.length a.m1, .slice a.a2 o.l2.length a.m2, .slice a.a3 o.l3.length a.m3, .slice a.a4 o.l4.length a.m4, .int .i64 wi, .int .i64 pa]
theorem take_snoc {vs : List Vr} {k : Nat} (h : k < vs.length) : (vs.take (k + 1)).map (·.u) = (vs.take k).map (·.u) ++ [vs[k].u] := by
  rw [List.take_succ_eq_append_getElem h, List.map_append]
  rfl
set_option maxHeartbeats 4000000 in
set_option maxRecDepth 100000 in
theorem UNames_any (x : ByteArray) (vs : List Vr) (VA : Option Addr) (vm : Nat) (o : On) (a : OnA) (wi pa : Int) (s : ByteArray) (i1 j1 k1 : Int) (w : World) (hL : LaidW w) (hV : VarsR w vs VA) (hO : OnR w o a) :
    Calls Tryd.prog 7 #[pgv x VA vs.length vm o a wi pa, .string s, .int .i64 i1, .int .i64 j1, .int .i64 k1] w (BB true w) := by
  have HX := Lib.hid (newBlk w (.cells (pgArr x VA vs.length vm o a wi pa) 26) _ rfl)
  have HB := Lib.hid ((Below.refl w.heap.size w).alloc (Nat.le_refl _) (.cells (pgArr x VA vs.length vm o a wi pa) 26))
  have HL := Lib.hid hL
  have HV := Lib.hid hV
  have HO := Lib.hid hO
  have HFew := Lib.hid (fun wx (h : Below w.heap.size w wx) => Few_any x VA vs.length vm o a wi pa wx (hO.below h))
  obtain ⟨r1, hr1⟩ : ∃ r, checkM (vs.map (·.u)) o.list = r := ⟨_, rfl⟩
  have HC := Lib.hid (fun wx (h : Below w.heap.size w wx) => by
    have := Check_any x vs VA vm o a wi pa wx (hL.below h) (hV.below h) (hO.below h)
    rw [hr1] at this
    exact this)
  have HC2 := Lib.hid (fun wx (ws : List Vr) (A : Option Addr) (c : Nat) (h : Below w.heap.size w wx) (hw : VarsR wx ws A) (he : ws.map (·.u) = vs.map (·.u)) => by
    have := Check_any s ws A (ws.length + c) o a i1 j1 wx (hL.below h) hw (hO.below h)
    rw [he, hr1] at this
    exact this)
  clear hL hO hr1
  obtain ⟨s0, s1, s2, s3, s4, s5, s6, s7, s8⟩ := cells9 HX.out
  have hx := blkLt HX.out
  cases hf : fewM vs.length x.size o with
  | false =>
    rw [hf] at HFew
    clear hf hV HC HC2
    generalize vs.length = vn at *
    go_enter Tryd.func7, Tryd.ntmps7
    go_wp2_with (first
      | (go_at_call 8; refine (head_any _ (HL.out.below HB.out)).mono ?_; rintro e wn ⟨rfl, hbn⟩; have HX := Lib.hid ((hbn.block _ (by have := blkLt HX.out; simp; try omega)).trans HX.out); have HB := Lib.hid (HB.out.trans (hbn.mono HB.out.size)); clear s0 s1 s2 s3 s4 s5 s6 s7 s8 hx; obtain ⟨s0, s1, s2, s3, s4, s5, s6, s7, s8⟩ := cells9 HX.out; have hx := blkLt HX.out; clear hbn)
      | (go_at_call 9; refine (HFew.out _ HB.out).mono ?_; rintro e wn ⟨rfl, hbn⟩; have HX := Lib.hid ((hbn.block _ (by have := blkLt HX.out; simp; try omega)).trans HX.out); have HB := Lib.hid (HB.out.trans (hbn.mono HB.out.size)); clear s0 s1 s2 s3 s4 s5 s6 s7 s8 hx; obtain ⟨s0, s1, s2, s3, s4, s5, s6, s7, s8⟩ := cells9 HX.out; have hx := blkLt HX.out; clear hbn))
    go_ret
    exact ⟨rfl, HB.out⟩
  | true =>
    rw [hf] at HFew
    have hv30 : vs.length ≤ 30 := by simp [fewM] at hf; omega
    clear hf hV
    obtain ⟨i0, hi, hz0, hz1, hz2⟩ := info_parts vrInfo
    go_enter Tryd.func7, Tryd.ntmps7
    go_wp2_with (first
      | (go_at_call 8; refine (head_any _ (HL.out.below HB.out)).mono ?_; rintro e wn ⟨rfl, hbn⟩; have HX := Lib.hid ((hbn.block _ (by have := blkLt HX.out; simp; try omega)).trans HX.out); have HB := Lib.hid (HB.out.trans (hbn.mono HB.out.size)); clear s0 s1 s2 s3 s4 s5 s6 s7 s8 hx; obtain ⟨s0, s1, s2, s3, s4, s5, s6, s7, s8⟩ := cells9 HX.out; have hx := blkLt HX.out; clear hbn)
      | (go_at_call 9; refine (HFew.out _ HB.out).mono ?_; rintro e wn ⟨rfl, hbn⟩; have HX := Lib.hid ((hbn.block _ (by have := blkLt HX.out; simp; try omega)).trans HX.out); have HB := Lib.hid (HB.out.trans (hbn.mono HB.out.size)); clear s0 s1 s2 s3 s4 s5 s6 s7 s8 hx; obtain ⟨s0, s1, s2, s3, s4, s5, s6, s7, s8⟩ := cells9 HX.out; have hx := blkLt HX.out; clear hbn))
    go_loopg [14] (vs.length) (fun gk i wr => ∃ (k : Nat) (v : Value) (acc : List Vr), k + gk = vs.length ∧ i = .int .i64 k ∧ acc.length = k ∧ acc.map (·.u) = (vs.take k).map (·.u) ∧ Hid (wr.heap[wn.heap.size]? = some (.cells (onArr s v o a i1 j1) 26 (0, 0))) ∧
      Hid (wr.ownsRow (wn.heap.size + 1) 50 5 v acc.length (vsCells acc)) ∧ Hid (Below w.heap.size w wr) ∧ Hid (wr.heap[w.heap.size]? = some (.cells (pgArr x VA vs.length vm o a wi pa) 26 (0, 0))))
    case atStart => exact ⟨0, .slice none 0 0, [], by omega, rfl, rfl, rfl, Lib.hid (newBlk _ _ _ rfl), Lib.hid (World.ownsRow_nil _ _ _ _), Lib.hid (bAlloc HB.out), Lib.hid ((Below.heap_alloc _ _ _ hx).trans HX.out)⟩
    case round =>
      obtain ⟨k, v, acc, hk, rfl, hacc, hu, hO1, hOw, hW, hXr⟩ := hrel
      subst hacc
      clear HX HB s0 s1 s2 s3 s4 s5 s6 s7 s8
      obtain ⟨s0, s1, s2, s3, s4, s5, s6, s7, s8⟩ := cells9 hXr.out
      obtain ⟨t0, t1, t2, t3, t4, t5, t6, t7, t8⟩ := cells9 hO1.out
      have hxr := blkLt hXr.out
      have hor := blkLt hO1.out
      by_cases hlt : acc.length < vs.length
      · obtain ⟨g, rfl⟩ : ∃ g, gk = g + 1 := ⟨gk - 1, by omega⟩
        obtain ⟨ga, oa, rfl, hat⟩ := HV.out.addr (by omega)
        obtain ⟨q0, q1, -, -, -⟩ := hat _ _ (List.getElem?_eq_getElem hlt)
        have hga : ga < w.heap.size := World.block_lt_of_cell? _ _ q0
        have e1 : wr.cell? ⟨ga, oa + acc.length * 5 + 1, none⟩ = some (.int .i64 vs[acc.length].u) := (World.cell?_of_block (a := ⟨ga, oa + acc.length * 5 + 1, none⟩) (hW.out.block ga hga)).trans q1
        have hgr : ga < wr.heap.size := Nat.lt_of_lt_of_le hga hW.out.size
        have hu2 := take_snoc hlt
        rw [← hu] at hu2
        have hown := Lib.hid hOw.out
        have hol := hOw.out.lt
        have n1 : v.ownBlock ≠ some wn.heap.size := fun e => by have := (hol _ e).1; omega
        have n2 : v.ownBlock ≠ some w.heap.size := fun e => by have := (hol _ e).1; omega
        have n3 : v.ownBlock ≠ some ga := fun e => by have := (hol _ e).1; omega
        have i0' : (0 : Int) ≤ (acc.length : Int) := Int.natCast_nonneg _
        have i1' : (acc.length : Int) < (vs.length : Int) := by omega
        have m1 : ¬ w.heap.size = wn.heap.size := by omega
        have m2 : ¬ ga = wn.heap.size := by omega
        have m3 : ¬ wn.heap.size = w.heap.size := by omega
        have m4 : ¬ wn.heap.size = ga := by omega
        clear q0 q1 hat hOw
        generalize hvu : vs[acc.length].u = uu at *
        go_wp2_with fail
        go_region_law (refine step_append_lies _ (by rfl) _ _ _ (by rfl) (wn.heap.size + 1) 50 i0 _ 5 48 Tryd.underlying22 hi hz0 hz1 hz2 rfl (by omega) v acc.length (vsCells acc) (by rfl) (by (repeat with_reducible first | exact hown.out | apply World.ownsRow.drew | apply World.ownsRow.alloc)) ⟨wr.heap.size, 0, none⟩ 1 1 (vCells ⟨s, uu, i1, j1, k1⟩) (by rfl) (by rfl) (World.news_of_block (cs := vArr ⟨s, uu, i1, j1, k1⟩) (t := 50) (fr := (0, 0)) (heap_alloc_new _ _)) (vr_one _) (by omega) (by unfold maxLen; omega) (by omega) (by simp; omega) (wr.heap.size + 1) (by simp) ?_; intro gb cap w3 hown3 hgrow hat hlt3; have hO3 := Lib.hid ((hgrow.block _ (by simp; omega) (Ne.symm n1)).trans ((Below.heap_alloc _ _ _ hor).trans hO1.out)); have z1 := fz9 hO3.out; have c1 := (cells9 hO3.out).2.1)
        all_goals
          have hgr2 := gbAlloc (o := .cells (vArr ⟨s, uu, i1, j1, k1⟩) 50) (gbRefl wr v.ownBlock)
          have hg3 : wr.grownBy w3 v.ownBlock := gbTrans (gbDrew hgr2) hgrow
          have hX3 := (hg3.block w.heap.size hxr (Ne.symm n2)).trans hXr.out
          have hW3 := hW.out.trans (gbBelow (B := w.heap.size) hg3 hW.out.size (fun k e => by have := (hol _ e).1; omega))
          go_wp2_with fail
          go_roundg g
          case measure => omega
          case rel =>
            refine ⟨acc.length + 1, .slice (some ⟨gb, 0, none⟩) (acc.length + 1) cap, acc ++ [⟨s, uu, i1, j1, k1⟩], by omega, by go_num, by simp, by simp [hu2], Lib.hid (set9 hO3.out), ?_, Lib.hid (belowSet hW3 (by omega)), Lib.hid ((heap_setCell_other _ _ _ _ (by omega)).trans hX3)⟩
            rw [vsCells_snoc, List.length_append]
            exact Lib.hid (ownsRow_setCell_below hown3 (Nat.lt_succ_self _) _)
      · obtain ⟨A9, c9, rfl, hV9⟩ := own_vars hOw.out
        have hu9 : acc.map (·.u) = vs.map (·.u) := by rw [hu, List.take_of_length_le (by omega)]
        have HCb := Lib.hid (fun wx (h : Below wr.heap.size wr wx) => HC2.out wx acc A9 c9 (hW.out.trans (h.mono hW.out.size)) (hV9.below h) hu9)
        have HCa := Lib.hid (fun wx (h : Below wr.heap.size wr wx) => HC.out wx (hW.out.trans (h.mono hW.out.size)))
        have HBr := Lib.hid (Below.refl wr.heap.size wr)
        clear hOw hV9 hu9 hu HC HC2
        obtain ⟨ra, rb⟩ := r1
        go_wp2_with (first
          | (go_at_call_of 13 (Value.string x); refine (HCa.out _ HBr.out).mono ?_; rintro e w5 ⟨rfl, hb5⟩; have HBr := Lib.hid (HBr.out.trans (hb5.mono HBr.out.size)); have hO5 := Lib.hid ((HBr.out.block _ hor).trans hO1.out); clear t0 t1 t2 t3 t4 t5 t6 t7 t8; obtain ⟨t0, t1, t2, t3, t4, t5, t6, t7, t8⟩ := cells9 hO5.out; clear hb5)
          | (go_at_call_of 13 (Value.string s); refine (HCb.out _ HBr.out).mono ?_; rintro e w6 ⟨rfl, hb6⟩; have HBr := Lib.hid (HBr.out.trans (hb6.mono HBr.out.size)); clear hb6))
        go_ret
        exact ⟨ret_bl (by simp), hW.out.trans (HBr.out.mono hW.out.size)⟩
end Go.Proofs.YtmofclpheioepaaDoor
