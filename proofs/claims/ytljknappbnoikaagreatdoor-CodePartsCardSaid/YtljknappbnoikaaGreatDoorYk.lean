/- Texts of one proof: UyG. -/
import Derived.Test.YtljknappbnoikaaGreatDoorYi
import Derived.Test.YtljknappbnoikaaGreatDoorYj
set_option linter.unusedVariables false
set_option linter.unusedSimpArgs false
set_option maxRecDepth 100000
set_option maxHeartbeats 8000000
namespace Go.Proofs.YtljknappbnoikaaGreatDoor.U
open Go.RowKit
mutual
theorem exprR_any {vs : List Vr} {s : List Pw} (hc : scopeM (vs.map (·.u)) = some s) (VA : Option Addr) (vm : Nat) : ∀ t : Ex, ExRC vs s VA vm t
 | .mk k x m kids => exprR_step hc VA vm (.mk k x m kids) (exprR_all hc VA vm kids)
theorem exprR_all {vs : List Vr} {s : List Pw} (hc : scopeM (vs.map (·.u)) = some s) (VA : Option Addr) (vm : Nat) : ∀ (ts : List Ex), ∀ u ∈ ts, ExRC vs s VA vm u
 | [], u, hu => by cases hu
 | e :: ts, u, hu => by
  rcases List.mem_cons.1 hu with h | h
  ·rw [h]; exact exprR_any hc VA vm e
  ·exact exprR_all hc VA vm ts u h
end
theorem scope_at {vs : List Vr} {s : List Pw} (hc : scopeM (vs.map (·.u)) = some s) {j : Nat} (hj : j < vs.length) : s.getD j ⟨0, 0, 0⟩ = kindP vs[j].u ∧ ofM vs[j].u = (kindP vs[j].u, 0) ∧ s.length = vs.length := by
 obtain ⟨-, -, rfl⟩ := scopeM_rg hc
 refine ⟨by simp [List.getD_eq_getElem?_getD, hj], ?_, by simp⟩
 unfold scopeM at hc
 split at hc
 ·rename_i h
  have := List.all_eq_true.1 h.2 vs[j].u (List.mem_map.2 ⟨vs[j], List.getElem_mem hj, rfl⟩)
  unfold ofM
  rw [if_pos this]
 ·simp at hc
theorem stmt_assign (vs : List Vr) (s : List Pw) (hc : scopeM (vs.map (·.u)) = some s) (VA : Option Addr) (vm : Nat) (v r : Int) (a b : Ex) (A B T E : Option Addr) (c d tl m el n : Nat) (w : World) (hV : VarsR w vs VA) (hA : KidsE w a.kids A) (hsz : a.size ≤ 60) :
  Calls Tryz.prog 82 #[.slice VA vs.length vm, .agg #[.int .i64 1, .int .i64 v, .int .i64 r, .int .i64 a.op, .int .i64 a.n, .int .i64 a.unit, .slice A a.kids.length (a.kids.length + c), .int .i64 b.op, .int .i64 b.n, .int .i64 b.unit, .slice B b.kids.length (b.kids.length + d), .slice T tl m, .slice E el n]] w (VV (.int .i64 (assignM s v a)) w) := by
 obtain ⟨W1, hW1⟩ : ∃ W1, W1 = w.alloc (.cells #[.int .i64 1, .int .i64 v, .int .i64 r, .int .i64 a.op, .int .i64 a.n, .int .i64 a.unit, .slice A a.kids.length (a.kids.length + c), .int .i64 b.op, .int .i64 b.n, .int .i64 b.unit, .slice B b.kids.length (b.kids.length + d), .slice T tl m, .slice E el n] 69) := ⟨_, rfl⟩
 have HW : Hid (Below w.heap.size w W1) := Lib.hid (by rw [hW1]; exact bAlloc (Below.refl _ _))
 have HX0 : Hid (W1.heap[w.heap.size]? = some (.cells #[.int .i64 1, .int .i64 v, .int .i64 r, .int .i64 a.op, .int .i64 a.n, .int .i64 a.unit, .slice A a.kids.length (a.kids.length + c), .int .i64 b.op, .int .i64 b.n, .int .i64 b.unit, .slice B b.kids.length (b.kids.length + d), .slice T tl m, .slice E el n] 69 (0, 0))) := Lib.hid (by rw [hW1]; exact newBlk _ _ _ rfl)
 have HB : Hid (Below W1.heap.size W1 W1) := Lib.hid (Below.refl _ _)
 have xlt := blkLt HX0.out
 obtain ⟨x0, x1, x2, x3, x4, x5, x6, x7, x8, x9, x10, x11, x12⟩ := cells13 HX0.out
 have hx := xlt
 have HA0 := Lib.hid (fun wx (h : Below W1.heap.size W1 wx) => exprR_any hc VA vm a wx A c (hV.below (HW.out.trans (h.mono HW.out.size))) (hA.below (HW.out.trans (h.mono HW.out.size))) (by omega))
 obtain ⟨r9, hr9⟩ : ∃ r9, assignM s v a = r9 := ⟨_, rfl⟩
 rw [hr9]
 unfold assignM at hr9
 have hsl : s.length = vs.length := by obtain ⟨-, -, rfl⟩ := scopeM_rg hc; simp
 by_cases h0 : v < 0
 ·rw [if_neg (by rw [btw_iff]; omega)] at hr9
  subst hr9
  clear hV hA hc HA0
  generalize vs.length = vn at *
  go_enter Tryz.func82, Tryz.ntmps82
  go_upto_region 1 with fail
  rw [← hW1]
  clear hW1
  go_wp2_with (first
   | (go_at_call_of 99 (Value.slice A a.kids.length (a.kids.length + c)); refine (HA.out _ ?_).mono ?_; (repeat with_reducible first | exact HB.out | apply bDrew | apply bAlloc); rintro e w2 ⟨rfl, hb2⟩; have HB := Lib.hid (bCall (by (repeat with_reducible first | exact HB.out | apply bDrew | apply bAlloc)) hb2); have HX := Lib.hid ((HB.out.block _ xlt).trans HX0.out); clear x0 x1 x2 x3 x4 x5 x6 x7 x8 x9 x10 x11 x12 hx; obtain ⟨x0, x1, x2, x3, x4, x5, x6, x7, x8, x9, x10, x11, x12⟩ := cells13 HX.out; have hx := blkLt HX.out; clear hb2 HX))
  go_ret
  exact ⟨ret_v (by rfl), bCall HW.out (by (repeat with_reducible first | exact HB.out | apply bDrew | apply bAlloc))⟩
 ·by_cases h1 : (vs.length : Int) ≤ v
  ·rw [if_neg (by rw [btw_iff]; omega)] at hr9
   subst hr9
   have d1 : decide (v ≥ (vs.length : Int)) = true := by simp; omega
   clear hV hA hc HA0
   generalize vs.length = vn at *
   go_enter Tryz.func82, Tryz.ntmps82
   go_upto_region 1 with fail
   rw [← hW1]
   clear hW1
   go_wp2_with (first
    | (go_at_call_of 99 (Value.slice A a.kids.length (a.kids.length + c)); refine (HA.out _ ?_).mono ?_; (repeat with_reducible first | exact HB.out | apply bDrew | apply bAlloc); rintro e w2 ⟨rfl, hb2⟩; have HB := Lib.hid (bCall (by (repeat with_reducible first | exact HB.out | apply bDrew | apply bAlloc)) hb2); have HX := Lib.hid ((HB.out.block _ xlt).trans HX0.out); clear x0 x1 x2 x3 x4 x5 x6 x7 x8 x9 x10 x11 x12 hx; obtain ⟨x0, x1, x2, x3, x4, x5, x6, x7, x8, x9, x10, x11, x12⟩ := cells13 HX.out; have hx := blkLt HX.out; clear hb2 HX))
   go_ret
   exact ⟨ret_v (by rfl), bCall HW.out (by (repeat with_reducible first | exact HB.out | apply bDrew | apply bAlloc))⟩
  ·rw [if_pos (by rw [btw_iff]; omega)] at hr9
   obtain ⟨j, rfl⟩ : ∃ j : Nat, v = j := ⟨v.toNat, by omega⟩
   have hj : j < vs.length := by omega
   have d1 : decide ((j : Int) ≥ (vs.length : Int)) = false := by simp; omega
   have d0 : decide ((j : Int) < 0) = false := by simp
   have i0 : (0 : Int) ≤ (j : Int) := Int.natCast_nonneg _
   have i1 : (j : Int) < (vs.length : Int) := by omega
   obtain ⟨hs1, hs2, -⟩ := scope_at hc hj
   obtain ⟨g2, o2, rfl, hat⟩ := hV.addr (by omega)
   have hk2 := (hat j _ (List.getElem?_eq_getElem hj)).2.1
   have hg2 : g2 < w.heap.size := World.block_lt_of_cell? _ _ hk2
   have HK2 := Lib.hid (fun wx (h : Below W1.heap.size W1 wx) => (World.cell?_of_block (a := ⟨g2, o2 + j * 5 + 1, none⟩) ((HW.out.trans (h.mono HW.out.size)).block g2 hg2)).trans hk2)
   have HO := Lib.hid (OfR_any vs[j].u)
   rw [hs2] at HO
   rw [Int.toNat_natCast, hs1] at hr9
   generalize vs[j].u = ku at *
   generalize kindP ku = q at *
   have kk := HK2.out W1 (Below.refl _ _)
   have hgw : g2 < W1.heap.size := Nat.lt_of_lt_of_le hg2 HW.out.size
   rcases hi : inf s a with ea | p
   ·have hne := inf_err a hi
    rw [hi] at hr9 HA0
    have HA : Hid (∀ wx, Below W1.heap.size W1 wx → Calls Tryz.prog 99 #[.slice (some ⟨g2, o2, none⟩) vs.length vm, ev a A c] wx (VV (.tuple #[pv ⟨0, 0, 0⟩, .int .i64 ea]) wx)) := HA0
    simp only at hr9
    subst hr9
    have hen : (ea != 0) = true := by rcases hne with rfl | rfl <;> rfl
    clear hV hA hc HA0 hat hi hne hs1 hs2
    generalize vs.length = vn at *
    go_enter Tryz.func82, Tryz.ntmps82
    go_upto_region 1 with fail
    rw [← hW1]
    clear hW1
    go_wp2_with (first
     | (go_at_call_of 99 (Value.slice A a.kids.length (a.kids.length + c)); refine (HA.out _ ?_).mono ?_; (repeat with_reducible first | exact HB.out | apply bDrew | apply bAlloc); rintro e w2 ⟨rfl, hb2⟩; have HB := Lib.hid (bCall (by (repeat with_reducible first | exact HB.out | apply bDrew | apply bAlloc)) hb2); have HX := Lib.hid ((HB.out.block _ xlt).trans HX0.out); clear x0 x1 x2 x3 x4 x5 x6 x7 x8 x9 x10 x11 x12 hx; obtain ⟨x0, x1, x2, x3, x4, x5, x6, x7, x8, x9, x10, x11, x12⟩ := cells13 HX.out; have hx := blkLt HX.out; clear hb2 HX))
    go_ret
    exact ⟨ret_v (by rfl), bCall HW.out (by (repeat with_reducible first | exact HB.out | apply bDrew | apply bAlloc))⟩
   ·rw [hi] at hr9 HA0
    have HA : Hid (∀ wx, Below W1.heap.size W1 wx → Calls Tryz.prog 99 #[.slice (some ⟨g2, o2, none⟩) vs.length vm, ev a A c] wx (VV (.tuple #[pv p, .int .i64 0]) wx)) := HA0
    simp only at hr9
    clear hV hA hc HA0 hat hi hs1 hs2
    generalize vs.length = vn at *
    by_cases hpq : p = q
    ·rw [if_pos hpq] at hr9
     subst hpq hr9
     have heq := fun w => run_u_sameE p w
     go_enter Tryz.func82, Tryz.ntmps82
     go_upto_region 1 with fail
     rw [← hW1]
     clear hW1
     go_wp2_with (first
      | (go_at_call_of 99 (Value.slice A a.kids.length (a.kids.length + c)); refine (HA.out _ ?_).mono ?_; (repeat with_reducible first | exact HB.out | apply bDrew | apply bAlloc); rintro e w2 ⟨rfl, hb2⟩; have HB := Lib.hid (bCall (by (repeat with_reducible first | exact HB.out | apply bDrew | apply bAlloc)) hb2); have HX := Lib.hid ((HB.out.block _ xlt).trans HX0.out); clear x0 x1 x2 x3 x4 x5 x6 x7 x8 x9 x10 x11 x12 hx; obtain ⟨x0, x1, x2, x3, x4, x5, x6, x7, x8, x9, x10, x11, x12⟩ := cells13 HX.out; have hx := blkLt HX.out; clear hb2 HX kk; have kk := HK2.out _ HB.out; have hgw := Nat.lt_of_lt_of_le hg2 (Nat.le_trans HW.out.size HB.out.size))
      | (go_at_call 66; refine (HO.out _).mono ?_; rintro e w3 ⟨rfl, hb2⟩; have HU := Lib.hid ((hb2.block _ (by simp)).trans (newBlk _ _ _ rfl)); have HB := Lib.hid (bCall (by (repeat with_reducible first | exact HB.out | apply bDrew | apply bAlloc)) hb2); obtain ⟨⟨u0, u1, u2⟩, -⟩ := cells3 HU.out; have hu := blkLt HU.out; have HX := Lib.hid ((HB.out.block _ xlt).trans HX0.out); clear x0 x1 x2 x3 x4 x5 x6 x7 x8 x9 x10 x11 x12 hx; obtain ⟨x0, x1, x2, x3, x4, x5, x6, x7, x8, x9, x10, x11, x12⟩ := cells13 HX.out; have hx := blkLt HX.out; clear hb2 HX))
     go_ret
     exact ⟨ret_v (by rfl), bCall HW.out (by (repeat with_reducible first | exact HB.out | apply bDrew | apply bAlloc))⟩
    ·rw [if_neg hpq] at hr9
     subst hr9
     by_cases ha : p.a = q.a
     ·by_cases hb : p.b = q.b
      ·have hcc : ¬ p.c = q.c := fun hcc => hpq (by obtain ⟨x, y, z⟩ := p; obtain ⟨x', y', z'⟩ := q; simp only at ha hb hcc; rw [ha, hb, hcc])
       clear hpq
       go_enter Tryz.func82, Tryz.ntmps82
       go_upto_region 1 with fail
       rw [← hW1]
       clear hW1
       go_wp2_with (first
        | (go_at_call_of 99 (Value.slice A a.kids.length (a.kids.length + c)); refine (HA.out _ ?_).mono ?_; (repeat with_reducible first | exact HB.out | apply bDrew | apply bAlloc); rintro e w2 ⟨rfl, hb2⟩; have HB := Lib.hid (bCall (by (repeat with_reducible first | exact HB.out | apply bDrew | apply bAlloc)) hb2); have HX := Lib.hid ((HB.out.block _ xlt).trans HX0.out); clear x0 x1 x2 x3 x4 x5 x6 x7 x8 x9 x10 x11 x12 hx; obtain ⟨x0, x1, x2, x3, x4, x5, x6, x7, x8, x9, x10, x11, x12⟩ := cells13 HX.out; have hx := blkLt HX.out; clear hb2 HX kk; have kk := HK2.out _ HB.out; have hgw := Nat.lt_of_lt_of_le hg2 (Nat.le_trans HW.out.size HB.out.size))
        | (go_at_call 66; refine (HO.out _).mono ?_; rintro e w3 ⟨rfl, hb2⟩; have HU := Lib.hid ((hb2.block _ (by simp)).trans (newBlk _ _ _ rfl)); have HB := Lib.hid (bCall (by (repeat with_reducible first | exact HB.out | apply bDrew | apply bAlloc)) hb2); obtain ⟨⟨u0, u1, u2⟩, -⟩ := cells3 HU.out; have hu := blkLt HU.out; have HX := Lib.hid ((HB.out.block _ xlt).trans HX0.out); clear x0 x1 x2 x3 x4 x5 x6 x7 x8 x9 x10 x11 x12 hx; obtain ⟨x0, x1, x2, x3, x4, x5, x6, x7, x8, x9, x10, x11, x12⟩ := cells13 HX.out; have hx := blkLt HX.out; clear hb2 HX))
       go_ret
       exact ⟨ret_v (by rfl), bCall HW.out (by (repeat with_reducible first | exact HB.out | apply bDrew | apply bAlloc))⟩
      ·clear hpq
       go_enter Tryz.func82, Tryz.ntmps82
       go_upto_region 1 with fail
       rw [← hW1]
       clear hW1
       go_wp2_with (first
        | (go_at_call_of 99 (Value.slice A a.kids.length (a.kids.length + c)); refine (HA.out _ ?_).mono ?_; (repeat with_reducible first | exact HB.out | apply bDrew | apply bAlloc); rintro e w2 ⟨rfl, hb2⟩; have HB := Lib.hid (bCall (by (repeat with_reducible first | exact HB.out | apply bDrew | apply bAlloc)) hb2); have HX := Lib.hid ((HB.out.block _ xlt).trans HX0.out); clear x0 x1 x2 x3 x4 x5 x6 x7 x8 x9 x10 x11 x12 hx; obtain ⟨x0, x1, x2, x3, x4, x5, x6, x7, x8, x9, x10, x11, x12⟩ := cells13 HX.out; have hx := blkLt HX.out; clear hb2 HX kk; have kk := HK2.out _ HB.out; have hgw := Nat.lt_of_lt_of_le hg2 (Nat.le_trans HW.out.size HB.out.size))
        | (go_at_call 66; refine (HO.out _).mono ?_; rintro e w3 ⟨rfl, hb2⟩; have HU := Lib.hid ((hb2.block _ (by simp)).trans (newBlk _ _ _ rfl)); have HB := Lib.hid (bCall (by (repeat with_reducible first | exact HB.out | apply bDrew | apply bAlloc)) hb2); obtain ⟨⟨u0, u1, u2⟩, -⟩ := cells3 HU.out; have hu := blkLt HU.out; have HX := Lib.hid ((HB.out.block _ xlt).trans HX0.out); clear x0 x1 x2 x3 x4 x5 x6 x7 x8 x9 x10 x11 x12 hx; obtain ⟨x0, x1, x2, x3, x4, x5, x6, x7, x8, x9, x10, x11, x12⟩ := cells13 HX.out; have hx := blkLt HX.out; clear hb2 HX))
       go_ret
       exact ⟨ret_v (by rfl), bCall HW.out (by (repeat with_reducible first | exact HB.out | apply bDrew | apply bAlloc))⟩
     ·clear hpq
      go_enter Tryz.func82, Tryz.ntmps82
      go_upto_region 1 with fail
      rw [← hW1]
      clear hW1
      go_wp2_with (first
       | (go_at_call_of 99 (Value.slice A a.kids.length (a.kids.length + c)); refine (HA.out _ ?_).mono ?_; (repeat with_reducible first | exact HB.out | apply bDrew | apply bAlloc); rintro e w2 ⟨rfl, hb2⟩; have HB := Lib.hid (bCall (by (repeat with_reducible first | exact HB.out | apply bDrew | apply bAlloc)) hb2); have HX := Lib.hid ((HB.out.block _ xlt).trans HX0.out); clear x0 x1 x2 x3 x4 x5 x6 x7 x8 x9 x10 x11 x12 hx; obtain ⟨x0, x1, x2, x3, x4, x5, x6, x7, x8, x9, x10, x11, x12⟩ := cells13 HX.out; have hx := blkLt HX.out; clear hb2 HX kk; have kk := HK2.out _ HB.out; have hgw := Nat.lt_of_lt_of_le hg2 (Nat.le_trans HW.out.size HB.out.size))
       | (go_at_call 66; refine (HO.out _).mono ?_; rintro e w3 ⟨rfl, hb2⟩; have HU := Lib.hid ((hb2.block _ (by simp)).trans (newBlk _ _ _ rfl)); have HB := Lib.hid (bCall (by (repeat with_reducible first | exact HB.out | apply bDrew | apply bAlloc)) hb2); obtain ⟨⟨u0, u1, u2⟩, -⟩ := cells3 HU.out; have hu := blkLt HU.out; have HX := Lib.hid ((HB.out.block _ xlt).trans HX0.out); clear x0 x1 x2 x3 x4 x5 x6 x7 x8 x9 x10 x11 x12 hx; obtain ⟨x0, x1, x2, x3, x4, x5, x6, x7, x8, x9, x10, x11, x12⟩ := cells13 HX.out; have hx := blkLt HX.out; clear hb2 HX))
      go_ret
      exact ⟨ret_v (by rfl), bCall HW.out (by (repeat with_reducible first | exact HB.out | apply bDrew | apply bAlloc))⟩
theorem stmt_if (vs : List Vr) (s : List Pw) (hc : scopeM (vs.map (·.u)) = some s) (VA : Option Addr) (vm : Nat) (v r : Int) (a b : Ex) (A B T E : Option Addr) (c d tl m el n : Nat) (w : World) (hV : VarsR w vs VA) (hA : KidsE w a.kids A) (hB : KidsE w b.kids B) (hsz : a.size ≤ 60) (hsb : b.size ≤ 60) (et ee : Int)
  (hT : ∀ wx, Below w.heap.size w wx → Calls Tryz.prog 69 #[.slice VA vs.length vm, .slice T tl m] wx (VV (.int .i64 et) wx)) (hE : ∀ wx, Below w.heap.size w wx → Calls Tryz.prog 69 #[.slice VA vs.length vm, .slice E el n] wx (VV (.int .i64 ee) wx)) :
  Calls Tryz.prog 82 #[.slice VA vs.length vm, .agg #[.int .i64 2, .int .i64 v, .int .i64 r, .int .i64 a.op, .int .i64 a.n, .int .i64 a.unit, .slice A a.kids.length (a.kids.length + c), .int .i64 b.op, .int .i64 b.n, .int .i64 b.unit, .slice B b.kids.length (b.kids.length + d), .slice T tl m, .slice E el n]] w (VV (.int .i64 (if btw r 1 6 = true then (if cmpM s a b = 0 then (if et = 0 then ee else et) else cmpM s a b) else 1)) w) := by
 obtain ⟨W1, hW1⟩ : ∃ W1, W1 = w.alloc (.cells #[.int .i64 2, .int .i64 v, .int .i64 r, .int .i64 a.op, .int .i64 a.n, .int .i64 a.unit, .slice A a.kids.length (a.kids.length + c), .int .i64 b.op, .int .i64 b.n, .int .i64 b.unit, .slice B b.kids.length (b.kids.length + d), .slice T tl m, .slice E el n] 69) := ⟨_, rfl⟩
 have HW : Hid (Below w.heap.size w W1) := Lib.hid (by rw [hW1]; exact bAlloc (Below.refl _ _))
 have HX0 : Hid (W1.heap[w.heap.size]? = some (.cells #[.int .i64 2, .int .i64 v, .int .i64 r, .int .i64 a.op, .int .i64 a.n, .int .i64 a.unit, .slice A a.kids.length (a.kids.length + c), .int .i64 b.op, .int .i64 b.n, .int .i64 b.unit, .slice B b.kids.length (b.kids.length + d), .slice T tl m, .slice E el n] 69 (0, 0))) := Lib.hid (by rw [hW1]; exact newBlk _ _ _ rfl)
 have HB : Hid (Below W1.heap.size W1 W1) := Lib.hid (Below.refl _ _)
 have xlt := blkLt HX0.out
 obtain ⟨x0, x1, x2, x3, x4, x5, x6, x7, x8, x9, x10, x11, x12⟩ := cells13 HX0.out
 have hx := xlt
 have HA0 := Lib.hid (fun wx (h : Below W1.heap.size W1 wx) => exprR_any hc VA vm a wx A c (hV.below (HW.out.trans (h.mono HW.out.size))) (hA.below (HW.out.trans (h.mono HW.out.size))) (by omega))
 have HB0 := Lib.hid (fun wx (h : Below W1.heap.size W1 wx) => exprR_any hc VA vm b wx B d (hV.below (HW.out.trans (h.mono HW.out.size))) (hB.below (HW.out.trans (h.mono HW.out.size))) (by omega))
 have HT := Lib.hid (fun wx (h : Below W1.heap.size W1 wx) => hT wx (HW.out.trans (h.mono HW.out.size)))
 have HE := Lib.hid (fun wx (h : Below W1.heap.size W1 wx) => hE wx (HW.out.trans (h.mono HW.out.size)))
 obtain ⟨r9, hr9⟩ : ∃ r9, (if btw r 1 6 = true then (if cmpM s a b = 0 then (if et = 0 then ee else et) else cmpM s a b) else 1) = r9 := ⟨_, rfl⟩
 rw [hr9]
 clear hV hA hB hT hE hc
 by_cases h0 : r < 1
 ·rw [if_neg (by rw [btw_iff]; omega)] at hr9
  subst hr9
  clear HA0 HB0 HT HE
  generalize vs.length = vn at *
  go_enter Tryz.func82, Tryz.ntmps82
  go_upto_region 1 with fail
  rw [← hW1]
  clear hW1
  go_wp2_with (first
   | (go_at_call_of 99 (Value.slice A a.kids.length (a.kids.length + c)); refine (HA.out _ ?_).mono ?_; (repeat with_reducible first | exact HB.out | apply bDrew | apply bAlloc); rintro e w2 ⟨rfl, hb2⟩; have HB := Lib.hid (bCall (by (repeat with_reducible first | exact HB.out | apply bDrew | apply bAlloc)) hb2); have HX := Lib.hid ((HB.out.block _ xlt).trans HX0.out); clear x0 x1 x2 x3 x4 x5 x6 x7 x8 x9 x10 x11 x12 hx; obtain ⟨x0, x1, x2, x3, x4, x5, x6, x7, x8, x9, x10, x11, x12⟩ := cells13 HX.out; have hx := blkLt HX.out; clear hb2 HX))
  go_ret
  exact ⟨ret_v (by rfl), bCall HW.out (by (repeat with_reducible first | exact HB.out | apply bDrew | apply bAlloc))⟩
 ·by_cases h1 : 6 < r
  ·rw [if_neg (by rw [btw_iff]; omega)] at hr9
   subst hr9
   have d1 : decide (r > 6) = true := by simp; omega
   clear HA0 HB0 HT HE
   generalize vs.length = vn at *
   go_enter Tryz.func82, Tryz.ntmps82
   go_upto_region 1 with fail
   rw [← hW1]
   clear hW1
   go_wp2_with (first
    | (go_at_call_of 99 (Value.slice A a.kids.length (a.kids.length + c)); refine (HA.out _ ?_).mono ?_; (repeat with_reducible first | exact HB.out | apply bDrew | apply bAlloc); rintro e w2 ⟨rfl, hb2⟩; have HB := Lib.hid (bCall (by (repeat with_reducible first | exact HB.out | apply bDrew | apply bAlloc)) hb2); have HX := Lib.hid ((HB.out.block _ xlt).trans HX0.out); clear x0 x1 x2 x3 x4 x5 x6 x7 x8 x9 x10 x11 x12 hx; obtain ⟨x0, x1, x2, x3, x4, x5, x6, x7, x8, x9, x10, x11, x12⟩ := cells13 HX.out; have hx := blkLt HX.out; clear hb2 HX))
   go_ret
   exact ⟨ret_v (by rfl), bCall HW.out (by (repeat with_reducible first | exact HB.out | apply bDrew | apply bAlloc))⟩
  ·rw [if_pos (by rw [btw_iff]; omega)] at hr9
   have d0 : decide (r < 1) = false := by simp; omega
   have d1 : decide (r > 6) = false := by simp; omega
   unfold cmpM at hr9
   rcases hi : inf s a with ea | p
   ·have hne := inf_err a hi
    rw [hi] at hr9 HA0
    have HA : Hid (∀ wx, Below W1.heap.size W1 wx → Calls Tryz.prog 99 #[.slice VA vs.length vm, ev a A c] wx (VV (.tuple #[pv ⟨0, 0, 0⟩, .int .i64 ea]) wx)) := HA0
    have hz : ¬ ea = 0 := by rcases hne with rfl | rfl <;> decide
    simp only [if_neg hz] at hr9
    subst hr9
    have hen : (ea != 0) = true := by rcases hne with rfl | rfl <;> rfl
    clear HA0 HB0 HT HE hi hne
    generalize vs.length = vn at *
    go_enter Tryz.func82, Tryz.ntmps82
    go_upto_region 1 with fail
    rw [← hW1]
    clear hW1
    go_wp2_with (first
     | (go_at_call_of 99 (Value.slice A a.kids.length (a.kids.length + c)); refine (HA.out _ ?_).mono ?_; (repeat with_reducible first | exact HB.out | apply bDrew | apply bAlloc); rintro e w2 ⟨rfl, hb2⟩; have HB := Lib.hid (bCall (by (repeat with_reducible first | exact HB.out | apply bDrew | apply bAlloc)) hb2); have HX := Lib.hid ((HB.out.block _ xlt).trans HX0.out); clear x0 x1 x2 x3 x4 x5 x6 x7 x8 x9 x10 x11 x12 hx; obtain ⟨x0, x1, x2, x3, x4, x5, x6, x7, x8, x9, x10, x11, x12⟩ := cells13 HX.out; have hx := blkLt HX.out; clear hb2 HX))
    go_ret
    exact ⟨ret_v (by rfl), bCall HW.out (by (repeat with_reducible first | exact HB.out | apply bDrew | apply bAlloc))⟩
   ·rw [hi] at hr9 HA0
    have HA : Hid (∀ wx, Below W1.heap.size W1 wx → Calls Tryz.prog 99 #[.slice VA vs.length vm, ev a A c] wx (VV (.tuple #[pv p, .int .i64 0]) wx)) := HA0
    simp only at hr9
    rcases hib : inf s b with eb | q
    ·have hne := inf_err b hib
     rw [hib] at hr9 HB0
     have HBb : Hid (∀ wx, Below W1.heap.size W1 wx → Calls Tryz.prog 99 #[.slice VA vs.length vm, ev b B d] wx (VV (.tuple #[pv ⟨0, 0, 0⟩, .int .i64 eb]) wx)) := HB0
     have hz : ¬ eb = 0 := by rcases hne with rfl | rfl <;> decide
     simp only [if_neg hz] at hr9
     subst hr9
     have hen : (eb != 0) = true := by rcases hne with rfl | rfl <;> rfl
     clear HA0 HB0 HT HE hi hib hne
     generalize vs.length = vn at *
     go_enter Tryz.func82, Tryz.ntmps82
     go_upto_region 1 with fail
     rw [← hW1]
     clear hW1
     go_wp2_with (first
      | (go_at_call_of 99 (Value.slice A a.kids.length (a.kids.length + c)); refine (HA.out _ ?_).mono ?_; (repeat with_reducible first | exact HB.out | apply bDrew | apply bAlloc); rintro e w2 ⟨rfl, hb2⟩; have HB := Lib.hid (bCall (by (repeat with_reducible first | exact HB.out | apply bDrew | apply bAlloc)) hb2); have HX := Lib.hid ((HB.out.block _ xlt).trans HX0.out); clear x0 x1 x2 x3 x4 x5 x6 x7 x8 x9 x10 x11 x12 hx; obtain ⟨x0, x1, x2, x3, x4, x5, x6, x7, x8, x9, x10, x11, x12⟩ := cells13 HX.out; have hx := blkLt HX.out; clear hb2 HX)
      | (go_at_call_of 99 (Value.slice B b.kids.length (b.kids.length + d)); refine (HBb.out _ ?_).mono ?_; (repeat with_reducible first | exact HB.out | apply bDrew | apply bAlloc); rintro e w3 ⟨rfl, hb2⟩; have HU := Lib.hid ((hb2.block _ (by simp)).trans (newBlk _ _ _ rfl)); have HB := Lib.hid (bCall (by (repeat with_reducible first | exact HB.out | apply bDrew | apply bAlloc)) hb2); obtain ⟨⟨u0, u1, u2⟩, -⟩ := cells3 HU.out; have hu := blkLt HU.out; have HX := Lib.hid ((HB.out.block _ xlt).trans HX0.out); clear x0 x1 x2 x3 x4 x5 x6 x7 x8 x9 x10 x11 x12 hx; obtain ⟨x0, x1, x2, x3, x4, x5, x6, x7, x8, x9, x10, x11, x12⟩ := cells13 HX.out; have hx := blkLt HX.out; clear hb2 HX))
     go_ret
     exact ⟨ret_v (by rfl), bCall HW.out (by (repeat with_reducible first | exact HB.out | apply bDrew | apply bAlloc))⟩
    ·rw [hib] at hr9 HB0
     have HBb : Hid (∀ wx, Below W1.heap.size W1 wx → Calls Tryz.prog 99 #[.slice VA vs.length vm, ev b B d] wx (VV (.tuple #[pv q, .int .i64 0]) wx)) := HB0
     simp only at hr9
     clear HA0 HB0 hi hib
     generalize vs.length = vn at *
     by_cases hpq : p = q
     ·rw [if_pos hpq] at hr9
      subst hpq
      have heq := fun w => run_u_sameE p w
      simp only [if_pos] at hr9
      by_cases ht : et = 0
      ·rw [if_pos ht] at hr9
       subst ht hr9
       go_enter Tryz.func82, Tryz.ntmps82
       go_upto_region 1 with fail
       rw [← hW1]
       clear hW1
       go_wp2_with (first
        | (go_at_call_of 99 (Value.slice A a.kids.length (a.kids.length + c)); refine (HA.out _ ?_).mono ?_; (repeat with_reducible first | exact HB.out | apply bDrew | apply bAlloc); rintro e w2 ⟨rfl, hb2⟩; have HB := Lib.hid (bCall (by (repeat with_reducible first | exact HB.out | apply bDrew | apply bAlloc)) hb2); have HX := Lib.hid ((HB.out.block _ xlt).trans HX0.out); clear x0 x1 x2 x3 x4 x5 x6 x7 x8 x9 x10 x11 x12 hx; obtain ⟨x0, x1, x2, x3, x4, x5, x6, x7, x8, x9, x10, x11, x12⟩ := cells13 HX.out; have hx := blkLt HX.out; clear hb2 HX)
        | (go_at_call_of 99 (Value.slice B b.kids.length (b.kids.length + d)); refine (HBb.out _ ?_).mono ?_; (repeat with_reducible first | exact HB.out | apply bDrew | apply bAlloc); rintro e w3 ⟨rfl, hb2⟩; have HU := Lib.hid ((hb2.block _ (by simp)).trans (newBlk _ _ _ rfl)); have HB := Lib.hid (bCall (by (repeat with_reducible first | exact HB.out | apply bDrew | apply bAlloc)) hb2); obtain ⟨⟨u0, u1, u2⟩, -⟩ := cells3 HU.out; have hu := blkLt HU.out; have HX := Lib.hid ((HB.out.block _ xlt).trans HX0.out); clear x0 x1 x2 x3 x4 x5 x6 x7 x8 x9 x10 x11 x12 hx; obtain ⟨x0, x1, x2, x3, x4, x5, x6, x7, x8, x9, x10, x11, x12⟩ := cells13 HX.out; have hx := blkLt HX.out; clear hb2 HX)
        | (go_at_call_of 69 (Value.slice T tl m); refine (HT.out _ ?_).mono ?_; (repeat with_reducible first | exact HB.out | apply bDrew | apply bAlloc); rintro e w4 ⟨rfl, hb2⟩; have HB := Lib.hid (bCall (by (repeat with_reducible first | exact HB.out | apply bDrew | apply bAlloc)) hb2); have HX := Lib.hid ((HB.out.block _ xlt).trans HX0.out); clear x0 x1 x2 x3 x4 x5 x6 x7 x8 x9 x10 x11 x12 hx; obtain ⟨x0, x1, x2, x3, x4, x5, x6, x7, x8, x9, x10, x11, x12⟩ := cells13 HX.out; have hx := blkLt HX.out; clear hb2 HX)
        | (go_at_call_of 69 (Value.slice E el n); refine (HE.out _ ?_).mono ?_; (repeat with_reducible first | exact HB.out | apply bDrew | apply bAlloc); rintro e w5 ⟨rfl, hb2⟩; have HB := Lib.hid (bCall (by (repeat with_reducible first | exact HB.out | apply bDrew | apply bAlloc)) hb2); clear hb2))
       go_ret
       exact ⟨ret_v (by rfl), bCall HW.out (by (repeat with_reducible first | exact HB.out | apply bDrew | apply bAlloc))⟩
      ·rw [if_neg ht] at hr9
       subst hr9
       have hen : (et != 0) = true := by simp [ht]
       go_enter Tryz.func82, Tryz.ntmps82
       go_upto_region 1 with fail
       rw [← hW1]
       clear hW1
       go_wp2_with (first
        | (go_at_call_of 99 (Value.slice A a.kids.length (a.kids.length + c)); refine (HA.out _ ?_).mono ?_; (repeat with_reducible first | exact HB.out | apply bDrew | apply bAlloc); rintro e w2 ⟨rfl, hb2⟩; have HB := Lib.hid (bCall (by (repeat with_reducible first | exact HB.out | apply bDrew | apply bAlloc)) hb2); have HX := Lib.hid ((HB.out.block _ xlt).trans HX0.out); clear x0 x1 x2 x3 x4 x5 x6 x7 x8 x9 x10 x11 x12 hx; obtain ⟨x0, x1, x2, x3, x4, x5, x6, x7, x8, x9, x10, x11, x12⟩ := cells13 HX.out; have hx := blkLt HX.out; clear hb2 HX)
        | (go_at_call_of 99 (Value.slice B b.kids.length (b.kids.length + d)); refine (HBb.out _ ?_).mono ?_; (repeat with_reducible first | exact HB.out | apply bDrew | apply bAlloc); rintro e w3 ⟨rfl, hb2⟩; have HU := Lib.hid ((hb2.block _ (by simp)).trans (newBlk _ _ _ rfl)); have HB := Lib.hid (bCall (by (repeat with_reducible first | exact HB.out | apply bDrew | apply bAlloc)) hb2); obtain ⟨⟨u0, u1, u2⟩, -⟩ := cells3 HU.out; have hu := blkLt HU.out; have HX := Lib.hid ((HB.out.block _ xlt).trans HX0.out); clear x0 x1 x2 x3 x4 x5 x6 x7 x8 x9 x10 x11 x12 hx; obtain ⟨x0, x1, x2, x3, x4, x5, x6, x7, x8, x9, x10, x11, x12⟩ := cells13 HX.out; have hx := blkLt HX.out; clear hb2 HX)
        | (go_at_call_of 69 (Value.slice T tl m); refine (HT.out _ ?_).mono ?_; (repeat with_reducible first | exact HB.out | apply bDrew | apply bAlloc); rintro e w4 ⟨rfl, hb2⟩; have HB := Lib.hid (bCall (by (repeat with_reducible first | exact HB.out | apply bDrew | apply bAlloc)) hb2); have HX := Lib.hid ((HB.out.block _ xlt).trans HX0.out); clear x0 x1 x2 x3 x4 x5 x6 x7 x8 x9 x10 x11 x12 hx; obtain ⟨x0, x1, x2, x3, x4, x5, x6, x7, x8, x9, x10, x11, x12⟩ := cells13 HX.out; have hx := blkLt HX.out; clear hb2 HX)
        | (go_at_call_of 69 (Value.slice E el n); refine (HE.out _ ?_).mono ?_; (repeat with_reducible first | exact HB.out | apply bDrew | apply bAlloc); rintro e w5 ⟨rfl, hb2⟩; have HB := Lib.hid (bCall (by (repeat with_reducible first | exact HB.out | apply bDrew | apply bAlloc)) hb2); clear hb2))
       go_ret
       exact ⟨ret_v (by rfl), bCall HW.out (by (repeat with_reducible first | exact HB.out | apply bDrew | apply bAlloc))⟩
     ·rw [if_neg hpq] at hr9
      simp only [if_neg (show ¬ (13 : Int) = 0 by decide)] at hr9
      subst hr9
      by_cases ha : p.a = q.a
      ·by_cases hb : p.b = q.b
       ·have hcc : ¬ p.c = q.c := fun hcc => hpq (by obtain ⟨x, y, z⟩ := p; obtain ⟨x', y', z'⟩ := q; simp only at ha hb hcc; rw [ha, hb, hcc])
        clear hpq
        go_enter Tryz.func82, Tryz.ntmps82
        go_upto_region 1 with fail
        rw [← hW1]
        clear hW1
        go_wp2_with (first
         | (go_at_call_of 99 (Value.slice A a.kids.length (a.kids.length + c)); refine (HA.out _ ?_).mono ?_; (repeat with_reducible first | exact HB.out | apply bDrew | apply bAlloc); rintro e w2 ⟨rfl, hb2⟩; have HB := Lib.hid (bCall (by (repeat with_reducible first | exact HB.out | apply bDrew | apply bAlloc)) hb2); have HX := Lib.hid ((HB.out.block _ xlt).trans HX0.out); clear x0 x1 x2 x3 x4 x5 x6 x7 x8 x9 x10 x11 x12 hx; obtain ⟨x0, x1, x2, x3, x4, x5, x6, x7, x8, x9, x10, x11, x12⟩ := cells13 HX.out; have hx := blkLt HX.out; clear hb2 HX)
         | (go_at_call_of 99 (Value.slice B b.kids.length (b.kids.length + d)); refine (HBb.out _ ?_).mono ?_; (repeat with_reducible first | exact HB.out | apply bDrew | apply bAlloc); rintro e w3 ⟨rfl, hb2⟩; have HU := Lib.hid ((hb2.block _ (by simp)).trans (newBlk _ _ _ rfl)); have HB := Lib.hid (bCall (by (repeat with_reducible first | exact HB.out | apply bDrew | apply bAlloc)) hb2); obtain ⟨⟨u0, u1, u2⟩, -⟩ := cells3 HU.out; have hu := blkLt HU.out; have HX := Lib.hid ((HB.out.block _ xlt).trans HX0.out); clear x0 x1 x2 x3 x4 x5 x6 x7 x8 x9 x10 x11 x12 hx; obtain ⟨x0, x1, x2, x3, x4, x5, x6, x7, x8, x9, x10, x11, x12⟩ := cells13 HX.out; have hx := blkLt HX.out; clear hb2 HX))
        go_ret
        exact ⟨ret_v (by rfl), bCall HW.out (by (repeat with_reducible first | exact HB.out | apply bDrew | apply bAlloc))⟩
       ·clear hpq
        go_enter Tryz.func82, Tryz.ntmps82
        go_upto_region 1 with fail
        rw [← hW1]
        clear hW1
        go_wp2_with (first
         | (go_at_call_of 99 (Value.slice A a.kids.length (a.kids.length + c)); refine (HA.out _ ?_).mono ?_; (repeat with_reducible first | exact HB.out | apply bDrew | apply bAlloc); rintro e w2 ⟨rfl, hb2⟩; have HB := Lib.hid (bCall (by (repeat with_reducible first | exact HB.out | apply bDrew | apply bAlloc)) hb2); have HX := Lib.hid ((HB.out.block _ xlt).trans HX0.out); clear x0 x1 x2 x3 x4 x5 x6 x7 x8 x9 x10 x11 x12 hx; obtain ⟨x0, x1, x2, x3, x4, x5, x6, x7, x8, x9, x10, x11, x12⟩ := cells13 HX.out; have hx := blkLt HX.out; clear hb2 HX)
         | (go_at_call_of 99 (Value.slice B b.kids.length (b.kids.length + d)); refine (HBb.out _ ?_).mono ?_; (repeat with_reducible first | exact HB.out | apply bDrew | apply bAlloc); rintro e w3 ⟨rfl, hb2⟩; have HU := Lib.hid ((hb2.block _ (by simp)).trans (newBlk _ _ _ rfl)); have HB := Lib.hid (bCall (by (repeat with_reducible first | exact HB.out | apply bDrew | apply bAlloc)) hb2); obtain ⟨⟨u0, u1, u2⟩, -⟩ := cells3 HU.out; have hu := blkLt HU.out; have HX := Lib.hid ((HB.out.block _ xlt).trans HX0.out); clear x0 x1 x2 x3 x4 x5 x6 x7 x8 x9 x10 x11 x12 hx; obtain ⟨x0, x1, x2, x3, x4, x5, x6, x7, x8, x9, x10, x11, x12⟩ := cells13 HX.out; have hx := blkLt HX.out; clear hb2 HX))
        go_ret
        exact ⟨ret_v (by rfl), bCall HW.out (by (repeat with_reducible first | exact HB.out | apply bDrew | apply bAlloc))⟩
      ·clear hpq
       go_enter Tryz.func82, Tryz.ntmps82
       go_upto_region 1 with fail
       rw [← hW1]
       clear hW1
       go_wp2_with (first
        | (go_at_call_of 99 (Value.slice A a.kids.length (a.kids.length + c)); refine (HA.out _ ?_).mono ?_; (repeat with_reducible first | exact HB.out | apply bDrew | apply bAlloc); rintro e w2 ⟨rfl, hb2⟩; have HB := Lib.hid (bCall (by (repeat with_reducible first | exact HB.out | apply bDrew | apply bAlloc)) hb2); have HX := Lib.hid ((HB.out.block _ xlt).trans HX0.out); clear x0 x1 x2 x3 x4 x5 x6 x7 x8 x9 x10 x11 x12 hx; obtain ⟨x0, x1, x2, x3, x4, x5, x6, x7, x8, x9, x10, x11, x12⟩ := cells13 HX.out; have hx := blkLt HX.out; clear hb2 HX)
        | (go_at_call_of 99 (Value.slice B b.kids.length (b.kids.length + d)); refine (HBb.out _ ?_).mono ?_; (repeat with_reducible first | exact HB.out | apply bDrew | apply bAlloc); rintro e w3 ⟨rfl, hb2⟩; have HU := Lib.hid ((hb2.block _ (by simp)).trans (newBlk _ _ _ rfl)); have HB := Lib.hid (bCall (by (repeat with_reducible first | exact HB.out | apply bDrew | apply bAlloc)) hb2); obtain ⟨⟨u0, u1, u2⟩, -⟩ := cells3 HU.out; have hu := blkLt HU.out; have HX := Lib.hid ((HB.out.block _ xlt).trans HX0.out); clear x0 x1 x2 x3 x4 x5 x6 x7 x8 x9 x10 x11 x12 hx; obtain ⟨x0, x1, x2, x3, x4, x5, x6, x7, x8, x9, x10, x11, x12⟩ := cells13 HX.out; have hx := blkLt HX.out; clear hb2 HX))
       go_ret
       exact ⟨ret_v (by rfl), bCall HW.out (by (repeat with_reducible first | exact HB.out | apply bDrew | apply bAlloc))⟩
theorem stmt_other (vs : List Vr) (s : List Pw) (hc : scopeM (vs.map (·.u)) = some s) (VA : Option Addr) (vm : Nat) (v r : Int) (a b : Ex) (A B T E : Option Addr) (c d tl m el n : Nat) (w : World) (k : Int) (h1 : ¬ k = 1) (h2 : ¬ k = 2) : Calls Tryz.prog 82 #[.slice VA vs.length vm, .agg #[.int .i64 k, .int .i64 v, .int .i64 r, .int .i64 a.op, .int .i64 a.n, .int .i64 a.unit, .slice A a.kids.length (a.kids.length + c), .int .i64 b.op, .int .i64 b.n, .int .i64 b.unit, .slice B b.kids.length (b.kids.length + d), .slice T tl m, .slice E el n]] w (VV (.int .i64 1) w) := by
 obtain ⟨W1, hW1⟩ : ∃ W1, W1 = w.alloc (.cells #[.int .i64 k, .int .i64 v, .int .i64 r, .int .i64 a.op, .int .i64 a.n, .int .i64 a.unit, .slice A a.kids.length (a.kids.length + c), .int .i64 b.op, .int .i64 b.n, .int .i64 b.unit, .slice B b.kids.length (b.kids.length + d), .slice T tl m, .slice E el n] 69) := ⟨_, rfl⟩
 have HW : Hid (Below w.heap.size w W1) := Lib.hid (by rw [hW1]; exact bAlloc (Below.refl _ _))
 have HX0 : Hid (W1.heap[w.heap.size]? = some (.cells #[.int .i64 k, .int .i64 v, .int .i64 r, .int .i64 a.op, .int .i64 a.n, .int .i64 a.unit, .slice A a.kids.length (a.kids.length + c), .int .i64 b.op, .int .i64 b.n, .int .i64 b.unit, .slice B b.kids.length (b.kids.length + d), .slice T tl m, .slice E el n] 69 (0, 0))) := Lib.hid (by rw [hW1]; exact newBlk _ _ _ rfl)
 have HB : Hid (Below W1.heap.size W1 W1) := Lib.hid (Below.refl _ _)
 have xlt := blkLt HX0.out
 obtain ⟨x0, x1, x2, x3, x4, x5, x6, x7, x8, x9, x10, x11, x12⟩ := cells13 HX0.out
 have hx := xlt
 have g1 : (k == 1) = false := by simp [h1]
 have g2 : (k == 2) = false := by simp [h2]
 go_enter Tryz.func82, Tryz.ntmps82
 go_upto_region 1 with fail
 rw [← hW1]
 clear hW1
 go_wp2_with fail
 go_ret
 exact ⟨ret_v (by rfl), bCall HW.out (by (repeat with_reducible first | exact HB.out | apply bDrew | apply bAlloc))⟩
end Go.Proofs.YtljknappbnoikaaGreatDoor.U
