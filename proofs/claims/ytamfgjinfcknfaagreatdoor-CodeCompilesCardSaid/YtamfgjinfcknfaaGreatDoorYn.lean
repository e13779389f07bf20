/- Texts of one proof: UyG, UyH. -/
import Derived.Test.YtamfgjinfcknfaaGreatDoorYe
import Derived.Test.YtamfgjinfcknfaaGreatDoorYa
import Derived.Deep.RegionHeld3
set_option linter.unusedVariables false
set_option linter.unusedSimpArgs false
set_option maxRecDepth 100000
set_option maxHeartbeats 8000000
namespace Go.Proofs.YtamfgjinfcknfaaGreatDoor.U
open Go.RowKit
mutual
theorem exprR_any {vs : List Vr} {s : List Pw} (hc : scopeM (vs.map (·.u)) = some s) (VA : Option Addr) (vm : Nat) : ∀ t : Ex, ExRC vs s VA vm t
 | .mk k x m kids => exprR_step hc VA vm (.mk k x m kids) (exprR_all hc VA vm kids)
theorem exprR_all {vs : List Vr} {s : List Pw} (hc : scopeM (vs.map (·.u)) = some s) (VA : Option Addr) (vm : Nat) : ∀ (ts : List Ex), ∀ u ∈ ts, ExRC vs s VA vm u
 | [], u, hu => by cases hu
 | e :: ts, u, hu => by
  rcases List.mem_cons.1 hu with h | h
  ·rw [h]; exact exprR_any hc VA vm e
  ·exact exprR_all hc VA vm ts u h
end
theorem scope_at {vs : List Vr} {s : List Pw} (hc : scopeM (vs.map (·.u)) = some s) {j : Nat} (hj : j < vs.length) : s.getD j ⟨0, 0, 0⟩ = kindP vs[j].u ∧ ofM vs[j].u = (kindP vs[j].u, 0) ∧ s.length = vs.length := by
 obtain ⟨-, -, rfl⟩ := scopeM_rg hc
 refine ⟨by simp [List.getD_eq_getElem?_getD, hj], ?_, by simp⟩
 unfold scopeM at hc
 split at hc
 ·rename_i h
  have := List.all_eq_true.1 h.2 vs[j].u (List.mem_map.2 ⟨vs[j], List.getElem_mem hj, rfl⟩)
  unfold ofM
  rw [if_pos this]
 ·simp at hc
theorem stmt_assign (vs : List Vr) (s : List Pw) (hc : scopeM (vs.map (·.u)) = some s) (VA : Option Addr) (vm : Nat) (v r : Int) (a b : Ex) (A B T E : Option Addr) (c d tl m el n : Nat) (w : World) (hV : VarsR w vs VA) (hA : KidsE w a.kids A) (hsz : a.size ≤ 60) :
  Calls Tryz.prog 73 #[.slice VA vs.length vm, .agg #[.int .i64 1, .int .i64 v, .int .i64 r, .int .i64 a.op, .int .i64 a.n, .int .i64 a.unit, .slice A a.kids.length (a.kids.length + c), .int .i64 b.op, .int .i64 b.n, .int .i64 b.unit, .slice B b.kids.length (b.kids.length + d), .slice T tl m, .slice E el n]] w (VV (.int .i64 (assignM s v a)) w) := by
 obtain ⟨W1, hW1⟩ : ∃ W1, W1 = w.alloc (.cells #[.int .i64 1, .int .i64 v, .int .i64 r, .int .i64 a.op, .int .i64 a.n, .int .i64 a.unit, .slice A a.kids.length (a.kids.length + c), .int .i64 b.op, .int .i64 b.n, .int .i64 b.unit, .slice B b.kids.length (b.kids.length + d), .slice T tl m, .slice E el n] 65) := ⟨_, rfl⟩
 have HW : Hid (Below w.heap.size w W1) := Lib.hid (by rw [hW1]; exact bAlloc (Below.refl _ _))
 have HX0 : Hid (W1.heap[w.heap.size]? = some (.cells #[.int .i64 1, .int .i64 v, .int .i64 r, .int .i64 a.op, .int .i64 a.n, .int .i64 a.unit, .slice A a.kids.length (a.kids.length + c), .int .i64 b.op, .int .i64 b.n, .int .i64 b.unit, .slice B b.kids.length (b.kids.length + d), .slice T tl m, .slice E el n] 65 (0, 0))) := Lib.hid (by rw [hW1]; exact newBlk _ _ _ rfl)
 have HB : Hid (Below W1.heap.size W1 W1) := Lib.hid (Below.refl _ _)
 have xlt := blkLt HX0.out
 obtain ⟨x0, x1, x2, x3, x4, x5, x6, x7, x8, x9, x10, x11, x12⟩ := cells13 HX0.out
 have hx := xlt
 have HA0 := Lib.hid (fun wx (h : Below W1.heap.size W1 wx) => exprR_any hc VA vm a wx A c (hV.below (HW.out.trans (h.mono HW.out.size))) (hA.below (HW.out.trans (h.mono HW.out.size))) (by omega))
 obtain ⟨r9, hr9⟩ : ∃ r9, assignM s v a = r9 := ⟨_, rfl⟩
 rw [hr9]
 unfold assignM at hr9
 have hsl : s.length = vs.length := by obtain ⟨-, -, rfl⟩ := scopeM_rg hc; simp
 by_cases h0 : v < 0
 ·rw [if_neg (by rw [btw_iff]; omega)] at hr9
  subst hr9
  clear hV hA hc HA0
  generalize vs.length = vn at *
  go_enter Tryz.func73, Tryz.ntmps73
  go_upto_region 1 with fail
  rw [← hW1]
  clear hW1
  go_wp2_with (first
   | (go_at_call_of 92 (Value.slice A a.kids.length (a.kids.length + c)); refine (HA.out _ ?_).mono ?_; (repeat with_reducible first | exact HB.out | apply bDrew | apply bAlloc); rintro e w2 ⟨rfl, hb2⟩; have HB := Lib.hid (bCall (by (repeat with_reducible first | exact HB.out | apply bDrew | apply bAlloc)) hb2); have HX := Lib.hid ((HB.out.block _ xlt).trans HX0.out); clear x0 x1 x2 x3 x4 x5 x6 x7 x8 x9 x10 x11 x12 hx; obtain ⟨x0, x1, x2, x3, x4, x5, x6, x7, x8, x9, x10, x11, x12⟩ := cells13 HX.out; have hx := blkLt HX.out; clear hb2 HX))
  go_ret
  exact ⟨ret_v (by rfl), bCall HW.out (by (repeat with_reducible first | exact HB.out | apply bDrew | apply bAlloc))⟩
 ·by_cases h1 : (vs.length : Int) ≤ v
  ·rw [if_neg (by rw [btw_iff]; omega)] at hr9
   subst hr9
   have d1 : decide (v ≥ (vs.length : Int)) = true := by simp; omega
   clear hV hA hc HA0
   generalize vs.length = vn at *
   go_enter Tryz.func73, Tryz.ntmps73
   go_upto_region 1 with fail
   rw [← hW1]
   clear hW1
   go_wp2_with (first
    | (go_at_call_of 92 (Value.slice A a.kids.length (a.kids.length + c)); refine (HA.out _ ?_).mono ?_; (repeat with_reducible first | exact HB.out | apply bDrew | apply bAlloc); rintro e w2 ⟨rfl, hb2⟩; have HB := Lib.hid (bCall (by (repeat with_reducible first | exact HB.out | apply bDrew | apply bAlloc)) hb2); have HX := Lib.hid ((HB.out.block _ xlt).trans HX0.out); clear x0 x1 x2 x3 x4 x5 x6 x7 x8 x9 x10 x11 x12 hx; obtain ⟨x0, x1, x2, x3, x4, x5, x6, x7, x8, x9, x10, x11, x12⟩ := cells13 HX.out; have hx := blkLt HX.out; clear hb2 HX))
   go_ret
   exact ⟨ret_v (by rfl), bCall HW.out (by (repeat with_reducible first | exact HB.out | apply bDrew | apply bAlloc))⟩
  ·rw [if_pos (by rw [btw_iff]; omega)] at hr9
   obtain ⟨j, rfl⟩ : ∃ j : Nat, v = j := ⟨v.toNat, by omega⟩
   have hj : j < vs.length := by omega
   have d1 : decide ((j : Int) ≥ (vs.length : Int)) = false := by simp; omega
   have d0 : decide ((j : Int) < 0) = false := by simp
   have i0 : (0 : Int) ≤ (j : Int) := Int.natCast_nonneg _
   have i1 : (j : Int) < (vs.length : Int) := by omega
   obtain ⟨hs1, hs2, -⟩ := scope_at hc hj
   obtain ⟨g2, o2, rfl, hat⟩ := hV.addr (by omega)
   have hk2 := (hat j _ (List.getElem?_eq_getElem hj)).2.1
   have hg2 : g2 < w.heap.size := World.block_lt_of_cell? _ _ hk2
   have HK2 := Lib.hid (fun wx (h : Below W1.heap.size W1 wx) => (World.cell?_of_block (a := ⟨g2, o2 + j * 5 + 1, none⟩) ((HW.out.trans (h.mono HW.out.size)).block g2 hg2)).trans hk2)
   have HO := Lib.hid (OfR_any vs[j].u)
   rw [hs2] at HO
   rw [Int.toNat_natCast, hs1] at hr9
   generalize vs[j].u = ku at *
   generalize kindP ku = q at *
   have kk := HK2.out W1 (Below.refl _ _)
   have hgw : g2 < W1.heap.size := Nat.lt_of_lt_of_le hg2 HW.out.size
   rcases hi : inf s a with ea | p
   ·have hne := inf_err a hi
    rw [hi] at hr9 HA0
    have HA : Hid (∀ wx, Below W1.heap.size W1 wx → Calls Tryz.prog 92 #[.slice (some ⟨g2, o2, none⟩) vs.length vm, ev a A c] wx (VV (.tuple #[pv ⟨0, 0, 0⟩, .int .i64 ea]) wx)) := HA0
    simp only at hr9
    subst hr9
    have hen : (ea != 0) = true := by rcases hne with rfl | rfl <;> rfl
    clear hV hA hc HA0 hat hi hne hs1 hs2
    generalize vs.length = vn at *
    go_enter Tryz.func73, Tryz.ntmps73
    go_upto_region 1 with fail
    rw [← hW1]
    clear hW1
    go_wp2_with (first
     | (go_at_call_of 92 (Value.slice A a.kids.length (a.kids.length + c)); refine (HA.out _ ?_).mono ?_; (repeat with_reducible first | exact HB.out | apply bDrew | apply bAlloc); rintro e w2 ⟨rfl, hb2⟩; have HB := Lib.hid (bCall (by (repeat with_reducible first | exact HB.out | apply bDrew | apply bAlloc)) hb2); have HX := Lib.hid ((HB.out.block _ xlt).trans HX0.out); clear x0 x1 x2 x3 x4 x5 x6 x7 x8 x9 x10 x11 x12 hx; obtain ⟨x0, x1, x2, x3, x4, x5, x6, x7, x8, x9, x10, x11, x12⟩ := cells13 HX.out; have hx := blkLt HX.out; clear hb2 HX))
    go_ret
    exact ⟨ret_v (by rfl), bCall HW.out (by (repeat with_reducible first | exact HB.out | apply bDrew | apply bAlloc))⟩
   ·rw [hi] at hr9 HA0
    have HA : Hid (∀ wx, Below W1.heap.size W1 wx → Calls Tryz.prog 92 #[.slice (some ⟨g2, o2, none⟩) vs.length vm, ev a A c] wx (VV (.tuple #[pv p, .int .i64 0]) wx)) := HA0
    simp only at hr9
    clear hV hA hc HA0 hat hi hs1 hs2
    generalize vs.length = vn at *
    by_cases hpq : p = q
    ·rw [if_pos hpq] at hr9
     subst hpq hr9
     have heq := fun w => run_u_sameE p w
     go_enter Tryz.func73, Tryz.ntmps73
     go_upto_region 1 with fail
     rw [← hW1]
     clear hW1
     go_wp2_with (first
      | (go_at_call_of 92 (Value.slice A a.kids.length (a.kids.length + c)); refine (HA.out _ ?_).mono ?_; (repeat with_reducible first | exact HB.out | apply bDrew | apply bAlloc); rintro e w2 ⟨rfl, hb2⟩; have HB := Lib.hid (bCall (by (repeat with_reducible first | exact HB.out | apply bDrew | apply bAlloc)) hb2); have HX := Lib.hid ((HB.out.block _ xlt).trans HX0.out); clear x0 x1 x2 x3 x4 x5 x6 x7 x8 x9 x10 x11 x12 hx; obtain ⟨x0, x1, x2, x3, x4, x5, x6, x7, x8, x9, x10, x11, x12⟩ := cells13 HX.out; have hx := blkLt HX.out; clear hb2 HX kk; have kk := HK2.out _ HB.out; have hgw := Nat.lt_of_lt_of_le hg2 (Nat.le_trans HW.out.size HB.out.size))
      | (go_at_call 58; refine (HO.out _).mono ?_; rintro e w3 ⟨rfl, hb2⟩; have HU := Lib.hid ((hb2.block _ (by simp)).trans (newBlk _ _ _ rfl)); have HB := Lib.hid (bCall (by (repeat with_reducible first | exact HB.out | apply bDrew | apply bAlloc)) hb2); obtain ⟨⟨u0, u1, u2⟩, -⟩ := cells3 HU.out; have hu := blkLt HU.out; have HX := Lib.hid ((HB.out.block _ xlt).trans HX0.out); clear x0 x1 x2 x3 x4 x5 x6 x7 x8 x9 x10 x11 x12 hx; obtain ⟨x0, x1, x2, x3, x4, x5, x6, x7, x8, x9, x10, x11, x12⟩ := cells13 HX.out; have hx := blkLt HX.out; clear hb2 HX))
     go_ret
     exact ⟨ret_v (by rfl), bCall HW.out (by (repeat with_reducible first | exact HB.out | apply bDrew | apply bAlloc))⟩
    ·rw [if_neg hpq] at hr9
     subst hr9
     by_cases ha : p.a = q.a
     ·by_cases hb : p.b = q.b
      ·have hcc : ¬ p.c = q.c := fun hcc => hpq (by obtain ⟨x, y, z⟩ := p; obtain ⟨x', y', z'⟩ := q; simp only at ha hb hcc; rw [ha, hb, hcc])
       clear hpq
       go_enter Tryz.func73, Tryz.ntmps73
       go_upto_region 1 with fail
       rw [← hW1]
       clear hW1
       go_wp2_with (first
        | (go_at_call_of 92 (Value.slice A a.kids.length (a.kids.length + c)); refine (HA.out _ ?_).mono ?_; (repeat with_reducible first | exact HB.out | apply bDrew | apply bAlloc); rintro e w2 ⟨rfl, hb2⟩; have HB := Lib.hid (bCall (by (repeat with_reducible first | exact HB.out | apply bDrew | apply bAlloc)) hb2); have HX := Lib.hid ((HB.out.block _ xlt).trans HX0.out); clear x0 x1 x2 x3 x4 x5 x6 x7 x8 x9 x10 x11 x12 hx; obtain ⟨x0, x1, x2, x3, x4, x5, x6, x7, x8, x9, x10, x11, x12⟩ := cells13 HX.out; have hx := blkLt HX.out; clear hb2 HX kk; have kk := HK2.out _ HB.out; have hgw := Nat.lt_of_lt_of_le hg2 (Nat.le_trans HW.out.size HB.out.size))
        | (go_at_call 58; refine (HO.out _).mono ?_; rintro e w3 ⟨rfl, hb2⟩; have HU := Lib.hid ((hb2.block _ (by simp)).trans (newBlk _ _ _ rfl)); have HB := Lib.hid (bCall (by (repeat with_reducible first | exact HB.out | apply bDrew | apply bAlloc)) hb2); obtain ⟨⟨u0, u1, u2⟩, -⟩ := cells3 HU.out; have hu := blkLt HU.out; have HX := Lib.hid ((HB.out.block _ xlt).trans HX0.out); clear x0 x1 x2 x3 x4 x5 x6 x7 x8 x9 x10 x11 x12 hx; obtain ⟨x0, x1, x2, x3, x4, x5, x6, x7, x8, x9, x10, x11, x12⟩ := cells13 HX.out; have hx := blkLt HX.out; clear hb2 HX))
       go_ret
       exact ⟨ret_v (by rfl), bCall HW.out (by (repeat with_reducible first | exact HB.out | apply bDrew | apply bAlloc))⟩
      ·clear hpq
       go_enter Tryz.func73, Tryz.ntmps73
       go_upto_region 1 with fail
       rw [← hW1]
       clear hW1
       go_wp2_with (first
        | (go_at_call_of 92 (Value.slice A a.kids.length (a.kids.length + c)); refine (HA.out _ ?_).mono ?_; (repeat with_reducible first | exact HB.out | apply bDrew | apply bAlloc); rintro e w2 ⟨rfl, hb2⟩; have HB := Lib.hid (bCall (by (repeat with_reducible first | exact HB.out | apply bDrew | apply bAlloc)) hb2); have HX := Lib.hid ((HB.out.block _ xlt).trans HX0.out); clear x0 x1 x2 x3 x4 x5 x6 x7 x8 x9 x10 x11 x12 hx; obtain ⟨x0, x1, x2, x3, x4, x5, x6, x7, x8, x9, x10, x11, x12⟩ := cells13 HX.out; have hx := blkLt HX.out; clear hb2 HX kk; have kk := HK2.out _ HB.out; have hgw := Nat.lt_of_lt_of_le hg2 (Nat.le_trans HW.out.size HB.out.size))
        | (go_at_call 58; refine (HO.out _).mono ?_; rintro e w3 ⟨rfl, hb2⟩; have HU := Lib.hid ((hb2.block _ (by simp)).trans (newBlk _ _ _ rfl)); have HB := Lib.hid (bCall (by (repeat with_reducible first | exact HB.out | apply bDrew | apply bAlloc)) hb2); obtain ⟨⟨u0, u1, u2⟩, -⟩ := cells3 HU.out; have hu := blkLt HU.out; have HX := Lib.hid ((HB.out.block _ xlt).trans HX0.out); clear x0 x1 x2 x3 x4 x5 x6 x7 x8 x9 x10 x11 x12 hx; obtain ⟨x0, x1, x2, x3, x4, x5, x6, x7, x8, x9, x10, x11, x12⟩ := cells13 HX.out; have hx := blkLt HX.out; clear hb2 HX))
       go_ret
       exact ⟨ret_v (by rfl), bCall HW.out (by (repeat with_reducible first | exact HB.out | apply bDrew | apply bAlloc))⟩
     ·clear hpq
      go_enter Tryz.func73, Tryz.ntmps73
      go_upto_region 1 with fail
      rw [← hW1]
      clear hW1
      go_wp2_with (first
       | (go_at_call_of 92 (Value.slice A a.kids.length (a.kids.length + c)); refine (HA.out _ ?_).mono ?_; (repeat with_reducible first | exact HB.out | apply bDrew | apply bAlloc); rintro e w2 ⟨rfl, hb2⟩; have HB := Lib.hid (bCall (by (repeat with_reducible first | exact HB.out | apply bDrew | apply bAlloc)) hb2); have HX := Lib.hid ((HB.out.block _ xlt).trans HX0.out); clear x0 x1 x2 x3 x4 x5 x6 x7 x8 x9 x10 x11 x12 hx; obtain ⟨x0, x1, x2, x3, x4, x5, x6, x7, x8, x9, x10, x11, x12⟩ := cells13 HX.out; have hx := blkLt HX.out; clear hb2 HX kk; have kk := HK2.out _ HB.out; have hgw := Nat.lt_of_lt_of_le hg2 (Nat.le_trans HW.out.size HB.out.size))
       | (go_at_call 58; refine (HO.out _).mono ?_; rintro e w3 ⟨rfl, hb2⟩; have HU := Lib.hid ((hb2.block _ (by simp)).trans (newBlk _ _ _ rfl)); have HB := Lib.hid (bCall (by (repeat with_reducible first | exact HB.out | apply bDrew | apply bAlloc)) hb2); obtain ⟨⟨u0, u1, u2⟩, -⟩ := cells3 HU.out; have hu := blkLt HU.out; have HX := Lib.hid ((HB.out.block _ xlt).trans HX0.out); clear x0 x1 x2 x3 x4 x5 x6 x7 x8 x9 x10 x11 x12 hx; obtain ⟨x0, x1, x2, x3, x4, x5, x6, x7, x8, x9, x10, x11, x12⟩ := cells13 HX.out; have hx := blkLt HX.out; clear hb2 HX))
      go_ret
      exact ⟨ret_v (by rfl), bCall HW.out (by (repeat with_reducible first | exact HB.out | apply bDrew | apply bAlloc))⟩
theorem stmt_if (vs : List Vr) (s : List Pw) (hc : scopeM (vs.map (·.u)) = some s) (VA : Option Addr) (vm : Nat) (v r : Int) (a b : Ex) (A B T E : Option Addr) (c d tl m el n : Nat) (w : World) (hV : VarsR w vs VA) (hA : KidsE w a.kids A) (hB : KidsE w b.kids B) (hsz : a.size ≤ 60) (hsb : b.size ≤ 60) (et ee : Int)
  (hT : ∀ wx, Below w.heap.size w wx → Calls Tryz.prog 61 #[.slice VA vs.length vm, .slice T tl m] wx (VV (.int .i64 et) wx)) (hE : ∀ wx, Below w.heap.size w wx → Calls Tryz.prog 61 #[.slice VA vs.length vm, .slice E el n] wx (VV (.int .i64 ee) wx)) :
  Calls Tryz.prog 73 #[.slice VA vs.length vm, .agg #[.int .i64 2, .int .i64 v, .int .i64 r, .int .i64 a.op, .int .i64 a.n, .int .i64 a.unit, .slice A a.kids.length (a.kids.length + c), .int .i64 b.op, .int .i64 b.n, .int .i64 b.unit, .slice B b.kids.length (b.kids.length + d), .slice T tl m, .slice E el n]] w (VV (.int .i64 (if btw r 1 6 = true then (if cmpM s a b = 0 then (if et = 0 then ee else et) else cmpM s a b) else 1)) w) := by
 obtain ⟨W1, hW1⟩ : ∃ W1, W1 = w.alloc (.cells #[.int .i64 2, .int .i64 v, .int .i64 r, .int .i64 a.op, .int .i64 a.n, .int .i64 a.unit, .slice A a.kids.length (a.kids.length + c), .int .i64 b.op, .int .i64 b.n, .int .i64 b.unit, .slice B b.kids.length (b.kids.length + d), .slice T tl m, .slice E el n] 65) := ⟨_, rfl⟩
 have HW : Hid (Below w.heap.size w W1) := Lib.hid (by rw [hW1]; exact bAlloc (Below.refl _ _))
 have HX0 : Hid (W1.heap[w.heap.size]? = some (.cells #[.int .i64 2, .int .i64 v, .int .i64 r, .int .i64 a.op, .int .i64 a.n, .int .i64 a.unit, .slice A a.kids.length (a.kids.length + c), .int .i64 b.op, .int .i64 b.n, .int .i64 b.unit, .slice B b.kids.length (b.kids.length + d), .slice T tl m, .slice E el n] 65 (0, 0))) := Lib.hid (by rw [hW1]; exact newBlk _ _ _ rfl)
 have HB : Hid (Below W1.heap.size W1 W1) := Lib.hid (Below.refl _ _)
 have xlt := blkLt HX0.out
 obtain ⟨x0, x1, x2, x3, x4, x5, x6, x7, x8, x9, x10, x11, x12⟩ := cells13 HX0.out
 have hx := xlt
 have HA0 := Lib.hid (fun wx (h : Below W1.heap.size W1 wx) => exprR_any hc VA vm a wx A c (hV.below (HW.out.trans (h.mono HW.out.size))) (hA.below (HW.out.trans (h.mono HW.out.size))) (by omega))
 have HB0 := Lib.hid (fun wx (h : Below W1.heap.size W1 wx) => exprR_any hc VA vm b wx B d (hV.below (HW.out.trans (h.mono HW.out.size))) (hB.below (HW.out.trans (h.mono HW.out.size))) (by omega))
 have HT := Lib.hid (fun wx (h : Below W1.heap.size W1 wx) => hT wx (HW.out.trans (h.mono HW.out.size)))
 have HE := Lib.hid (fun wx (h : Below W1.heap.size W1 wx) => hE wx (HW.out.trans (h.mono HW.out.size)))
 obtain ⟨r9, hr9⟩ : ∃ r9, (if btw r 1 6 = true then (if cmpM s a b = 0 then (if et = 0 then ee else et) else cmpM s a b) else 1) = r9 := ⟨_, rfl⟩
 rw [hr9]
 clear hV hA hB hT hE hc
 by_cases h0 : r < 1
 ·rw [if_neg (by rw [btw_iff]; omega)] at hr9
  subst hr9
  clear HA0 HB0 HT HE
  generalize vs.length = vn at *
  go_enter Tryz.func73, Tryz.ntmps73
  go_upto_region 1 with fail
  rw [← hW1]
  clear hW1
  go_wp2_with (first
   | (go_at_call_of 92 (Value.slice A a.kids.length (a.kids.length + c)); refine (HA.out _ ?_).mono ?_; (repeat with_reducible first | exact HB.out | apply bDrew | apply bAlloc); rintro e w2 ⟨rfl, hb2⟩; have HB := Lib.hid (bCall (by (repeat with_reducible first | exact HB.out | apply bDrew | apply bAlloc)) hb2); have HX := Lib.hid ((HB.out.block _ xlt).trans HX0.out); clear x0 x1 x2 x3 x4 x5 x6 x7 x8 x9 x10 x11 x12 hx; obtain ⟨x0, x1, x2, x3, x4, x5, x6, x7, x8, x9, x10, x11, x12⟩ := cells13 HX.out; have hx := blkLt HX.out; clear hb2 HX))
  go_ret
  exact ⟨ret_v (by rfl), bCall HW.out (by (repeat with_reducible first | exact HB.out | apply bDrew | apply bAlloc))⟩
 ·by_cases h1 : 6 < r
  ·rw [if_neg (by rw [btw_iff]; omega)] at hr9
   subst hr9
   have d1 : decide (r > 6) = true := by simp; omega
   clear HA0 HB0 HT HE
   generalize vs.length = vn at *
   go_enter Tryz.func73, Tryz.ntmps73
   go_upto_region 1 with fail
   rw [← hW1]
   clear hW1
   go_wp2_with (first
    | (go_at_call_of 92 (Value.slice A a.kids.length (a.kids.length + c)); refine (HA.out _ ?_).mono ?_; (repeat with_reducible first | exact HB.out | apply bDrew | apply bAlloc); rintro e w2 ⟨rfl, hb2⟩; have HB := Lib.hid (bCall (by (repeat with_reducible first | exact HB.out | apply bDrew | apply bAlloc)) hb2); have HX := Lib.hid ((HB.out.block _ xlt).trans HX0.out); clear x0 x1 x2 x3 x4 x5 x6 x7 x8 x9 x10 x11 x12 hx; obtain ⟨x0, x1, x2, x3, x4, x5, x6, x7, x8, x9, x10, x11, x12⟩ := cells13 HX.out; have hx := blkLt HX.out; clear hb2 HX))
   go_ret
   exact ⟨ret_v (by rfl), bCall HW.out (by (repeat with_reducible first | exact HB.out | apply bDrew | apply bAlloc))⟩
  ·rw [if_pos (by rw [btw_iff]; omega)] at hr9
   have d0 : decide (r < 1) = false := by simp; omega
   have d1 : decide (r > 6) = false := by simp; omega
   unfold cmpM at hr9
   rcases hi : inf s a with ea | p
   ·have hne := inf_err a hi
    rw [hi] at hr9 HA0
    have HA : Hid (∀ wx, Below W1.heap.size W1 wx → Calls Tryz.prog 92 #[.slice VA vs.length vm, ev a A c] wx (VV (.tuple #[pv ⟨0, 0, 0⟩, .int .i64 ea]) wx)) := HA0
    have hz : ¬ ea = 0 := by rcases hne with rfl | rfl <;> decide
    simp only [if_neg hz] at hr9
    subst hr9
    have hen : (ea != 0) = true := by rcases hne with rfl | rfl <;> rfl
    clear HA0 HB0 HT HE hi hne
    generalize vs.length = vn at *
    go_enter Tryz.func73, Tryz.ntmps73
    go_upto_region 1 with fail
    rw [← hW1]
    clear hW1
    go_wp2_with (first
     | (go_at_call_of 92 (Value.slice A a.kids.length (a.kids.length + c)); refine (HA.out _ ?_).mono ?_; (repeat with_reducible first | exact HB.out | apply bDrew | apply bAlloc); rintro e w2 ⟨rfl, hb2⟩; have HB := Lib.hid (bCall (by (repeat with_reducible first | exact HB.out | apply bDrew | apply bAlloc)) hb2); have HX := Lib.hid ((HB.out.block _ xlt).trans HX0.out); clear x0 x1 x2 x3 x4 x5 x6 x7 x8 x9 x10 x11 x12 hx; obtain ⟨x0, x1, x2, x3, x4, x5, x6, x7, x8, x9, x10, x11, x12⟩ := cells13 HX.out; have hx := blkLt HX.out; clear hb2 HX))
    go_ret
    exact ⟨ret_v (by rfl), bCall HW.out (by (repeat with_reducible first | exact HB.out | apply bDrew | apply bAlloc))⟩
   ·rw [hi] at hr9 HA0
    have HA : Hid (∀ wx, Below W1.heap.size W1 wx → Calls Tryz.prog 92 #[.slice VA vs.length vm, ev a A c] wx (VV (.tuple #[pv p, .int .i64 0]) wx)) := HA0
    simp only at hr9
    rcases hib : inf s b with eb | q
    ·have hne := inf_err b hib
     rw [hib] at hr9 HB0
     have HBb : Hid (∀ wx, Below W1.heap.size W1 wx → Calls Tryz.prog 92 #[.slice VA vs.length vm, ev b B d] wx (VV (.tuple #[pv ⟨0, 0, 0⟩, .int .i64 eb]) wx)) := HB0
     have hz : ¬ eb = 0 := by rcases hne with rfl | rfl <;> decide
     simp only [if_neg hz] at hr9
     subst hr9
     have hen : (eb != 0) = true := by rcases hne with rfl | rfl <;> rfl
     clear HA0 HB0 HT HE hi hib hne
     generalize vs.length = vn at *
     go_enter Tryz.func73, Tryz.ntmps73
     go_upto_region 1 with fail
     rw [← hW1]
     clear hW1
     go_wp2_with (first
      | (go_at_call_of 92 (Value.slice A a.kids.length (a.kids.length + c)); refine (HA.out _ ?_).mono ?_; (repeat with_reducible first | exact HB.out | apply bDrew | apply bAlloc); rintro e w2 ⟨rfl, hb2⟩; have HB := Lib.hid (bCall (by (repeat with_reducible first | exact HB.out | apply bDrew | apply bAlloc)) hb2); have HX := Lib.hid ((HB.out.block _ xlt).trans HX0.out); clear x0 x1 x2 x3 x4 x5 x6 x7 x8 x9 x10 x11 x12 hx; obtain ⟨x0, x1, x2, x3, x4, x5, x6, x7, x8, x9, x10, x11, x12⟩ := cells13 HX.out; have hx := blkLt HX.out; clear hb2 HX)
      | (go_at_call_of 92 (Value.slice B b.kids.length (b.kids.length + d)); refine (HBb.out _ ?_).mono ?_; (repeat with_reducible first | exact HB.out | apply bDrew | apply bAlloc); rintro e w3 ⟨rfl, hb2⟩; have HU := Lib.hid ((hb2.block _ (by simp)).trans (newBlk _ _ _ rfl)); have HB := Lib.hid (bCall (by (repeat with_reducible first | exact HB.out | apply bDrew | apply bAlloc)) hb2); obtain ⟨⟨u0, u1, u2⟩, -⟩ := cells3 HU.out; have hu := blkLt HU.out; have HX := Lib.hid ((HB.out.block _ xlt).trans HX0.out); clear x0 x1 x2 x3 x4 x5 x6 x7 x8 x9 x10 x11 x12 hx; obtain ⟨x0, x1, x2, x3, x4, x5, x6, x7, x8, x9, x10, x11, x12⟩ := cells13 HX.out; have hx := blkLt HX.out; clear hb2 HX))
     go_ret
     exact ⟨ret_v (by rfl), bCall HW.out (by (repeat with_reducible first | exact HB.out | apply bDrew | apply bAlloc))⟩
    ·rw [hib] at hr9 HB0
     have HBb : Hid (∀ wx, Below W1.heap.size W1 wx → Calls Tryz.prog 92 #[.slice VA vs.length vm, ev b B d] wx (VV (.tuple #[pv q, .int .i64 0]) wx)) := HB0
     simp only at hr9
     clear HA0 HB0 hi hib
     generalize vs.length = vn at *
     by_cases hpq : p = q
     ·rw [if_pos hpq] at hr9
      subst hpq
      have heq := fun w => run_u_sameE p w
      simp only [if_pos] at hr9
      by_cases ht : et = 0
      ·rw [if_pos ht] at hr9
       subst ht hr9
       go_enter Tryz.func73, Tryz.ntmps73
       go_upto_region 1 with fail
       rw [← hW1]
       clear hW1
       go_wp2_with (first
        | (go_at_call_of 92 (Value.slice A a.kids.length (a.kids.length + c)); refine (HA.out _ ?_).mono ?_; (repeat with_reducible first | exact HB.out | apply bDrew | apply bAlloc); rintro e w2 ⟨rfl, hb2⟩; have HB := Lib.hid (bCall (by (repeat with_reducible first | exact HB.out | apply bDrew | apply bAlloc)) hb2); have HX := Lib.hid ((HB.out.block _ xlt).trans HX0.out); clear x0 x1 x2 x3 x4 x5 x6 x7 x8 x9 x10 x11 x12 hx; obtain ⟨x0, x1, x2, x3, x4, x5, x6, x7, x8, x9, x10, x11, x12⟩ := cells13 HX.out; have hx := blkLt HX.out; clear hb2 HX)
        | (go_at_call_of 92 (Value.slice B b.kids.length (b.kids.length + d)); refine (HBb.out _ ?_).mono ?_; (repeat with_reducible first | exact HB.out | apply bDrew | apply bAlloc); rintro e w3 ⟨rfl, hb2⟩; have HU := Lib.hid ((hb2.block _ (by simp)).trans (newBlk _ _ _ rfl)); have HB := Lib.hid (bCall (by (repeat with_reducible first | exact HB.out | apply bDrew | apply bAlloc)) hb2); obtain ⟨⟨u0, u1, u2⟩, -⟩ := cells3 HU.out; have hu := blkLt HU.out; have HX := Lib.hid ((HB.out.block _ xlt).trans HX0.out); clear x0 x1 x2 x3 x4 x5 x6 x7 x8 x9 x10 x11 x12 hx; obtain ⟨x0, x1, x2, x3, x4, x5, x6, x7, x8, x9, x10, x11, x12⟩ := cells13 HX.out; have hx := blkLt HX.out; clear hb2 HX)
        | (go_at_call_of 61 (Value.slice T tl m); refine (HT.out _ ?_).mono ?_; (repeat with_reducible first | exact HB.out | apply bDrew | apply bAlloc); rintro e w4 ⟨rfl, hb2⟩; have HB := Lib.hid (bCall (by (repeat with_reducible first | exact HB.out | apply bDrew | apply bAlloc)) hb2); have HX := Lib.hid ((HB.out.block _ xlt).trans HX0.out); clear x0 x1 x2 x3 x4 x5 x6 x7 x8 x9 x10 x11 x12 hx; obtain ⟨x0, x1, x2, x3, x4, x5, x6, x7, x8, x9, x10, x11, x12⟩ := cells13 HX.out; have hx := blkLt HX.out; clear hb2 HX)
        | (go_at_call_of 61 (Value.slice E el n); refine (HE.out _ ?_).mono ?_; (repeat with_reducible first | exact HB.out | apply bDrew | apply bAlloc); rintro e w5 ⟨rfl, hb2⟩; have HB := Lib.hid (bCall (by (repeat with_reducible first | exact HB.out | apply bDrew | apply bAlloc)) hb2); clear hb2))
       go_ret
       exact ⟨ret_v (by rfl), bCall HW.out (by (repeat with_reducible first | exact HB.out | apply bDrew | apply bAlloc))⟩
      ·rw [if_neg ht] at hr9
       subst hr9
       have hen : (et != 0) = true := by simp [ht]
       go_enter Tryz.func73, Tryz.ntmps73
       go_upto_region 1 with fail
       rw [← hW1]
       clear hW1
       go_wp2_with (first
        | (go_at_call_of 92 (Value.slice A a.kids.length (a.kids.length + c)); refine (HA.out _ ?_).mono ?_; (repeat with_reducible first | exact HB.out | apply bDrew | apply bAlloc); rintro e w2 ⟨rfl, hb2⟩; have HB := Lib.hid (bCall (by (repeat with_reducible first | exact HB.out | apply bDrew | apply bAlloc)) hb2); have HX := Lib.hid ((HB.out.block _ xlt).trans HX0.out); clear x0 x1 x2 x3 x4 x5 x6 x7 x8 x9 x10 x11 x12 hx; obtain ⟨x0, x1, x2, x3, x4, x5, x6, x7, x8, x9, x10, x11, x12⟩ := cells13 HX.out; have hx := blkLt HX.out; clear hb2 HX)
        | (go_at_call_of 92 (Value.slice B b.kids.length (b.kids.length + d)); refine (HBb.out _ ?_).mono ?_; (repeat with_reducible first | exact HB.out | apply bDrew | apply bAlloc); rintro e w3 ⟨rfl, hb2⟩; have HU := Lib.hid ((hb2.block _ (by simp)).trans (newBlk _ _ _ rfl)); have HB := Lib.hid (bCall (by (repeat with_reducible first | exact HB.out | apply bDrew | apply bAlloc)) hb2); obtain ⟨⟨u0, u1, u2⟩, -⟩ := cells3 HU.out; have hu := blkLt HU.out; have HX := Lib.hid ((HB.out.block _ xlt).trans HX0.out); clear x0 x1 x2 x3 x4 x5 x6 x7 x8 x9 x10 x11 x12 hx; obtain ⟨x0, x1, x2, x3, x4, x5, x6, x7, x8, x9, x10, x11, x12⟩ := cells13 HX.out; have hx := blkLt HX.out; clear hb2 HX)
        | (go_at_call_of 61 (Value.slice T tl m); refine (HT.out _ ?_).mono ?_; (repeat with_reducible first | exact HB.out | apply bDrew | apply bAlloc); rintro e w4 ⟨rfl, hb2⟩; have HB := Lib.hid (bCall (by (repeat with_reducible first | exact HB.out | apply bDrew | apply bAlloc)) hb2); have HX := Lib.hid ((HB.out.block _ xlt).trans HX0.out); clear x0 x1 x2 x3 x4 x5 x6 x7 x8 x9 x10 x11 x12 hx; obtain ⟨x0, x1, x2, x3, x4, x5, x6, x7, x8, x9, x10, x11, x12⟩ := cells13 HX.out; have hx := blkLt HX.out; clear hb2 HX)
        | (go_at_call_of 61 (Value.slice E el n); refine (HE.out _ ?_).mono ?_; (repeat with_reducible first | exact HB.out | apply bDrew | apply bAlloc); rintro e w5 ⟨rfl, hb2⟩; have HB := Lib.hid (bCall (by (repeat with_reducible first | exact HB.out | apply bDrew | apply bAlloc)) hb2); clear hb2))
       go_ret
       exact ⟨ret_v (by rfl), bCall HW.out (by (repeat with_reducible first | exact HB.out | apply bDrew | apply bAlloc))⟩
     ·rw [if_neg hpq] at hr9
      simp only [if_neg (show ¬ (13 : Int) = 0 by decide)] at hr9
      subst hr9
      by_cases ha : p.a = q.a
      ·by_cases hb : p.b = q.b
       ·have hcc : ¬ p.c = q.c := fun hcc => hpq (by obtain ⟨x, y, z⟩ := p; obtain ⟨x', y', z'⟩ := q; simp only at ha hb hcc; rw [ha, hb, hcc])
        clear hpq
        go_enter Tryz.func73, Tryz.ntmps73
        go_upto_region 1 with fail
        rw [← hW1]
        clear hW1
        go_wp2_with (first
         | (go_at_call_of 92 (Value.slice A a.kids.length (a.kids.length + c)); refine (HA.out _ ?_).mono ?_; (repeat with_reducible first | exact HB.out | apply bDrew | apply bAlloc); rintro e w2 ⟨rfl, hb2⟩; have HB := Lib.hid (bCall (by (repeat with_reducible first | exact HB.out | apply bDrew | apply bAlloc)) hb2); have HX := Lib.hid ((HB.out.block _ xlt).trans HX0.out); clear x0 x1 x2 x3 x4 x5 x6 x7 x8 x9 x10 x11 x12 hx; obtain ⟨x0, x1, x2, x3, x4, x5, x6, x7, x8, x9, x10, x11, x12⟩ := cells13 HX.out; have hx := blkLt HX.out; clear hb2 HX)
         | (go_at_call_of 92 (Value.slice B b.kids.length (b.kids.length + d)); refine (HBb.out _ ?_).mono ?_; (repeat with_reducible first | exact HB.out | apply bDrew | apply bAlloc); rintro e w3 ⟨rfl, hb2⟩; have HU := Lib.hid ((hb2.block _ (by simp)).trans (newBlk _ _ _ rfl)); have HB := Lib.hid (bCall (by (repeat with_reducible first | exact HB.out | apply bDrew | apply bAlloc)) hb2); obtain ⟨⟨u0, u1, u2⟩, -⟩ := cells3 HU.out; have hu := blkLt HU.out; have HX := Lib.hid ((HB.out.block _ xlt).trans HX0.out); clear x0 x1 x2 x3 x4 x5 x6 x7 x8 x9 x10 x11 x12 hx; obtain ⟨x0, x1, x2, x3, x4, x5, x6, x7, x8, x9, x10, x11, x12⟩ := cells13 HX.out; have hx := blkLt HX.out; clear hb2 HX))
        go_ret
        exact ⟨ret_v (by rfl), bCall HW.out (by (repeat with_reducible first | exact HB.out | apply bDrew | apply bAlloc))⟩
       ·clear hpq
        go_enter Tryz.func73, Tryz.ntmps73
        go_upto_region 1 with fail
        rw [← hW1]
        clear hW1
        go_wp2_with (first
         | (go_at_call_of 92 (Value.slice A a.kids.length (a.kids.length + c)); refine (HA.out _ ?_).mono ?_; (repeat with_reducible first | exact HB.out | apply bDrew | apply bAlloc); rintro e w2 ⟨rfl, hb2⟩; have HB := Lib.hid (bCall (by (repeat with_reducible first | exact HB.out | apply bDrew | apply bAlloc)) hb2); have HX := Lib.hid ((HB.out.block _ xlt).trans HX0.out); clear x0 x1 x2 x3 x4 x5 x6 x7 x8 x9 x10 x11 x12 hx; obtain ⟨x0, x1, x2, x3, x4, x5, x6, x7, x8, x9, x10, x11, x12⟩ := cells13 HX.out; have hx := blkLt HX.out; clear hb2 HX)
         | (go_at_call_of 92 (Value.slice B b.kids.length (b.kids.length + d)); refine (HBb.out _ ?_).mono ?_; (repeat with_reducible first | exact HB.out | apply bDrew | apply bAlloc); rintro e w3 ⟨rfl, hb2⟩; have HU := Lib.hid ((hb2.block _ (by simp)).trans (newBlk _ _ _ rfl)); have HB := Lib.hid (bCall (by (repeat with_reducible first | exact HB.out | apply bDrew | apply bAlloc)) hb2); obtain ⟨⟨u0, u1, u2⟩, -⟩ := cells3 HU.out; have hu := blkLt HU.out; have HX := Lib.hid ((HB.out.block _ xlt).trans HX0.out); clear x0 x1 x2 x3 x4 x5 x6 x7 x8 x9 x10 x11 x12 hx; obtain ⟨x0, x1, x2, x3, x4, x5, x6, x7, x8, x9, x10, x11, x12⟩ := cells13 HX.out; have hx := blkLt HX.out; clear hb2 HX))
        go_ret
        exact ⟨ret_v (by rfl), bCall HW.out (by (repeat with_reducible first | exact HB.out | apply bDrew | apply bAlloc))⟩
      ·clear hpq
       go_enter Tryz.func73, Tryz.ntmps73
       go_upto_region 1 with fail
       rw [← hW1]
       clear hW1
       go_wp2_with (first
        | (go_at_call_of 92 (Value.slice A a.kids.length (a.kids.length + c)); refine (HA.out _ ?_).mono ?_; (repeat with_reducible first | exact HB.out | apply bDrew | apply bAlloc); rintro e w2 ⟨rfl, hb2⟩; have HB := Lib.hid (bCall (by (repeat with_reducible first | exact HB.out | apply bDrew | apply bAlloc)) hb2); have HX := Lib.hid ((HB.out.block _ xlt).trans HX0.out); clear x0 x1 x2 x3 x4 x5 x6 x7 x8 x9 x10 x11 x12 hx; obtain ⟨x0, x1, x2, x3, x4, x5, x6, x7, x8, x9, x10, x11, x12⟩ := cells13 HX.out; have hx := blkLt HX.out; clear hb2 HX)
        | (go_at_call_of 92 (Value.slice B b.kids.length (b.kids.length + d)); refine (HBb.out _ ?_).mono ?_; (repeat with_reducible first | exact HB.out | apply bDrew | apply bAlloc); rintro e w3 ⟨rfl, hb2⟩; have HU := Lib.hid ((hb2.block _ (by simp)).trans (newBlk _ _ _ rfl)); have HB := Lib.hid (bCall (by (repeat with_reducible first | exact HB.out | apply bDrew | apply bAlloc)) hb2); obtain ⟨⟨u0, u1, u2⟩, -⟩ := cells3 HU.out; have hu := blkLt HU.out; have HX := Lib.hid ((HB.out.block _ xlt).trans HX0.out); clear x0 x1 x2 x3 x4 x5 x6 x7 x8 x9 x10 x11 x12 hx; obtain ⟨x0, x1, x2, x3, x4, x5, x6, x7, x8, x9, x10, x11, x12⟩ := cells13 HX.out; have hx := blkLt HX.out; clear hb2 HX))
       go_ret
       exact ⟨ret_v (by rfl), bCall HW.out (by (repeat with_reducible first | exact HB.out | apply bDrew | apply bAlloc))⟩
theorem stmt_other (vs : List Vr) (s : List Pw) (hc : scopeM (vs.map (·.u)) = some s) (VA : Option Addr) (vm : Nat) (v r : Int) (a b : Ex) (A B T E : Option Addr) (c d tl m el n : Nat) (w : World) (k : Int) (h1 : ¬ k = 1) (h2 : ¬ k = 2) : Calls Tryz.prog 73 #[.slice VA vs.length vm, .agg #[.int .i64 k, .int .i64 v, .int .i64 r, .int .i64 a.op, .int .i64 a.n, .int .i64 a.unit, .slice A a.kids.length (a.kids.length + c), .int .i64 b.op, .int .i64 b.n, .int .i64 b.unit, .slice B b.kids.length (b.kids.length + d), .slice T tl m, .slice E el n]] w (VV (.int .i64 1) w) := by
 obtain ⟨W1, hW1⟩ : ∃ W1, W1 = w.alloc (.cells #[.int .i64 k, .int .i64 v, .int .i64 r, .int .i64 a.op, .int .i64 a.n, .int .i64 a.unit, .slice A a.kids.length (a.kids.length + c), .int .i64 b.op, .int .i64 b.n, .int .i64 b.unit, .slice B b.kids.length (b.kids.length + d), .slice T tl m, .slice E el n] 65) := ⟨_, rfl⟩
 have HW : Hid (Below w.heap.size w W1) := Lib.hid (by rw [hW1]; exact bAlloc (Below.refl _ _))
 have HX0 : Hid (W1.heap[w.heap.size]? = some (.cells #[.int .i64 k, .int .i64 v, .int .i64 r, .int .i64 a.op, .int .i64 a.n, .int .i64 a.unit, .slice A a.kids.length (a.kids.length + c), .int .i64 b.op, .int .i64 b.n, .int .i64 b.unit, .slice B b.kids.length (b.kids.length + d), .slice T tl m, .slice E el n] 65 (0, 0))) := Lib.hid (by rw [hW1]; exact newBlk _ _ _ rfl)
 have HB : Hid (Below W1.heap.size W1 W1) := Lib.hid (Below.refl _ _)
 have xlt := blkLt HX0.out
 obtain ⟨x0, x1, x2, x3, x4, x5, x6, x7, x8, x9, x10, x11, x12⟩ := cells13 HX0.out
 have hx := xlt
 have g1 : (k == 1) = false := by simp [h1]
 have g2 : (k == 2) = false := by simp [h2]
 go_enter Tryz.func73, Tryz.ntmps73
 go_upto_region 1 with fail
 rw [← hW1]
 clear hW1
 go_wp2_with fail
 go_ret
 exact ⟨ret_v (by rfl), bCall HW.out (by (repeat with_reducible first | exact HB.out | apply bDrew | apply bAlloc))⟩
end Go.Proofs.YtamfgjinfcknfaaGreatDoor.U
namespace Go.Proofs.YtamfgjinfcknfaaGreatDoor.U
open Go.RowKit
def StmtsC (vs : List Vr) (s : List Pw) (VA : Option Addr) (vm : Nat) (l : List St) : Prop := ∀ (w : World) (A : Option Addr) (m : Nat), VarsR w vs VA → StsR w l A → l.length ≤ maxLen → szL l →
 Calls Tryz.prog 61 #[.slice VA vs.length vm, .slice A l.length m] w (VV (.int .i64 (stsM s l)) w)
theorem stmt_of {vs : List Vr} {s : List Pw} (hc : scopeM (vs.map (·.u)) = some s) (VA : Option Addr) (vm : Nat) (x : St) (hT : StmtsC vs s VA vm x.th) (hE : StmtsC vs s VA vm x.el) (w : World) (A B T E : Option Addr) (c d m n : Nat)
  (hV : VarsR w vs VA) (hKA : KidsE w x.a.kids A) (hKB : KidsE w x.b.kids B) (hRT : StsR w x.th T) (hRE : StsR w x.el E) (hlT : x.th.length ≤ maxLen) (hlE : x.el.length ≤ maxLen) (hsz : szS x) :
  Calls Tryz.prog 73 #[.slice VA vs.length vm, sv x A c B d T m E n] w (VV (.int .i64 (stM s x)) w) := by
 obtain ⟨k, v, r, a, b, th, el⟩ := x
 rw [szS] at hsz
 rw [stM]
 by_cases h1 : k = 1
 ·subst h1
  rw [if_pos rfl]
  exact stmt_assign vs s hc VA vm v r a b A B T E c d th.length m el.length n w hV hKA hsz.1
 ·rw [if_neg h1]
  by_cases h2 : k = 2
  ·subst h2
   rw [if_pos rfl]
   obtain ⟨hb, hzt, hze⟩ := hsz.2 rfl
   exact stmt_if vs s hc VA vm v r a b A B T E c d th.length m el.length n w hV hKA hKB hsz.1 hb _ _ (fun wx h => hT wx T m (hV.below h) (hRT.below h) hlT hzt) (fun wx h => hE wx E n (hV.below h) (hRE.below h) hlE hze)
  ·rw [if_neg h2]
   exact stmt_other vs s hc VA vm v r a b A B T E c d th.length m el.length n w k h1 h2
theorem stsM_drop (s : List Pw) (l : List St) (k : Nat) (hk : k < l.length) : stsM s (l.drop k) = if stM s l[k] = 0 then stsM s (l.drop (k + 1)) else stM s l[k] := by
 rw [List.drop_eq_getElem_cons hk, stsM]
theorem stmtsR_step {vs : List Vr} {s : List Pw} (hc : scopeM (vs.map (·.u)) = some s) (VA : Option Addr) (vm : Nat) (l : List St) (ih : ∀ x ∈ l, StmtsC vs s VA vm x.th ∧ StmtsC vs s VA vm x.el) : StmtsC vs s VA vm l := by
 intro w A m hV hR hlen hsz
 have IH := Lib.hid ih
 have HR := Lib.hid hR
 have HV := Lib.hid hV
 have HSZ := Lib.hid hsz
 have HC := Lib.hid hc
 obtain ⟨r, hr⟩ : ∃ r, stsM s l = r := ⟨_, rfl⟩
 rw [hr]
 have HM : Hid (stsM s (l.drop 0) = r) := Lib.hid hr
 clear ih hR hr hV hsz hc
 go_enter Tryz.func61, Tryz.ntmps61
 go_wp2
 go_loopg [5] (l.length) (fun gk i wr => ∃ (k : Nat), k + gk = l.length ∧ i = .int .i64 k ∧ Hid (stsM s (l.drop k) = r) ∧ Hid (Below w.heap.size w wr))
 case atStart => exact ⟨0, by omega, rfl, HM, Lib.hid (Below.refl _ _)⟩
 case round =>
  obtain ⟨k, hk, rfl, hM, hW⟩ := hrel
  by_cases hlt : k < l.length
  ·obtain ⟨g, rfl⟩ : ∃ g, gk = g + 1 := ⟨gk - 1, by omega⟩
   have hk64 : (k : Int) + 1 < 9223372036854775808 := by unfold maxLen at hlen; omega
   have hM1 := hM.out
   rw [stsM_drop _ _ _ hlt] at hM1
   have hRw : StsR wr l A := HR.out.below hW.out
   obtain ⟨ga, oa, rfl⟩ := hRw.addr (by omega)
   obtain ⟨A1, c1, B1, d1, T1, m1, E1, n1, hS, hKA, hKB, hT, hE, hlt1, hle1⟩ := (hRw.get _ _ _ k _ (List.getElem?_eq_getElem hlt)).cells
   have hI := IH.out _ (List.getElem_mem hlt)
   have HX := Lib.hid (stmt_of HC.out VA vm l[k] hI.1 hI.2 wr A1 B1 T1 E1 c1 d1 m1 n1 (HV.out.below hW.out) hKA hKB hT hE hlt1 hle1 (szL_mem (List.getElem_mem hlt) HSZ.out))
   have hM1 := Lib.hid hM1
   obtain ⟨s0, s1, s2, s3, s4, s5, s6, s7, s8, s9, s10, s11, s12⟩ := hS
   clear hM hRw hI hT hE hKA hKB
   generalize l[k] = u at *
   generalize stM s u = e9 at *
   by_cases h0 : e9 = 0
   ·subst h0
    have hM2 : Hid (stsM s (l.drop (k + 1)) = r) := Lib.hid (by have := hM1.out; rw [if_pos rfl] at this; exact this)
    clear hM1
    go_wp2_with (go_at_call 73; refine HX.out.mono ?_; rintro e w2 ⟨rfl, hb2⟩; have hW2 := Lib.hid (bCall hW.out hb2); clear hb2)
    go_roundg g
    case measure => omega
    case rel => exact ⟨k + 1, by omega, by go_num, hM2, hW2⟩
   ·have hF : Hid (e9 = r) := Lib.hid (by have := hM1.out; rw [if_neg h0] at this; exact this)
    have h0n : (e9 != 0) = true := by simp [h0]
    clear hM1
    go_wp2_with (go_at_call 73; refine HX.out.mono ?_; rintro e w2 ⟨rfl, hb2⟩; have hW2 := Lib.hid (bCall hW.out hb2); clear hb2)
    go_ret
    exact ⟨ret_v hF.out, hW2.out⟩
  ·have hF : Hid (0 = r) := Lib.hid (by have := hM.out; rw [List.drop_eq_nil_of_le (by omega), stsM] at this; exact this)
   clear hM
   go_wp2
   go_ret
   exact ⟨ret_v hF.out, hW.out⟩
mutual
theorem stmtsR_any {vs : List Vr} {s : List Pw} (hc : scopeM (vs.map (·.u)) = some s) (VA : Option Addr) (vm : Nat) : ∀ x : St, StmtsC vs s VA vm x.th ∧ StmtsC vs s VA vm x.el
 | .mk _ _ _ _ _ th el => ⟨stmtsR_step hc VA vm th (stmtsR_all hc VA vm th), stmtsR_step hc VA vm el (stmtsR_all hc VA vm el)⟩
theorem stmtsR_all {vs : List Vr} {s : List Pw} (hc : scopeM (vs.map (·.u)) = some s) (VA : Option Addr) (vm : Nat) : ∀ (l : List St), ∀ x ∈ l, StmtsC vs s VA vm x.th ∧ StmtsC vs s VA vm x.el
 | [], x, hx => by cases hx
 | y :: ys, x, hx => by
  rcases List.mem_cons.1 hx with h | h
  ·rw [h]; exact stmtsR_any hc VA vm y
  ·exact stmtsR_all hc VA vm ys x h
end
mutual
theorem shS_sz : ∀ (x : St), shS x = true → szS x
 | .mk k v r a b th el, h => by
  rw [shS] at h
  rw [szS]
  simp only [Bool.and_eq_true, decide_eq_true_eq, Bool.or_eq_true, Bool.not_eq_true', decide_eq_false_iff_not] at h
  refine ⟨h.1, fun hk => ?_⟩
  rcases h.2 with h2 | h2
  ·exact absurd hk h2
  ·exact ⟨h2.1, shA_sz th h2.2.1, shA_sz el h2.2.2⟩
theorem shA_sz : ∀ (l : List St), shA l = true → szL l
 | [], _ => trivial
 | x :: xs, h => by
  rw [shA, Bool.and_eq_true] at h
  rw [szL]
  exact ⟨shS_sz x h.1, shA_sz xs h.2⟩
end
theorem HandlerR_any {vs : List Vr} {s : List Pw} (hc : scopeM (vs.map (·.u)) = some s) (VA : Option Addr) (vm : Nat) (l : List St) (A : Option Addr) (m : Nat) (w : World) (hV : VarsR w vs VA) (hR : StsR w l A) (hlen : l.length ≤ maxLen) :
  Calls Tryz.prog 44 #[.slice VA vs.length vm, .slice A l.length m] w (VV (.int .i64 (handM s l)) w) := by
 obtain ⟨r, hr⟩ : ∃ r, handM s l = r := ⟨_, rfl⟩
 rw [hr]
 unfold handM at hr
 rw [evL_100] at hr
 have HM := Lib.hid (Many_of l w A m 100 hR hlen)
 have HS := Lib.hid (fun wx (h : Below w.heap.size w wx) => Short_of l wx A m (hR.below h) hlen)
 have HT := Lib.hid (fun wx (h : Below w.heap.size w wx) (hz : szL l) => stmtsR_step hc VA vm l (stmtsR_all hc VA vm l) wx A m (hV.below h) (hR.below h) hlen hz)
 have HZ := Lib.hid (shA_sz l)
 generalize mnL l 100 0 = mn at *
 generalize stsM s l = e9 at *
 clear hV hR hc
 by_cases h1 : mn > 100
 ·have g1 : decide (mn > 100) = true := by simp; omega
  rw [g1] at hr
  obtain rfl : 2 = r := by simpa using hr
  clear HT HZ hr
  go_enter Tryz.func44, Tryz.ntmps44
  go_wp2_with (go_at_call 59; refine HM.out.mono ?_; rintro e w2 ⟨rfl, hb2⟩)
  go_ret
  exact ⟨rfl, hb2⟩
 ·have g1 : decide (mn > 100) = false := by simp; omega
  rw [g1] at hr
  cases hs : shA l with
  | false =>
   rw [hs] at HS hr
   obtain rfl : 2 = r := by simpa using hr
   clear HT HZ hr hs
   go_enter Tryz.func44, Tryz.ntmps44
   go_wp2_with (first
    | (go_at_call 59; refine HM.out.mono ?_; rintro e w2 ⟨rfl, hb2⟩)
    | (go_at_call 60; refine (HS.out _ hb2).mono ?_; rintro e w3 ⟨rfl, hb3⟩; have hb4 := bCall hb2 hb3))
   go_ret
   exact ⟨rfl, hb4⟩
  | true =>
   have hz := HZ.out hs
   rw [hs] at HS hr
   obtain rfl : e9 = r := by simpa using hr
   clear HZ hr hs
   go_enter Tryz.func44, Tryz.ntmps44
   go_wp2_with (first
    | (go_at_call 59; refine HM.out.mono ?_; rintro e w2 ⟨rfl, hb2⟩)
    | (go_at_call 60; refine (HS.out _ hb2).mono ?_; rintro e w3 ⟨rfl, hb3⟩; have hb4 := bCall hb2 hb3)
    | (go_at_call 61; refine (HT.out _ hb4 hz).mono ?_; rintro e w5 ⟨rfl, hb5⟩; have hb6 := bCall hb4 hb5))
   go_ret
   exact ⟨rfl, hb6⟩
end Go.Proofs.YtamfgjinfcknfaaGreatDoor.U
