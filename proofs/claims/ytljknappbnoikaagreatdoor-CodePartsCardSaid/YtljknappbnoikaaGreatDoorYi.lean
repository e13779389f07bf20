/- Texts of one proof: UyE. -/
import Derived.Test.YtljknappbnoikaaGreatDoorYg
import Derived.Test.YtljknappbnoikaaGreatDoorYh
set_option linter.unusedVariables false
set_option linter.unusedSimpArgs false
set_option maxRecDepth 100000
set_option maxHeartbeats 8000000
namespace Go.Proofs.YtljknappbnoikaaGreatDoor.U
open Go.RowKit
theorem nodeP_bad {s : List Pw} {op n u : Int} {ps : List Pw} (h : formB s.length op n u ps.length = false) : resP (nodeP s op n u ps) = (⟨0, 0, 0⟩, 1) := by
 unfold nodeP
 rw [h]
 rfl
theorem leafR_any {vs : List Vr} {s : List Pw} (hc : scopeM (vs.map (·.u)) = some s) (VA : Option Addr) (vm : Nat) (op n u : Int) (ks : List Ex) (ps : List Pw) (hps : ps.length = ks.length) (A : Option Addr) (c : Nat) (w : World) (hV : VarsR w vs VA) (ho : op = 1 ∨ op = 2 ∨ op = 3) :
  Calls Tryz.prog 118 #[.slice VA vs.length vm, .agg #[.int .i64 op, .int .i64 n, .int .i64 u, .slice A ks.length (ks.length + c)]] w (VV (.tuple #[pv (resP (nodeP s op n u ps)).1, .int .i64 (resP (nodeP s op n u ps)).2]) w) := by
 obtain ⟨-, -, rfl⟩ := scopeM_rg hc
 have hus : ∀ j, (hj : j < vs.length) → btw vs[j].u 0 4 = true := by
  intro j hj
  unfold scopeM at hc
  split at hc
  ·rename_i h
   have := List.all_eq_true.1 h.2 vs[j].u (List.mem_map.2 ⟨vs[j], List.getElem_mem hj, rfl⟩)
   exact this
  ·simp at hc
 have hsl : ((vs.map (·.u)).map kindP).length = vs.length := by simp
 by_cases hk : 0 < ks.length
 ·have hd : decide (ps.length = 0) = false := decide_eq_false (by omega)
  rw [nodeP_bad (by
   unfold formB
   rcases ho with rfl | rfl | rfl
   ·rw [if_pos rfl, hd, Bool.false_and]
   ·rw [if_neg (by decide), if_pos rfl, hd, Bool.false_and]
   ·rw [if_neg (by decide), if_neg (by decide), if_pos rfl, hd, Bool.false_and])]
  exact leaf_kids op n u ks.length c vs.length vm VA A w hk
 ·obtain rfl : ks = [] := List.eq_nil_of_length_eq_zero (by omega)
  obtain rfl : ps = [] := List.eq_nil_of_length_eq_zero hps
  have hm1 : ofM (-1) = (⟨0, 0, 0⟩, 9) := by decide
  rcases ho with rfl | rfl | rfl
  ·by_cases h0 : n < 0
   ·rw [nodeP_bad (by unfold formB; simp [btw]; omega)]
    have := leaf_numL n u (0 + c) vs.length vm VA A w h0 _ _ hm1
    rw [if_neg (by decide), if_neg (by decide)] at this
    exact this
   ·by_cases h1 : 1000000000 < n
    ·rw [nodeP_bad (by unfold formB; simp [btw]; omega)]
     have := leaf_numH n u (0 + c) vs.length vm VA A w h1 _ _ hm1
     rw [if_neg (by decide), if_neg (by decide)] at this
     exact this
    ·by_cases hu : btw u 0 4 = true
     ·have hn : nodeP ((vs.map (·.u)).map kindP) 1 n u [] = .ok (kindP u) := by
       have hf : formB ((vs.map (·.u)).map kindP).length 1 n u ([] : List Pw).length = true := by
        unfold formB
        simp [btw] at hu ⊢
        omega
       unfold nodeP
       rw [if_pos hf, if_pos rfl]
      rw [hn]
      have := leaf_num n u (0 + c) vs.length vm VA A w ⟨by omega, by omega⟩ (kindP u) 0 (by unfold ofM; rw [if_pos hu])
      rw [if_pos rfl, if_pos rfl] at this
      exact this
     ·rw [nodeP_bad (by unfold formB; simp [btw] at hu ⊢; omega)]
      have := leaf_num n u (0 + c) vs.length vm VA A w ⟨by omega, by omega⟩ ⟨0, 0, 0⟩ 9 (by unfold ofM; rw [if_neg hu])
      rw [if_neg (by decide), if_neg (by decide)] at this
      exact this
  ·by_cases h0 : n < 0
   ·rw [nodeP_bad (by unfold formB; simp [btw]; omega)]
    have := leaf_varL n u (0 + c) vs.length vm VA A w h0 _ _ hm1
    rw [if_neg (by decide), if_neg (by decide)] at this
    exact this
   ·by_cases h1 : (vs.length : Int) ≤ n
    ·rw [nodeP_bad (by unfold formB; simp [btw]; omega)]
     have := leaf_varH n u (0 + c) vs.length vm VA A w h1 (by omega) _ _ hm1
     rw [if_neg (by decide), if_neg (by decide)] at this
     exact this
    ·obtain ⟨j, rfl⟩ : ∃ j : Nat, n = j := ⟨n.toNat, by omega⟩
     have hj : j < vs.length := by omega
     have hn : nodeP ((vs.map (·.u)).map kindP) 2 j u [] = .ok (kindP vs[j].u) := by
      have hf : formB ((vs.map (·.u)).map kindP).length 2 j u ([] : List Pw).length = true := by
       unfold formB
       simp [btw]
       omega
      unfold nodeP
      rw [if_pos hf, if_neg (by decide), if_pos rfl]
      simp [List.getD_eq_getElem?_getD, hj]
     rw [hn]
     obtain ⟨g2, o2, rfl, hat⟩ := hV.addr (by omega)
     have hk2 := (hat j _ (List.getElem?_eq_getElem hj)).2.1
     have := leaf_var u vs[j].u j g2 o2 (0 + c) vs.length vm (some ⟨g2, o2, none⟩) A w hj rfl hk2 (kindP vs[j].u) 0 (by unfold ofM; rw [if_pos (hus j hj)])
     rw [if_pos rfl, if_pos rfl] at this
     exact this
  ·by_cases n0 : n = 0
   ·subst n0
    rw [show nodeP ((vs.map (·.u)).map kindP) 3 0 u [] = .ok (kindP 1) from rfl]
    have := leaf_in0 u (0 + c) vs.length vm VA A w (kindP 1) 0 (by decide)
    rw [if_pos rfl, if_pos rfl] at this
    exact this
   by_cases n1 : n = 1
   ·subst n1
    rw [show nodeP ((vs.map (·.u)).map kindP) 3 1 u [] = .ok (kindP 3) from rfl]
    have := leaf_in1 u (0 + c) vs.length vm VA A w (kindP 3) 0 (by decide)
    rw [if_pos rfl, if_pos rfl] at this
    exact this
   by_cases n2 : n = 2
   ·subst n2
    rw [show nodeP ((vs.map (·.u)).map kindP) 3 2 u [] = .ok (kindP 2) from rfl]
    have := leaf_in2 u (0 + c) vs.length vm VA A w (kindP 2) 0 (by decide)
    rw [if_pos rfl, if_pos rfl] at this
    exact this
   by_cases n3 : n = 3
   ·subst n3
    rw [show nodeP ((vs.map (·.u)).map kindP) 3 3 u [] = .ok (kindP 1) from rfl]
    have := leaf_in3 u (0 + c) vs.length vm VA A w (kindP 1) 0 (by decide)
    rw [if_pos rfl, if_pos rfl] at this
    exact this
   rw [nodeP_bad (by unfold formB; simp [btw]; omega)]
   have := leaf_inN n u (0 + c) vs.length vm VA A w n0 n1 n2 n3 _ _ hm1
   rw [if_neg (by decide), if_neg (by decide)] at this
   exact this
theorem len_szK : ∀ ks : List Ex, ks.length ≤ szK ks
 | [] => by simp [szK]
 | k :: ks => by
  have := len_szK ks
  have := k.size_pos
  simp [szK]
  omega
theorem kid_size {t u : Ex} (h : u ∈ t.kids) : u.size < t.size := by
 obtain ⟨op, n, w, ks⟩ := t
 have hs : ∀ (l : List Ex), u ∈ l → u.size ≤ szK l := by
  intro l
  induction l with
  | nil => intro h; cases h
  | cons a l ih =>
   intro h
   rw [szK]
   rcases List.mem_cons.1 h with rfl | h
   ·omega
   ·have := ih h; omega
 have := hs ks h
 rw [Ex.size]
 omega
abbrev uArr (l : List Pw) : Array Value := #[.int .i64 (l.getD 0 ⟨0, 0, 0⟩).a, .int .i64 (l.getD 0 ⟨0, 0, 0⟩).b, .int .i64 (l.getD 0 ⟨0, 0, 0⟩).c, .int .i64 (l.getD 1 ⟨0, 0, 0⟩).a, .int .i64 (l.getD 1 ⟨0, 0, 0⟩).b, .int .i64 (l.getD 1 ⟨0, 0, 0⟩).c]
theorem cells6u {w : World} {b : Nat} {v0 v1 v2 v3 v4 v5 : Value} {T : TypeId} (h : w.heap[b]? = some (.cells #[v0, v1, v2, v3, v4, v5] T (0, 0))) :
  (w.cell? ⟨b, 0, none⟩ = some v0 ∧ w.cell? ⟨b, 1, none⟩ = some v1 ∧ w.cell? ⟨b, 2, none⟩ = some v2 ∧ w.cell? ⟨b, 3, none⟩ = some v3 ∧ w.cell? ⟨b, 4, none⟩ = some v4 ∧ w.cell? ⟨b, 5, none⟩ = some v5) ∧ ∀ j, w.frozen? ⟨b, j, none⟩ = false := by
 have e : ∀ j, w.cell? ⟨b, j, none⟩ = (#[v0, v1, v2, v3, v4, v5] : Array Value)[j]? := fun j => cell_of_row _ _ j _ _ (0, 0) h
 exact ⟨⟨e 0, e 1, e 2, e 3, e 4, e 5⟩, fun j => by simp [World.frozen?, h]⟩
theorem setA {w : World} {b : Nat} {v0 v1 v2 v3 v4 v5 x y z : Value} {T : TypeId} (h : w.heap[b]? = some (.cells #[v0, v1, v2, v3, v4, v5] T (0, 0))) :
  (((w.setCell ⟨b, 0, none⟩ x).setCell ⟨b, 1, none⟩ y).setCell ⟨b, 2, none⟩ z).heap[b]? = some (.cells #[x, y, z, v3, v4, v5] T (0, 0)) ∧
  (((w.setCell ⟨b, 3, none⟩ x).setCell ⟨b, 4, none⟩ y).setCell ⟨b, 5, none⟩ z).heap[b]? = some (.cells #[v0, v1, v2, x, y, z] T (0, 0)) := by
 constructor
 ·have g0 : (w.setCell ⟨b, 0, none⟩ x).heap[b]? = some (.cells #[x, v1, v2, v3, v4, v5] T (0, 0)) := by rw [heap_setCell_same w b 0 _ _ _ h]; simp
  have g1 : ((w.setCell ⟨b, 0, none⟩ x).setCell ⟨b, 1, none⟩ y).heap[b]? = some (.cells #[x, y, v2, v3, v4, v5] T (0, 0)) := by rw [heap_setCell_same _ b 1 _ _ _ g0]; simp
  rw [heap_setCell_same _ b 2 _ _ _ g1]; simp
 ·have g0 : (w.setCell ⟨b, 3, none⟩ x).heap[b]? = some (.cells #[v0, v1, v2, x, v4, v5] T (0, 0)) := by rw [heap_setCell_same w b 3 _ _ _ h]; simp
  have g1 : ((w.setCell ⟨b, 3, none⟩ x).setCell ⟨b, 4, none⟩ y).heap[b]? = some (.cells #[v0, v1, v2, x, y, v5] T (0, 0)) := by rw [heap_setCell_same _ b 4 _ _ _ g0]; simp
  rw [heap_setCell_same _ b 5 _ _ _ g1]; simp
theorem far3i {w : World} {b c i j k : Nat} {x y z : Value} (h : c ≠ b) : (((w.setCell ⟨b, i, none⟩ x).setCell ⟨b, j, none⟩ y).setCell ⟨b, k, none⟩ z).heap[c]? = w.heap[c]? :=
 (heap_setCell_other _ _ _ _ h).trans ((heap_setCell_other _ _ _ _ h).trans (heap_setCell_other _ _ _ _ h))
theorem below3i {B b i j k : Nat} {a w : World} {v0 v1 v2 : Value} (h : Below B a w) (hb : B ≤ b) : Below B a (((w.setCell ⟨b, i, none⟩ v0).setCell ⟨b, j, none⟩ v1).setCell ⟨b, k, none⟩ v2) :=
 ((h.setCell hb _).setCell hb _).setCell hb _
theorem uArr_snoc {l : List Pw} {q : Pw} (h : 2 ≤ l.length) : uArr (l ++ [q]) = uArr l := by
 match l, h with
 | a :: b :: l, _ => rfl
def ExRC (vs : List Vr) (s : List Pw) (VA : Option Addr) (vm : Nat) (t : Ex) : Prop := ∀ (w : World) (A : Option Addr) (c : Nat), VarsR w vs VA → KidsE w t.kids A → t.size ≤ 10000 →
 Calls Tryz.prog 99 #[.slice VA vs.length vm, ev t A c] w (VV (.tuple #[pv (resP (inf s t)).1, .int .i64 (resP (inf s t)).2]) w)
theorem run_u_sameE (p : Pw) (w : World) : (Op.equalIn 10000 119 (.agg #[.int .i64 p.a, .int .i64 p.b, .int .i64 p.c]) (.agg #[.int .i64 p.a, .int .i64 p.b, .int .i64 p.c])).run Tryz.prog w = .ok true w := (run_u_eq p p w).trans (by simp)
theorem node_two2 (s : List Pw) (op n u : Int) (p q : Pw) (h4 : 4 ≤ op) (h10 : op ≤ 10) : nodeP s op n u [p, q] = twoP op p q := by
 have hf : formB s.length op n u 2 = true := by
  unfold formB
  rw [if_neg (by omega), if_neg (by omega), if_neg (by omega)]
  simp [btw, h4, h10]
 unfold nodeP
 rw [List.length_cons, List.length_cons, List.length_nil, if_pos hf, if_neg (by omega), if_neg (by omega), if_neg (by omega)]
 rfl
theorem exprR_step {vs : List Vr} {s : List Pw} (hc : scopeM (vs.map (·.u)) = some s) (VA : Option Addr) (vm : Nat) (t : Ex) (ih : ∀ u ∈ t.kids, ExRC vs s VA vm u) : ExRC vs s VA vm t := by
 intro w A c hV hK hsz
 obtain ⟨⟨rp, re⟩, hr⟩ : ∃ r, resP (inf s t) = r := ⟨_, rfl⟩
 rw [hr]
 have hr0 : resP (infG s t.op t.n t.unit [] (t.kids.drop 0)) = (rp, re) := by rw [← hr]; cases t; exact congrArg resP (inf_G _ _ _ _ _).symm
 have HG := Lib.hid hr0
 have hlen : t.kids.length ≤ 10000 := by
  have := len_szK t.kids
  have : t.size = 1 + szK t.kids := by cases t; rfl
  omega
 obtain ⟨hsr, -, -⟩ := scopeM_rg hc
 have HIH := Lib.hid ih
 have HV := Lib.hid hV
 have HK := Lib.hid hK
 have HSZ := Lib.hid hsz
 have HLf := Lib.hid (fun (ps : List Pw) (hps : ps.length = t.kids.length) (wx : World) (h : Below w.heap.size w wx) (ho : t.op = 1 ∨ t.op = 2 ∨ t.op = 3) => leafR_any hc VA vm t.op t.n t.unit t.kids ps hps A c wx (hV.below h) ho)
 obtain ⟨W3, hW3⟩ : ∃ W3, W3 = ((w.alloc (.cells (eArr t A c) 66)).alloc (.cells (pArr ⟨0, 0, 0⟩) 119)).alloc (.cells (uArr []) 159) := ⟨_, rfl⟩
 have HB : Hid (Below w.heap.size w W3) := Lib.hid (by rw [hW3]; exact bAlloc (bAlloc (bAlloc (Below.refl _ _))))
 have HE : Hid (W3.heap[w.heap.size]? = some (.cells (eArr t A c) 66 (0, 0))) := Lib.hid (by rw [hW3]; exact (Below.heap_alloc _ _ _ (by simp; omega)).trans ((Below.heap_alloc _ _ _ (by simp)).trans (newBlk _ _ _ rfl)))
 have HR : Hid (W3.heap[w.heap.size + 1]? = some (.cells (pArr ⟨0, 0, 0⟩) 119 (0, 0))) := Lib.hid (by rw [hW3]; exact (Below.heap_alloc _ _ _ (by simp)).trans (newBlk _ _ _ (by simp)))
 have HU : Hid (W3.heap[w.heap.size + 1 + 1]? = some (.cells (uArr []) 159 (0, 0))) := Lib.hid (by rw [hW3]; exact newBlk _ _ _ (by simp))
 clear ih hr hr0 hV hK hsz
 go_enter Tryz.func99, Tryz.ntmps99
 go_upto_region 2 with fail
 change Code.wp _ _ _ _ (((w.alloc (.cells (eArr t A c) 66)).alloc (.cells (pArr ⟨0, 0, 0⟩) 119)).alloc (.cells (uArr []) 159))
 rw [← hW3]
 clear hW3
 go_wp2
 go_loopg [7] (t.kids.length) (fun gk i wr => ∃ (k : Nat) (acc : List Pw), k + gk = t.kids.length ∧ i = .int .i64 k ∧ acc.length = k ∧ allRg acc ∧ Hid (resP (infG s t.op t.n t.unit acc (t.kids.drop k)) = (rp, re)) ∧ Hid (wr.heap[w.heap.size]? = some (.cells (eArr t A c) 66 (0, 0))) ∧ Hid (wr.heap[w.heap.size + 1]? = some (.cells (pArr ⟨0, 0, 0⟩) 119 (0, 0))) ∧ Hid (wr.heap[w.heap.size + 1 + 1]? = some (.cells (uArr acc) 159 (0, 0))) ∧ Hid (Below w.heap.size w wr))
 case atStart => exact ⟨0, [], by omega, rfl, rfl, (fun p hp => by cases hp), HG, HE, HR, HU, HB⟩
 case round =>
  clear HB HE HR HU
  obtain ⟨k, acc, hk, rfl, hacc, har, hG, HE, HR, HU, HB⟩ := hrel
  obtain ⟨⟨e0, e1, e2, e3⟩, -⟩ := cells4 HE.out
  obtain ⟨⟨r0, r1, r2⟩, d0, d1, d2⟩ := cells3 HR.out
  obtain ⟨⟨c0, c1, c2, c3, c4, c5⟩, fz⟩ := cells6u HU.out
  have el := blkLt HE.out
  have rl := blkLt HR.out
  have ul := blkLt HU.out
  by_cases hlt : k < t.kids.length
  ·obtain ⟨g, rfl⟩ : ∃ g, gk = g + 1 := ⟨gk - 1, by omega⟩
   have hG1 := hG.out
   rw [List.drop_eq_getElem_cons hlt] at hG1
   have hKw : KidsE wr t.kids A := HK.out.below HB.out
   have hmem : t.kids[k] ∈ t.kids := List.getElem_mem hlt
   have hus := kid_size hmem
   obtain ⟨ga, oa, rfl⟩ := hKw.addr (by omega)
   obtain ⟨A1, a1, ⟨k0, k1, k2, k3⟩, -, hK1⟩ := (hKw.get _ _ _ k _ (List.getElem?_eq_getElem hlt)).cells
   have hq0 := HIH.out _ hmem
   have hI := Lib.hid (fun (wx : World) (h : Below wr.heap.size wr wx) => hq0 wx A1 a1 (HV.out.below (HB.out.trans (h.mono HB.out.size))) (hK1.below h) (by have := HSZ.out; omega))
   have hirg := fun q (h : inf s t.kids[k] = .ok q) => inf_rg hsr t.kids[k] h
   clear hq0 hKw hmem hus hK1
   generalize t.kids[k] = u at *
   rcases hu : inf s u with er | q
   ·have hne := inf_err u hu
    rw [infG_err hu] at hG1
    obtain ⟨h8, h9⟩ := Prod.mk.inj (show ((⟨0, 0, 0⟩ : Pw), er) = (rp, re) from hG1)
    subst h8 h9
    rw [hu] at hI
    have hI : Hid (∀ wx, Below wr.heap.size wr wx → Calls Tryz.prog 99 #[.slice VA vs.length vm, ev u A1 a1] wx (VV (.tuple #[pv ⟨0, 0, 0⟩, .int .i64 er]) wx)) := hI
    have hen : (er != 0) = true := by rcases hne with rfl | rfl <;> rfl
    clear hG hG1 hu hirg hne
    as_aux_lemma =>
     go_wp2_with (go_at_call 99; refine (hI.out wr (Below.refl _ _)).mono ?_; rintro e w1 ⟨rfl, hb1⟩; have HB := Lib.hid (HB.out.trans (hb1.mono HB.out.size)); have HE := Lib.hid ((hb1.block _ el).trans HE.out); have HR := Lib.hid ((hb1.block _ rl).trans HR.out); have HU := Lib.hid ((hb1.block _ ul).trans HU.out); clear hb1 el rl ul k0 k1 k2 k3; clear e0 e1 e2 e3 r0 r1 r2 d0 d1 d2 c0 c1 c2 c3 c4 c5 fz; obtain ⟨⟨e0, e1, e2, e3⟩, -⟩ := cells4 HE.out; obtain ⟨⟨r0, r1, r2⟩, d0, d1, d2⟩ := cells3 HR.out; obtain ⟨⟨c0, c1, c2, c3, c4, c5⟩, fz⟩ := cells6u HU.out; have el := blkLt HE.out; have rl := blkLt HR.out; have ul := blkLt HU.out)
     obtain ⟨f0, f1, f2⟩ := res3a (x := .int .i64 0) (y := .int .i64 0) (z := .int .i64 0) HR.out (.cells (pArr ⟨0, 0, 0⟩) 119)
     exact bodyPost_ret (v := .tuple #[pv ⟨0, 0, 0⟩, .int .i64 er]) (by simp [results, Tryz.results99, go_sem, f0, f1, f2]) rfl ⟨rfl, bAlloc (below3 HB.out (Nat.le_add_right w.heap.size 1))⟩
   ·rw [infG_ok hu] at hG1
    rw [hu] at hI
    have hI : Hid (∀ wx, Below wr.heap.size wr wx → Calls Tryz.prog 99 #[.slice VA vs.length vm, ev u A1 a1] wx (VV (.tuple #[pv q, .int .i64 0]) wx)) := hI
    have har2 : allRg (acc ++ [q]) := by
     intro p hp
     rcases List.mem_append.1 hp with h | h
     ·exact har p h
     ·rw [List.mem_singleton.1 h]; exact hirg q hu
    have hG2 := Lib.hid hG1
    clear hG hG1 hu hirg
    go_upto_region 8 with (go_at_call 99; refine (hI.out wr (Below.refl _ _)).mono ?_; rintro e w1 ⟨rfl, hb1⟩; have HB := Lib.hid (HB.out.trans (hb1.mono HB.out.size)); have HE := Lib.hid ((hb1.block _ el).trans HE.out); have HR := Lib.hid ((hb1.block _ rl).trans HR.out); have HU := Lib.hid ((hb1.block _ ul).trans HU.out); clear hb1 el rl ul k0 k1 k2 k3; clear e0 e1 e2 e3 r0 r1 r2 d0 d1 d2 c0 c1 c2 c3 c4 c5 fz; obtain ⟨⟨e0, e1, e2, e3⟩, -⟩ := cells4 HE.out; obtain ⟨⟨r0, r1, r2⟩, d0, d1, d2⟩ := cells3 HR.out; obtain ⟨⟨c0, c1, c2, c3, c4, c5⟩, fz⟩ := cells6u HU.out; have el := blkLt HE.out; have rl := blkLt HR.out; have ul := blkLt HU.out)
    match k, hk, hacc, hlt, hG2 with
    | 0, hk, hacc, hlt, hG2 =>
     obtain rfl : acc = [] := List.eq_nil_of_length_eq_zero hacc
     go_wp2_with fail
     go_roundg g
     case measure => omega
     case rel => exact ⟨1, _, by omega, by go_num, rfl, har2, hG2, Lib.hid ((Below.heap_alloc _ _ _ (by simpa using el)).trans ((far3i (by omega)).trans HE.out)), Lib.hid ((Below.heap_alloc _ _ _ (by simpa using rl)).trans ((far3i (by omega)).trans HR.out)), Lib.hid ((Below.heap_alloc _ _ _ (by simpa using ul)).trans (setA HU.out).1), Lib.hid (bAlloc (below3i HB.out (by omega)))⟩
    | 1, hk, hacc, hlt, hG2 =>
     obtain ⟨p, rfl⟩ : ∃ p, acc = [p] := List.length_eq_one_iff.1 hacc
     go_wp2_with fail
     go_roundg g
     case measure => omega
     case rel => exact ⟨2, _, by omega, by go_num, rfl, har2, hG2, Lib.hid ((Below.heap_alloc _ _ _ (by simpa using el)).trans ((far3i (by omega)).trans HE.out)), Lib.hid ((Below.heap_alloc _ _ _ (by simpa using rl)).trans ((far3i (by omega)).trans HR.out)), Lib.hid ((Below.heap_alloc _ _ _ (by simpa using ul)).trans (setA HU.out).2), Lib.hid (bAlloc (below3i HB.out (by omega)))⟩
    | k + 2, hk, hacc, hlt, hG2 =>
     have hd2 : decide (((k + 2 : Nat) : Int) < 2) = false := by simp; omega
     go_wp2_with fail
     go_roundg g
     case measure => omega
     case rel =>
      have hU2 := HU.out
      rw [← uArr_snoc (q := q) (by omega)] at hU2
      exact ⟨k + 2 + 1, _, by omega, by go_num, by simp [hacc], har2, hG2, Lib.hid ((Below.heap_alloc _ _ _ el).trans HE.out), Lib.hid ((Below.heap_alloc _ _ _ rl).trans HR.out), Lib.hid ((Below.heap_alloc _ _ _ ul).trans hU2), Lib.hid (bAlloc HB.out)⟩
  ·have hm0 := hG.out
   rw [List.drop_eq_nil_of_le (by omega), infG_nil] at hm0
   have hak : acc.length = t.kids.length := by omega
   have klt : decide ((k : Int) < (t.kids.length : Int)) = false := by simp; omega
   clear hG HIH HV HK HSZ HG
   by_cases ho : t.op = 1 ∨ t.op = 2 ∨ t.op = 3
   ·have HLq := HLf.out acc hak wr HB.out ho
    rw [hm0] at HLq
    have HLq := Lib.hid HLq
    clear HLf hm0
    rcases ho with ho | ho | ho
    all_goals
     have HLr := HLq.out
     rw [ho] at HLr
     have HLr := Lib.hid HLr
     clear HLq
    all_goals
     as_aux_lemma =>
      go_wp2_with (go_at_call 118; refine HLr.out.mono ?_; rintro e w6 ⟨rfl, hb6⟩; have HB := Lib.hid (HB.out.trans (hb6.mono HB.out.size)); have HR := Lib.hid ((hb6.block _ rl).trans HR.out); have rl := blkLt HR.out; clear r0 r1 r2 d0 d1 d2; obtain ⟨⟨r0, r1, r2⟩, d0, d1, d2⟩ := cells3 HR.out; clear hb6)
      obtain ⟨f0, f1, f2⟩ := res3 (x := .int .i64 rp.a) (y := .int .i64 rp.b) (z := .int .i64 rp.c) HR.out
      exact bodyPost_ret (v := .tuple #[pv rp, .int .i64 re]) (by simp [results, Tryz.results99, go_sem, f0, f1, f2]) rfl ⟨rfl, (below3 HB.out (Nat.le_add_right w.heap.size 1))⟩
   ·clear HLf
    have o1 : (t.op == 1) = false := by simp; omega
    have o2 : (t.op == 2) = false := by simp; omega
    have o3 : (t.op == 3) = false := by simp; omega
    by_cases hb : 4 ≤ t.op ∧ t.op ≤ 10 ∧ t.kids.length = 2
    ·obtain ⟨h4, h10, h2⟩ := hb
     obtain ⟨p, q, rfl⟩ : ∃ p q, acc = [p, q] := by
      match acc, hak.trans h2 with
      | [p, q], _ => exact ⟨p, q, rfl⟩
     have HU : Hid (wr.heap[w.heap.size + 1 + 1]? = some (.cells #[.int .i64 p.a, .int .i64 p.b, .int .i64 p.c, .int .i64 q.a, .int .i64 q.b, .int .i64 q.c] 159 (0, 0))) := HU
     clear c0 c1 c2 c3 c4 c5 fz
     obtain ⟨⟨c0, c1, c2, c3, c4, c5⟩, fz⟩ := cells6u HU.out
     have hpr := har p (by simp)
     have hqr := har q (by simp)
     rw [node_two2 s t.op t.n t.unit p q h4 h10] at hm0
     have g4 : decide (t.op < 4) = false := by simp; omega
     have g10 : decide (t.op > 10) = false := by simp; omega
     have g2 : ((t.kids.length : Int) != 2) = false := by simp [h2]
     obtain ⟨pa, pb, pc⟩ := rg_iff hpr
     obtain ⟨qa, qb, qc⟩ := rg_iff hqr
     clear har hak klt
     rcases (show t.op = 4 ∨ t.op = 5 ∨ t.op = 6 ∨ t.op = 7 ∨ t.op = 8 ∨ t.op = 9 ∨ t.op = 10 by omega) with h | h | h | h | h | h | h
     ·as_aux_lemma =>
       by_cases hpq : p = q
       ·subst hpq
        have heq := fun w => run_u_sameE p w
        obtain ⟨R, hR⟩ : ∃ R : Pw, R = p := ⟨_, rfl⟩
        have hm : Hid (resP (limP R) = (rp, re)) := Lib.hid (by
         rw [h] at hm0
         have e2 : twoP 4 p p = .ok p := by simp [twoP]
         rw [e2] at hm0
         rw [hR]
         unfold limP
         rw [if_pos hpr]
         exact hm0)
        clear hm0 hpr hqr h4 h10
        go_upto_region 23 with fail
        obtain ⟨W5, hW5⟩ : ∃ W5, W5 = wr.alloc (.cells (pArr R) 119) := ⟨_, rfl⟩
        rw [hR] at hW5
        rw [← hW5]
        rw [← hR] at hW5
        clear hR pa pb pc qa qb qc heq
        have HZ : Hid (W5.heap[wr.heap.size]? = some (.cells (pArr R) 119 (0, 0))) := Lib.hid (by rw [hW5]; exact newBlk _ _ _ rfl)
        have HR5 : Hid (W5.heap[w.heap.size + 1]? = some (.cells (pArr ⟨0, 0, 0⟩) 119 (0, 0))) := Lib.hid (by rw [hW5]; exact (Below.heap_alloc _ _ _ rl).trans HR.out)
        have HB5 : Hid (Below w.heap.size w W5) := Lib.hid (by rw [hW5]; exact bAlloc HB.out)
        clear hW5 HE HU HB el rl ul
        clear e0 e1 e2 e3 r0 r1 r2 d0 d1 d2 c0 c1 c2 c3 c4 c5 fz
        clear HR
        obtain ⟨⟨r0, r1, r2⟩, d0, d1, d2⟩ := cells3 HR5.out
        obtain ⟨⟨z0, z1, z2⟩, -⟩ := cells3 HZ.out
        have rl := blkLt HR5.out
        have zl := blkLt HZ.out
        have F0 := Lib.hid (fun w => fitsR_any R.a w)
        have F1 := Lib.hid (fun w => fitsR_any R.b w)
        have F2 := Lib.hid (fun w => fitsR_any R.c w)
        have hrg : rgB R = (btw R.a (-4) 4 && (btw R.b (-4) 4 && btw R.c (-4) 4)) := rfl
        have hm1 := hm.out
        unfold limP at hm1
        rw [hrg] at hm1
        generalize btw R.a (-4) 4 = t0 at *
        generalize btw R.b (-4) 4 = t1 at *
        generalize btw R.c (-4) 4 = t2 at *
        clear hm hrg
        cases t0 with
        | false =>
         have hm2 : ((⟨0, 0, 0⟩ : Pw), (13 : Int)) = (rp, re) := hm1
         obtain ⟨rfl, rfl⟩ := Prod.mk.inj hm2
         clear hm1 hm2
         go_wp2_with (first
          | (go_at_call_of 119 (Value.int IntKind.i64 R.a); refine (F0.out _).mono ?_; rintro e w6 ⟨rfl, hw6⟩; have hw6 := hw6.symm; subst hw6)
          | (go_at_call_of 119 (Value.int IntKind.i64 R.b); refine (F1.out _).mono ?_; rintro e w6 ⟨rfl, hw6⟩; have hw6 := hw6.symm; subst hw6)
          | (go_at_call_of 119 (Value.int IntKind.i64 R.c); refine (F2.out _).mono ?_; rintro e w6 ⟨rfl, hw6⟩; have hw6 := hw6.symm; subst hw6))
         obtain ⟨f0, f1, f2⟩ := res3 (x := .int .i64 0) (y := .int .i64 0) (z := .int .i64 0) HR5.out
         exact bodyPost_ret (v := .tuple #[pv ⟨0, 0, 0⟩, .int .i64 13]) (by simp [results, Tryz.results99, go_sem, f0, f1, f2]) rfl ⟨rfl, (below3 HB5.out (Nat.le_add_right w.heap.size 1))⟩
        | true =>
         cases t1 with
         | false =>
          have hm2 : ((⟨0, 0, 0⟩ : Pw), (13 : Int)) = (rp, re) := hm1
          obtain ⟨rfl, rfl⟩ := Prod.mk.inj hm2
          clear hm1 hm2
          go_wp2_with (first
           | (go_at_call_of 119 (Value.int IntKind.i64 R.a); refine (F0.out _).mono ?_; rintro e w6 ⟨rfl, hw6⟩; have hw6 := hw6.symm; subst hw6)
           | (go_at_call_of 119 (Value.int IntKind.i64 R.b); refine (F1.out _).mono ?_; rintro e w6 ⟨rfl, hw6⟩; have hw6 := hw6.symm; subst hw6)
           | (go_at_call_of 119 (Value.int IntKind.i64 R.c); refine (F2.out _).mono ?_; rintro e w6 ⟨rfl, hw6⟩; have hw6 := hw6.symm; subst hw6))
          obtain ⟨f0, f1, f2⟩ := res3 (x := .int .i64 0) (y := .int .i64 0) (z := .int .i64 0) HR5.out
          exact bodyPost_ret (v := .tuple #[pv ⟨0, 0, 0⟩, .int .i64 13]) (by simp [results, Tryz.results99, go_sem, f0, f1, f2]) rfl ⟨rfl, (below3 HB5.out (Nat.le_add_right w.heap.size 1))⟩
         | true =>
          cases t2 with
          | false =>
           have hm2 : ((⟨0, 0, 0⟩ : Pw), (13 : Int)) = (rp, re) := hm1
           obtain ⟨rfl, rfl⟩ := Prod.mk.inj hm2
           clear hm1 hm2
           go_wp2_with (first
            | (go_at_call_of 119 (Value.int IntKind.i64 R.a); refine (F0.out _).mono ?_; rintro e w6 ⟨rfl, hw6⟩; have hw6 := hw6.symm; subst hw6)
            | (go_at_call_of 119 (Value.int IntKind.i64 R.b); refine (F1.out _).mono ?_; rintro e w6 ⟨rfl, hw6⟩; have hw6 := hw6.symm; subst hw6)
            | (go_at_call_of 119 (Value.int IntKind.i64 R.c); refine (F2.out _).mono ?_; rintro e w6 ⟨rfl, hw6⟩; have hw6 := hw6.symm; subst hw6))
           obtain ⟨f0, f1, f2⟩ := res3 (x := .int .i64 0) (y := .int .i64 0) (z := .int .i64 0) HR5.out
           exact bodyPost_ret (v := .tuple #[pv ⟨0, 0, 0⟩, .int .i64 13]) (by simp [results, Tryz.results99, go_sem, f0, f1, f2]) rfl ⟨rfl, (below3 HB5.out (Nat.le_add_right w.heap.size 1))⟩
          | true =>
           have hm2 : (R, (0 : Int)) = (rp, re) := hm1
           obtain ⟨h8, h9⟩ := Prod.mk.inj hm2
           subst h8 h9
           clear hm1 hm2
           go_wp2_with (first
            | (go_at_call_of 119 (Value.int IntKind.i64 R.a); refine (F0.out _).mono ?_; rintro e w6 ⟨rfl, hw6⟩; have hw6 := hw6.symm; subst hw6)
            | (go_at_call_of 119 (Value.int IntKind.i64 R.b); refine (F1.out _).mono ?_; rintro e w6 ⟨rfl, hw6⟩; have hw6 := hw6.symm; subst hw6)
            | (go_at_call_of 119 (Value.int IntKind.i64 R.c); refine (F2.out _).mono ?_; rintro e w6 ⟨rfl, hw6⟩; have hw6 := hw6.symm; subst hw6))
           obtain ⟨f0, f1, f2⟩ := res3 (x := .int .i64 R.a) (y := .int .i64 R.b) (z := .int .i64 R.c) HR5.out
           exact bodyPost_ret (v := .tuple #[pv R, .int .i64 0]) (by simp [results, Tryz.results99, go_sem, f0, f1, f2]) rfl ⟨rfl, (below3 HB5.out (Nat.le_add_right w.heap.size 1))⟩
       ·have hm1 : ((⟨0, 0, 0⟩ : Pw), (13 : Int)) = (rp, re) := by
         rw [h] at hm0
         have e2 : twoP 4 p q = .error 13 := by simp [twoP, hpq]
         rw [e2] at hm0
         exact hm0
        obtain ⟨h8, h9⟩ := Prod.mk.inj hm1
        subst h8 h9
        clear hm0 hm1 hpr hqr h4 h10 pa pb pc qa qb qc
        by_cases ha : p.a = q.a
        ·by_cases hb : p.b = q.b
         ·have hcc : ¬ p.c = q.c := fun hcc => hpq (by obtain ⟨x, y, z⟩ := p; obtain ⟨x', y', z'⟩ := q; simp only at ha hb hcc; rw [ha, hb, hcc])
          clear hpq
          go_wp2_with fail
          have f0 := fun o => (res3a (x := .int .i64 0) (y := .int .i64 0) (z := .int .i64 0) HR.out o).1
          have f1 := fun o => (res3a (x := .int .i64 0) (y := .int .i64 0) (z := .int .i64 0) HR.out o).2.1
          have f2 := fun o => (res3a (x := .int .i64 0) (y := .int .i64 0) (z := .int .i64 0) HR.out o).2.2
          exact bodyPost_ret (v := .tuple #[pv ⟨0, 0, 0⟩, .int .i64 13]) (by simp [results, Tryz.results99, go_sem, f0, f1, f2]) rfl ⟨rfl, bAlloc (below3 HB.out (Nat.le_add_right w.heap.size 1))⟩
         ·clear hpq
          go_wp2_with fail
          have f0 := fun o => (res3a (x := .int .i64 0) (y := .int .i64 0) (z := .int .i64 0) HR.out o).1
          have f1 := fun o => (res3a (x := .int .i64 0) (y := .int .i64 0) (z := .int .i64 0) HR.out o).2.1
          have f2 := fun o => (res3a (x := .int .i64 0) (y := .int .i64 0) (z := .int .i64 0) HR.out o).2.2
          exact bodyPost_ret (v := .tuple #[pv ⟨0, 0, 0⟩, .int .i64 13]) (by simp [results, Tryz.results99, go_sem, f0, f1, f2]) rfl ⟨rfl, bAlloc (below3 HB.out (Nat.le_add_right w.heap.size 1))⟩
        ·clear hpq
         go_wp2_with fail
         have f0 := fun o => (res3a (x := .int .i64 0) (y := .int .i64 0) (z := .int .i64 0) HR.out o).1
         have f1 := fun o => (res3a (x := .int .i64 0) (y := .int .i64 0) (z := .int .i64 0) HR.out o).2.1
         have f2 := fun o => (res3a (x := .int .i64 0) (y := .int .i64 0) (z := .int .i64 0) HR.out o).2.2
         exact bodyPost_ret (v := .tuple #[pv ⟨0, 0, 0⟩, .int .i64 13]) (by simp [results, Tryz.results99, go_sem, f0, f1, f2]) rfl ⟨rfl, bAlloc (below3 HB.out (Nat.le_add_right w.heap.size 1))⟩
     ·as_aux_lemma =>
       by_cases hpq : p = q
       ·subst hpq
        have heq := fun w => run_u_sameE p w
        obtain ⟨R, hR⟩ : ∃ R : Pw, R = p := ⟨_, rfl⟩
        have hm : Hid (resP (limP R) = (rp, re)) := Lib.hid (by
         rw [h] at hm0
         have e2 : twoP 5 p p = .ok p := by simp [twoP]
         rw [e2] at hm0
         rw [hR]
         unfold limP
         rw [if_pos hpr]
         exact hm0)
        clear hm0 hpr hqr h4 h10
        go_upto_region 23 with fail
        obtain ⟨W5, hW5⟩ : ∃ W5, W5 = wr.alloc (.cells (pArr R) 119) := ⟨_, rfl⟩
        rw [hR] at hW5
        rw [← hW5]
        rw [← hR] at hW5
        clear hR pa pb pc qa qb qc heq
        have HZ : Hid (W5.heap[wr.heap.size]? = some (.cells (pArr R) 119 (0, 0))) := Lib.hid (by rw [hW5]; exact newBlk _ _ _ rfl)
        have HR5 : Hid (W5.heap[w.heap.size + 1]? = some (.cells (pArr ⟨0, 0, 0⟩) 119 (0, 0))) := Lib.hid (by rw [hW5]; exact (Below.heap_alloc _ _ _ rl).trans HR.out)
        have HB5 : Hid (Below w.heap.size w W5) := Lib.hid (by rw [hW5]; exact bAlloc HB.out)
        clear hW5 HE HU HB el rl ul
        clear e0 e1 e2 e3 r0 r1 r2 d0 d1 d2 c0 c1 c2 c3 c4 c5 fz
        clear HR
        obtain ⟨⟨r0, r1, r2⟩, d0, d1, d2⟩ := cells3 HR5.out
        obtain ⟨⟨z0, z1, z2⟩, -⟩ := cells3 HZ.out
        have rl := blkLt HR5.out
        have zl := blkLt HZ.out
        have F0 := Lib.hid (fun w => fitsR_any R.a w)
        have F1 := Lib.hid (fun w => fitsR_any R.b w)
        have F2 := Lib.hid (fun w => fitsR_any R.c w)
        have hrg : rgB R = (btw R.a (-4) 4 && (btw R.b (-4) 4 && btw R.c (-4) 4)) := rfl
        have hm1 := hm.out
        unfold limP at hm1
        rw [hrg] at hm1
        generalize btw R.a (-4) 4 = t0 at *
        generalize btw R.b (-4) 4 = t1 at *
        generalize btw R.c (-4) 4 = t2 at *
        clear hm hrg
        cases t0 with
        | false =>
         have hm2 : ((⟨0, 0, 0⟩ : Pw), (13 : Int)) = (rp, re) := hm1
         obtain ⟨rfl, rfl⟩ := Prod.mk.inj hm2
         clear hm1 hm2
         go_wp2_with (first
          | (go_at_call_of 119 (Value.int IntKind.i64 R.a); refine (F0.out _).mono ?_; rintro e w6 ⟨rfl, hw6⟩; have hw6 := hw6.symm; subst hw6)
          | (go_at_call_of 119 (Value.int IntKind.i64 R.b); refine (F1.out _).mono ?_; rintro e w6 ⟨rfl, hw6⟩; have hw6 := hw6.symm; subst hw6)
          | (go_at_call_of 119 (Value.int IntKind.i64 R.c); refine (F2.out _).mono ?_; rintro e w6 ⟨rfl, hw6⟩; have hw6 := hw6.symm; subst hw6))
         obtain ⟨f0, f1, f2⟩ := res3 (x := .int .i64 0) (y := .int .i64 0) (z := .int .i64 0) HR5.out
         exact bodyPost_ret (v := .tuple #[pv ⟨0, 0, 0⟩, .int .i64 13]) (by simp [results, Tryz.results99, go_sem, f0, f1, f2]) rfl ⟨rfl, (below3 HB5.out (Nat.le_add_right w.heap.size 1))⟩
        | true =>
         cases t1 with
         | false =>
          have hm2 : ((⟨0, 0, 0⟩ : Pw), (13 : Int)) = (rp, re) := hm1
          obtain ⟨rfl, rfl⟩ := Prod.mk.inj hm2
          clear hm1 hm2
          go_wp2_with (first
           | (go_at_call_of 119 (Value.int IntKind.i64 R.a); refine (F0.out _).mono ?_; rintro e w6 ⟨rfl, hw6⟩; have hw6 := hw6.symm; subst hw6)
           | (go_at_call_of 119 (Value.int IntKind.i64 R.b); refine (F1.out _).mono ?_; rintro e w6 ⟨rfl, hw6⟩; have hw6 := hw6.symm; subst hw6)
           | (go_at_call_of 119 (Value.int IntKind.i64 R.c); refine (F2.out _).mono ?_; rintro e w6 ⟨rfl, hw6⟩; have hw6 := hw6.symm; subst hw6))
          obtain ⟨f0, f1, f2⟩ := res3 (x := .int .i64 0) (y := .int .i64 0) (z := .int .i64 0) HR5.out
          exact bodyPost_ret (v := .tuple #[pv ⟨0, 0, 0⟩, .int .i64 13]) (by simp [results, Tryz.results99, go_sem, f0, f1, f2]) rfl ⟨rfl, (below3 HB5.out (Nat.le_add_right w.heap.size 1))⟩
         | true =>
          cases t2 with
          | false =>
           have hm2 : ((⟨0, 0, 0⟩ : Pw), (13 : Int)) = (rp, re) := hm1
           obtain ⟨rfl, rfl⟩ := Prod.mk.inj hm2
           clear hm1 hm2
           go_wp2_with (first
            | (go_at_call_of 119 (Value.int IntKind.i64 R.a); refine (F0.out _).mono ?_; rintro e w6 ⟨rfl, hw6⟩; have hw6 := hw6.symm; subst hw6)
            | (go_at_call_of 119 (Value.int IntKind.i64 R.b); refine (F1.out _).mono ?_; rintro e w6 ⟨rfl, hw6⟩; have hw6 := hw6.symm; subst hw6)
            | (go_at_call_of 119 (Value.int IntKind.i64 R.c); refine (F2.out _).mono ?_; rintro e w6 ⟨rfl, hw6⟩; have hw6 := hw6.symm; subst hw6))
           obtain ⟨f0, f1, f2⟩ := res3 (x := .int .i64 0) (y := .int .i64 0) (z := .int .i64 0) HR5.out
           exact bodyPost_ret (v := .tuple #[pv ⟨0, 0, 0⟩, .int .i64 13]) (by simp [results, Tryz.results99, go_sem, f0, f1, f2]) rfl ⟨rfl, (below3 HB5.out (Nat.le_add_right w.heap.size 1))⟩
          | true =>
           have hm2 : (R, (0 : Int)) = (rp, re) := hm1
           obtain ⟨h8, h9⟩ := Prod.mk.inj hm2
           subst h8 h9
           clear hm1 hm2
           go_wp2_with (first
            | (go_at_call_of 119 (Value.int IntKind.i64 R.a); refine (F0.out _).mono ?_; rintro e w6 ⟨rfl, hw6⟩; have hw6 := hw6.symm; subst hw6)
            | (go_at_call_of 119 (Value.int IntKind.i64 R.b); refine (F1.out _).mono ?_; rintro e w6 ⟨rfl, hw6⟩; have hw6 := hw6.symm; subst hw6)
            | (go_at_call_of 119 (Value.int IntKind.i64 R.c); refine (F2.out _).mono ?_; rintro e w6 ⟨rfl, hw6⟩; have hw6 := hw6.symm; subst hw6))
           obtain ⟨f0, f1, f2⟩ := res3 (x := .int .i64 R.a) (y := .int .i64 R.b) (z := .int .i64 R.c) HR5.out
           exact bodyPost_ret (v := .tuple #[pv R, .int .i64 0]) (by simp [results, Tryz.results99, go_sem, f0, f1, f2]) rfl ⟨rfl, (below3 HB5.out (Nat.le_add_right w.heap.size 1))⟩
       ·have hm1 : ((⟨0, 0, 0⟩ : Pw), (13 : Int)) = (rp, re) := by
         rw [h] at hm0
         have e2 : twoP 5 p q = .error 13 := by simp [twoP, hpq]
         rw [e2] at hm0
         exact hm0
        obtain ⟨h8, h9⟩ := Prod.mk.inj hm1
        subst h8 h9
        clear hm0 hm1 hpr hqr h4 h10 pa pb pc qa qb qc
        by_cases ha : p.a = q.a
        ·by_cases hb : p.b = q.b
         ·have hcc : ¬ p.c = q.c := fun hcc => hpq (by obtain ⟨x, y, z⟩ := p; obtain ⟨x', y', z'⟩ := q; simp only at ha hb hcc; rw [ha, hb, hcc])
          clear hpq
          go_wp2_with fail
          have f0 := fun o => (res3a (x := .int .i64 0) (y := .int .i64 0) (z := .int .i64 0) HR.out o).1
          have f1 := fun o => (res3a (x := .int .i64 0) (y := .int .i64 0) (z := .int .i64 0) HR.out o).2.1
          have f2 := fun o => (res3a (x := .int .i64 0) (y := .int .i64 0) (z := .int .i64 0) HR.out o).2.2
          exact bodyPost_ret (v := .tuple #[pv ⟨0, 0, 0⟩, .int .i64 13]) (by simp [results, Tryz.results99, go_sem, f0, f1, f2]) rfl ⟨rfl, bAlloc (below3 HB.out (Nat.le_add_right w.heap.size 1))⟩
         ·clear hpq
          go_wp2_with fail
          have f0 := fun o => (res3a (x := .int .i64 0) (y := .int .i64 0) (z := .int .i64 0) HR.out o).1
          have f1 := fun o => (res3a (x := .int .i64 0) (y := .int .i64 0) (z := .int .i64 0) HR.out o).2.1
          have f2 := fun o => (res3a (x := .int .i64 0) (y := .int .i64 0) (z := .int .i64 0) HR.out o).2.2
          exact bodyPost_ret (v := .tuple #[pv ⟨0, 0, 0⟩, .int .i64 13]) (by simp [results, Tryz.results99, go_sem, f0, f1, f2]) rfl ⟨rfl, bAlloc (below3 HB.out (Nat.le_add_right w.heap.size 1))⟩
        ·clear hpq
         go_wp2_with fail
         have f0 := fun o => (res3a (x := .int .i64 0) (y := .int .i64 0) (z := .int .i64 0) HR.out o).1
         have f1 := fun o => (res3a (x := .int .i64 0) (y := .int .i64 0) (z := .int .i64 0) HR.out o).2.1
         have f2 := fun o => (res3a (x := .int .i64 0) (y := .int .i64 0) (z := .int .i64 0) HR.out o).2.2
         exact bodyPost_ret (v := .tuple #[pv ⟨0, 0, 0⟩, .int .i64 13]) (by simp [results, Tryz.results99, go_sem, f0, f1, f2]) rfl ⟨rfl, bAlloc (below3 HB.out (Nat.le_add_right w.heap.size 1))⟩
     ·as_aux_lemma =>
       obtain ⟨R, hR⟩ : ∃ R : Pw, R = ⟨p.a + q.a, p.b + q.b, p.c + q.c⟩ := ⟨_, rfl⟩
       have hm : Hid (resP (limP R) = (rp, re)) := Lib.hid (by
        rw [h] at hm0
        have e : addP p q 1 = R := by rw [hR]; simp only [addP]; congr 1 <;> omega
        have e2 : twoP 6 p q = limP R := by rw [← e]; rfl
        rw [e2] at hm0
        exact hm0)
       clear hm0 hpr hqr h4 h10
       go_upto_region 23 with fail
       obtain ⟨W5, hW5⟩ : ∃ W5, W5 = wr.alloc (.cells (pArr R) 119) := ⟨_, rfl⟩
       have hW6 : W5 = wr.alloc (.cells #[.int .i64 (p.a + q.a), .int .i64 (p.b + q.b), .int .i64 (p.c + q.c)] 119) := by rw [hW5, hR]
       rw [← hW6]
       clear hW6 hR pa pb pc qa qb qc
       have HZ : Hid (W5.heap[wr.heap.size]? = some (.cells (pArr R) 119 (0, 0))) := Lib.hid (by rw [hW5]; exact newBlk _ _ _ rfl)
       have HR5 : Hid (W5.heap[w.heap.size + 1]? = some (.cells (pArr ⟨0, 0, 0⟩) 119 (0, 0))) := Lib.hid (by rw [hW5]; exact (Below.heap_alloc _ _ _ rl).trans HR.out)
       have HB5 : Hid (Below w.heap.size w W5) := Lib.hid (by rw [hW5]; exact bAlloc HB.out)
       clear hW5 HE HU HB el rl ul
       clear e0 e1 e2 e3 r0 r1 r2 d0 d1 d2 c0 c1 c2 c3 c4 c5 fz
       clear HR
       obtain ⟨⟨r0, r1, r2⟩, d0, d1, d2⟩ := cells3 HR5.out
       obtain ⟨⟨z0, z1, z2⟩, -⟩ := cells3 HZ.out
       have rl := blkLt HR5.out
       have zl := blkLt HZ.out
       have F0 := Lib.hid (fun w => fitsR_any R.a w)
       have F1 := Lib.hid (fun w => fitsR_any R.b w)
       have F2 := Lib.hid (fun w => fitsR_any R.c w)
       have hrg : rgB R = (btw R.a (-4) 4 && (btw R.b (-4) 4 && btw R.c (-4) 4)) := rfl
       have hm1 := hm.out
       unfold limP at hm1
       rw [hrg] at hm1
       generalize btw R.a (-4) 4 = t0 at *
       generalize btw R.b (-4) 4 = t1 at *
       generalize btw R.c (-4) 4 = t2 at *
       clear hm hrg
       cases t0 with
       | false =>
        have hm2 : ((⟨0, 0, 0⟩ : Pw), (13 : Int)) = (rp, re) := hm1
        obtain ⟨rfl, rfl⟩ := Prod.mk.inj hm2
        clear hm1 hm2
        go_wp2_with (first
         | (go_at_call_of 119 (Value.int IntKind.i64 R.a); refine (F0.out _).mono ?_; rintro e w6 ⟨rfl, hw6⟩; have hw6 := hw6.symm; subst hw6)
         | (go_at_call_of 119 (Value.int IntKind.i64 R.b); refine (F1.out _).mono ?_; rintro e w6 ⟨rfl, hw6⟩; have hw6 := hw6.symm; subst hw6)
         | (go_at_call_of 119 (Value.int IntKind.i64 R.c); refine (F2.out _).mono ?_; rintro e w6 ⟨rfl, hw6⟩; have hw6 := hw6.symm; subst hw6))
        obtain ⟨f0, f1, f2⟩ := res3 (x := .int .i64 0) (y := .int .i64 0) (z := .int .i64 0) HR5.out
        exact bodyPost_ret (v := .tuple #[pv ⟨0, 0, 0⟩, .int .i64 13]) (by simp [results, Tryz.results99, go_sem, f0, f1, f2]) rfl ⟨rfl, (below3 HB5.out (Nat.le_add_right w.heap.size 1))⟩
       | true =>
        cases t1 with
        | false =>
         have hm2 : ((⟨0, 0, 0⟩ : Pw), (13 : Int)) = (rp, re) := hm1
         obtain ⟨rfl, rfl⟩ := Prod.mk.inj hm2
         clear hm1 hm2
         go_wp2_with (first
          | (go_at_call_of 119 (Value.int IntKind.i64 R.a); refine (F0.out _).mono ?_; rintro e w6 ⟨rfl, hw6⟩; have hw6 := hw6.symm; subst hw6)
          | (go_at_call_of 119 (Value.int IntKind.i64 R.b); refine (F1.out _).mono ?_; rintro e w6 ⟨rfl, hw6⟩; have hw6 := hw6.symm; subst hw6)
          | (go_at_call_of 119 (Value.int IntKind.i64 R.c); refine (F2.out _).mono ?_; rintro e w6 ⟨rfl, hw6⟩; have hw6 := hw6.symm; subst hw6))
         obtain ⟨f0, f1, f2⟩ := res3 (x := .int .i64 0) (y := .int .i64 0) (z := .int .i64 0) HR5.out
         exact bodyPost_ret (v := .tuple #[pv ⟨0, 0, 0⟩, .int .i64 13]) (by simp [results, Tryz.results99, go_sem, f0, f1, f2]) rfl ⟨rfl, (below3 HB5.out (Nat.le_add_right w.heap.size 1))⟩
        | true =>
         cases t2 with
         | false =>
          have hm2 : ((⟨0, 0, 0⟩ : Pw), (13 : Int)) = (rp, re) := hm1
          obtain ⟨rfl, rfl⟩ := Prod.mk.inj hm2
          clear hm1 hm2
          go_wp2_with (first
           | (go_at_call_of 119 (Value.int IntKind.i64 R.a); refine (F0.out _).mono ?_; rintro e w6 ⟨rfl, hw6⟩; have hw6 := hw6.symm; subst hw6)
           | (go_at_call_of 119 (Value.int IntKind.i64 R.b); refine (F1.out _).mono ?_; rintro e w6 ⟨rfl, hw6⟩; have hw6 := hw6.symm; subst hw6)
           | (go_at_call_of 119 (Value.int IntKind.i64 R.c); refine (F2.out _).mono ?_; rintro e w6 ⟨rfl, hw6⟩; have hw6 := hw6.symm; subst hw6))
          obtain ⟨f0, f1, f2⟩ := res3 (x := .int .i64 0) (y := .int .i64 0) (z := .int .i64 0) HR5.out
          exact bodyPost_ret (v := .tuple #[pv ⟨0, 0, 0⟩, .int .i64 13]) (by simp [results, Tryz.results99, go_sem, f0, f1, f2]) rfl ⟨rfl, (below3 HB5.out (Nat.le_add_right w.heap.size 1))⟩
         | true =>
          have hm2 : (R, (0 : Int)) = (rp, re) := hm1
          obtain ⟨h8, h9⟩ := Prod.mk.inj hm2
          subst h8 h9
          clear hm1 hm2
          go_wp2_with (first
           | (go_at_call_of 119 (Value.int IntKind.i64 R.a); refine (F0.out _).mono ?_; rintro e w6 ⟨rfl, hw6⟩; have hw6 := hw6.symm; subst hw6)
           | (go_at_call_of 119 (Value.int IntKind.i64 R.b); refine (F1.out _).mono ?_; rintro e w6 ⟨rfl, hw6⟩; have hw6 := hw6.symm; subst hw6)
           | (go_at_call_of 119 (Value.int IntKind.i64 R.c); refine (F2.out _).mono ?_; rintro e w6 ⟨rfl, hw6⟩; have hw6 := hw6.symm; subst hw6))
          obtain ⟨f0, f1, f2⟩ := res3 (x := .int .i64 R.a) (y := .int .i64 R.b) (z := .int .i64 R.c) HR5.out
          exact bodyPost_ret (v := .tuple #[pv R, .int .i64 0]) (by simp [results, Tryz.results99, go_sem, f0, f1, f2]) rfl ⟨rfl, (below3 HB5.out (Nat.le_add_right w.heap.size 1))⟩
     ·as_aux_lemma =>
       obtain ⟨R, hR⟩ : ∃ R : Pw, R = ⟨p.a - q.a, p.b - q.b, p.c - q.c⟩ := ⟨_, rfl⟩
       have hm : Hid (resP (limP R) = (rp, re)) := Lib.hid (by
        rw [h] at hm0
        have e : addP p q (-1) = R := by rw [hR]; simp only [addP]; congr 1 <;> omega
        have e2 : twoP 7 p q = limP R := by rw [← e]; rfl
        rw [e2] at hm0
        exact hm0)
       clear hm0 hpr hqr h4 h10
       go_upto_region 23 with fail
       obtain ⟨W5, hW5⟩ : ∃ W5, W5 = wr.alloc (.cells (pArr R) 119) := ⟨_, rfl⟩
       have hW6 : W5 = wr.alloc (.cells #[.int .i64 (p.a - q.a), .int .i64 (p.b - q.b), .int .i64 (p.c - q.c)] 119) := by rw [hW5, hR]
       rw [← hW6]
       clear hW6 hR pa pb pc qa qb qc
       have HZ : Hid (W5.heap[wr.heap.size]? = some (.cells (pArr R) 119 (0, 0))) := Lib.hid (by rw [hW5]; exact newBlk _ _ _ rfl)
       have HR5 : Hid (W5.heap[w.heap.size + 1]? = some (.cells (pArr ⟨0, 0, 0⟩) 119 (0, 0))) := Lib.hid (by rw [hW5]; exact (Below.heap_alloc _ _ _ rl).trans HR.out)
       have HB5 : Hid (Below w.heap.size w W5) := Lib.hid (by rw [hW5]; exact bAlloc HB.out)
       clear hW5 HE HU HB el rl ul
       clear e0 e1 e2 e3 r0 r1 r2 d0 d1 d2 c0 c1 c2 c3 c4 c5 fz
       clear HR
       obtain ⟨⟨r0, r1, r2⟩, d0, d1, d2⟩ := cells3 HR5.out
       obtain ⟨⟨z0, z1, z2⟩, -⟩ := cells3 HZ.out
       have rl := blkLt HR5.out
       have zl := blkLt HZ.out
       have F0 := Lib.hid (fun w => fitsR_any R.a w)
       have F1 := Lib.hid (fun w => fitsR_any R.b w)
       have F2 := Lib.hid (fun w => fitsR_any R.c w)
       have hrg : rgB R = (btw R.a (-4) 4 && (btw R.b (-4) 4 && btw R.c (-4) 4)) := rfl
       have hm1 := hm.out
       unfold limP at hm1
       rw [hrg] at hm1
       generalize btw R.a (-4) 4 = t0 at *
       generalize btw R.b (-4) 4 = t1 at *
       generalize btw R.c (-4) 4 = t2 at *
       clear hm hrg
       cases t0 with
       | false =>
        have hm2 : ((⟨0, 0, 0⟩ : Pw), (13 : Int)) = (rp, re) := hm1
        obtain ⟨rfl, rfl⟩ := Prod.mk.inj hm2
        clear hm1 hm2
        go_wp2_with (first
         | (go_at_call_of 119 (Value.int IntKind.i64 R.a); refine (F0.out _).mono ?_; rintro e w6 ⟨rfl, hw6⟩; have hw6 := hw6.symm; subst hw6)
         | (go_at_call_of 119 (Value.int IntKind.i64 R.b); refine (F1.out _).mono ?_; rintro e w6 ⟨rfl, hw6⟩; have hw6 := hw6.symm; subst hw6)
         | (go_at_call_of 119 (Value.int IntKind.i64 R.c); refine (F2.out _).mono ?_; rintro e w6 ⟨rfl, hw6⟩; have hw6 := hw6.symm; subst hw6))
        obtain ⟨f0, f1, f2⟩ := res3 (x := .int .i64 0) (y := .int .i64 0) (z := .int .i64 0) HR5.out
        exact bodyPost_ret (v := .tuple #[pv ⟨0, 0, 0⟩, .int .i64 13]) (by simp [results, Tryz.results99, go_sem, f0, f1, f2]) rfl ⟨rfl, (below3 HB5.out (Nat.le_add_right w.heap.size 1))⟩
       | true =>
        cases t1 with
        | false =>
         have hm2 : ((⟨0, 0, 0⟩ : Pw), (13 : Int)) = (rp, re) := hm1
         obtain ⟨rfl, rfl⟩ := Prod.mk.inj hm2
         clear hm1 hm2
         go_wp2_with (first
          | (go_at_call_of 119 (Value.int IntKind.i64 R.a); refine (F0.out _).mono ?_; rintro e w6 ⟨rfl, hw6⟩; have hw6 := hw6.symm; subst hw6)
          | (go_at_call_of 119 (Value.int IntKind.i64 R.b); refine (F1.out _).mono ?_; rintro e w6 ⟨rfl, hw6⟩; have hw6 := hw6.symm; subst hw6)
          | (go_at_call_of 119 (Value.int IntKind.i64 R.c); refine (F2.out _).mono ?_; rintro e w6 ⟨rfl, hw6⟩; have hw6 := hw6.symm; subst hw6))
         obtain ⟨f0, f1, f2⟩ := res3 (x := .int .i64 0) (y := .int .i64 0) (z := .int .i64 0) HR5.out
         exact bodyPost_ret (v := .tuple #[pv ⟨0, 0, 0⟩, .int .i64 13]) (by simp [results, Tryz.results99, go_sem, f0, f1, f2]) rfl ⟨rfl, (below3 HB5.out (Nat.le_add_right w.heap.size 1))⟩
        | true =>
         cases t2 with
         | false =>
          have hm2 : ((⟨0, 0, 0⟩ : Pw), (13 : Int)) = (rp, re) := hm1
          obtain ⟨rfl, rfl⟩ := Prod.mk.inj hm2
          clear hm1 hm2
          go_wp2_with (first
           | (go_at_call_of 119 (Value.int IntKind.i64 R.a); refine (F0.out _).mono ?_; rintro e w6 ⟨rfl, hw6⟩; have hw6 := hw6.symm; subst hw6)
           | (go_at_call_of 119 (Value.int IntKind.i64 R.b); refine (F1.out _).mono ?_; rintro e w6 ⟨rfl, hw6⟩; have hw6 := hw6.symm; subst hw6)
           | (go_at_call_of 119 (Value.int IntKind.i64 R.c); refine (F2.out _).mono ?_; rintro e w6 ⟨rfl, hw6⟩; have hw6 := hw6.symm; subst hw6))
          obtain ⟨f0, f1, f2⟩ := res3 (x := .int .i64 0) (y := .int .i64 0) (z := .int .i64 0) HR5.out
          exact bodyPost_ret (v := .tuple #[pv ⟨0, 0, 0⟩, .int .i64 13]) (by simp [results, Tryz.results99, go_sem, f0, f1, f2]) rfl ⟨rfl, (below3 HB5.out (Nat.le_add_right w.heap.size 1))⟩
         | true =>
          have hm2 : (R, (0 : Int)) = (rp, re) := hm1
          obtain ⟨h8, h9⟩ := Prod.mk.inj hm2
          subst h8 h9
          clear hm1 hm2
          go_wp2_with (first
           | (go_at_call_of 119 (Value.int IntKind.i64 R.a); refine (F0.out _).mono ?_; rintro e w6 ⟨rfl, hw6⟩; have hw6 := hw6.symm; subst hw6)
           | (go_at_call_of 119 (Value.int IntKind.i64 R.b); refine (F1.out _).mono ?_; rintro e w6 ⟨rfl, hw6⟩; have hw6 := hw6.symm; subst hw6)
           | (go_at_call_of 119 (Value.int IntKind.i64 R.c); refine (F2.out _).mono ?_; rintro e w6 ⟨rfl, hw6⟩; have hw6 := hw6.symm; subst hw6))
          obtain ⟨f0, f1, f2⟩ := res3 (x := .int .i64 R.a) (y := .int .i64 R.b) (z := .int .i64 R.c) HR5.out
          exact bodyPost_ret (v := .tuple #[pv R, .int .i64 0]) (by simp [results, Tryz.results99, go_sem, f0, f1, f2]) rfl ⟨rfl, (below3 HB5.out (Nat.le_add_right w.heap.size 1))⟩
     ·as_aux_lemma =>
       obtain ⟨R, hR⟩ : ∃ R : Pw, R = ⟨p.a - q.a, p.b - q.b, p.c - q.c⟩ := ⟨_, rfl⟩
       have hm : Hid (resP (limP R) = (rp, re)) := Lib.hid (by
        rw [h] at hm0
        have e : addP p q (-1) = R := by rw [hR]; simp only [addP]; congr 1 <;> omega
        have e2 : twoP 8 p q = limP R := by rw [← e]; rfl
        rw [e2] at hm0
        exact hm0)
       clear hm0 hpr hqr h4 h10
       go_upto_region 23 with fail
       obtain ⟨W5, hW5⟩ : ∃ W5, W5 = wr.alloc (.cells (pArr R) 119) := ⟨_, rfl⟩
       have hW6 : W5 = wr.alloc (.cells #[.int .i64 (p.a - q.a), .int .i64 (p.b - q.b), .int .i64 (p.c - q.c)] 119) := by rw [hW5, hR]
       rw [← hW6]
       clear hW6 hR pa pb pc qa qb qc
       have HZ : Hid (W5.heap[wr.heap.size]? = some (.cells (pArr R) 119 (0, 0))) := Lib.hid (by rw [hW5]; exact newBlk _ _ _ rfl)
       have HR5 : Hid (W5.heap[w.heap.size + 1]? = some (.cells (pArr ⟨0, 0, 0⟩) 119 (0, 0))) := Lib.hid (by rw [hW5]; exact (Below.heap_alloc _ _ _ rl).trans HR.out)
       have HB5 : Hid (Below w.heap.size w W5) := Lib.hid (by rw [hW5]; exact bAlloc HB.out)
       clear hW5 HE HU HB el rl ul
       clear e0 e1 e2 e3 r0 r1 r2 d0 d1 d2 c0 c1 c2 c3 c4 c5 fz
       clear HR
       obtain ⟨⟨r0, r1, r2⟩, d0, d1, d2⟩ := cells3 HR5.out
       obtain ⟨⟨z0, z1, z2⟩, -⟩ := cells3 HZ.out
       have rl := blkLt HR5.out
       have zl := blkLt HZ.out
       have F0 := Lib.hid (fun w => fitsR_any R.a w)
       have F1 := Lib.hid (fun w => fitsR_any R.b w)
       have F2 := Lib.hid (fun w => fitsR_any R.c w)
       have hrg : rgB R = (btw R.a (-4) 4 && (btw R.b (-4) 4 && btw R.c (-4) 4)) := rfl
       have hm1 := hm.out
       unfold limP at hm1
       rw [hrg] at hm1
       generalize btw R.a (-4) 4 = t0 at *
       generalize btw R.b (-4) 4 = t1 at *
       generalize btw R.c (-4) 4 = t2 at *
       clear hm hrg
       cases t0 with
       | false =>
        have hm2 : ((⟨0, 0, 0⟩ : Pw), (13 : Int)) = (rp, re) := hm1
        obtain ⟨rfl, rfl⟩ := Prod.mk.inj hm2
        clear hm1 hm2
        go_wp2_with (first
         | (go_at_call_of 119 (Value.int IntKind.i64 R.a); refine (F0.out _).mono ?_; rintro e w6 ⟨rfl, hw6⟩; have hw6 := hw6.symm; subst hw6)
         | (go_at_call_of 119 (Value.int IntKind.i64 R.b); refine (F1.out _).mono ?_; rintro e w6 ⟨rfl, hw6⟩; have hw6 := hw6.symm; subst hw6)
         | (go_at_call_of 119 (Value.int IntKind.i64 R.c); refine (F2.out _).mono ?_; rintro e w6 ⟨rfl, hw6⟩; have hw6 := hw6.symm; subst hw6))
        obtain ⟨f0, f1, f2⟩ := res3 (x := .int .i64 0) (y := .int .i64 0) (z := .int .i64 0) HR5.out
        exact bodyPost_ret (v := .tuple #[pv ⟨0, 0, 0⟩, .int .i64 13]) (by simp [results, Tryz.results99, go_sem, f0, f1, f2]) rfl ⟨rfl, (below3 HB5.out (Nat.le_add_right w.heap.size 1))⟩
       | true =>
        cases t1 with
        | false =>
         have hm2 : ((⟨0, 0, 0⟩ : Pw), (13 : Int)) = (rp, re) := hm1
         obtain ⟨rfl, rfl⟩ := Prod.mk.inj hm2
         clear hm1 hm2
         go_wp2_with (first
          | (go_at_call_of 119 (Value.int IntKind.i64 R.a); refine (F0.out _).mono ?_; rintro e w6 ⟨rfl, hw6⟩; have hw6 := hw6.symm; subst hw6)
          | (go_at_call_of 119 (Value.int IntKind.i64 R.b); refine (F1.out _).mono ?_; rintro e w6 ⟨rfl, hw6⟩; have hw6 := hw6.symm; subst hw6)
          | (go_at_call_of 119 (Value.int IntKind.i64 R.c); refine (F2.out _).mono ?_; rintro e w6 ⟨rfl, hw6⟩; have hw6 := hw6.symm; subst hw6))
         obtain ⟨f0, f1, f2⟩ := res3 (x := .int .i64 0) (y := .int .i64 0) (z := .int .i64 0) HR5.out
         exact bodyPost_ret (v := .tuple #[pv ⟨0, 0, 0⟩, .int .i64 13]) (by simp [results, Tryz.results99, go_sem, f0, f1, f2]) rfl ⟨rfl, (below3 HB5.out (Nat.le_add_right w.heap.size 1))⟩
        | true =>
         cases t2 with
         | false =>
          have hm2 : ((⟨0, 0, 0⟩ : Pw), (13 : Int)) = (rp, re) := hm1
          obtain ⟨rfl, rfl⟩ := Prod.mk.inj hm2
          clear hm1 hm2
          go_wp2_with (first
           | (go_at_call_of 119 (Value.int IntKind.i64 R.a); refine (F0.out _).mono ?_; rintro e w6 ⟨rfl, hw6⟩; have hw6 := hw6.symm; subst hw6)
           | (go_at_call_of 119 (Value.int IntKind.i64 R.b); refine (F1.out _).mono ?_; rintro e w6 ⟨rfl, hw6⟩; have hw6 := hw6.symm; subst hw6)
           | (go_at_call_of 119 (Value.int IntKind.i64 R.c); refine (F2.out _).mono ?_; rintro e w6 ⟨rfl, hw6⟩; have hw6 := hw6.symm; subst hw6))
          obtain ⟨f0, f1, f2⟩ := res3 (x := .int .i64 0) (y := .int .i64 0) (z := .int .i64 0) HR5.out
          exact bodyPost_ret (v := .tuple #[pv ⟨0, 0, 0⟩, .int .i64 13]) (by simp [results, Tryz.results99, go_sem, f0, f1, f2]) rfl ⟨rfl, (below3 HB5.out (Nat.le_add_right w.heap.size 1))⟩
         | true =>
          have hm2 : (R, (0 : Int)) = (rp, re) := hm1
          obtain ⟨h8, h9⟩ := Prod.mk.inj hm2
          subst h8 h9
          clear hm1 hm2
          go_wp2_with (first
           | (go_at_call_of 119 (Value.int IntKind.i64 R.a); refine (F0.out _).mono ?_; rintro e w6 ⟨rfl, hw6⟩; have hw6 := hw6.symm; subst hw6)
           | (go_at_call_of 119 (Value.int IntKind.i64 R.b); refine (F1.out _).mono ?_; rintro e w6 ⟨rfl, hw6⟩; have hw6 := hw6.symm; subst hw6)
           | (go_at_call_of 119 (Value.int IntKind.i64 R.c); refine (F2.out _).mono ?_; rintro e w6 ⟨rfl, hw6⟩; have hw6 := hw6.symm; subst hw6))
          obtain ⟨f0, f1, f2⟩ := res3 (x := .int .i64 R.a) (y := .int .i64 R.b) (z := .int .i64 R.c) HR5.out
          exact bodyPost_ret (v := .tuple #[pv R, .int .i64 0]) (by simp [results, Tryz.results99, go_sem, f0, f1, f2]) rfl ⟨rfl, (below3 HB5.out (Nat.le_add_right w.heap.size 1))⟩
     ·as_aux_lemma =>
       by_cases hpq : p = q
       ·subst hpq
        have heq := fun w => run_u_sameE p w
        obtain ⟨R, hR⟩ : ∃ R : Pw, R = p := ⟨_, rfl⟩
        have hm : Hid (resP (limP R) = (rp, re)) := Lib.hid (by
         rw [h] at hm0
         have e2 : twoP 9 p p = .ok p := by simp [twoP]
         rw [e2] at hm0
         rw [hR]
         unfold limP
         rw [if_pos hpr]
         exact hm0)
        clear hm0 hpr hqr h4 h10
        go_upto_region 23 with fail
        obtain ⟨W5, hW5⟩ : ∃ W5, W5 = wr.alloc (.cells (pArr R) 119) := ⟨_, rfl⟩
        rw [hR] at hW5
        rw [← hW5]
        rw [← hR] at hW5
        clear hR pa pb pc qa qb qc heq
        have HZ : Hid (W5.heap[wr.heap.size]? = some (.cells (pArr R) 119 (0, 0))) := Lib.hid (by rw [hW5]; exact newBlk _ _ _ rfl)
        have HR5 : Hid (W5.heap[w.heap.size + 1]? = some (.cells (pArr ⟨0, 0, 0⟩) 119 (0, 0))) := Lib.hid (by rw [hW5]; exact (Below.heap_alloc _ _ _ rl).trans HR.out)
        have HB5 : Hid (Below w.heap.size w W5) := Lib.hid (by rw [hW5]; exact bAlloc HB.out)
        clear hW5 HE HU HB el rl ul
        clear e0 e1 e2 e3 r0 r1 r2 d0 d1 d2 c0 c1 c2 c3 c4 c5 fz
        clear HR
        obtain ⟨⟨r0, r1, r2⟩, d0, d1, d2⟩ := cells3 HR5.out
        obtain ⟨⟨z0, z1, z2⟩, -⟩ := cells3 HZ.out
        have rl := blkLt HR5.out
        have zl := blkLt HZ.out
        have F0 := Lib.hid (fun w => fitsR_any R.a w)
        have F1 := Lib.hid (fun w => fitsR_any R.b w)
        have F2 := Lib.hid (fun w => fitsR_any R.c w)
        have hrg : rgB R = (btw R.a (-4) 4 && (btw R.b (-4) 4 && btw R.c (-4) 4)) := rfl
        have hm1 := hm.out
        unfold limP at hm1
        rw [hrg] at hm1
        generalize btw R.a (-4) 4 = t0 at *
        generalize btw R.b (-4) 4 = t1 at *
        generalize btw R.c (-4) 4 = t2 at *
        clear hm hrg
        cases t0 with
        | false =>
         have hm2 : ((⟨0, 0, 0⟩ : Pw), (13 : Int)) = (rp, re) := hm1
         obtain ⟨rfl, rfl⟩ := Prod.mk.inj hm2
         clear hm1 hm2
         go_wp2_with (first
          | (go_at_call_of 119 (Value.int IntKind.i64 R.a); refine (F0.out _).mono ?_; rintro e w6 ⟨rfl, hw6⟩; have hw6 := hw6.symm; subst hw6)
          | (go_at_call_of 119 (Value.int IntKind.i64 R.b); refine (F1.out _).mono ?_; rintro e w6 ⟨rfl, hw6⟩; have hw6 := hw6.symm; subst hw6)
          | (go_at_call_of 119 (Value.int IntKind.i64 R.c); refine (F2.out _).mono ?_; rintro e w6 ⟨rfl, hw6⟩; have hw6 := hw6.symm; subst hw6))
         obtain ⟨f0, f1, f2⟩ := res3 (x := .int .i64 0) (y := .int .i64 0) (z := .int .i64 0) HR5.out
         exact bodyPost_ret (v := .tuple #[pv ⟨0, 0, 0⟩, .int .i64 13]) (by simp [results, Tryz.results99, go_sem, f0, f1, f2]) rfl ⟨rfl, (below3 HB5.out (Nat.le_add_right w.heap.size 1))⟩
        | true =>
         cases t1 with
         | false =>
          have hm2 : ((⟨0, 0, 0⟩ : Pw), (13 : Int)) = (rp, re) := hm1
          obtain ⟨rfl, rfl⟩ := Prod.mk.inj hm2
          clear hm1 hm2
          go_wp2_with (first
           | (go_at_call_of 119 (Value.int IntKind.i64 R.a); refine (F0.out _).mono ?_; rintro e w6 ⟨rfl, hw6⟩; have hw6 := hw6.symm; subst hw6)
           | (go_at_call_of 119 (Value.int IntKind.i64 R.b); refine (F1.out _).mono ?_; rintro e w6 ⟨rfl, hw6⟩; have hw6 := hw6.symm; subst hw6)
           | (go_at_call_of 119 (Value.int IntKind.i64 R.c); refine (F2.out _).mono ?_; rintro e w6 ⟨rfl, hw6⟩; have hw6 := hw6.symm; subst hw6))
          obtain ⟨f0, f1, f2⟩ := res3 (x := .int .i64 0) (y := .int .i64 0) (z := .int .i64 0) HR5.out
          exact bodyPost_ret (v := .tuple #[pv ⟨0, 0, 0⟩, .int .i64 13]) (by simp [results, Tryz.results99, go_sem, f0, f1, f2]) rfl ⟨rfl, (below3 HB5.out (Nat.le_add_right w.heap.size 1))⟩
         | true =>
          cases t2 with
          | false =>
           have hm2 : ((⟨0, 0, 0⟩ : Pw), (13 : Int)) = (rp, re) := hm1
           obtain ⟨rfl, rfl⟩ := Prod.mk.inj hm2
           clear hm1 hm2
           go_wp2_with (first
            | (go_at_call_of 119 (Value.int IntKind.i64 R.a); refine (F0.out _).mono ?_; rintro e w6 ⟨rfl, hw6⟩; have hw6 := hw6.symm; subst hw6)
            | (go_at_call_of 119 (Value.int IntKind.i64 R.b); refine (F1.out _).mono ?_; rintro e w6 ⟨rfl, hw6⟩; have hw6 := hw6.symm; subst hw6)
            | (go_at_call_of 119 (Value.int IntKind.i64 R.c); refine (F2.out _).mono ?_; rintro e w6 ⟨rfl, hw6⟩; have hw6 := hw6.symm; subst hw6))
           obtain ⟨f0, f1, f2⟩ := res3 (x := .int .i64 0) (y := .int .i64 0) (z := .int .i64 0) HR5.out
           exact bodyPost_ret (v := .tuple #[pv ⟨0, 0, 0⟩, .int .i64 13]) (by simp [results, Tryz.results99, go_sem, f0, f1, f2]) rfl ⟨rfl, (below3 HB5.out (Nat.le_add_right w.heap.size 1))⟩
          | true =>
           have hm2 : (R, (0 : Int)) = (rp, re) := hm1
           obtain ⟨h8, h9⟩ := Prod.mk.inj hm2
           subst h8 h9
           clear hm1 hm2
           go_wp2_with (first
            | (go_at_call_of 119 (Value.int IntKind.i64 R.a); refine (F0.out _).mono ?_; rintro e w6 ⟨rfl, hw6⟩; have hw6 := hw6.symm; subst hw6)
            | (go_at_call_of 119 (Value.int IntKind.i64 R.b); refine (F1.out _).mono ?_; rintro e w6 ⟨rfl, hw6⟩; have hw6 := hw6.symm; subst hw6)
            | (go_at_call_of 119 (Value.int IntKind.i64 R.c); refine (F2.out _).mono ?_; rintro e w6 ⟨rfl, hw6⟩; have hw6 := hw6.symm; subst hw6))
           obtain ⟨f0, f1, f2⟩ := res3 (x := .int .i64 R.a) (y := .int .i64 R.b) (z := .int .i64 R.c) HR5.out
           exact bodyPost_ret (v := .tuple #[pv R, .int .i64 0]) (by simp [results, Tryz.results99, go_sem, f0, f1, f2]) rfl ⟨rfl, (below3 HB5.out (Nat.le_add_right w.heap.size 1))⟩
       ·have hm1 : ((⟨0, 0, 0⟩ : Pw), (13 : Int)) = (rp, re) := by
         rw [h] at hm0
         have e2 : twoP 9 p q = .error 13 := by simp [twoP, hpq]
         rw [e2] at hm0
         exact hm0
        obtain ⟨h8, h9⟩ := Prod.mk.inj hm1
        subst h8 h9
        clear hm0 hm1 hpr hqr h4 h10 pa pb pc qa qb qc
        by_cases ha : p.a = q.a
        ·by_cases hb : p.b = q.b
         ·have hcc : ¬ p.c = q.c := fun hcc => hpq (by obtain ⟨x, y, z⟩ := p; obtain ⟨x', y', z'⟩ := q; simp only at ha hb hcc; rw [ha, hb, hcc])
          clear hpq
          go_wp2_with fail
          have f0 := fun o => (res3a (x := .int .i64 0) (y := .int .i64 0) (z := .int .i64 0) HR.out o).1
          have f1 := fun o => (res3a (x := .int .i64 0) (y := .int .i64 0) (z := .int .i64 0) HR.out o).2.1
          have f2 := fun o => (res3a (x := .int .i64 0) (y := .int .i64 0) (z := .int .i64 0) HR.out o).2.2
          exact bodyPost_ret (v := .tuple #[pv ⟨0, 0, 0⟩, .int .i64 13]) (by simp [results, Tryz.results99, go_sem, f0, f1, f2]) rfl ⟨rfl, bAlloc (below3 HB.out (Nat.le_add_right w.heap.size 1))⟩
         ·clear hpq
          go_wp2_with fail
          have f0 := fun o => (res3a (x := .int .i64 0) (y := .int .i64 0) (z := .int .i64 0) HR.out o).1
          have f1 := fun o => (res3a (x := .int .i64 0) (y := .int .i64 0) (z := .int .i64 0) HR.out o).2.1
          have f2 := fun o => (res3a (x := .int .i64 0) (y := .int .i64 0) (z := .int .i64 0) HR.out o).2.2
          exact bodyPost_ret (v := .tuple #[pv ⟨0, 0, 0⟩, .int .i64 13]) (by simp [results, Tryz.results99, go_sem, f0, f1, f2]) rfl ⟨rfl, bAlloc (below3 HB.out (Nat.le_add_right w.heap.size 1))⟩
        ·clear hpq
         go_wp2_with fail
         have f0 := fun o => (res3a (x := .int .i64 0) (y := .int .i64 0) (z := .int .i64 0) HR.out o).1
         have f1 := fun o => (res3a (x := .int .i64 0) (y := .int .i64 0) (z := .int .i64 0) HR.out o).2.1
         have f2 := fun o => (res3a (x := .int .i64 0) (y := .int .i64 0) (z := .int .i64 0) HR.out o).2.2
         exact bodyPost_ret (v := .tuple #[pv ⟨0, 0, 0⟩, .int .i64 13]) (by simp [results, Tryz.results99, go_sem, f0, f1, f2]) rfl ⟨rfl, bAlloc (below3 HB.out (Nat.le_add_right w.heap.size 1))⟩
     ·as_aux_lemma =>
       by_cases hpq : p = q
       ·subst hpq
        have heq := fun w => run_u_sameE p w
        obtain ⟨R, hR⟩ : ∃ R : Pw, R = p := ⟨_, rfl⟩
        have hm : Hid (resP (limP R) = (rp, re)) := Lib.hid (by
         rw [h] at hm0
         have e2 : twoP 10 p p = .ok p := by simp [twoP]
         rw [e2] at hm0
         rw [hR]
         unfold limP
         rw [if_pos hpr]
         exact hm0)
        clear hm0 hpr hqr h4 h10
        go_upto_region 23 with fail
        obtain ⟨W5, hW5⟩ : ∃ W5, W5 = wr.alloc (.cells (pArr R) 119) := ⟨_, rfl⟩
        rw [hR] at hW5
        rw [← hW5]
        rw [← hR] at hW5
        clear hR pa pb pc qa qb qc heq
        have HZ : Hid (W5.heap[wr.heap.size]? = some (.cells (pArr R) 119 (0, 0))) := Lib.hid (by rw [hW5]; exact newBlk _ _ _ rfl)
        have HR5 : Hid (W5.heap[w.heap.size + 1]? = some (.cells (pArr ⟨0, 0, 0⟩) 119 (0, 0))) := Lib.hid (by rw [hW5]; exact (Below.heap_alloc _ _ _ rl).trans HR.out)
        have HB5 : Hid (Below w.heap.size w W5) := Lib.hid (by rw [hW5]; exact bAlloc HB.out)
        clear hW5 HE HU HB el rl ul
        clear e0 e1 e2 e3 r0 r1 r2 d0 d1 d2 c0 c1 c2 c3 c4 c5 fz
        clear HR
        obtain ⟨⟨r0, r1, r2⟩, d0, d1, d2⟩ := cells3 HR5.out
        obtain ⟨⟨z0, z1, z2⟩, -⟩ := cells3 HZ.out
        have rl := blkLt HR5.out
        have zl := blkLt HZ.out
        have F0 := Lib.hid (fun w => fitsR_any R.a w)
        have F1 := Lib.hid (fun w => fitsR_any R.b w)
        have F2 := Lib.hid (fun w => fitsR_any R.c w)
        have hrg : rgB R = (btw R.a (-4) 4 && (btw R.b (-4) 4 && btw R.c (-4) 4)) := rfl
        have hm1 := hm.out
        unfold limP at hm1
        rw [hrg] at hm1
        generalize btw R.a (-4) 4 = t0 at *
        generalize btw R.b (-4) 4 = t1 at *
        generalize btw R.c (-4) 4 = t2 at *
        clear hm hrg
        cases t0 with
        | false =>
         have hm2 : ((⟨0, 0, 0⟩ : Pw), (13 : Int)) = (rp, re) := hm1
         obtain ⟨rfl, rfl⟩ := Prod.mk.inj hm2
         clear hm1 hm2
         go_wp2_with (first
          | (go_at_call_of 119 (Value.int IntKind.i64 R.a); refine (F0.out _).mono ?_; rintro e w6 ⟨rfl, hw6⟩; have hw6 := hw6.symm; subst hw6)
          | (go_at_call_of 119 (Value.int IntKind.i64 R.b); refine (F1.out _).mono ?_; rintro e w6 ⟨rfl, hw6⟩; have hw6 := hw6.symm; subst hw6)
          | (go_at_call_of 119 (Value.int IntKind.i64 R.c); refine (F2.out _).mono ?_; rintro e w6 ⟨rfl, hw6⟩; have hw6 := hw6.symm; subst hw6))
         obtain ⟨f0, f1, f2⟩ := res3 (x := .int .i64 0) (y := .int .i64 0) (z := .int .i64 0) HR5.out
         exact bodyPost_ret (v := .tuple #[pv ⟨0, 0, 0⟩, .int .i64 13]) (by simp [results, Tryz.results99, go_sem, f0, f1, f2]) rfl ⟨rfl, (below3 HB5.out (Nat.le_add_right w.heap.size 1))⟩
        | true =>
         cases t1 with
         | false =>
          have hm2 : ((⟨0, 0, 0⟩ : Pw), (13 : Int)) = (rp, re) := hm1
          obtain ⟨rfl, rfl⟩ := Prod.mk.inj hm2
          clear hm1 hm2
          go_wp2_with (first
           | (go_at_call_of 119 (Value.int IntKind.i64 R.a); refine (F0.out _).mono ?_; rintro e w6 ⟨rfl, hw6⟩; have hw6 := hw6.symm; subst hw6)
           | (go_at_call_of 119 (Value.int IntKind.i64 R.b); refine (F1.out _).mono ?_; rintro e w6 ⟨rfl, hw6⟩; have hw6 := hw6.symm; subst hw6)
           | (go_at_call_of 119 (Value.int IntKind.i64 R.c); refine (F2.out _).mono ?_; rintro e w6 ⟨rfl, hw6⟩; have hw6 := hw6.symm; subst hw6))
          obtain ⟨f0, f1, f2⟩ := res3 (x := .int .i64 0) (y := .int .i64 0) (z := .int .i64 0) HR5.out
          exact bodyPost_ret (v := .tuple #[pv ⟨0, 0, 0⟩, .int .i64 13]) (by simp [results, Tryz.results99, go_sem, f0, f1, f2]) rfl ⟨rfl, (below3 HB5.out (Nat.le_add_right w.heap.size 1))⟩
         | true =>
          cases t2 with
          | false =>
           have hm2 : ((⟨0, 0, 0⟩ : Pw), (13 : Int)) = (rp, re) := hm1
           obtain ⟨rfl, rfl⟩ := Prod.mk.inj hm2
           clear hm1 hm2
           go_wp2_with (first
            | (go_at_call_of 119 (Value.int IntKind.i64 R.a); refine (F0.out _).mono ?_; rintro e w6 ⟨rfl, hw6⟩; have hw6 := hw6.symm; subst hw6)
            | (go_at_call_of 119 (Value.int IntKind.i64 R.b); refine (F1.out _).mono ?_; rintro e w6 ⟨rfl, hw6⟩; have hw6 := hw6.symm; subst hw6)
            | (go_at_call_of 119 (Value.int IntKind.i64 R.c); refine (F2.out _).mono ?_; rintro e w6 ⟨rfl, hw6⟩; have hw6 := hw6.symm; subst hw6))
           obtain ⟨f0, f1, f2⟩ := res3 (x := .int .i64 0) (y := .int .i64 0) (z := .int .i64 0) HR5.out
           exact bodyPost_ret (v := .tuple #[pv ⟨0, 0, 0⟩, .int .i64 13]) (by simp [results, Tryz.results99, go_sem, f0, f1, f2]) rfl ⟨rfl, (below3 HB5.out (Nat.le_add_right w.heap.size 1))⟩
          | true =>
           have hm2 : (R, (0 : Int)) = (rp, re) := hm1
           obtain ⟨h8, h9⟩ := Prod.mk.inj hm2
           subst h8 h9
           clear hm1 hm2
           go_wp2_with (first
            | (go_at_call_of 119 (Value.int IntKind.i64 R.a); refine (F0.out _).mono ?_; rintro e w6 ⟨rfl, hw6⟩; have hw6 := hw6.symm; subst hw6)
            | (go_at_call_of 119 (Value.int IntKind.i64 R.b); refine (F1.out _).mono ?_; rintro e w6 ⟨rfl, hw6⟩; have hw6 := hw6.symm; subst hw6)
            | (go_at_call_of 119 (Value.int IntKind.i64 R.c); refine (F2.out _).mono ?_; rintro e w6 ⟨rfl, hw6⟩; have hw6 := hw6.symm; subst hw6))
           obtain ⟨f0, f1, f2⟩ := res3 (x := .int .i64 R.a) (y := .int .i64 R.b) (z := .int .i64 R.c) HR5.out
           exact bodyPost_ret (v := .tuple #[pv R, .int .i64 0]) (by simp [results, Tryz.results99, go_sem, f0, f1, f2]) rfl ⟨rfl, (below3 HB5.out (Nat.le_add_right w.heap.size 1))⟩
       ·have hm1 : ((⟨0, 0, 0⟩ : Pw), (13 : Int)) = (rp, re) := by
         rw [h] at hm0
         have e2 : twoP 10 p q = .error 13 := by simp [twoP, hpq]
         rw [e2] at hm0
         exact hm0
        obtain ⟨h8, h9⟩ := Prod.mk.inj hm1
        subst h8 h9
        clear hm0 hm1 hpr hqr h4 h10 pa pb pc qa qb qc
        by_cases ha : p.a = q.a
        ·by_cases hb : p.b = q.b
         ·have hcc : ¬ p.c = q.c := fun hcc => hpq (by obtain ⟨x, y, z⟩ := p; obtain ⟨x', y', z'⟩ := q; simp only at ha hb hcc; rw [ha, hb, hcc])
          clear hpq
          go_wp2_with fail
          have f0 := fun o => (res3a (x := .int .i64 0) (y := .int .i64 0) (z := .int .i64 0) HR.out o).1
          have f1 := fun o => (res3a (x := .int .i64 0) (y := .int .i64 0) (z := .int .i64 0) HR.out o).2.1
          have f2 := fun o => (res3a (x := .int .i64 0) (y := .int .i64 0) (z := .int .i64 0) HR.out o).2.2
          exact bodyPost_ret (v := .tuple #[pv ⟨0, 0, 0⟩, .int .i64 13]) (by simp [results, Tryz.results99, go_sem, f0, f1, f2]) rfl ⟨rfl, bAlloc (below3 HB.out (Nat.le_add_right w.heap.size 1))⟩
         ·clear hpq
          go_wp2_with fail
          have f0 := fun o => (res3a (x := .int .i64 0) (y := .int .i64 0) (z := .int .i64 0) HR.out o).1
          have f1 := fun o => (res3a (x := .int .i64 0) (y := .int .i64 0) (z := .int .i64 0) HR.out o).2.1
          have f2 := fun o => (res3a (x := .int .i64 0) (y := .int .i64 0) (z := .int .i64 0) HR.out o).2.2
          exact bodyPost_ret (v := .tuple #[pv ⟨0, 0, 0⟩, .int .i64 13]) (by simp [results, Tryz.results99, go_sem, f0, f1, f2]) rfl ⟨rfl, bAlloc (below3 HB.out (Nat.le_add_right w.heap.size 1))⟩
        ·clear hpq
         go_wp2_with fail
         have f0 := fun o => (res3a (x := .int .i64 0) (y := .int .i64 0) (z := .int .i64 0) HR.out o).1
         have f1 := fun o => (res3a (x := .int .i64 0) (y := .int .i64 0) (z := .int .i64 0) HR.out o).2.1
         have f2 := fun o => (res3a (x := .int .i64 0) (y := .int .i64 0) (z := .int .i64 0) HR.out o).2.2
         exact bodyPost_ret (v := .tuple #[pv ⟨0, 0, 0⟩, .int .i64 13]) (by simp [results, Tryz.results99, go_sem, f0, f1, f2]) rfl ⟨rfl, bAlloc (below3 HB.out (Nat.le_add_right w.heap.size 1))⟩
    ·rw [nodeP_bad (by
      rw [hak]
      unfold formB
      rw [if_neg (by omega), if_neg (by omega), if_neg (by omega)]
      simp only [btw]
      by_cases h2 : t.kids.length = 2
      ·simp [h2]; omega
      ·simp [h2])] at hm0
     obtain ⟨h8, h9⟩ := Prod.mk.inj hm0
     subst h8 h9
     clear hm0
     by_cases h4 : t.op < 4
     ·as_aux_lemma =>
       go_wp2_with fail
       obtain ⟨f0, f1, f2⟩ := res3 (x := .int .i64 0) (y := .int .i64 0) (z := .int .i64 0) HR.out
       exact bodyPost_ret (v := .tuple #[pv ⟨0, 0, 0⟩, .int .i64 1]) (by simp [results, Tryz.results99, go_sem, f0, f1, f2]) rfl ⟨rfl, (below3 HB.out (Nat.le_add_right w.heap.size 1))⟩
     ·by_cases h10 : 10 < t.op
      ·have g4 : decide (t.op < 4) = false := by simp; omega
       have g10 : decide (t.op > 10) = true := by simp; omega
       as_aux_lemma =>
        go_wp2_with fail
        obtain ⟨f0, f1, f2⟩ := res3 (x := .int .i64 0) (y := .int .i64 0) (z := .int .i64 0) HR.out
        exact bodyPost_ret (v := .tuple #[pv ⟨0, 0, 0⟩, .int .i64 1]) (by simp [results, Tryz.results99, go_sem, f0, f1, f2]) rfl ⟨rfl, (below3 HB.out (Nat.le_add_right w.heap.size 1))⟩
      ·have g4 : decide (t.op < 4) = false := by simp; omega
       have g10 : decide (t.op > 10) = false := by simp; omega
       have g2 : ((t.kids.length : Int) != 2) = true := by simp; omega
       as_aux_lemma =>
        go_wp2_with fail
        obtain ⟨f0, f1, f2⟩ := res3 (x := .int .i64 0) (y := .int .i64 0) (z := .int .i64 0) HR.out
        exact bodyPost_ret (v := .tuple #[pv ⟨0, 0, 0⟩, .int .i64 1]) (by simp [results, Tryz.results99, go_sem, f0, f1, f2]) rfl ⟨rfl, (below3 HB.out (Nat.le_add_right w.heap.size 1))⟩
end Go.Proofs.YtljknappbnoikaaGreatDoor.U
