/- Texts of one proof: UxF, UxG. -/
import Derived.Test.YtljknappbnoikaaGreatDoorZb
import Derived.Recover
import Derived.Defers
set_option linter.unusedVariables false
set_option linter.unusedSimpArgs false
set_option maxRecDepth 100000
set_option maxHeartbeats 8000000
namespace Go.Proofs.YtljknappbnoikaaGreatDoor.U
open Go.RowKit
theorem pwInfo : (Tryz.prog.info? 125).map (fun i => (i.zero, i.size, i.bytes)) = some (some (.agg (pArr ⟨0, 0, 0⟩)), 3, 24) := by kernel_rfl
theorem p_one (p : Pw) : ∀ u ∈ pCells p, u.oneCell' = true := by
 intro u hu
 simp only [pCells, List.mem_cons, List.not_mem_nil, or_false] at hu
 rcases hu with rfl | rfl | rfl <;> rfl
theorem owns_below {w w' : World} {B : Nat} {T : TypeId} {sz : Nat} {v : Value} {n : Nat} {xs : List Value} (h : w.ownsRow B T sz v n xs) (hb : ∀ k, k < w.heap.size → w'.heap[k]? = w.heap[k]?) : w'.ownsRow B T sz v n xs := by
 refine ⟨h.1, ?_⟩
 rcases h.2 with hn | ⟨g, cap, cur, hv, hg, hh, rest⟩
 ·exact .inl hn
 ·exact .inr ⟨g, cap, cur, hv, hg, by rw [hb g (Array.getElem?_eq_some_iff.1 hh).1]; exact hh, rest⟩
theorem infG_drop_err {s : List Pw} {op n u : Int} {acc : List Pw} {ks : List Ex} {k : Nat} (hk : k < ks.length) {e : Int} (h : inf s ks[k] = .error e) : infG s op n u acc (ks.drop k) = .error e := by
 rw [List.drop_eq_getElem_cons hk, infG_err h]
theorem infG_drop_ok {s : List Pw} {op n u : Int} {acc : List Pw} {ks : List Ex} {k : Nat} (hk : k < ks.length) {p : Pw} (h : inf s ks[k] = .ok p) : infG s op n u acc (ks.drop k) = infG s op n u (acc ++ [p]) (ks.drop (k + 1)) := by
 rw [List.drop_eq_getElem_cons hk, infG_ok h]
theorem PwAt.keep {w w' : World} {g o : Nat} {p : Pw} (h : PwAt w g o p) (hb : w'.heap[g]? = w.heap[g]?) : PwAt w' g o p := by
 have e : ∀ i, w'.cell? ⟨g, i, none⟩ = w.cell? ⟨g, i, none⟩ := fun i => World.cell?_of_block (a := ⟨g, i, none⟩) hb
 unfold PwAt
 rw [e, e, e]
 exact h
theorem own_two {w : World} {B c : Nat} {A : Option Addr} {p q : Pw} {T : TypeId} (h : w.ownsRow B T 3 (.slice A 2 c) 2 (psCells [p, q])) : ∃ g, A = some ⟨g, 0, none⟩ ∧ PwAt w g 0 p ∧ PwAt w g 3 q ∧ g < w.heap.size := by
 obtain ⟨g, cap, hv, _, _⟩ := h.form (by decide)
 simp only [Value.slice.injEq] at hv
 obtain ⟨rfl, -, -⟩ := hv
 have h1 := h.cells (g := g) rfl
 have hadd : ∀ j, (⟨g, 0, none⟩ : Addr).add j = ⟨g, j, none⟩ := fun j => by unfold Addr.add; split <;> simp_all
 have a0 := h1 0 _ rfl
 have a1 := h1 1 _ rfl
 have a2 := h1 2 _ rfl
 have a3 := h1 3 _ rfl
 have a4 := h1 4 _ rfl
 have a5 := h1 5 _ rfl
 rw [hadd] at a0 a1 a2 a3 a4 a5
 exact ⟨g, rfl, ⟨a0, a1, a2⟩, ⟨a3, a4, a5⟩, World.block_lt_of_cell? w _ a0⟩
theorem inp_nat (j : Nat) : ∃ i : Nat, i < 5 ∧ inpK (j : Int) = i := by
 unfold inpK
 split
 ·exact ⟨3, by decide, rfl⟩
 ·split
  ·exact ⟨2, by decide, rfl⟩
  ·exact ⟨1, by decide, rfl⟩
def ExC (s : List Pw) (t : Ex) : Prop := ∀ (w : World) (A B : Option Addr) (c d : Nat), LaidW w → PwsR w s B → KidsE w t.kids A → t.size ≤ 60 →
 Calls Tryz.prog 131 #[.slice B s.length (s.length + d), ev t A c] w (EE (inf s t) w)
theorem szK_len : ∀ ks : List Ex, ks.length ≤ szK ks
 | [] => by simp [szK]
 | k :: ks => by have := szK_len ks; have := k.size_pos; rw [szK]; simp; omega
theorem szK_mem : ∀ {ks : List Ex} {t : Ex}, t ∈ ks → t.size ≤ szK ks
 | [], t, h => by cases h
 | k :: ks, t, h => by
  rw [szK]
  rcases List.mem_cons.1 h with rfl | h
  ·omega
  ·have := szK_mem h; omega
theorem EE.err {r : Except Int Pw} {er : Int} {w w' : World} {e : Ending} (hr : .error er = r) (he : e = .panicked [{ v := .iface 34 (.int .i64 er), recovered := false }]) (hb : Below w.heap.size w w') : EE r w e w' := by subst hr; exact ⟨he, hb⟩
theorem EE.ok {r : Except Int Pw} {p : Pw} {w w' : World} {e : Ending} (hr : .ok p = r) (he : e = .returned (pv p)) (hb : Below w.heap.size w w') : EE r w e w' := by subst hr; exact ⟨he, hb⟩
theorem expr_step (s : List Pw) (hs : allRg s) (hl : s.length ≤ 12) (op n u : Int) (ks : List Ex) (ih : ∀ t ∈ ks, ExC s t) : ExC s (.mk op n u ks) := by
 intro w A B c d hL hP hK hlen
 show Calls _ _ #[.slice B s.length (s.length + d), aggE op n u A ks.length (ks.length + c)] _ _
 change KidsE w ks A at hK
 have hsz : ∀ t ∈ ks, t.size ≤ 60 := fun t ht => by have := szK_mem ht; rw [Ex.size] at hlen; omega
 have hlen : ks.length ≤ 60 := by have := szK_len ks; rw [Ex.size] at hlen; omega
 have HZ := Lib.hid hsz
 clear hsz
 rw [inf_G]
 obtain ⟨r, hr⟩ : ∃ r, infG s op n u [] ks = r := ⟨_, rfl⟩
 rw [hr]
 have hR := Lib.hid hr
 have IH := Lib.hid ih
 have HK := Lib.hid hK
 have HL := Lib.hid hL
 have HP := Lib.hid hP
 have HS := Lib.hid hs
 have HB0 := Lib.hid (((Below.refl w.heap.size w).alloc (Nat.le_refl _) (.cells (arrE op n u A ks.length (ks.length + c)) 66)).alloc (by simp) (.cells (pArr ⟨0, 0, 0⟩) 125))
 have HA0 : Hid (((w.alloc (.cells (arrE op n u A ks.length (ks.length + c)) 66)).alloc (.cells (pArr ⟨0, 0, 0⟩) 125)).heap[w.heap.size]? = some (.cells (arrE op n u A ks.length (ks.length + c)) 66 (0, 0))) :=
  Lib.hid ((Below.heap_alloc _ _ _ (by simp)).trans (newBlk _ _ _ rfl))
 have HR0 : Hid (((w.alloc (.cells (arrE op n u A ks.length (ks.length + c)) 66)).alloc (.cells (pArr ⟨0, 0, 0⟩) 125)).heap[w.heap.size + 1]? = some (.cells (pArr ⟨0, 0, 0⟩) 125 (0, 0))) :=
  Lib.hid (newBlk _ _ _ (by simp))
 obtain ⟨i0, hi, hz0, hz1, hz2⟩ := info_parts pwInfo
 clear hr ih hK hL hP hs
 go_enter Tryz.func131, Tryz.ntmps131
 go_wp2_with fail
 go_loopg [5, 11] (ks.length) (fun gk v i wr => ∃ (k : Nat) (acc : List Pw), k + gk = ks.length ∧ i = .int .i64 k ∧ acc.length = k ∧ Hid (infG s op n u acc (ks.drop k) = r) ∧ Hid (wr.ownsRow (w.heap.size + 2) 125 3 v acc.length (psCells acc)) ∧ Hid (allRg acc) ∧
  Hid (wr.heap[w.heap.size]? = some (.cells (arrE op n u A ks.length (ks.length + c)) 66 (0, 0))) ∧ Hid (wr.heap[w.heap.size + 1]? = some (.cells (pArr ⟨0, 0, 0⟩) 125 (0, 0))) ∧ Hid (Below w.heap.size w wr))
 case atStart => exact ⟨0, [], by omega, rfl, rfl, hR, Lib.hid (World.ownsRow_nil _ _ _ _), Lib.hid (fun p hp => by cases hp), HA0, HR0, HB0⟩
 case round =>
  obtain ⟨k, acc, hk, rfl, hacc, hG, hO, hA, hB, hC, hW⟩ := hrel
  subst hacc
  have hxb := blkLt hB.out
  have hxc := blkLt hC.out
  by_cases hlt : acc.length < ks.length
  ·obtain ⟨g, rfl⟩ : ∃ g, gk = g + 1 := ⟨gk - 1, by omega⟩
   have hKw := HK.out.below hW.out
   obtain ⟨ga, oa, rfl⟩ := hKw.addr (by omega)
   obtain ⟨A1, c1, ⟨e0, e1, e2, e3⟩, hl1, hK1⟩ := (hKw.get _ _ _ acc.length _ (List.getElem?_eq_getElem hlt)).cells
   have hmem : ks[acc.length] ∈ ks := List.getElem_mem hlt
   have hbk : Below wr.heap.size wr (wr.alloc (.cells (eArr ks[acc.length] A1 c1) 66)) := (Below.refl _ _).alloc (Nat.le_refl _) _
   have hI := Lib.hid (IH.out _ hmem (wr.alloc (.cells (eArr ks[acc.length] A1 c1) 66)) A1 B c1 d ((HL.out.below hW.out).below hbk) ((HP.out.below hW.out).below hbk) (hK1.below hbk) (HZ.out _ hmem))
   rcases hm : inf s ks[acc.length] with er | p
   ·have hF := Lib.hid ((infG_drop_err (op := op) (n := n) (u := u) (acc := acc) hlt hm).symm.trans hG.out)
    rw [hm] at hI
    obtain ⟨Av, cv, rfl, -⟩ := own_pws hO.out
    clear hm hKw hK1 hmem
    generalize ks[acc.length] = t at *
    go_wp2_with fail
    refine hI.out.mono ?_
    rintro e w1 ⟨rfl, hb1⟩
    have hE := Lib.hid (EE.err hF.out rfl (hW.out.trans (hbk.trans (hb1.mono (by simp)) |>.mono hW.out.size)))
    clear hb1 e0 e1 e2 e3
    go_wp2
    exact ⟨rfl, hE.out⟩
   ·have hG2 := Lib.hid ((infG_drop_ok (op := op) (n := n) (u := u) (acc := acc) hlt hm).symm.trans hG.out)
    have hrg : Hid (allRg (acc ++ [p])) := Lib.hid (fun q hq => by
     rcases List.mem_append.1 hq with h | h
     ·exact hA.out q h
     ·simp at h; subst h; exact inf_rg HS.out _ hm)
    rw [hm] at hI
    obtain ⟨Av, cv, rfl, -⟩ := own_pws hO.out
    clear hm hKw hK1 hmem hG
    generalize ks[acc.length] = t at *
    go_wp2_with fail
    refine hI.out.mono ?_
    rintro e w1 ⟨rfl, hb1⟩
    have hb2 := hbk.trans (hb1.mono (by simp))
    have hown := owns_below hO.out hb2.block
    have hB2 := Lib.hid ((hb2.block _ hxb).trans hB.out)
    have hC2 := Lib.hid ((hb2.block _ hxc).trans hC.out)
    have hW2 := Lib.hid (hW.out.trans (hb2.mono hW.out.size))
    have hx2 := blkLt hC2.out
    have hlt2 := hown.lt
    clear hb1 e0 e1 e2 e3 hbk
    go_wp2_with (at_builtin; refine wpList_append_lies _ rfl _ _ 99 rfl (w.heap.size + 2) 125 i0 (.agg (pArr ⟨0, 0, 0⟩)) 3 24 Tryz.underlying99 hi hz0 hz1 hz2 rfl (by decide) _ _ (psCells acc) rfl (hown.alloc _) ⟨w1.heap.size, 0, none⟩ 1 1 (pCells p) rfl rfl ?c1 ?c2 (by decide) ?c3 ?c4 ?c5 (w1.heap.size + 1) ?c6 ?_)
    case c1 => exact new_cells _ (pArr p) _ _ rfl
    case c2 => exact p_one p
    case c3 => unfold maxLen; omega
    case c4 => omega
    case c5 => simp; omega
    case c6 => simp
    intro gb cap w3 hown3 hgrow hat hlt3
    have hown4 : Hid (w3.ownsRow (w.heap.size + 2) 125 3 (.slice (some ⟨gb, 0, none⟩) (acc.length + 1) cap) (acc ++ [p]).length (psCells (acc ++ [p]))) := Lib.hid (by rw [psCells_snoc, List.length_append]; exact hown3)
    have hgr := gbTrans (gbAlloc (gbRefl _ _)) hgrow
    have hoB : ∀ k, (Value.slice Av acc.length (acc.length + cv)).ownBlock = some k → w.heap.size + 2 ≤ k ∧ k < w1.heap.size := hlt2
    have hB3 := Lib.hid ((hgr.block w.heap.size (by omega) (fun e => by have := hoB _ e.symm; omega)).trans hB2.out)
    have hC3 := Lib.hid ((hgr.block (w.heap.size + 1) (by omega) (fun e => by have := hoB _ e.symm; omega)).trans hC2.out)
    have hW3 := Lib.hid (hW2.out.trans (gbBelow (B := w.heap.size) hgr (by omega) (fun k e => by have := hoB k e; omega)))
    clear hgrow hown3 hgr hown hoB hat hb2
    go_wp2
    go_roundg g
    case measure => omega
    case rel => exact ⟨acc.length + 1, acc ++ [p], by omega, by go_num, by simp, hG2, hown4, hrg, hB3, hC3, hW3⟩
  ·obtain rfl : gk = 0 := by omega
   have hke : acc.length = ks.length := by omega
   have hr2 : nodeP s op n u acc = r := by have := hG.out; rw [List.drop_eq_nil_of_le (by omega), infG_nil] at this; exact this
   have HF := Lib.hid (isFormed_any op n u A B ks.length (ks.length + c) s.length (s.length + d) hl)
   have HNt := Lib.hid (need_any true 1)
   obtain ⟨Av, cv, rfl, -⟩ := own_pws hO.out
   rw [nodeP, hke] at hr2
   have HKE := Lib.hid hke
   clear hG hk hke HR0 HA0 HB0 HK IH HZ hR
   have hLw := Lib.hid (HL.out.below hW.out)
   have hPw := Lib.hid (HP.out.below hW.out)
   obtain ⟨⟨a0, a1, a2, a3⟩, -⟩ := cells4 hB.out
   generalize ks.length = m at *
   cases hf : formB s.length op n u m with
   | false =>
    rw [hf] at hr2 HF
    have hR2 : Hid (Except.error 1 = r) := hr2
    have HNf := Lib.hid (need_any false 1)
    clear hf hr2
    go_wp2_with (first
     | (go_at_call 140; refine (HF.out _).mono ?_; rintro e w1 ⟨rfl, hb1⟩; have hB1 := Lib.hid ((hb1.block _ hxb).trans hB.out); have hC1 := Lib.hid ((hb1.block _ hxc).trans hC.out); have hW1 := Lib.hid (hW.out.trans (hb1.mono hW.out.size)); have hO1 := Lib.hid (owns_below hO.out hb1.block); have hx1 := blkLt hC1.out; obtain ⟨⟨b0, b1, b2, b3⟩, -⟩ := cells4 hB1.out; obtain ⟨⟨c0, c1, c2⟩, d0, d1, d2⟩ := cells3 hC1.out; clear hb1 a0 a1 a2 a3)
     | (go_at_call 139; refine (HNf.out _).mono ?_; rintro e w2 ⟨he, hw2⟩; have hw2 := hw2.symm; subst hw2; simp only [Bool.false_eq_true, if_false] at he; subst he))
    exact ⟨rfl, EE.err hR2.out rfl hW1.out⟩
   | true =>
    rw [hf, if_pos rfl] at hr2
    rw [hf] at HF
    by_cases h1 : op = 1
    ·subst h1
     have hf2 : btw u 0 4 = true := by simp [formB] at hf; exact hf.2.2
     obtain ⟨hu0, hu1⟩ := btw_iff.1 hf2
     obtain ⟨j, rfl⟩ : ∃ j : Nat, u = j := ⟨u.toNat, by omega⟩
     have hR2 : Hid (Except.ok (kindP j) = r) := hr2
     have hkj : j < 5 := by omega
     clear hf hf2 hr2
     go_wp2_with (first
      | (go_at_call 140; refine (HF.out _).mono ?_; rintro e w1 ⟨rfl, hb1⟩; have hB1 := Lib.hid ((hb1.block _ hxb).trans hB.out); have hC1 := Lib.hid ((hb1.block _ hxc).trans hC.out); have hW1 := Lib.hid (hW.out.trans (hb1.mono hW.out.size)); have hO1 := Lib.hid (owns_below hO.out hb1.block); have hx1 := blkLt hC1.out; obtain ⟨⟨b0, b1, b2, b3⟩, -⟩ := cells4 hB1.out; obtain ⟨⟨c0, c1, c2⟩, d0, d1, d2⟩ := cells3 hC1.out; have hL1 := Lib.hid (hLw.out.below hb1); clear hb1 a0 a1 a2 a3; obtain ⟨k0, k1, k2⟩ := hL1.out.kinds j hkj; have hg0 := World.block_lt_of_cell? _ _ k0; generalize kindP j = p at *)
      | (go_at_call 139; refine (HNt.out _).mono ?_; rintro e w2 ⟨he, hw2⟩; have hw2 := hw2.symm; subst hw2; simp only [if_true] at he; subst he))
     obtain ⟨f0, f1, f2⟩ := res3 (x := .int .i64 p.a) (y := .int .i64 p.b) (z := .int .i64 p.c) hC1.out
     have hFin := Lib.hid (below3 (v0 := .int .i64 p.a) (v1 := .int .i64 p.b) (v2 := .int .i64 p.c) hW1.out (Nat.le_add_right w.heap.size 1))
     exact bodyPost_ret (v := pv p) (by simp [results, Tryz.results131, go_sem, f0, f1, f2]) rfl (EE.ok hR2.out rfl hFin.out)
    ·rw [if_neg h1] at hr2
     by_cases h2 : op = 2
     ·subst h2
      have hf2 : btw n 0 ((s.length : Int) - 1) = true := by simp [formB] at hf; exact hf.2
      obtain ⟨hu0, hu1⟩ := btw_iff.1 hf2
      obtain ⟨j, rfl⟩ : ∃ j : Nat, n = j := ⟨n.toNat, by omega⟩
      have hj : j < s.length := by omega
      have hR2 : Hid (Except.ok s[j] = r) := Lib.hid (by
       rw [if_pos rfl] at hr2
       rw [← hr2]
       simp [List.getD_eq_getElem?_getD, List.getElem?_eq_getElem hj])
      obtain ⟨gs, os, rfl, -⟩ := hPw.out.addr (by omega)
      have hget := Lib.hid (List.getElem?_eq_getElem hj)
      clear hf hf2 hr2 h1
      generalize s[j] = p at *
      go_wp2_with (first
       | (go_at_call 140; refine (HF.out _).mono ?_; rintro e w1 ⟨rfl, hb1⟩; have hB1 := Lib.hid ((hb1.block _ hxb).trans hB.out); have hC1 := Lib.hid ((hb1.block _ hxc).trans hC.out); have hW1 := Lib.hid (hW.out.trans (hb1.mono hW.out.size)); have hx1 := blkLt hC1.out; obtain ⟨⟨b0, b1, b2, b3⟩, -⟩ := cells4 hB1.out; obtain ⟨⟨c0, c1, c2⟩, d0, d1, d2⟩ := cells3 hC1.out; have hL1 := Lib.hid (hLw.out.below hb1); have hP1 := Lib.hid (hPw.out.below hb1); obtain ⟨k0, k1, k2⟩ : PwAt w1 gs (os + j * 3) p := (by rcases hP1.out with h | ⟨g', o', hA, hh⟩; (subst h; simp at hj); (cases hA; exact hh j p hget.out)); clear hb1 a0 a1 a2 a3)
       | (go_at_call 139; refine (HNt.out _).mono ?_; rintro e w2 ⟨he, hw2⟩; have hw2 := hw2.symm; subst hw2; simp only [if_true] at he; subst he))
      obtain ⟨f0, f1, f2⟩ := res3 (x := .int .i64 p.a) (y := .int .i64 p.b) (z := .int .i64 p.c) hC1.out
      have hFin := Lib.hid (below3 (v0 := .int .i64 p.a) (v1 := .int .i64 p.b) (v2 := .int .i64 p.c) hW1.out (Nat.le_add_right w.heap.size 1))
      exact bodyPost_ret (v := pv p) (by simp [results, Tryz.results131, go_sem, f0, f1, f2]) rfl (EE.ok hR2.out rfl hFin.out)
     ·rw [if_neg h2] at hr2
      by_cases h3 : op = 3
      ·subst h3
       have hf2 : btw n 0 3 = true := by simp [formB] at hf; exact hf.2
       obtain ⟨hu0, hu1⟩ := btw_iff.1 hf2
       obtain ⟨j, rfl⟩ : ∃ j : Nat, n = j := ⟨n.toNat, by omega⟩
       obtain ⟨i, hi5, hij⟩ := inp_nat j
       have hR2 : Hid (Except.ok (kindP i) = r) := Lib.hid (by rw [if_pos rfl, hij] at hr2; exact hr2)
       have hj : j < 4 := by omega
       have HIJ := Lib.hid hij
       clear hf hf2 hr2 h1 h2 hij
       go_wp2_with (first
        | (go_at_call 140; refine (HF.out _).mono ?_; rintro e w1 ⟨rfl, hb1⟩; have hB1 := Lib.hid ((hb1.block _ hxb).trans hB.out); have hC1 := Lib.hid ((hb1.block _ hxc).trans hC.out); have hW1 := Lib.hid (hW.out.trans (hb1.mono hW.out.size)); have hx1 := blkLt hC1.out; obtain ⟨⟨b0, b1, b2, b3⟩, -⟩ := cells4 hB1.out; obtain ⟨⟨c0, c1, c2⟩, d0, d1, d2⟩ := cells3 hC1.out; have hL1 := Lib.hid (hLw.out.below hb1); have hP1 := Lib.hid (hPw.out.below hb1); obtain ⟨k0, k1, k2⟩ := hL1.out.kinds i hi5; have k3 := hL1.out.inputs j hj; rw [HIJ.out] at k3; have hg0 := World.block_lt_of_cell? _ _ k0; have hg1 := World.block_lt_of_cell? _ _ k3; generalize kindP i = p at *; clear hb1 a0 a1 a2 a3)
        | (go_at_call 139; refine (HNt.out _).mono ?_; rintro e w2 ⟨he, hw2⟩; have hw2 := hw2.symm; subst hw2; simp only [if_true] at he; subst he))
       obtain ⟨f0, f1, f2⟩ := res3 (x := .int .i64 p.a) (y := .int .i64 p.b) (z := .int .i64 p.c) hC1.out
       have hFin := Lib.hid (below3 (v0 := .int .i64 p.a) (v1 := .int .i64 p.b) (v2 := .int .i64 p.c) hW1.out (Nat.le_add_right w.heap.size 1))
       exact bodyPost_ret (v := pv p) (by simp [results, Tryz.results131, go_sem, f0, f1, f2]) rfl (EE.ok hR2.out rfl hFin.out)
      ·rw [if_neg h3] at hr2
       have hm2 : m = 2 ∧ btw op 4 10 = true := by simp [formB, h1, h2, h3] at hf; exact hf
       obtain ⟨rfl, hbo⟩ := hm2
       obtain ⟨p, q, rfl⟩ : ∃ p q, acc = [p, q] := by
        have := HKE.out
        match acc, this with
        | [p, q], _ => exact ⟨p, q, rfl⟩
       have hr3 : twoP op p q = r := hr2
       have hrp := hA.out p (by simp)
       have hrq := hA.out q (by simp)
       clear hf hr2 HKE
       obtain ⟨gk, rfl, pp0, pp1, hgk⟩ := own_two hO.out
       by_cases h6 : op = 6
       ·subst h6
        have hr4 : limP (addP p q 1) = r := hr3
        rcases hlm : limP (addP p q 1) with er | P2
        ·have HLm := limited_any (addP p q 1)
         rw [hlm] at HLm
         have HLm := Lib.hid HLm
         have hR2 : Hid (Except.error er = r) := Lib.hid (by rw [← hr4, hlm])
         clear hlm hr4 hr3 h1 h2 h3 hbo
         go_wp2_with (first
          | (go_at_call 140; refine (HF.out _).mono ?_; rintro e w1 ⟨rfl, hb1⟩; have hB1 := Lib.hid ((hb1.block _ hxb).trans hB.out); have hC1 := Lib.hid ((hb1.block _ hxc).trans hC.out); have hW1 := Lib.hid (hW.out.trans (hb1.mono hW.out.size)); have hx1 := blkLt hC1.out; obtain ⟨⟨b0, b1, b2, b3⟩, -⟩ := cells4 hB1.out; obtain ⟨⟨c0, c1, c2⟩, d0, d1, d2⟩ := cells3 hC1.out; obtain ⟨p0, p1, p2⟩ := pp0.keep (hb1.block gk hgk); obtain ⟨q0, q1, q2⟩ := pp1.keep (hb1.block gk hgk); have hgk1 := World.block_lt_of_cell? _ _ p0; clear hb1 a0 a1 a2 a3)
          | (go_at_call 139; refine (HNt.out _).mono ?_; rintro e w2 ⟨he, hw2⟩; have hw2 := hw2.symm; subst hw2; simp only [if_true] at he; subst he))
         go_region_with (first
          | (go_at_call 142; refine (add_any p q 1 (by decide) hrp hrq _).mono ?_; rintro e w3 ⟨rfl, hb3⟩; have hb3 : Below w1.heap.size w1 w3 := ⟨hb3.os, hb3.tape, hb3.output, hb3.size, hb3.block⟩; have hW3 := Lib.hid (hW1.out.trans (hb3.mono hW1.out.size)); clear hb3)
          | (go_at_call 141; refine (HLm.out _).mono ?_; rintro e w4 ⟨rfl, hb4⟩; have hb4 : Below w3.heap.size w3 w4 := ⟨hb4.os, hb4.tape, hb4.output, hb4.size, hb4.block⟩; suffices hz : wpAny Tryz.prog .any #[] (fun _ _ _ => True) 0 #[] ⟨#[], []⟩ w4 from ⟨rfl, EE.err hR2.out rfl (hW3.out.trans (hb4.mono hW3.out.size))⟩))
         all_goals trivial
        ·have HLm := limited_any (addP p q 1)
         rw [hlm] at HLm
         have HLm := Lib.hid HLm
         have hR2 : Hid (Except.ok P2 = r) := Lib.hid (by rw [← hr4, hlm])
         clear hlm hr4 hr3 h1 h2 h3 hbo
         go_wp2_with (first
          | (go_at_call 140; refine (HF.out _).mono ?_; rintro e w1 ⟨rfl, hb1⟩; have hB1 := Lib.hid ((hb1.block _ hxb).trans hB.out); have hC1 := Lib.hid ((hb1.block _ hxc).trans hC.out); have hW1 := Lib.hid (hW.out.trans (hb1.mono hW.out.size)); have hx1 := blkLt hC1.out; obtain ⟨⟨b0, b1, b2, b3⟩, -⟩ := cells4 hB1.out; obtain ⟨⟨c0, c1, c2⟩, d0, d1, d2⟩ := cells3 hC1.out; obtain ⟨p0, p1, p2⟩ := pp0.keep (hb1.block gk hgk); obtain ⟨q0, q1, q2⟩ := pp1.keep (hb1.block gk hgk); have hgk1 := World.block_lt_of_cell? _ _ p0; clear hb1 a0 a1 a2 a3)
          | (go_at_call 139; refine (HNt.out _).mono ?_; rintro e w2 ⟨he, hw2⟩; have hw2 := hw2.symm; subst hw2; simp only [if_true] at he; subst he))
         go_region_with (first
          | (go_at_call 142; refine (add_any p q 1 (by decide) hrp hrq _).mono ?_; rintro e w3 ⟨rfl, hb3⟩; have hb3 : Below w1.heap.size w1 w3 := ⟨hb3.os, hb3.tape, hb3.output, hb3.size, hb3.block⟩; have hW3 := Lib.hid (hW1.out.trans (hb3.mono hW1.out.size)); have hC3 := Lib.hid ((hb3.block _ hx1).trans hC1.out); have hx3 := blkLt hC3.out; clear hb3 c0 c1 c2 d0 d1 d2)
          | (go_at_call 141; refine (HLm.out _).mono ?_; rintro e w4 ⟨rfl, hb4⟩; have hb4 : Below w3.heap.size w3 w4 := ⟨hb4.os, hb4.tape, hb4.output, hb4.size, hb4.block⟩; have hW4 := Lib.hid (hW3.out.trans (hb4.mono hW3.out.size)); have hC4 := Lib.hid ((hb4.block _ hx3).trans hC3.out); have hx4 := blkLt hC4.out; obtain ⟨⟨c0, c1, c2⟩, d0, d1, d2⟩ := cells3 hC4.out; clear hb4))
         all_goals
          go_wp2
          obtain ⟨f0, f1, f2⟩ := res3 (x := .int .i64 P2.a) (y := .int .i64 P2.b) (z := .int .i64 P2.c) hC4.out
          have hFin := Lib.hid (below3 (v0 := .int .i64 P2.a) (v1 := .int .i64 P2.b) (v2 := .int .i64 P2.c) hW4.out (Nat.le_add_right w.heap.size 1))
          exact bodyPost_ret (v := pv P2) (by simp [results, Tryz.results131, go_sem, f0, f1, f2]) rfl (EE.ok hR2.out rfl (hFin.out))
       ·by_cases h7 : op = 7
        ·subst h7
         have hr4 : limP (addP p q (-1)) = r := hr3
         rcases hlm : limP (addP p q (-1)) with er | P2
         ·have HLm := limited_any (addP p q (-1))
          rw [hlm] at HLm
          have HLm := Lib.hid HLm
          have hR2 : Hid (Except.error er = r) := Lib.hid (by rw [← hr4, hlm])
          clear hlm hr4 hr3 h1 h2 h3 hbo
          go_wp2_with (first
           | (go_at_call 140; refine (HF.out _).mono ?_; rintro e w1 ⟨rfl, hb1⟩; have hB1 := Lib.hid ((hb1.block _ hxb).trans hB.out); have hC1 := Lib.hid ((hb1.block _ hxc).trans hC.out); have hW1 := Lib.hid (hW.out.trans (hb1.mono hW.out.size)); have hx1 := blkLt hC1.out; obtain ⟨⟨b0, b1, b2, b3⟩, -⟩ := cells4 hB1.out; obtain ⟨⟨c0, c1, c2⟩, d0, d1, d2⟩ := cells3 hC1.out; obtain ⟨p0, p1, p2⟩ := pp0.keep (hb1.block gk hgk); obtain ⟨q0, q1, q2⟩ := pp1.keep (hb1.block gk hgk); have hgk1 := World.block_lt_of_cell? _ _ p0; clear hb1 a0 a1 a2 a3)
           | (go_at_call 139; refine (HNt.out _).mono ?_; rintro e w2 ⟨he, hw2⟩; have hw2 := hw2.symm; subst hw2; simp only [if_true] at he; subst he))
          go_region_with (first
           | (go_at_call 142; refine (add_any p q (-1) (by decide) hrp hrq _).mono ?_; rintro e w3 ⟨rfl, hb3⟩; have hb3 : Below w1.heap.size w1 w3 := ⟨hb3.os, hb3.tape, hb3.output, hb3.size, hb3.block⟩; have hW3 := Lib.hid (hW1.out.trans (hb3.mono hW1.out.size)); clear hb3)
           | (go_at_call 141; refine (HLm.out _).mono ?_; rintro e w4 ⟨rfl, hb4⟩; have hb4 : Below w3.heap.size w3 w4 := ⟨hb4.os, hb4.tape, hb4.output, hb4.size, hb4.block⟩; suffices hz : wpAny Tryz.prog .any #[] (fun _ _ _ => True) 0 #[] ⟨#[], []⟩ w4 from ⟨rfl, EE.err hR2.out rfl (hW3.out.trans (hb4.mono hW3.out.size))⟩))
          all_goals trivial
         ·have HLm := limited_any (addP p q (-1))
          rw [hlm] at HLm
          have HLm := Lib.hid HLm
          have hR2 : Hid (Except.ok P2 = r) := Lib.hid (by rw [← hr4, hlm])
          clear hlm hr4 hr3 h1 h2 h3 hbo
          go_wp2_with (first
           | (go_at_call 140; refine (HF.out _).mono ?_; rintro e w1 ⟨rfl, hb1⟩; have hB1 := Lib.hid ((hb1.block _ hxb).trans hB.out); have hC1 := Lib.hid ((hb1.block _ hxc).trans hC.out); have hW1 := Lib.hid (hW.out.trans (hb1.mono hW.out.size)); have hx1 := blkLt hC1.out; obtain ⟨⟨b0, b1, b2, b3⟩, -⟩ := cells4 hB1.out; obtain ⟨⟨c0, c1, c2⟩, d0, d1, d2⟩ := cells3 hC1.out; obtain ⟨p0, p1, p2⟩ := pp0.keep (hb1.block gk hgk); obtain ⟨q0, q1, q2⟩ := pp1.keep (hb1.block gk hgk); have hgk1 := World.block_lt_of_cell? _ _ p0; clear hb1 a0 a1 a2 a3)
           | (go_at_call 139; refine (HNt.out _).mono ?_; rintro e w2 ⟨he, hw2⟩; have hw2 := hw2.symm; subst hw2; simp only [if_true] at he; subst he))
          go_region_with (first
           | (go_at_call 142; refine (add_any p q (-1) (by decide) hrp hrq _).mono ?_; rintro e w3 ⟨rfl, hb3⟩; have hb3 : Below w1.heap.size w1 w3 := ⟨hb3.os, hb3.tape, hb3.output, hb3.size, hb3.block⟩; have hW3 := Lib.hid (hW1.out.trans (hb3.mono hW1.out.size)); have hC3 := Lib.hid ((hb3.block _ hx1).trans hC1.out); have hx3 := blkLt hC3.out; clear hb3 c0 c1 c2 d0 d1 d2)
           | (go_at_call 141; refine (HLm.out _).mono ?_; rintro e w4 ⟨rfl, hb4⟩; have hb4 : Below w3.heap.size w3 w4 := ⟨hb4.os, hb4.tape, hb4.output, hb4.size, hb4.block⟩; have hW4 := Lib.hid (hW3.out.trans (hb4.mono hW3.out.size)); have hC4 := Lib.hid ((hb4.block _ hx3).trans hC3.out); have hx4 := blkLt hC4.out; obtain ⟨⟨c0, c1, c2⟩, d0, d1, d2⟩ := cells3 hC4.out; clear hb4))
          all_goals
           go_wp2
           obtain ⟨f0, f1, f2⟩ := res3 (x := .int .i64 P2.a) (y := .int .i64 P2.b) (z := .int .i64 P2.c) hC4.out
           have hFin := Lib.hid (below3 (v0 := .int .i64 P2.a) (v1 := .int .i64 P2.b) (v2 := .int .i64 P2.c) hW4.out (Nat.le_add_right w.heap.size 1))
           exact bodyPost_ret (v := pv P2) (by simp [results, Tryz.results131, go_sem, f0, f1, f2]) rfl (EE.ok hR2.out rfl (hFin.out))
        ·by_cases h8 : op = 8
         ·subst h8
          have hr4 : limP (addP p q (-1)) = r := hr3
          rcases hlm : limP (addP p q (-1)) with er | P2
          ·have HLm := limited_any (addP p q (-1))
           rw [hlm] at HLm
           have HLm := Lib.hid HLm
           have hR2 : Hid (Except.error er = r) := Lib.hid (by rw [← hr4, hlm])
           clear hlm hr4 hr3 h1 h2 h3 hbo
           go_wp2_with (first
            | (go_at_call 140; refine (HF.out _).mono ?_; rintro e w1 ⟨rfl, hb1⟩; have hB1 := Lib.hid ((hb1.block _ hxb).trans hB.out); have hC1 := Lib.hid ((hb1.block _ hxc).trans hC.out); have hW1 := Lib.hid (hW.out.trans (hb1.mono hW.out.size)); have hx1 := blkLt hC1.out; obtain ⟨⟨b0, b1, b2, b3⟩, -⟩ := cells4 hB1.out; obtain ⟨⟨c0, c1, c2⟩, d0, d1, d2⟩ := cells3 hC1.out; obtain ⟨p0, p1, p2⟩ := pp0.keep (hb1.block gk hgk); obtain ⟨q0, q1, q2⟩ := pp1.keep (hb1.block gk hgk); have hgk1 := World.block_lt_of_cell? _ _ p0; clear hb1 a0 a1 a2 a3)
            | (go_at_call 139; refine (HNt.out _).mono ?_; rintro e w2 ⟨he, hw2⟩; have hw2 := hw2.symm; subst hw2; simp only [if_true] at he; subst he))
           go_region_with (first
            | (go_at_call 142; refine (add_any p q (-1) (by decide) hrp hrq _).mono ?_; rintro e w3 ⟨rfl, hb3⟩; have hb3 : Below w1.heap.size w1 w3 := ⟨hb3.os, hb3.tape, hb3.output, hb3.size, hb3.block⟩; have hW3 := Lib.hid (hW1.out.trans (hb3.mono hW1.out.size)); clear hb3)
            | (go_at_call 141; refine (HLm.out _).mono ?_; rintro e w4 ⟨rfl, hb4⟩; have hb4 : Below w3.heap.size w3 w4 := ⟨hb4.os, hb4.tape, hb4.output, hb4.size, hb4.block⟩; suffices hz : wpAny Tryz.prog .any #[] (fun _ _ _ => True) 0 #[] ⟨#[], []⟩ w4 from ⟨rfl, EE.err hR2.out rfl (hW3.out.trans (hb4.mono hW3.out.size))⟩))
           all_goals trivial
          ·have HLm := limited_any (addP p q (-1))
           rw [hlm] at HLm
           have HLm := Lib.hid HLm
           have hR2 : Hid (Except.ok P2 = r) := Lib.hid (by rw [← hr4, hlm])
           clear hlm hr4 hr3 h1 h2 h3 hbo
           go_wp2_with (first
            | (go_at_call 140; refine (HF.out _).mono ?_; rintro e w1 ⟨rfl, hb1⟩; have hB1 := Lib.hid ((hb1.block _ hxb).trans hB.out); have hC1 := Lib.hid ((hb1.block _ hxc).trans hC.out); have hW1 := Lib.hid (hW.out.trans (hb1.mono hW.out.size)); have hx1 := blkLt hC1.out; obtain ⟨⟨b0, b1, b2, b3⟩, -⟩ := cells4 hB1.out; obtain ⟨⟨c0, c1, c2⟩, d0, d1, d2⟩ := cells3 hC1.out; obtain ⟨p0, p1, p2⟩ := pp0.keep (hb1.block gk hgk); obtain ⟨q0, q1, q2⟩ := pp1.keep (hb1.block gk hgk); have hgk1 := World.block_lt_of_cell? _ _ p0; clear hb1 a0 a1 a2 a3)
            | (go_at_call 139; refine (HNt.out _).mono ?_; rintro e w2 ⟨he, hw2⟩; have hw2 := hw2.symm; subst hw2; simp only [if_true] at he; subst he))
           go_region_with (first
            | (go_at_call 142; refine (add_any p q (-1) (by decide) hrp hrq _).mono ?_; rintro e w3 ⟨rfl, hb3⟩; have hb3 : Below w1.heap.size w1 w3 := ⟨hb3.os, hb3.tape, hb3.output, hb3.size, hb3.block⟩; have hW3 := Lib.hid (hW1.out.trans (hb3.mono hW1.out.size)); have hC3 := Lib.hid ((hb3.block _ hx1).trans hC1.out); have hx3 := blkLt hC3.out; clear hb3 c0 c1 c2 d0 d1 d2)
            | (go_at_call 141; refine (HLm.out _).mono ?_; rintro e w4 ⟨rfl, hb4⟩; have hb4 : Below w3.heap.size w3 w4 := ⟨hb4.os, hb4.tape, hb4.output, hb4.size, hb4.block⟩; have hW4 := Lib.hid (hW3.out.trans (hb4.mono hW3.out.size)); have hC4 := Lib.hid ((hb4.block _ hx3).trans hC3.out); have hx4 := blkLt hC4.out; obtain ⟨⟨c0, c1, c2⟩, d0, d1, d2⟩ := cells3 hC4.out; clear hb4))
           all_goals
            go_wp2
            obtain ⟨f0, f1, f2⟩ := res3 (x := .int .i64 P2.a) (y := .int .i64 P2.b) (z := .int .i64 P2.c) hC4.out
            have hFin := Lib.hid (below3 (v0 := .int .i64 P2.a) (v1 := .int .i64 P2.b) (v2 := .int .i64 P2.c) hW4.out (Nat.le_add_right w.heap.size 1))
            exact bodyPost_ret (v := pv P2) (by simp [results, Tryz.results131, go_sem, f0, f1, f2]) rfl (EE.ok hR2.out rfl (hFin.out))
         ·have hr4 : (if p = q then Except.ok p else Except.error 13) = r := by
           rw [← hr3]
           unfold twoP
           rw [if_neg h6, if_neg (show ¬ (op = 7 ∨ op = 8) from fun h => h.elim h7 h8)]
          by_cases hpq : p = q
          ·subst hpq
           rw [if_pos rfl] at hr4
           have hR2 := Lib.hid hr4
           have HN13 := Lib.hid (need_any true 13)
           have heq : ∀ w, (Op.equalIn 10000 125 (.agg #[.int .i64 p.a, .int .i64 p.b, .int .i64 p.c]) (.agg #[.int .i64 p.a, .int .i64 p.b, .int .i64 p.c])).run Tryz.prog w = .ok true w := fun w => (run_pw_eq p p w).trans (by simp)
           clear hr3 hr4 hbo
           go_wp2_with (first
            | (go_at_call 140; refine (HF.out _).mono ?_; rintro e w1 ⟨rfl, hb1⟩; have hB1 := Lib.hid ((hb1.block _ hxb).trans hB.out); have hC1 := Lib.hid ((hb1.block _ hxc).trans hC.out); have hW1 := Lib.hid (hW.out.trans (hb1.mono hW.out.size)); have hx1 := blkLt hC1.out; obtain ⟨⟨b0, b1, b2, b3⟩, -⟩ := cells4 hB1.out; obtain ⟨⟨c0, c1, c2⟩, d0, d1, d2⟩ := cells3 hC1.out; obtain ⟨p0, p1, p2⟩ := pp0.keep (hb1.block gk hgk); obtain ⟨q0, q1, q2⟩ := pp1.keep (hb1.block gk hgk); have hgk1 := World.block_lt_of_cell? _ _ p0; clear hb1 a0 a1 a2 a3)
            | (go_at_call 139; refine (HNt.out _).mono ?_; rintro e w2 ⟨he, hw2⟩; have hw2 := hw2.symm; subst hw2; simp only [if_true] at he; subst he))
           go_region_with (go_at_call 139; refine (HN13.out _).mono ?_; rintro e w2 ⟨he, hw2⟩; have hw2 := hw2.symm; subst hw2; simp only [if_true] at he; subst he)
           all_goals
            go_wp2
            obtain ⟨f0, f1, f2⟩ := res3 (x := .int .i64 p.a) (y := .int .i64 p.b) (z := .int .i64 p.c) hC1.out
            have hFin := Lib.hid (below3 (v0 := .int .i64 p.a) (v1 := .int .i64 p.b) (v2 := .int .i64 p.c) hW1.out (Nat.le_add_right w.heap.size 1))
            exact bodyPost_ret (v := pv p) (by simp [results, Tryz.results131, go_sem, f0, f1, f2]) rfl (EE.ok hR2.out rfl (hFin.out.drew))
          ·rw [if_neg hpq] at hr4
           have hR2 := Lib.hid hr4
           have HN13 := Lib.hid (need_any false 13)
           have heq : ∀ w, (Op.equalIn 10000 125 (.agg #[.int .i64 p.a, .int .i64 p.b, .int .i64 p.c]) (.agg #[.int .i64 q.a, .int .i64 q.b, .int .i64 q.c])).run Tryz.prog w = .ok false w := fun w => (run_pw_eq p q w).trans (by simp [hpq])
           clear hr3 hr4 hbo hpq
           go_wp2_with (first
            | (go_at_call 140; refine (HF.out _).mono ?_; rintro e w1 ⟨rfl, hb1⟩; have hB1 := Lib.hid ((hb1.block _ hxb).trans hB.out); have hC1 := Lib.hid ((hb1.block _ hxc).trans hC.out); have hW1 := Lib.hid (hW.out.trans (hb1.mono hW.out.size)); have hx1 := blkLt hC1.out; obtain ⟨⟨b0, b1, b2, b3⟩, -⟩ := cells4 hB1.out; obtain ⟨⟨c0, c1, c2⟩, d0, d1, d2⟩ := cells3 hC1.out; obtain ⟨p0, p1, p2⟩ := pp0.keep (hb1.block gk hgk); obtain ⟨q0, q1, q2⟩ := pp1.keep (hb1.block gk hgk); have hgk1 := World.block_lt_of_cell? _ _ p0; clear hb1 a0 a1 a2 a3)
            | (go_at_call 139; refine (HNt.out _).mono ?_; rintro e w2 ⟨he, hw2⟩; have hw2 := hw2.symm; subst hw2; simp only [if_true] at he; subst he))
           go_region_with (go_at_call 139; refine (HN13.out _).mono ?_; rintro e w2 ⟨he, hw2⟩; have hw2 := hw2.symm; subst hw2; simp only [Bool.false_eq_true, if_false] at he; subst he; suffices hz : wpAny Tryz.prog .any #[] (fun _ _ _ => True) 0 #[] ⟨#[], []⟩ w1 from ⟨rfl, EE.err hR2.out rfl hW1.out.drew⟩)
           all_goals trivial
mutual
theorem expr_any {s : List Pw} (hs : allRg s) (hl : s.length ≤ 12) : ∀ t : Ex, ExC s t
 | .mk op n u ks => expr_step s hs hl op n u ks (expr_all hs hl ks)
theorem expr_all {s : List Pw} (hs : allRg s) (hl : s.length ≤ 12) : ∀ ts : List Ex, ∀ t ∈ ts, ExC s t
 | [], t, h => by cases h
 | u :: us, t, h => by
  rcases List.mem_cons.1 h with h | h
  ·rw [h]; exact expr_any hs hl u
  ·exact expr_all hs hl us t h
end
end Go.Proofs.YtljknappbnoikaaGreatDoor.U
namespace Go.Proofs.YtljknappbnoikaaGreatDoor.U
open Go.RowKit
def scopeF (acc : List Pw) : List Vr → Option (List Pw)
 | [] => some acc
 | v :: vs => if btw v.u 0 4 = true then scopeF (acc ++ [kindP v.u]) vs else none
theorem scopeF_eq : ∀ (vs : List Vr) (acc : List Pw), scopeF acc vs = if (vs.map (·.u)).all (fun u => btw u 0 4) = true then some (acc ++ (vs.map (·.u)).map kindP) else none
 | [], acc => by simp [scopeF]
 | v :: vs, acc => by
  rw [scopeF, scopeF_eq vs]
  by_cases h : btw v.u 0 4 = true
  ·simp [h]
  ·simp [h]
theorem scopeM_F (vs : List Vr) (h : vs.length ≤ 12) : scopeM (vs.map (·.u)) = scopeF [] vs := by
 rw [scopeF_eq]
 unfold scopeM
 simp only [List.length_map, h, true_and, List.nil_append]
def ScopeP (B : Nat) (r : Option (List Pw)) (w : World) (e : Ending) (w' : World) : Prop :=
 (match r with
  | some s => ∃ A c, e = .returned (.tuple #[.slice A s.length (s.length + c), .bool true]) ∧ PwsR w' s A
  | none => e = .returned (.tuple #[.slice none 0 0, .bool false])) ∧ Below w.heap.size w w'
theorem ScopeP.some {B : Nat} {r : Option (List Pw)} {s : List Pw} {A : Option Addr} {c : Nat} {w w' : World} (hr : some s = r) (hp : PwsR w' s A) (hb : Below w.heap.size w w') : ScopeP B r w (.returned (.tuple #[.slice A s.length (s.length + c), .bool true])) w' := by
 subst hr
 exact ⟨⟨A, c, rfl, hp⟩, hb⟩
theorem ScopeP.none {B : Nat} {r : Option (List Pw)} {w w' : World} (hr : none = r) (hb : Below w.heap.size w w') : ScopeP B r w (.returned (.tuple #[.slice none 0 0, .bool false])) w' := by
 subst hr
 exact ⟨rfl, hb⟩
abbrev vArr (v : Vr) : Array Value := #[.string v.x, .int .i64 v.u, .int .i64 v.lo, .int .i64 v.hi, .int .i64 v.i]
theorem scopeOf_any (vs : List Vr) (A : Option Addr) (m : Nat) (w : World) (hL : LaidW w) (hV : VarsR w vs A) : Calls Tryz.prog 55 #[.slice A vs.length m] w (ScopeP 0 (scopeM (vs.map (·.u))) w) := by
 by_cases hmany : vs.length ≤ 12
 ·rw [scopeM_F vs hmany]
  obtain ⟨r, hr⟩ : ∃ r, scopeF [] vs = r := ⟨_, rfl⟩
  rw [hr]
  have hR := Lib.hid hr
  have HL := Lib.hid hL
  have HV := Lib.hid hV
  obtain ⟨i0, hi, hz0, hz1, hz2⟩ := info_parts pwInfo
  clear hr hL hV
  go_enter Tryz.func55, Tryz.ntmps55
  go_wp2_with fail
  go_loopg [4, 12] (vs.length) (fun gk v i wr => ∃ (k : Nat) (acc : List Pw), k + gk = vs.length ∧ i = .int .i64 k ∧ acc.length = k ∧ Hid (scopeF acc (vs.drop k) = r) ∧ Hid (wr.ownsRow w.heap.size 125 3 v acc.length (psCells acc)) ∧ Hid (Below w.heap.size w wr))
  case atStart => exact ⟨0, [], by omega, rfl, rfl, hR, Lib.hid (World.ownsRow_nil _ _ _ _), Lib.hid (Below.refl _ _)⟩
  case round =>
   obtain ⟨k, acc, hk, rfl, hacc, hG, hO, hW⟩ := hrel
   subst hacc
   obtain ⟨Av, cv, rfl, hAv⟩ := own_pws hO.out
   have hAv := Lib.hid hAv
   by_cases hlt : acc.length < vs.length
   ·obtain ⟨g, rfl⟩ : ∃ g, gk = g + 1 := ⟨gk - 1, by omega⟩
    obtain ⟨ga, oa, rfl, hat⟩ := (HV.out.below hW.out).addr (by omega)
    obtain ⟨e0, e1, e2, e3, e4⟩ := hat _ _ (List.getElem?_eq_getElem hlt)
    have hG1 := hG.out
    rw [List.drop_eq_getElem_cons hlt, scopeF] at hG1
    clear hat
    generalize vs[acc.length] = t at *
    have hbk : Below wr.heap.size wr (wr.alloc (.cells (vArr t) 46)) := (Below.refl _ _).alloc (Nat.le_refl _) _
    have HK := Lib.hid (isKind_any t.u)
    cases hb : btw t.u 0 4 with
    | false =>
     rw [hb, if_neg (by simp)] at hG1
     rw [hb] at HK
     have hF := Lib.hid (ScopeP.none (B := 0) hG1 (hW.out.trans (hbk.mono hW.out.size)))
     clear hb hG1 hG
     go_wp2_with (go_at_call 70; refine (HK.out _).mono ?_; rintro e w1 ⟨rfl, hw2⟩; have hw2 := hw2.symm; subst hw2)
     exact bodyPost_ret (v := .tuple #[.slice none 0 0, .bool false]) (by simp [results, Tryz.results55, go_sem]) rfl hF.out
    | true =>
     rw [hb, if_pos rfl] at hG1
     rw [hb] at HK
     have hG2 := Lib.hid hG1
     obtain ⟨hu0, hu1⟩ := btw_iff.1 hb
     obtain ⟨j, hj⟩ : ∃ j : Nat, t.u = j := ⟨t.u.toNat, by omega⟩
     have hj5 : j < 5 := by omega
     obtain ⟨k0, k1, k2⟩ := ((HL.out.below hW.out).below hbk).kinds j hj5
     have hg0 := World.block_lt_of_cell? _ _ k0
     obtain ⟨tx, tu, tlo, thi, ti⟩ := t
     simp only at hj
     subst hj
     have hown := owns_below hO.out hbk.block
     have hlt2 := hown.lt
     have hWk := hW.out.trans (hbk.mono hW.out.size)
     simp only at hG2 e1 HK
     clear hb hG1 hG hu0 hu1
     generalize hp : kindP (j : Int) = p at *
     go_wp2_with (first
      | (go_at_call 70; refine (HK.out _).mono ?_; rintro e w1 ⟨rfl, hw2⟩; have hw2 := hw2.symm; subst hw2)
      | (at_builtin; refine wpList_append_lies _ rfl _ _ 100 rfl w.heap.size 125 i0 (.agg (pArr ⟨0, 0, 0⟩)) 3 24 Tryz.underlying100 hi hz0 hz1 hz2 rfl (by decide) _ _ (psCells acc) rfl (hown.alloc _) ⟨wr.heap.size + 1, 0, none⟩ 1 1 (pCells p) rfl rfl ?c1 ?c2 (by decide) ?c3 ?c4 ?c5 (wr.heap.size + 1 + 1) ?c6 ?_))
     case c1 => exact new_cells _ (pArr p) _ _ (by simp)
     case c2 => exact p_one p
     case c3 => unfold maxLen; omega
     case c4 => omega
     case c5 => have := hWk.size; simp at this ⊢; omega
     case c6 => simp
     intro gb cap w3 hown3 hgrow hat hlt3
     have hown4 : Hid (w3.ownsRow w.heap.size 125 3 (.slice (some ⟨gb, 0, none⟩) (acc.length + 1) cap) (acc ++ [p]).length (psCells (acc ++ [p]))) := Lib.hid (by rw [psCells_snoc, List.length_append]; exact hown3)
     have hW3 := Lib.hid (hWk.trans (gbBelow (B := w.heap.size) (gbTrans (gbAlloc (gbRefl _ _)) hgrow) hWk.size (fun k e => (hlt2 k e).1)))
     clear hgrow hown3 hown hlt2 hat hWk
     go_wp2
     go_roundg g
     case measure => omega
     case rel => exact ⟨acc.length + 1, acc ++ [p], by omega, by go_num, by simp, hG2, hown4, hW3⟩
   ·obtain rfl : gk = 0 := by omega
    have hF : Hid (some acc = r) := Lib.hid (by have := hG.out; rw [List.drop_eq_nil_of_le (by omega), scopeF] at this; exact this)
    have hE := Lib.hid (ScopeP.some (B := 0) (c := cv) hF.out hAv.out hW.out)
    clear hG
    go_wp2_with fail
    exact bodyPost_ret (v := .tuple #[.slice Av acc.length (acc.length + cv), .bool true]) (by simp [results, Tryz.results55, go_sem]) rfl hE.out
 ·have e : scopeM (vs.map (·.u)) = none := by unfold scopeM; rw [if_neg]; simp; intro h; omega
  rw [e]
  go_enter Tryz.func55, Tryz.ntmps55
  go_wp2_with fail
  exact bodyPost_ret (v := .tuple #[.slice none 0 0, .bool false]) (by simp [results, Tryz.results55, go_sem]) rfl ⟨rfl, Below.refl _ _⟩
end Go.Proofs.YtljknappbnoikaaGreatDoor.U
