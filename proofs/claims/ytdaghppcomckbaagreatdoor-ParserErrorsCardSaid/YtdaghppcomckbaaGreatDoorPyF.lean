/- Texts of one proof: PyF. -/
import Derived.Test.YtdaghppcomckbaaGreatDoorPmF
import Derived.Deep.RegionLaw
import Derived.Deep.AppendLies
/- The contract of Parse; condition: the listed package-level variables hold what the text lays. -/
namespace Go.Proofs.YtdaghppcomckbaaGreatDoor
open Go.RowKit
set_option linter.unusedVariables false
set_option linter.unusedSimpArgs false

theorem PS.ownGe {C : Cx} {w : World} {nx : Nat} {dv : Value} {ds : List (Int × Int)} (h : PS C w nx dv ds) : ∀ k, dv.ownBlock = some k → C.R ≤ k := fun k hk => (h.own.lt k hk).1
theorem PS.move2 {C : Cx} {w w' : World} {nx : Nat} {dv : Value} {ds : List (Int × Int)} (h : PS C w nx dv ds) (hR : w'.heap[C.R]? = w.heap[C.R]?) (hT : w'.heap[C.tg]? = w.heap[C.tg]?) (hD : ∀ k, k < w.heap.size → dv.ownBlock = some k → w'.heap[k]? = w.heap[k]?) : PS C w' nx dv ds := by
  refine ⟨hR.trans h.blk, fun i t ht => (h.tok i t ht).keep hT, ⟨h.own.1, ?_⟩, h.nR, h.dR, h.dT, h.lt, h.le, h.sen⟩
  rcases h.own.2 with hn | ⟨g, cap, cur, rfl, h1, h2, rest⟩
  · exact .inl hn
  · exact .inr ⟨g, cap, cur, rfl, h1, (hD g (Array.getElem?_eq_some_iff.1 h2).1 rfl).trans h2, rest⟩
theorem PS.setK {C : Cx} {w : World} {nx b i : Nat} {dv x : Value} {ds : List (Int × Int)} {cs : Array Value} {fr : Nat × Nat} (h : PS C w nx dv ds) (hb : w.heap[b]? = some (.cells cs 25 fr)) (hR : b ≠ C.R) (hT : b ≠ C.tg) : PS C (w.setCell ⟨b, i, none⟩ x) nx dv ds :=
  h.move2 (heap_setCell_other w _ _ x (fun e => hR e.symm)) (heap_setCell_other w _ _ x (fun e => hT e.symm)) (fun k _ hk => heap_setCell_other w _ k x (fun e => own_ne hb h.own (by rw [hk, e])))
theorem PS.grownK {C : Cx} {w w' : World} {nx B n : Nat} {dv v : Value} {ds : List (Int × Int)} {vs : List Value} (h : PS C w nx dv ds) (hown : w.ownsRow B 25 6 v n vs) (hR : C.R < B) (hT : C.tg < B) (hg : w.grownBy w' v.ownBlock) : PS C w' nx dv ds := by
  have hne : ∀ k, k < B → some k ≠ v.ownBlock := fun k hk e => by have := (hown.lt k e.symm).1; omega
  refine h.move2 (hg.block _ h.RLt (hne _ hR)) (hg.block _ h.tgLt (hne _ hT)) (fun k hl hk => hg.block k hl (fun e => ?_))
  rcases hown.2 with ⟨rfl, _⟩ | ⟨g, cap, cur, rfl, _, hh, _⟩
  · cases e
  · simp only [Value.ownBlock, Option.some.injEq] at e
    subst e
    exact own_ne hh h.own hk
theorem diags_keep {w : World} {base : Nat} {D : Option Addr} {c : Nat} {ds : List (Int × Int)} (h : w.ownsRow base 31 2 (.slice D ds.length c) ds.length (dCells ds)) (hD : DiagsR w D ds) {b : Nat} (hb : (Value.slice D ds.length c).ownBlock ≠ some b) {w' : World} (hk : ∀ k, k < w.heap.size → k ≠ b → w'.heap[k]? = w.heap[k]?) : DiagsR w' D ds := by
  intro hpos
  obtain ⟨g, o, rfl, hc⟩ := hD hpos
  refine ⟨g, o, rfl, fun i d hd => ?_⟩
  obtain ⟨h1, h2⟩ := hc i d hd
  have hg : g ≠ b := fun e => hb (by simp [Value.ownBlock, e])
  have e : ∀ j, w'.cell? ⟨g, j, none⟩ = w.cell? ⟨g, j, none⟩ := fun j => World.cell?_of_block (a := ⟨g, j, none⟩) (hk g (World.block_lt_of_cell? w _ h1) hg)
  exact ⟨by rw [e]; exact h1, by rw [e]; exact h2⟩
theorem belowSet {B b i : Nat} {a w : World} {u : Value} (h : Below B a w) (hb : B ≤ b) : Below B a (w.setCell ⟨b, i, none⟩ u) := Below.setCell h hb u
theorem kpDrew {R : Nat} {o : Option Nat} {w w' : World} (h : Kp R o w.drew w') : Kp R o w w' := ⟨h.os, h.tape, h.output, h.size, h.block⟩
theorem tokInfo2 : (Tryz.prog.info? 44).map (fun i => (i.zero, i.size, i.bytes)) = some (some (.agg #[.int .i64 0, .string ⟨#[]⟩, .int .i64 0, .int .i64 0]), 4, 40) := by kernel_rfl
set_option maxHeartbeats 8000000 in
set_option maxRecDepth 100000 in
theorem parse_ok (s : ByteArray) (w : World) (ts : List Tk) (p : Nat) (hx : lx s = (ts, 0, p)) (hL : LaidW w) (hw : 2 < w.heap.size) (hm : s.size ≤ maxLen) : Calls Tryz.prog 5 #[.string s] w (ParsePost s w) := by
  have hM : parseM s = endOf (itemsF (ts.length + 1) [] [] (ts ++ [sent s.size])) := by unfold parseM; rw [hx, if_neg (by simp)]; rfl
  have hmany : ts.length ≤ 3000 := by have := lx_many s; rw [hx] at this; exact this
  obtain ⟨RES, hRES⟩ : ∃ R, itemsF (ts.length + 1) [] [] (ts ++ [sent s.size]) = R := ⟨_, rfl⟩
  rw [hRES] at hM
  have hMH := Lib.hid hM
  have hRESH := Lib.hid hRES
  have hxH := Lib.hid hx
  have hmH := Lib.hid hm
  obtain ⟨i0, hi, hz0, hz1, hz2⟩ := info_parts tokInfo2
  obtain ⟨i1, hi', hz0', hz1', hz2'⟩ := info_parts nodeInfo
  have hb0 := (Below.refl w.heap.size w).alloc (Nat.le_refl _) (.cells zeroNd 25)
  have hX := Lib.hid (Lex_any s (w.alloc (.cells zeroNd 25)) (hL.below hb0 hw) (by simp; omega) hm)
  clear hM hx hRES hm
  go_enter Tryz.func5, Tryz.ntmps5
  go_wp2_with fail
  refine hX.out.mono ?_
  intro e w1 hp
  obtain ⟨A, c, rfl, hown, hb1⟩ := hp.el hxH.out
  clear hp
  have hB2 := Lib.hid ((hb1.block _ (by simp)).trans (newBlk w (.cells zeroNd 25) _ rfl))
  have hbw := Lib.hid (hb0.trans (hb1.mono (by simp)))
  have hs1 : w.heap.size < w1.heap.size := blkLt hB2.out
  have hown' := ownsRow_low (base' := 0) (Nat.zero_le _) hown
  have hone : ∀ u ∈ (sent s.size).cells, u.oneCell' = true := tk_one _
  have hltA : ∀ k, Value.ownBlock (.slice A ts.length c) = some k → w.heap.size + 1 ≤ k := fun k hk => by have := (hown.lt k hk).1; simp at this; exact this
  clear hb1 hb0 hown
  go_wp2_with (at_builtin; refine wpList_append_lies _ rfl _ _ 40 rfl 0 44 i0 (.agg #[.int .i64 0, .string ⟨#[]⟩, .int .i64 0, .int .i64 0]) 4 40 Tryz.underlying40 hi hz0 hz1 hz2 rfl (by decide) _ ts.length (cellsOf ts) rfl (hown'.alloc _) ⟨w1.heap.size, 0, none⟩ 1 1 (sent s.size).cells rfl rfl ?c1 hone (by decide) (by unfold maxLen; omega) (by omega) (Nat.zero_le _) (w1.heap.size + 1) (by simp) ?_)
  case c1 => exact new_cells _ #[.int .i64 0, .string ⟨#[]⟩, .int .i64 0, .int .i64 (s.size : Int)] _ _ rfl
  intro g cap w2 hown2 hgrow hat hlt2
  have hown3 : w2.ownsRow 0 44 4 (.slice (some ⟨g, 0, none⟩) (ts.length + 1) cap) (ts ++ [sent s.size]).length (cellsOf (ts ++ [sent s.size])) := by rw [cellsOf_snoc]; simpa using hown2
  have hgne : g ≠ w.heap.size := by
    rcases hat with h | h
    · have := hltA g h; omega
    · omega
  have hB2' := Lib.hid ((hgrow.block w.heap.size (by simp; omega) (fun e => by have := hltA _ e.symm; omega)).trans ((Below.heap_alloc _ _ _ (blkLt hB2.out)).trans hB2.out))
  have hbw2 : Below w.heap.size w w2 := ⟨hgrow.os.trans hbw.out.os, hgrow.tape.trans hbw.out.tape, hgrow.output.trans hbw.out.output, Nat.le_trans hbw.out.size (Nat.le_trans (by simp) hgrow.size), fun k hk => ((hgrow.block k (by have := hbw.out.size; simp; omega) (fun e => by have := hltA k e.symm; omega)).trans (Below.heap_alloc _ _ _ (by have := hbw.out.size; omega))).trans (hbw.out.block k hk)⟩
  have hbw2 := Lib.hid hbw2
  have hs2 : w.heap.size < w2.heap.size := blkLt hB2'.out
  have hcapn : ts.length + 1 ≤ cap ∧ cap ≤ maxLen := by
    rcases hown3.2 with ⟨h, _⟩ | ⟨g', cap', cur, hv, _, _, hn, hc, _⟩
    · cases h
    · simp only [Value.slice.injEq] at hv
      obtain ⟨-, hv1, rfl⟩ := hv
      omega
  -- the reader, and the tree
  obtain ⟨C, hC⟩ : ∃ C : Cx, C = ⟨w2.heap.size, g, cap, ts ++ [sent s.size]⟩ := ⟨_, rfl⟩
  have hCR : C.R = w2.heap.size := by rw [hC]
  have hCl : C.ts.length = ts.length + 1 := by rw [hC]; simp
  have hCg : C.tg = g := by rw [hC]
  have hCc : C.tc = cap := by rw [hC]
  have hCt : C.ts = ts ++ [sent s.size] := by rw [hC]
  have hPS : PS C ((w2.alloc (.cells #[.slice (some ⟨g, 0, none⟩) (ts.length + 1) cap, .int .i64 0, .slice none 0 0] 46)).alloc (.cells #[.int .i64 1, .string ⟨#[]⟩, .int .i64 0, .int .i64 0, .int .i64 0, .slice none 0 0] 25)) 0 (.slice none 0 0) [] := by
    refine ⟨?_, fun i t ht => ?_, World.ownsRow_nil _ _ _ _, ?_, by simp [Value.ownBlock], by simp [Value.ownBlock], by omega, by omega, ⟨ts, _, hCt⟩⟩
    · rw [hCR]
      refine (Below.heap_alloc _ _ _ (by simp)).trans ((newBlk w2 _ _ rfl).trans ?_)
      unfold rCells
      rw [hCg, hCc, hCl]
      rfl
    · have h1 := TkAt_own hown3 i t (by rw [← hCt]; exact ht)
      have hgl : g < w2.heap.size := hlt2
      rw [hCg]
      exact (h1.keep (w' := (w2.alloc _)) (Below.heap_alloc _ _ _ hgl)).keep (Below.heap_alloc _ _ _ (by simp; omega))
    · rw [hCg, hCR]; omega
  have hPSH := Lib.hid hPS
  have hcapH := Lib.hid (show C.ts.length ≤ C.tc by rw [hCl, hCc]; exact hcapn.1)
  have hcmH := Lib.hid (show C.tc ≤ maxLen by rw [hCc]; exact hcapn.2)
  have hCtH := Lib.hid hCt
  have hl0 : C.l 0 = ts ++ [sent s.size] := by unfold Cx.l; rw [hCt]; rfl
  have hl0H := Lib.hid hl0
  have hCRH := Lib.hid hCR
  have hTGH := Lib.hid (show C.tg < w2.heap.size by rw [hCg]; exact hlt2)
  have hClH := Lib.hid hCl
  have hCll : ∀ n, (C.l n).length = ts.length + 1 - n := fun n => by rw [Cx.llen, hClH.out]
  have hCllH := Lib.hid hCll
  clear hPS hC hCR hCl hCg hCc hCt hown2 hown3 hgrow hat hown' hcapn hl0 hB2 hbw hone hltA hCll
  go_wp2
  go_loopg [] (ts.length + 1) (fun gk wr => ∃ (nx : Nat) (acc : List Nd) (ds : List (Int × Int)) (dv v : Value), ts.length + 1 - nx ≤ gk ∧ acc.length + gk ≤ ts.length + 1 ∧ ds.length ≤ 20 ∧ Hid (itemsF gk acc ds (C.l nx) = RES) ∧ Hid (PS C wr nx dv ds) ∧ Hid (wr.heap[w.heap.size]? = some (.cells zeroNd 25 (0, 0))) ∧ Hid (wr.heap[w2.heap.size + 1]? = some (.cells #[.int .i64 1, .string ⟨#[]⟩, .int .i64 0, .int .i64 0, .int .i64 0, v] 25 (0, 0))) ∧ Hid (OwnK (w2.heap.size + 2) wr v acc ds) ∧ Hid (Below w.heap.size w wr))
  case atStart =>
    refine ⟨0, [], [], .slice none 0 0, .slice none 0 0, by omega, by simp, by simp, ?_, hPSH, ?_, ?_, ?_, ?_⟩
    · rw [hl0H.out]; exact hRESH
    · exact Lib.hid ((Below.heap_alloc _ _ _ (by simp; omega)).trans ((Below.heap_alloc _ _ _ hs2).trans hB2'.out))
    · exact Lib.hid (newBlk _ _ _ (by simp))
    · exact Lib.hid ⟨[], World.ownsRow_nil _ _ _ _, fun _ => rfl⟩
    · exact Lib.hid ((hbw2.out.alloc hbw2.out.size _).alloc (by have := hbw2.out.size; simp; omega) _)
  case round =>
    obtain ⟨nx, acc, ds, dv, v, hgk, hag, hds, hI, hP, hB, hT, hO, hW⟩ := hrel
    obtain ⟨D, dc, rfl⟩ := own_slice hP.out.own
    obtain ⟨Av, cv, rfl⟩ := hO.out.own
    have c1 := hP.out.c1
    have c2 := hP.out.c2
    rw [hCRH.out] at c1 c2
    have hxT := blkLt hT.out
    have hxB := blkLt hB.out
    have hnl := hP.out.lt
    rw [hClH.out] at hnl
    have hIt : Hid (∀ (wx : World), PS C wx nx (.slice D ds.length dc) ds → Calls Tryz.prog 12 #[.pointer (some ⟨w2.heap.size, 0, none⟩)] wx (ItemPost C nx (.slice D ds.length dc) ds wx (itemM (C.l nx)))) := by
      intro wx hpx
      have h := item_any C wx nx _ ds hcapH.out hcmH.out hpx (by omega)
      rw [hCRH.out] at h
      exact h
    by_cases hmore : nx < ts.length ∧ ds.length < 20
    · obtain ⟨hnt, hdd⟩ := hmore
      obtain ⟨gk', rfl⟩ : ∃ g, gk = g + 1 := ⟨gk - 1, by omega⟩
      have hI1 := hI.out
      rw [itemsF, if_neg (by rw [hCllH.out]; omega)] at hI1
      have hPd := Lib.hid (hP.out.below ((Below.refl wr.heap.size wr).drew))
      have hCTH := Lib.hid (show C.tg < w2.heap.size + 2 by have := hlt2; have h3 := hTGH.out; omega)
      have cq5 := (cells6 hT.out).1.2.2.2.2.2
      have hltP := Lib.hid (item_lt (C.l nx))
      have hle2 : 2 ≤ (C.l nx).length := by rw [hCllH.out]; omega
      have hlvP := Lib.hid (fun l1 h => leave_lt (C.l nx) l1 hle2 h)
      rcases hm : itemM (C.l nx) with ⟨t, l1⟩ | ⟨er, l1⟩
      · rw [hm] at hI1
        have hI1 := Lib.hid hI1
        have hltq := Lib.hid (hltP.out _ _ hm)
        have hmA := Lib.hid hm
        clear hm hI hle2
        have hbd1 := Lib.hid (show acc.length + [t].length ≤ maxLen by simp only [List.length_cons, List.length_nil]; unfold maxLen; omega)
        have hbd2 : (acc.length + [t].length) * 72 ≤ 140737488355328 := by simp only [List.length_cons, List.length_nil]; omega
        go_wp2_with fail
        go_region_law (first | (refine step_append_lies _ (by rfl) _ _ _ (by rfl) (w2.heap.size + 2) 25 i1 _ 6 72 Tryz.underlying23 hi' hz0' hz1' hz2' rfl (by decide) (.slice Av acc.length (acc.length + cv)) acc.length vs (by rfl) hown ⟨gL, 0, none⟩ [t].length _ vsL (by rfl) hownL.1 (hownL.cells rfl) hone (by simp) hbd1.out hbd2 (by omega) (w5.heap.size) rfl ?_; intro gq capq w6 hown2 hgrow hat hlt6; have hO6 := Lib.hid (OwnK.snoc hown hrowsH.out hrowsLH.out hovl.out (by omega) hgrow hown2 hat (Nat.le_refl _)); have hne := Lib.hid (fun k (hk : k < w2.heap.size + 2) (e : some k = Value.ownBlock (.slice Av acc.length (acc.length + cv))) => (by have := (hown.lt k e.symm).1; omega : False)); have hT6 := Lib.hid ((hgrow.block _ hx5 (hne.out _ (by omega))).trans hT5.out); have hB6 := Lib.hid ((hgrow.block _ (blkLt hB5.out) (hne.out _ (by omega))).trans hB5.out); have hW6 := Lib.hid (hW5.out.grown hgrow hW5.out.size (fun k hk => Nat.le_trans (by omega) (hown.lt k hk).1)); have hP6 := Lib.hid (hP5.out.grownK hown (by rw [hCRH.out]; omega) hCTH.out hgrow); have hx6 := blkLt hT6.out; have yc := (cells6 hT6.out).1.2.2.2.2.2; have yz := (cells6 hT6.out).2.2.2.2.2.2) | (go_simp; go_at_call 12; refine (hIt.out _ hPd.out).mono ?_; intro e w5 ho; rw [hmA.out] at ho; obtain ⟨nx5, v5, hl, hn, rfl, hV5, hP5, hk5⟩ := ho; obtain ⟨vsL, hownL, hrowsL⟩ := hV5; have hrowsLH := Lib.hid (RowsR.keep (P' := From wr.heap.size) (fun k hk _ => ⟨rfl, hk.1⟩) _ _ hrowsL); clear hrowsL; obtain ⟨gL, capL, hvL, hgL, hltL⟩ := hownL.form (by simp); subst hvL; have hlH := Lib.hid hl; have hP5 := Lib.hid hP5; have hk5 := Lib.hid (kpDrew hk5); clear hl; have hT5 := Lib.hid (hk5.out.blk (b := w2.heap.size + 1) hT.out (by rw [hCRH.out]; omega)); have hB5 := Lib.hid (hk5.out.blk (b := w.heap.size) hB.out (by rw [hCRH.out]; omega)); have hO5 := Lib.hid (OwnK.keep (w' := w5) (fun k h1 h2 => hk5.out.block k h2 (by rw [hCRH.out]; omega) (by simp)) hO.out); have hW5 := Lib.hid (hW.out.trans (Kp.below (B := w.heap.size) hk5.out (Nat.le_of_lt hxB) (by rw [hCRH.out]; exact Nat.le_of_lt hs2) (by simp))); have hx5 := blkLt hT5.out; have hovl := Lib.hid (fun kk (hkk : Value.ownBlock (.slice Av acc.length (acc.length + cv)) = some kk) => (let ⟨vs0, ho0, _⟩ := hO.out; (ho0.lt kk hkk).2)); have hone := rows_one _ _ hrowsLH.out; obtain ⟨vs, hown, hrows⟩ := hO5.out; have hrowsH := Lib.hid hrows; clear hrows; have cp5 := (cells6 hT5.out).1.2.2.2.2.2))
        all_goals
          have hlen := Lib.hid hlH.out
          have hnx5 : ts.length + 1 - nx5 ≤ gk' := by have h1 := hltq.out; rw [← hlH.out, hCllH.out, hCllH.out] at h1; omega
          have hIf : Hid (itemsF gk' (acc ++ [t]) ds (C.l nx5) = RES) := by have := hI1.out; rw [← hlH.out] at this; exact this
          have hb8R : w2.heap.size + 1 ≠ C.R := by rw [hCRH.out]; omega
          have hb8T : w2.heap.size + 1 ≠ C.tg := by have := hTGH.out; omega
          have hP7 := Lib.hid (hP6.out.setK (i := 5) (x := .slice (some ⟨gq, 0, none⟩) (acc.length + [t].length) capq) hT6.out hb8R hb8T)
          clear hgrow hown hown2 hownL hone cq5 cp5
          go_wp2_with fail
          go_roundg gk'
          case measure => omega
          case rel =>
            refine ⟨nx5, acc ++ [t], ds, _, .slice (some ⟨gq, 0, none⟩) (acc.length + [t].length) capq, hnx5, by simp; omega, by omega, hIf, hP7, ?_, ?_, ?_, ?_⟩
            · exact Lib.hid ((heap_setCell_other w6 _ _ _ (by show w.heap.size ≠ w2.heap.size + 1; omega)).trans hB6.out)
            · exact Lib.hid (set6_5 hT6.out)
            · exact Lib.hid (OwnK.keep (fun k h1 h2 => heap_setCell_other w6 _ k _ (by show k ≠ w2.heap.size + 1; omega)) hO6.out)
            · exact Lib.hid (hW6.out.setCell (by show w.heap.size ≤ w2.heap.size + 1; omega) _)
      · rw [hm] at hI1
        have hI1 := Lib.hid hI1
        have hmA := Lib.hid hm
        clear hm hI hle2
        go_wp2_with fail
        go_region_law (first | (refine step_append_nothing _ (by rfl) _ _ _ (by rfl) (w2.heap.size + 2) 25 i1 6 Tryz.underlying23 hi' (.slice Av acc.length (acc.length + cv)) acc.length vs (by rfl) hown (by rfl) ?_) | (go_simp; go_at_call 12; refine (hIt.out _ hPd.out).mono ?_; intro e w5 ho; rw [hmA.out] at ho; obtain ⟨nx5, dv5, hle5, hl, hn, rfl, hP5, hk5⟩ := ho; have hlH := Lib.hid hl; have hle5H := Lib.hid hle5; have hP5 := Lib.hid hP5; have hk5 := Lib.hid (kpDrew hk5); clear hl hle5; have hT5 := Lib.hid (hk5.out.blkD (b := w2.heap.size + 1) hT.out (by rw [hCRH.out]; omega) (own_ne hT.out hP.out.own)); have hB5 := Lib.hid (hk5.out.blkD (b := w.heap.size) hB.out (by rw [hCRH.out]; omega) (own_ne hB.out hP.out.own)); have hO5 := Lib.hid (OwnK.err (d := (er, (hd l1).a)) hO.out hk5.out (by rw [hCRH.out]; omega) hP.out.own); have hW5 := Lib.hid (hW.out.trans (Kp.below (B := w.heap.size) hk5.out (Nat.le_of_lt hxB) (by rw [hCRH.out]; exact Nat.le_of_lt hs2) (fun k hk => Nat.le_trans (by rw [hCRH.out]; exact Nat.le_of_lt hs2) (hP.out.ownGe k hk)))); have hx5 := blkLt hT5.out; obtain ⟨vs, hown, -⟩ := hO5.out; have cp5 := (cells6 hT5.out).1.2.2.2.2.2; have yz := (cells6 hT5.out).2.2.2.2.2.2))
        all_goals
          have hnx5 : ts.length + 1 - nx5 ≤ gk' := by have h1 := hlvP.out _ hle5H.out; rw [← hlH.out, hCllH.out, hCllH.out] at h1; omega
          have hIf : Hid (itemsF gk' acc (ds ++ [(er, (hd l1).a)]) (C.l nx5) = RES) := by have := hI1.out; rw [← hlH.out] at this; exact this
          have hb8R : w2.heap.size + 1 ≠ C.R := by rw [hCRH.out]; omega
          have hb8T : w2.heap.size + 1 ≠ C.tg := by have := hTGH.out; omega
          have hP7 := Lib.hid (hP5.out.setK (i := 5) (x := .slice Av acc.length (acc.length + cv)) hT5.out hb8R hb8T)
          clear hown cq5 cp5 yz
          go_wp2_with fail
          go_roundg gk'
          case measure => omega
          case rel =>
            refine ⟨nx5, acc, ds ++ [(er, (hd l1).a)], dv5, .slice Av acc.length (acc.length + cv), hnx5, by omega, by simp; omega, hIf, hP7, ?_, ?_, ?_, ?_⟩
            · exact Lib.hid ((heap_setCell_other w5 _ _ _ (by show w.heap.size ≠ w2.heap.size + 1; omega)).trans hB5.out)
            · exact Lib.hid (set6_5 hT5.out)
            · exact Lib.hid (OwnK.keep (fun k h1 h2 => heap_setCell_other w5 _ k _ (by show k ≠ w2.heap.size + 1; omega)) hO5.out)
            · exact Lib.hid (hW5.out.setCell (by show w.heap.size ≤ w2.heap.size + 1; omega) _)
    · have hF : Hid ((acc, ds) = RES) := by
        have := hI.out
        cases gk with
        | zero => exact this
        | succ g => rw [itemsF, if_pos (by rw [hCllH.out]; omega)] at this; exact this
      clear hI
      rcases Nat.eq_zero_or_pos ds.length with hz | hz
      · obtain rfl : ds = [] := List.eq_nil_of_length_eq_zero hz
        have hnt : ¬ nx < ts.length := fun h => hmore ⟨h, by simp⟩
        clear hmore hz
        obtain ⟨vs, hown, hrows⟩ := hO.out
        have hKd := Lib.hid (kidsOf (ts := acc) (B := w2.heap.size + 2) (w := wr) (n := acc.length) ⟨vs, hown, hrows rfl⟩)
        clear hown hrows
        have hSp : Hid (Calls Tryz.prog 13 #[.agg #[.int .i64 1, .string ⟨#[]⟩, .int .i64 0, .int .i64 0, .int .i64 0, .slice Av acc.length (acc.length + cv)], .int .i64 2500] wr (SparePost (spareN (rootNd acc) 2500) wr)) := spare_any (rootNd acc) wr 2500 Av cv (by decide) (by decide) (hKd.out.keep (fun k h1 h2 => ⟨rfl, Nat.zero_le _⟩))
        obtain ⟨⟨f0, f1, f2, f3, f4, f5⟩, -⟩ := cells6 hT.out
        by_cases hsp : spareN (rootNd acc) 2500 < 0
        · have hP1 : Hid (parseM s = (zNd, [(2, 0)])) := by have := hMH.out; rw [← hF.out] at this; unfold endOf at this; rw [if_neg (by simp), if_pos hsp] at this; exact this
          have hspb : decide (spareN (rootNd acc) 2500 < 0) = true := by simp [hsp]
          go_wp2_with fail
          refine hSp.out.mono ?_
          rintro e w5 ⟨rfl, hb5⟩
          have hB5 := (hb5.block _ hxB).trans hB.out
          obtain ⟨⟨a0, a1, a2, a3, a4, a5⟩, d0, d1, d2, d3, d4, d5⟩ := cells6 hB5
          have hlt5 := blkLt hB5
          have hbw5 : Below w.heap.size w w5 := hW.out.trans (hb5.mono hW.out.size)
          clear hB5 hb5 f0 f1 f2 f3 f4 f5 c1 c2
          go_wp2
          refine bodyPost_ret (v := .tuple #[nv zNd none 0, .slice (some ⟨w5.heap.size, 0, none⟩) 1 1]) (by simp [results, Tryz.results5, go_sem, a0, a1, a2, a3, a4, a5, zNd, rootNd, Nd.kind, Nd.name, Nd.n, Nd.unit, Nd.at0, Nd.kids, hlt5]) rfl ?_
          unfold ParsePost
          rw [hP1.out]
          refine ⟨none, 0, _, 1, rfl, trivial, fun _ => ⟨w5.heap.size, 0, rfl, fun i d hd => ?_⟩, ?_⟩
          · cases i with
            | zero =>
              simp at hd
              subst hd
              constructor
              · rw [cell_of_row _ _ 0 _ _ (0, 0) (newBlk _ _ _ (by simp))]; rfl
              · rw [cell_of_row _ _ 1 _ _ (0, 0) (newBlk _ _ _ (by simp))]; rfl
            | succ i => simp at hd
          · exact ((((((hbw5.setCell (by simp) _).setCell (by simp) _).setCell (by simp) _).setCell (by simp) _).setCell (by simp) _).setCell (by simp) _).alloc (by simp; exact hbw5.size) _
        · have hP1 : Hid (parseM s = (rootNd acc, [])) := by have := hMH.out; rw [← hF.out] at this; unfold endOf at this; rw [if_neg (by simp), if_neg hsp] at this; exact this
          have hspb : decide (spareN (rootNd acc) 2500 < 0) = false := by simp; omega
          go_wp2_with fail
          refine hSp.out.mono ?_
          rintro e w5 ⟨rfl, hb5⟩
          have hB5 := (hb5.block _ hxB).trans hB.out
          have hT5 := (hb5.block _ hxT).trans hT.out
          obtain ⟨⟨a0, a1, a2, a3, a4, a5⟩, d0, d1, d2, d3, d4, d5⟩ := cells6 hB5
          clear f0 f1 f2 f3 f4 f5
          obtain ⟨⟨f0, f1, f2, f3, f4, f5⟩, -⟩ := cells6 hT5
          have hlt5 := blkLt hB5
          have hbw5 : Below w.heap.size w w5 := hW.out.trans (hb5.mono hW.out.size)
          have hKd5 := Lib.hid (hKd.out.keep (w' := w5) (P' := From (w2.heap.size + 2)) (fun k h1 h2 => ⟨hb5.block k h2, h1⟩))
          clear hB5 hT5 hb5 c1 c2
          go_wp2
          refine bodyPost_ret (v := .tuple #[nv (rootNd acc) Av cv, .slice none 0 0]) (by simp [results, Tryz.results5, go_sem, a0, a1, a2, a3, a4, a5, zNd, rootNd, Nd.kind, Nd.name, Nd.n, Nd.unit, Nd.at0, Nd.kids, hlt5]) rfl ?_
          unfold ParsePost
          rw [hP1.out]
          refine ⟨Av, cv, none, 0, rfl, ?_, fun h => by simp at h, ?_⟩
          · exact KidsR.from (fun k h1 h2 => gbBlk (row := some (w.heap.size)) (by repeat with_reducible first | exact gbRefl _ _ | apply gbAlloc | apply gbDrew | apply gbSet) h2 (fun e => by cases e; omega)) (by omega) hKd5.out
          · exact (((((hbw5.setCell (by simp) _).setCell (by simp) _).setCell (by simp) _).setCell (by simp) _).setCell (by simp) _).setCell (by simp) _
      · have hP1 : Hid (parseM s = (zNd, ds)) := by have := hMH.out; rw [← hF.out] at this; unfold endOf at this; rw [if_pos (by intro e; simp at e; rw [e] at hz; simp at hz)] at this; exact this
        have hDi := Lib.hid (DiagsR.own hP.out.own)
        obtain ⟨⟨a0, a1, a2, a3, a4, a5⟩, d0, d1, d2, d3, d4, d5⟩ := cells6 hB.out
        have hr2 : w2.heap.size < wr.heap.size := by omega
        have hneD := Lib.hid (own_ne hB.out hP.out.own)
        have hbw5 := hW.out
        by_cases hnt : nx < ts.length
        · have hdd : ¬ ds.length < 20 := fun h => hmore ⟨hnt, h⟩
          have hdb : decide ((ds.length : Int) < 20) = false := by simp; omega
          clear hmore hdd
          go_wp2_with fail
          go_region
          all_goals
            go_wp2
            refine bodyPost_ret (v := .tuple #[nv zNd none 0, .slice D ds.length dc]) (by simp [results, Tryz.results5, go_sem, a0, a1, a2, a3, a4, a5, zNd, rootNd, Nd.kind, Nd.name, Nd.n, Nd.unit, Nd.at0, Nd.kids, hxB]) rfl ?_
            unfold ParsePost
            rw [hP1.out]
            refine ⟨none, 0, D, dc, rfl, trivial, diags_keep hP.out.own hDi.out hneD.out (fun k h1 h2 => gbBlk (row := some (w.heap.size)) (by repeat with_reducible first | exact gbRefl _ _ | apply gbAlloc | apply gbDrew | apply gbSet) h1 (by simpa using h2)), ?_⟩
            repeat with_reducible first | exact hbw5 | refine belowSet ?_ (Nat.le_refl _) | refine Below.drew ?_
        · clear hmore
          go_wp2_with fail
          go_region
          all_goals
            go_wp2
            refine bodyPost_ret (v := .tuple #[nv zNd none 0, .slice D ds.length dc]) (by simp [results, Tryz.results5, go_sem, a0, a1, a2, a3, a4, a5, zNd, rootNd, Nd.kind, Nd.name, Nd.n, Nd.unit, Nd.at0, Nd.kids, hxB]) rfl ?_
            unfold ParsePost
            rw [hP1.out]
            refine ⟨none, 0, D, dc, rfl, trivial, diags_keep hP.out.own hDi.out hneD.out (fun k h1 h2 => gbBlk (row := some (w.heap.size)) (by repeat with_reducible first | exact gbRefl _ _ | apply gbAlloc | apply gbDrew | apply gbSet) h1 (by simpa using h2)), ?_⟩
            repeat with_reducible first | exact hbw5 | refine belowSet ?_ (Nat.le_refl _) | refine Below.drew ?_
theorem Parse_any (s : ByteArray) (w : World) (hL : LaidW w) (hw : 2 < w.heap.size) (hm : s.size ≤ maxLen) : Calls Tryz.prog 5 #[.string s] w (ParsePost s w) := by
  obtain ⟨ts, er, p, hx⟩ : ∃ ts er p, lx s = (ts, er, p) := ⟨_, _, _, rfl⟩
  by_cases he : er = 0
  · subst he; exact parse_ok s w ts p hx hL hw hm
  · exact parse_err s w ts er p hx he hL hw hm
end Go.Proofs.YtdaghppcomckbaaGreatDoor
