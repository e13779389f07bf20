/- MaxminOrder: the law as a contract. -/
import Derived.Test.YtbjhdfakocfapaaMuB
import Derived.Test.YtbjhdfakocfapaaMuI
import Derived.Test.YtbjhdfakocfapaaMuJ
namespace Go.Proofs.Ytbjhdfakocfapaa
open Go.RowKit
set_option linter.unusedVariables false
set_option linter.unusedSimpArgs false
set_option maxHeartbeats 8000000 in
set_option maxRecDepth 100000 in
theorem order_any (n : Net) (a : NetA) (w : World) (hn : NetR w n a) (hs : n.c.length ≤ maxLen ∧ n.f.length ≤ maxLen ∧ n.l.length ≤ maxLen) (hrow : ∀ r ∈ n.f, r.length ≤ maxLen) :
    Calls Try.prog 9 #[nv n a] w (VV (.bool true) w) := by
  have hml : maxLen = 9223372036854775807 := rfl
  obtain ⟨W1, hW1⟩ : ∃ W1, W1 = w.alloc (netB n a) := ⟨_, rfl⟩
  have G1 : Gr w W1 := by rw [hW1]; exact grAlloc _ _
  have A1 : W1.heap[w.heap.size]? = some (netB n a) := by rw [hW1]; exact newBlk _ _ _ rfl
  obtain ⟨a0, a1, a2⟩ := cells3 A1
  have HFe := Lib.hid (fun wx (hg : Gr W1 wx) => RFew_any n a wx (hn.gr (Gr.tr G1 hg)))
  have HVa := Lib.hid (fun wx (hg : Gr W1 wx) => RValid13_any n a wx (hn.gr (Gr.tr G1 hg)) hrow)
  have HSh := Lib.hid (fun wx (hg : Gr W1 wx) => Share_any n a wx (hn.gr (Gr.tr G1 hg)) hs)
  have HN := Lib.hid (fun wx (hg : Gr W1 wx) => hn.gr (Gr.tr G1 hg))
  have HB := Lib.hid (fun wx (hg : Gr W1 wx) => cells3 (grBlk hg A1))
  have HG := Lib.hid G1
  clear A1 hn hs G1 hrow
  rcases hf : fewB n with _ | _
  · rw [hf] at HFe
    clear hf
    go_enter Try.func9, Try.ntmps9
    go_upto_region 1 with fail
    rw [← hW1]
    clear hW1
    go_wp2_with (first
      | (go_at_call 10; refine (head_any _).mono ?_; rintro e w2 ⟨rfl, hg2⟩; have a0 := grCell hg2 a0; have a1 := grCell hg2 a1; have a2 := grCell hg2 a2; have hg2 := Lib.hid hg2)
      | (go_at_call 11; refine (HFe.out _ hg2.out).mono ?_; rintro e w3 ⟨rfl, hg3⟩; have a0 := grCell hg3 a0; have a1 := grCell hg3 a1; have a2 := grCell hg3 a2; have hg3 := Lib.hid (Gr.tr hg2.out hg3)))
    go_ret
    exact ⟨rfl, Gr.tr HG.out hg3.out⟩
  rw [hf] at HFe
  rcases hv : validB n with _ | _
  · rw [hv] at HVa
    clear hv
    go_enter Try.func9, Try.ntmps9
    go_upto_region 1 with fail
    rw [← hW1]
    clear hW1
    go_wp2_with (first
      | (go_at_call 10; refine (head_any _).mono ?_; rintro e w2 ⟨rfl, hg2⟩; have a0 := grCell hg2 a0; have a1 := grCell hg2 a1; have a2 := grCell hg2 a2; have hg2 := Lib.hid hg2)
      | (go_at_call 11; refine (HFe.out _ hg2.out).mono ?_; rintro e w3 ⟨rfl, hg3⟩; have a0 := grCell hg3 a0; have a1 := grCell hg3 a1; have a2 := grCell hg3 a2; have hg3 := Lib.hid (Gr.tr hg2.out hg3))
      | (go_at_call 18; refine (HVa.out _ hg3.out).mono ?_; rintro e w4 ⟨rfl, hg4⟩; have a0 := grCell hg4 a0; have a1 := grCell hg4 a1; have a2 := grCell hg4 a2; have hg4 := Lib.hid (Gr.tr hg3.out hg4)))
    go_ret
    exact ⟨rfl, Gr.tr HG.out hg4.out⟩
  rw [hv] at HVa
  obtain ⟨k1, k2, k3, k4, k5, k6⟩ := valid_parts hv
  have hS : Hid (∀ W e w', ShareP n W e w' → Gr W w' ∧ ∃ YA, QsR w' (shareM n) YA ∧ e = .returned (.tuple #[.slice YA (shareM n).length (shareM n).length, .int .i64 0])) := Lib.hid (fun W e w' h => share_ok hv h)
  have HV := Lib.hid hv
  have K := Lib.hid (And.intro k1 (And.intro k2 k3))
  have K4 := Lib.hid (fun r hr => And.intro (links_len (k4 r hr)) (valid_links hv r hr))
  obtain ⟨i0, hi, hz0, hz1, hz2⟩ := info_parts intInfo
  obtain ⟨i1, hj1, hy0, hy1, hy2⟩ := info_parts slInfo
  have HI := Lib.hid hi
  have HJ := Lib.hid hj1
  have e0c : IntKind.i64.wrap ((n.c.length : Int) - 1) = (n.c.length : Int) - 1 := IntWalk.i64_in _ (by omega)
  have e0f : IntKind.i64.wrap ((n.f.length : Int) - 1) = (n.f.length : Int) - 1 := IntWalk.i64_in _ (by omega)
  clear k1 k2 k3 k4 k5 k6 hv hf hi hj1
  go_enter Try.func9, Try.ntmps9
  go_upto_region 1 with fail
  rw [← hW1]
  clear hW1
  go_upto_region 7 with (first
    | (go_at_call 10; refine (head_any _).mono ?_; rintro e w2 ⟨rfl, hg2⟩; have a0 := grCell hg2 a0; have a1 := grCell hg2 a1; have a2 := grCell hg2 a2; have hg2 := Lib.hid hg2)
    | (go_at_call 11; refine (HFe.out _ hg2.out).mono ?_; rintro e w3 ⟨rfl, hg3⟩; have a0 := grCell hg3 a0; have a1 := grCell hg3 a1; have a2 := grCell hg3 a2; have hg3 := Lib.hid (Gr.tr hg2.out hg3))
    | (go_at_call 18; refine (HVa.out _ hg3.out).mono ?_; rintro e w4 ⟨rfl, hg4⟩; have a0 := grCell hg4 a0; have a1 := grCell hg4 a1; have a2 := grCell hg4 a2; have hg4 := Lib.hid (Gr.tr hg3.out hg4)))
  obtain ⟨W5, hW5⟩ : ∃ W5, (w4.alloc (.cells #[.slice none 0 0, .slice none 0 0, .slice none 0 0] 25 (0, 0))) = W5 := ⟨_, rfl⟩
  have G5 : Gr w4 W5 := by rw [← hW5]; exact grAlloc _ _
  have B5 : W5.heap[w4.heap.size]? = some (.cells #[.slice none 0 0, .slice none 0 0, .slice none 0 0] 25 (0, 0)) := by rw [← hW5]; exact newBlk _ _ _ rfl
  have a0 := grCell G5 a0
  have HNB := Lib.hid (show NO W1 w4.heap.size (.slice none 0 0) (.slice none 0 0) (.slice none 0 0) [] [] [] [] W5 from
    ⟨hg4.out.tr G5, hg4.out.size, B5, OwnL.nil tI (OwnL.nil tS (OwnL.nil tI ⟨fun x hx => by (cases hx), List.Pairwise.nil⟩))⟩)
  obtain ⟨BM, hBM⟩ : ∃ BM, w4.heap.size = BM := ⟨_, rfl⟩
  rw [hW5, hBM]
  rw [hBM] at HNB
  clear hW5 hBM G5 B5 a1 a2 hg2 hg3 hg4 HFe HVa
  go_wp2
  clear a0
  go_loopg [7] (n.c.length) (fun gk s wr => ∃ (i : Int) (va : Value) (ca : List Int), gk ≤ n.c.length ∧ i = (gk : Int) - 1 ∧ s = .int .i64 i ∧ Hid (ca = ((n.c.drop gk).map id).reverse) ∧ Hid (NO W1 BM va (.slice none 0 0) (.slice none 0 0) ca [] [] [] wr))
  case atStart => exact ⟨(n.c.length : Int) - 1, _, [], Nat.le_refl _, rfl, rfl, Lib.hid (rev_end _ _ (Nat.le_refl _)).symm, HNB⟩
  case round =>
    obtain ⟨i, va, ca, hle, hie, rfl, hca, hNA⟩ := hrel
    clear HNB
    have hgr := hNA.out.gr
    obtain ⟨a0, a1, a2⟩ := HB.out _ hgr
    by_cases h0 : gk = 0
    rotate_left
    · obtain ⟨j, rfl⟩ : ∃ j, gk = j + 1 := ⟨gk - 1, by omega⟩
      obtain rfl : i = (j : Int) := by omega
      have hjl : j < n.c.length := by omega
      have hj8 : j ≤ 8 := by have := K.out; omega
      have hq : IntKind.i64.wrap ((j : Int) - 1) = (j : Int) - 1 := IntWalk.i64_in _ (by omega)
      have hcl8 : Hid (ca.length ≤ 8) := Lib.hid (by rw [hca.out]; have := K.out; simp; omega)
      have hnxx := Lib.hid (show ((n.c.drop j).map id).reverse = ca ++ [num n.c j] from by rw [hca.out, rev_step id n.c hjl]; simp [num, hjl])
      clear hie h0
      obtain ⟨g, o, hA, hcl⟩ := (HN.out _ hgr).1.addr (by omega)
      have p0 := hcl j (num n.c j) (by simp [num, hjl])
      have hBl := Lib.hid (blkLt hNA.out.blk)
      have hBl2 := hBl.out
      obtain ⟨c0, c1, c2⟩ := cells3 hNA.out.blk
      have zf := frz hNA.out.blk 0
      rw [hA] at a0
      have p0 : wr.drew.cell? ⟨g, o + j, none⟩ = some (.int .i64 (num n.c j)) := p0
      have a0 : wr.drew.cell? ⟨w.heap.size, 0, none⟩ = some (.slice (some ⟨g, o, none⟩) n.c.length a.cm) := a0
      have c0 : wr.drew.cell? ⟨BM, 0, none⟩ = some va := c0
      obtain ⟨x, hx⟩ : ∃ x, num n.c j = x := ⟨_, rfl⟩
      rw [hx] at p0 hnxx
      clear hcl hA hx
      go_upto_region 10 with fail
      go_region_law (first
        | (refine step_append_lies _ (by rfl) _ _ _ (by rfl) (BM + 1) 3 i0 _ 1 8 Try.underlying22 HI.out hz0 hz1 hz2 rfl (by decide) va ca.length (iC ca) (by rfl) (owns_gr hNA.out.o0 ((grDrew _).tr (grAlloc _ _))) _ 1 1 [.int .i64 x] (by rfl) (by rfl) (newOneD wr (.int .i64 x) _ _ rfl) (one_int _) (by decide) (by have := hcl8.out; unfold maxLen; omega) (by have := hcl8.out; omega) (by have := hBl.out; simp; omega) _ rfl ?_; intro g2 cap w2 hown2 hgrow hat hlt2; have hPx := Lib.hid (NO.stepC (x := x) (hNA.out.up ((grDrew _).tr (grAlloc _ _))) hgrow hown2 hat); have hB2 : w2.heap[BM]? = some (.cells #[va, .slice none 0 0, .slice none 0 0] 25 (0, 0)) := (grow_base (W1 := W1) (hNA.out.up ((grDrew _).tr (grAlloc _ _))).gr hNA.out.hB (hNA.out.up ((grDrew _).tr (grAlloc _ _))).blk (owns_gr hNA.out.o0 ((grDrew _).tr (grAlloc _ _))) hgrow).2; have c0 : w2.cell? ⟨BM, 0, none⟩ = some va := (cells3 hB2).1; have z2 := frz hB2 0; clear hB2 hown2 hgrow hat))
      all_goals
        (go_wp2
         go_roundg j
         case rel => exact ⟨(j : Int) - 1, _, ca ++ [x], by omega, rfl, rfl, Lib.hid hnxx.out.symm, hPx⟩
         case measure => omega)
    · subst h0
      obtain rfl : i = -1 := by omega
      have hck := Lib.hid (show ca = n.c.reverse from by rw [hca.out]; simp)
      clear hca hie hle
      go_wp2
      clear hgr a0 a1 a2
      go_loopg [8] (n.f.length) (fun gk s wr => ∃ (i : Int) (vr vb : Value) (rows : List (Value × List Int)) (cb : List Int), gk ≤ n.f.length ∧ i = (gk : Int) - 1 ∧ s = .int .i64 i ∧ Hid (rows.map (·.2) = ((n.f.drop gk).map (revRow n.c.length)).reverse) ∧ Hid (cb = ((n.l.drop gk).map id).reverse) ∧ Hid (NO W1 BM va vr vb ca rows cb [] wr))
      case atStart => exact ⟨(n.f.length : Int) - 1, _, _, [], [], Nat.le_refl _, rfl, rfl, Lib.hid (rev_end _ _ (Nat.le_refl _)).symm, Lib.hid (rev_end _ _ (by rw [K.out.2.2]; exact Nat.le_refl _)).symm, hNA⟩
      case round =>
        obtain ⟨i, vr, vb, rows, cb, hle, hie, rfl, hrw, hcb, hNB⟩ := hrel
        clear hNA
        have hgr := hNB.out.gr
        obtain ⟨a0, a1, a2⟩ := HB.out _ hgr
        by_cases h0 : gk = 0
        rotate_left
        · obtain ⟨j, rfl⟩ : ∃ j, gk = j + 1 := ⟨gk - 1, by omega⟩
          obtain rfl : i = (j : Int) := by omega
          have hjl : j < n.f.length := by omega
          have hj8 : j ≤ 8 := by have := K.out; omega
          have hq : IntKind.i64.wrap ((j : Int) - 1) = (j : Int) - 1 := IntWalk.i64_in _ (by omega)
          clear hie h0
          obtain ⟨gF, oF, hAF, hcf⟩ := (HN.out W1 (Below.refl _ _)).2.1.addr (by omega)
          obtain ⟨r, hr⟩ : ∃ r, n.f[j]? = some r := ⟨_, List.getElem?_eq_getElem hjl⟩
          obtain ⟨B, mB, hc1, hri⟩ := hcf j r hr
          have hr4 := K4.out r (List.mem_of_getElem? hr)
          obtain ⟨gB, oB, rfl, hbs⟩ := hri.addr (by omega)
          have HR := Lib.hid (And.intro hc1 (And.intro hbs (And.intro hr4 hr)))
          have hr16 : r.length ≤ 6 := hr4.1.2
          have er : IntKind.i64.wrap ((r.length : Int) - 1) = (r.length : Int) - 1 := IntWalk.i64_in _ (by omega)
          have c1w := grCell hgr hc1
          rw [hAF] at a1
          have hNE := Lib.hid (hNB.out.begin)
          have HAF := Lib.hid hAF
          clear hAF hcf hri hbs hr4 hc1 hNB hr
          go_wp2
          clear a0 a1 a2 c1w
          go_loopg [9, 10] (r.length) (fun gk s9 s10 wx => ∃ (i : Int) (l : List Int), gk ≤ r.length ∧ i = (gk : Int) - 1 ∧ s10 = .int .i64 i ∧ Hid (l = ((r.drop gk).map (mir n.c.length)).reverse) ∧ Hid (NO W1 BM va vr vb ca rows cb [(s9, tI, iC l)] wx))
          case atStart => exact ⟨(r.length : Int) - 1, [], Nat.le_refl _, rfl, rfl, Lib.hid (rev_end _ _ (Nat.le_refl _)).symm, hNE⟩
          case round =>
            obtain ⟨i, l, hle, hie, rfl, hl, hNX⟩ := hrel
            clear hNE
            have hgx := hNX.out.gr
            obtain ⟨a0, a1, a2⟩ := HB.out _ hgx
            rw [HAF.out] at a1
            have hcr := grCell hgx HR.out.1
            by_cases h0 : gk = 0
            rotate_left
            · obtain ⟨q, rfl⟩ : ∃ q, gk = q + 1 := ⟨gk - 1, by omega⟩
              obtain rfl : i = (q : Int) := by omega
              have hql : q < r.length := by omega
              have hqq : IntKind.i64.wrap ((q : Int) - 1) = (q : Int) - 1 := IntWalk.i64_in _ (by omega)
              obtain ⟨y, hy⟩ : ∃ y, r[q]? = some y := ⟨_, List.getElem?_eq_getElem hql⟩
              have hyq : r[q] = y := (List.getElem?_eq_some_iff.1 hy).2
              have p0 := grCell hgx (HR.out.2.1 q y hy)
              have hyb := HR.out.2.2.1.2 y (List.mem_of_getElem? hy)
              have hl8 : Hid (l.length ≤ 6) := Lib.hid (by rw [hl.out]; simp; omega)
              have hnl := Lib.hid (show ((r.drop q).map (mir n.c.length)).reverse = l ++ [mir n.c.length y] from by rw [hl.out, rev_step (mir n.c.length) r hql, hyq])
              have hK := K.out.1
              have E1 : Hid (IntKind.i64.wrap (IntKind.i64.wrap ((n.c.length : Int) - 1) - y) = mir n.c.length y) := Lib.hid (by
                have e1 : IntKind.i64.wrap ((n.c.length : Int) - 1) = (n.c.length : Int) - 1 := IntWalk.i64_in _ (by omega)
                rw [e1]
                exact IntWalk.i64_in _ (by omega))
              obtain ⟨z, hz⟩ : ∃ z, mir n.c.length y = z := ⟨_, rfl⟩
              rw [hz] at E1 hnl
              have hBl := Lib.hid (blkLt hNX.out.blk)
              have hbw := Lib.hid hgx.size
              have a0 : wr.drew.cell? ⟨w.heap.size, 0, none⟩ = some (.slice a.ca n.c.length a.cm) := a0
              have a1 : wr.drew.cell? ⟨w.heap.size, 1, none⟩ = some (.slice (some ⟨gF, oF, none⟩) n.f.length a.fm) := a1
              have hcr : wr.drew.cell? ⟨gF, oF + j, none⟩ = some (.slice (some ⟨gB, oB, none⟩) r.length mB) := hcr
              have p0 : wr.drew.cell? ⟨gB, oB + q, none⟩ = some (.int .i64 y) := p0
              clear hie h0 hy hyq hyb hz hK e0c
              go_upto_region 18 with fail
              go_region_law (first
                | (refine step_append_lies _ (by rfl) _ _ _ (by rfl) (BM + 1) 3 i0 _ 1 8 Try.underlying22 HI.out hz0 hz1 hz2 rfl (by decide) u9 l.length (iC l) (by rfl) (owns_gr hNX.out.ol ((grDrew _).tr (grAlloc _ _))) _ 1 1 [.int .i64 (IntKind.i64.wrap (IntKind.i64.wrap ((n.c.length : Int) - 1) - y))] (by rfl) (by rfl) (newOneD wr (.int .i64 (IntKind.i64.wrap (IntKind.i64.wrap ((n.c.length : Int) - 1) - y))) _ _ rfl) (one_int _) (by decide) (by have := hl8.out; unfold maxLen; omega) (by have := hl8.out; omega) (by have := hBl.out; simp; omega) _ rfl ?_; intro g2 cap w2 hown2 hgrow hat hlt2; rw [E1.out] at hown2; have hPz := Lib.hid (NO.stepX (x := z) (hNX.out.up ((grDrew _).tr (grAlloc _ _))) hgrow hown2 hat); clear hown2 hgrow hat))
              all_goals
                (go_wp2
                 go_roundg q
                 case rel => exact ⟨(q : Int) - 1, l ++ [z], by omega, rfl, rfl, Lib.hid hnl.out.symm, hPz⟩
                 case measure => omega)
            · subst h0
              obtain rfl : i = -1 := by omega
              have hlr := Lib.hid (show l = revRow n.c.length r from by rw [hl.out]; rfl)
              clear hl hie hle a0 a1 a2 hcr
              obtain ⟨lA, lc, hu9, -⟩ := own_ints hNX.out.ol rfl
              subst hu9
              have hBl := Lib.hid (blkLt hNX.out.blk)
              have hBl2 := hBl.out
              obtain ⟨c0, c1, c2⟩ := cells3 hNX.out.blk
              have zf := frz hNX.out.blk 1
              have hr8 : Hid (rows.length ≤ 8) := Lib.hid (by have h1 := congrArg List.length hrw.out; simp at h1; have := K.out; omega)
              go_upto_region 20 with (at_builtin; refine wpList_append_lies _ rfl _ _ _ rfl (BM + 1) 22 i1 _ 1 24 Try.underlying23 HJ.out hy0 hy1 hy2 rfl (by decide) vr rows.length (rows.map (·.1)) rfl (owns_gr hNX.out.o1 (grAlloc _ _)) _ 1 1 [.slice lA l.length lc] rfl rfl (newOne wr (.slice lA l.length lc) _ _ rfl) (one_slice rfl) (by decide) (by have := hr8.out; unfold maxLen; omega) (by have := hr8.out; omega) (by have := hBl.out; simp; omega) _ rfl ?_; intro g2 cap w2 hown2 hgrow hat hlt2; have hPr := Lib.hid (NO.stepR (hNX.out.up (grAlloc _ _)) hgrow hown2 hat); have hB2 : w2.heap[BM]? = some (.cells #[va, vr, vb] 25 (0, 0)) := (grow_base (W1 := W1) (hNX.out.up (grAlloc _ _)).gr hNX.out.hB (hNX.out.up (grAlloc _ _)).blk (owns_gr hNX.out.o1 (grAlloc _ _)) hgrow).2; have c1 : w2.cell? ⟨BM, 1, none⟩ = some vr := (cells3 hB2).2.1; have z2 := frz hB2 1; clear hB2 hown2 hgrow hat)
              generalize hWW : w2.setCell ⟨BM, 1, none⟩ (.slice (some ⟨g2, 0, none⟩) (rows.length + 1) cap) = wq at *
              clear hWW
              generalize Value.slice (some ⟨g2, 0, none⟩) (rows.length + 1) cap = vr2 at *
              have HRW := Lib.hid (show (rows ++ [(Value.slice lA l.length lc, l)]).map (·.2) = ((n.f.drop j).map (revRow n.c.length)).reverse from by
                rw [List.map_append, hrw.out, rev_step (revRow n.c.length) n.f hjl, (List.getElem?_eq_some_iff.1 HR.out.2.2.2).2, hlr.out]
                rfl)
              have hgr := hPr.out.gr
              obtain ⟨a0, a1, a2⟩ := HB.out _ hgr
              have hjl : j < n.l.length := by have := K.out.2.2; omega
              have hcl8 : Hid (cb.length ≤ 8) := Lib.hid (by rw [hcb.out]; have := K.out; simp; omega)
              have hnxx := Lib.hid (show ((n.l.drop j).map id).reverse = cb ++ [num n.l j] from by rw [hcb.out, rev_step id n.l hjl]; simp [num, hjl])
              clear c0 c1 c2 zf z2 hNX hgx hlr
              rename_i wrX wrY
              clear hBl2 hBl
              obtain ⟨g, o, hA, hcl⟩ := (HN.out _ hgr).2.2.addr (by omega)
              have p0 := hcl j (num n.l j) (by simp [num, hjl])
              have hBl := Lib.hid (blkLt hPr.out.blk)
              have hBl2 := hBl.out
              obtain ⟨c0, c1, c2⟩ := cells3 hPr.out.blk
              have zf := frz hPr.out.blk 2
              rw [hA] at a2
              have p0 : wq.drew.cell? ⟨g, o + j, none⟩ = some (.int .i64 (num n.l j)) := p0
              have a2 : wq.drew.cell? ⟨w.heap.size, 2, none⟩ = some (.slice (some ⟨g, o, none⟩) n.l.length a.lm) := a2
              have c2 : wq.drew.cell? ⟨BM, 2, none⟩ = some vb := c2
              obtain ⟨x, hx⟩ : ∃ x, num n.l j = x := ⟨_, rfl⟩
              rw [hx] at p0 hnxx
              clear hcl hA hx
              go_upto_region 20 with fail
              go_region_law (first
                | (refine step_append_lies _ (by rfl) _ _ _ (by rfl) (BM + 1) 3 i0 _ 1 8 Try.underlying22 HI.out hz0 hz1 hz2 rfl (by decide) vb cb.length (iC cb) (by rfl) (owns_gr hPr.out.o2 ((grDrew _).tr (grAlloc _ _))) _ 1 1 [.int .i64 x] (by rfl) (by rfl) (newOneD wq (.int .i64 x) _ _ rfl) (one_int _) (by decide) (by have := hcl8.out; unfold maxLen; omega) (by have := hcl8.out; omega) (by have := hBl.out; simp; omega) _ rfl ?_; intro g2 cap w2 hown2 hgrow hat hlt2; have hPx := Lib.hid (NO.stepL (x := x) (hPr.out.up ((grDrew _).tr (grAlloc _ _))) hgrow hown2 hat); have hB2 : w2.heap[BM]? = some (.cells #[va, vr2, vb] 25 (0, 0)) := (grow_base (W1 := W1) (hPr.out.up ((grDrew _).tr (grAlloc _ _))).gr hPr.out.hB (hPr.out.up ((grDrew _).tr (grAlloc _ _))).blk (owns_gr hPr.out.o2 ((grDrew _).tr (grAlloc _ _))) hgrow).2; have c2 : w2.cell? ⟨BM, 2, none⟩ = some vb := (cells3 hB2).2.2; have z2 := frz hB2 2; clear hB2 hown2 hgrow hat))
              all_goals
                (go_wp2
                 go_roundg j
                 case rel => exact ⟨(j : Int) - 1, _, _, rows ++ [(Value.slice lA l.length lc, l)], cb ++ [x], by omega, rfl, rfl, HRW, Lib.hid hnxx.out.symm, hPx⟩
                 case measure => omega)
        · subst h0
          obtain rfl : i = -1 := by omega
          clear hie hle
          have hcr := Lib.hid hrw.out
          obtain ⟨A0, m0, e0, hI0⟩ := own_ints hNB.out.o0 rfl
          obtain ⟨A2, m2, e2, hI2⟩ := own_ints hNB.out.o2 rfl
          obtain ⟨A1, m1, e1, hI1⟩ := hNB.out.rowsR
          obtain ⟨fr, hfr⟩ : ∃ fr, rows.map (·.2) = fr := ⟨_, rfl⟩
          have efr : rows.length = fr.length := by rw [← hfr, List.length_map]
          rw [efr] at e1
          rw [hfr] at hI1 hrw
          obtain ⟨c0, c1, c2⟩ := cells3 hNB.out.blk
          rw [e0] at c0
          rw [e1] at c1
          rw [e2] at c2
          have hbl := blkLt hNB.out.blk
          have hMq := Lib.hid (show revNet n = ⟨ca, fr, cb⟩ from by unfold revNet; rw [hck.out, hrw.out, hcb.out]; simp)
          have hvm : validB ⟨ca, fr, cb⟩ = true := by rw [← hMq.out]; exact rev_valid HV.out
          have hfl : fr.length = n.f.length := by rw [hrw.out]; simp
          have hL8 := Lib.hid (show ca.length ≤ 8 ∧ fr.length ≤ 8 ∧ cb.length ≤ 8 from by rw [hck.out, hfl, hcb.out]; have := K.out; simp; omega)
          have hMR := Lib.hid (fun wx (hg : Gr wr wx) => (show NetR wx ⟨ca, fr, cb⟩ ⟨A0, m0, A1, m1, A2, m2⟩ from ⟨hI0.gr hg, hI1.gr hg, hI2.gr hg⟩))
          have HSm := Lib.hid (fun wx (hg : Gr wr wx) => Share_any ⟨ca, fr, cb⟩ ⟨A0, m0, A1, m1, A2, m2⟩ wx (hMR.out wx hg) (by have h1 := hL8.out; exact ⟨by simp only; omega, by simp only; omega, by simp only; omega⟩))
          have hgw := Lib.hid hgr
          have hbH := Lib.hid hbl
          have HSh2 := Lib.hid (fun wx (hg : Gr wr wx) => HSh.out wx (Gr.tr hgw.out hg))
          have hS2 : Hid (∀ W e w', ShareP ⟨ca, fr, cb⟩ W e w' → Gr W w' ∧ ∃ YA, QsR w' (shareM ⟨ca, fr, cb⟩) YA ∧ e = .returned (.tuple #[.slice YA (shareM ⟨ca, fr, cb⟩).length (shareM ⟨ca, fr, cb⟩).length, .int .i64 0])) := Lib.hid (fun W e w' h => share_ok hvm h)
          have hlx := (share_fair HV.out).2.1
          have hly : (shareM ⟨ca, fr, cb⟩).length = n.f.length := by rw [← hfl]; exact (share_fair hvm).2.1
          have tl1 : (((shareM n).length : Int) != (n.f.length : Int)) = false := by simp; rw [hlx]
          have tl2 : (((shareM ⟨ca, fr, cb⟩).length : Int) != ((shareM n).length : Int)) = false := by simp; rw [hlx, hly]
          have hXY : Hid (∀ k, k < n.f.length → rat (shareM n) k = rat (shareM ⟨ca, fr, cb⟩) (n.f.length - 1 - k)) := Lib.hid (fun k hk => by
            have h := rev_rat HV.out hk
            rw [hMq.out] at h
            exact h)
          have HL := Lib.hid (show (shareM n).length = n.f.length ∧ (shareM ⟨ca, fr, cb⟩).length = n.f.length ∧ n.f.length ≤ 8 from ⟨hlx, hly, K.out.2.1⟩)
          clear hvm hlx hly HSh HV hMq HI HJ hL8 e0 e1 e2 hI0 hI1 hI2 hgr hMR hck hrw hcb HN hNB hfl efr hfr hcr e0f
          generalize shareM ⟨ca, fr, cb⟩ = ys at *
          generalize shareM n = xs at *
          go_wp2_with (first
            | (go_at_call 12; have gg := hQ1; refine (HSm.out _ hg7.out).mono ?_; intro e w8 hP; obtain ⟨hg8, YB, hQ2, rfl⟩ := hS2.out _ _ _ hP; clear hP; have hQ2 := Lib.hid hQ2; have hQ1 := Lib.hid (hQ1.out.gr hg8); have a1 := grCell hg8 a1; have hg8 := Lib.hid (Gr.tr hg7.out hg8))
            | (go_at_call 12; refine (HSh2.out _ (Below.refl _ _)).mono ?_; intro e w7 hP; obtain ⟨hg7, YA, hQ1, rfl⟩ := hS.out _ _ _ hP; clear hP; have hQ1 := Lib.hid hQ1; have c0 := grCell hg7 c0; have c1 := grCell hg7 c1; have c2 := grCell hg7 c2; have a1 := grCell hg7 a1; have hg7 := Lib.hid hg7))
          clear a0 a1 a2 c0 c1 c2 hS hS2 hg7 HSm HSh2
          go_loopg [3, 15] (xs.length) (fun gk u s wy => ∃ k : Nat, k + gk = xs.length ∧ u = .bool true ∧ s = .int .i64 k ∧ Hid (Gr w8 wy))
          case atStart => exact ⟨0, by omega, rfl, rfl, Lib.hid (Below.refl _ _)⟩
          case round =>
            obtain ⟨k, hk, rfl, rfl, hW⟩ := hrel
            have hle : xs.length ≤ 8 := by have := HL.out; omega
            by_cases hlt3 : k < xs.length
            · obtain ⟨g9, rfl⟩ : ∃ g, gk = g + 1 := ⟨gk - 1, by omega⟩
              obtain ⟨q, hqe⟩ : ∃ q, n.f.length - 1 - k = q := ⟨_, rfl⟩
              have hkf : k < n.f.length := by have := HL.out; omega
              have hqy : q < ys.length := by have := HL.out; omega
              obtain ⟨g, o, rfl, hcs1⟩ := (hQ1.out.gr hW.out).addr (by omega)
              obtain ⟨p0, p1⟩ := hcs1 k _ (rat_get hlt3)
              obtain ⟨g2, o2, rfl, hcs2⟩ := (hQ2.out.gr hW.out).addr (by omega)
              obtain ⟨q0, q1⟩ := hcs2 q _ (rat_get hqy)
              have hq : IntKind.i64.wrap ((k : Int) + 1) = (k : Int) + 1 := IntWalk.i64_in _ (by omega)
              have hxy := hXY.out k hkf
              rw [hqe] at hxy
              obtain ⟨z, hz⟩ : ∃ z : Int, IntKind.i64.wrap ((ys.length : Int) - 1) = z := ⟨_, rfl⟩
              have hz2 : IntKind.i64.wrap (z - (k : Int)) = (q : Int) := by
                have h1 := HL.out
                have hz1 : z = (ys.length : Int) - 1 := by rw [← hz]; exact IntWalk.i64_in _ (by omega)
                rw [hz1, IntWalk.i64_in ((ys.length : Int) - 1 - (k : Int)) (by omega)]
                omega
              rw [← hxy] at q0 q1
              obtain ⟨x, hx⟩ : ∃ x, rat xs k = x := ⟨_, rfl⟩
              rw [hx] at p0 p1 q0 q1
              have hqE : ∀ wx, (Op.equalIn 10000 35 (.agg #[.int .i64 x.n, .int .i64 x.d]) (.agg #[.int .i64 x.n, .int .i64 x.d])).run Try.prog wx = .ok true wx := fun wx => by rw [run_q_eq x x wx, qEq_rfl]
              clear hcs1 hcs2 hxy hx hqe
              go_upto_region 28 with fail
              refine wp_region_G (S := fun wq => Gr wr wq) (by kernel_rfl) (grDrew _) (fun hHeld => ?_)
              have hSG : Hid (∀ wp wq : World, Gr wr wp → Gr wp wq → Gr wr wq) := Lib.hid (fun _ _ h k => h.tr k)
              have hmv := Lib.hid (fun (wq : World) (hq : Gr wr wq) => And.intro (grCell hq p0) (And.intro (grCell hq p1) (And.intro (grCell hq q0) (grCell hq q1))))
              first
               | (refine tk hSG 0 (v := ?_) rfl (by kernel_rfl) (fun _ _ _ h => h) (by rfl) ?_ hHeld ?_; rotate_left; focus (intro w' hSw; obtain ⟨p0, p1, q0, q1⟩ := hmv.out _ hSw; go_simp; (try with_reducible rfl)))
               | refine tn hSG 0 rfl (by kernel_rfl) (fun _ _ _ h => h) (by rfl) hHeld ?_
              (try simp only [zq1, zq2, zq3, Act.put, zq4, zq5, zq6])
              first
               | (refine tk hSG 1 (v := ?_) rfl (by kernel_rfl) (fun _ _ _ h => h) (by rfl) ?_ hHeld ?_; rotate_left; focus (intro w' hSw; obtain ⟨p0, p1, q0, q1⟩ := hmv.out _ hSw; go_simp; (try with_reducible rfl)))
               | refine tn hSG 1 rfl (by kernel_rfl) (fun _ _ _ h => h) (by rfl) hHeld ?_
              (try simp only [zq1, zq2, zq3, Act.put, zq4, zq5, zq6])
              first
               | (refine tk hSG 2 (v := ?_) rfl (by kernel_rfl) (fun _ _ _ h => h) (by rfl) ?_ hHeld ?_; rotate_left; focus (intro w' hSw; obtain ⟨p0, p1, q0, q1⟩ := hmv.out _ hSw; go_simp; (try with_reducible rfl)))
               | refine tn hSG 2 rfl (by kernel_rfl) (fun _ _ _ h => h) (by rfl) hHeld ?_
              (try simp only [zq1, zq2, zq3, Act.put, zq4, zq5, zq6])
              first
               | (refine tk hSG 3 (v := ?_) rfl (by kernel_rfl) (fun _ _ _ h => h) (by rfl) ?_ hHeld ?_; rotate_left; focus (intro w' hSw; obtain ⟨p0, p1, q0, q1⟩ := hmv.out _ hSw; go_simp; (try with_reducible rfl)))
               | refine tn hSG 3 rfl (by kernel_rfl) (fun _ _ _ h => h) (by rfl) hHeld ?_
              (try simp only [zq1, zq2, zq3, Act.put, zq4, zq5, zq6])
              first
               | (refine tk hSG 4 (v := ?_) rfl (by kernel_rfl) (fun _ _ _ h => h) (by rfl) ?_ hHeld ?_; rotate_left; focus (intro w' hSw; obtain ⟨p0, p1, q0, q1⟩ := hmv.out _ hSw; go_simp; (try with_reducible rfl)))
               | refine tn hSG 4 rfl (by kernel_rfl) (fun _ _ _ h => h) (by rfl) hHeld ?_
              (try simp only [zq1, zq2, zq3, Act.put, zq4, zq5, zq6])
              first
               | (refine tk hSG 5 (v := ?_) rfl (by kernel_rfl) (fun _ _ _ h => h) (by rfl) ?_ hHeld ?_; rotate_left; focus (intro w' hSw; obtain ⟨p0, p1, q0, q1⟩ := hmv.out _ hSw; go_simp; (try with_reducible rfl)))
               | refine tn hSG 5 rfl (by kernel_rfl) (fun _ _ _ h => h) (by rfl) hHeld ?_
              (try simp only [zq1, zq2, zq3, Act.put, zq4, zq5, zq6])
              first
               | (refine tk hSG 6 (v := ?_) rfl (by kernel_rfl) (fun _ _ _ h => h) (by rfl) ?_ hHeld ?_; rotate_left; focus (intro w' hSw; obtain ⟨p0, p1, q0, q1⟩ := hmv.out _ hSw; go_simp; (try with_reducible rfl)))
               | refine tn hSG 6 rfl (by kernel_rfl) (fun _ _ _ h => h) (by rfl) hHeld ?_
              (try simp only [zq1, zq2, zq3, Act.put, zq4, zq5, zq6])
              first
               | (refine tk hSG 7 (v := ?_) rfl (by kernel_rfl) (fun _ _ _ h => h) (by rfl) ?_ hHeld ?_; rotate_left; focus (intro w' hSw; obtain ⟨p0, p1, q0, q1⟩ := hmv.out _ hSw; go_simp; (try with_reducible rfl)))
               | refine tn hSG 7 rfl (by kernel_rfl) (fun _ _ _ h => h) (by rfl) hHeld ?_
              (try simp only [zq1, zq2, zq3, Act.put, zq4, zq5, zq6])
              first
               | (refine tk hSG 8 (v := ?_) rfl (by kernel_rfl) (fun _ _ _ h => h) (by rfl) ?_ hHeld ?_; rotate_left; focus (intro w' hSw; obtain ⟨p0, p1, q0, q1⟩ := hmv.out _ hSw; go_simp; (try with_reducible rfl)))
               | refine tn hSG 8 rfl (by kernel_rfl) (fun _ _ _ h => h) (by rfl) hHeld ?_
              (try simp only [zq1, zq2, zq3, Act.put, zq4, zq5, zq6])
              first
               | (refine tk hSG 9 (v := ?_) rfl (by kernel_rfl) (fun _ _ _ h => h) (by rfl) ?_ hHeld ?_; rotate_left; focus (intro w' hSw; obtain ⟨p0, p1, q0, q1⟩ := hmv.out _ hSw; go_simp; (try with_reducible rfl)))
               | refine tn hSG 9 rfl (by kernel_rfl) (fun _ _ _ h => h) (by rfl) hHeld ?_
              (try simp only [zq1, zq2, zq3, Act.put, zq4, zq5, zq6])
              first
               | (refine tk hSG 10 (v := ?_) rfl (by kernel_rfl) (fun _ _ _ h => h) (by rfl) ?_ hHeld ?_; rotate_left; focus (intro w' hSw; obtain ⟨p0, p1, q0, q1⟩ := hmv.out _ hSw; go_simp; (try with_reducible rfl)))
               | refine tn hSG 10 rfl (by kernel_rfl) (fun _ _ _ h => h) (by rfl) hHeld ?_
              (try simp only [zq1, zq2, zq3, Act.put, zq4, zq5, zq6])
              first
               | (refine tk hSG 11 (v := ?_) rfl (by kernel_rfl) (fun _ _ _ h => h) (by rfl) ?_ hHeld ?_; rotate_left; focus (intro w' hSw; obtain ⟨p0, p1, q0, q1⟩ := hmv.out _ hSw; go_simp; (try with_reducible rfl)))
               | refine tn hSG 11 rfl (by kernel_rfl) (fun _ _ _ h => h) (by rfl) hHeld ?_
              (try simp only [zq1, zq2, zq3, Act.put, zq4, zq5, zq6])
              first
               | (refine tk hSG 12 (v := ?_) rfl (by kernel_rfl) (fun _ _ _ h => h) (by rfl) ?_ hHeld ?_; rotate_left; focus (intro w' hSw; obtain ⟨p0, p1, q0, q1⟩ := hmv.out _ hSw; go_simp; (try with_reducible rfl)))
               | refine tn hSG 12 rfl (by kernel_rfl) (fun _ _ _ h => h) (by rfl) hHeld ?_
              (try simp only [zq1, zq2, zq3, Act.put, zq4, zq5, zq6])
              first
               | (refine tk hSG 13 (v := ?_) rfl (by kernel_rfl) (fun _ _ _ h => h) (by rfl) ?_ hHeld ?_; rotate_left; focus (intro w' hSw; obtain ⟨p0, p1, q0, q1⟩ := hmv.out _ hSw; go_simp; (try with_reducible rfl)))
               | refine tn hSG 13 rfl (by kernel_rfl) (fun _ _ _ h => h) (by rfl) hHeld ?_
              (try simp only [zq1, zq2, zq3, Act.put, zq4, zq5, zq6])
              first
               | (refine tk hSG 14 (v := ?_) rfl (by kernel_rfl) (fun _ _ _ h => h) (by rfl) ?_ hHeld ?_; rotate_left; focus (intro w' hSw; obtain ⟨p0, p1, q0, q1⟩ := hmv.out _ hSw; go_simp; (try with_reducible rfl)))
               | refine tn hSG 14 rfl (by kernel_rfl) (fun _ _ _ h => h) (by rfl) hHeld ?_
              (try simp only [zq1, zq2, zq3, Act.put, zq4, zq5, zq6])
              first
               | (refine tk hSG 15 (v := ?_) rfl (by kernel_rfl) (fun _ _ _ h => h) (by rfl) ?_ hHeld ?_; rotate_left; focus (intro w' hSw; obtain ⟨p0, p1, q0, q1⟩ := hmv.out _ hSw; go_simp; (try with_reducible rfl)))
               | refine tn hSG 15 rfl (by kernel_rfl) (fun _ _ _ h => h) (by rfl) hHeld ?_
              (try simp only [zq1, zq2, zq3, Act.put, zq4, zq5, zq6])
              first
               | (refine tk hSG 16 (v := ?_) rfl (by kernel_rfl) (fun _ _ _ h => h) (by rfl) ?_ hHeld ?_; rotate_left; focus (intro w' hSw; obtain ⟨p0, p1, q0, q1⟩ := hmv.out _ hSw; go_simp; (try with_reducible rfl)))
               | refine tn hSG 16 rfl (by kernel_rfl) (fun _ _ _ h => h) (by rfl) hHeld ?_
              (try simp only [zq1, zq2, zq3, Act.put, zq4, zq5, zq6])
              refine wpAnyG_done (by kernel_rfl) (fun w9 hgD => ?_) _
              have hg9 : Gr wr w9 := (grDrew wr).tr hgD
              clear hgD hSG hHeld
              clear hmv p0 p1 q0 q1 hqE hz hz2
              have hg9 := Lib.hid hg9
              go_wp2
              go_roundg g9
              case rel => exact ⟨k + 1, by omega, rfl, by go_num, Lib.hid (Gr.tr hW.out hg9.out)⟩
              case measure => omega
            · go_wp2
              go_ret
              exact ⟨rfl, Gr.tr HG.out (Gr.tr hgw.out (Gr.tr hg8.out hW.out))⟩
end Go.Proofs.Ytbjhdfakocfapaa
