/- MaxminScale: the law as a contract. -/
import Derived.Test.YtbjhdfakocfapaaMuB
import Derived.Test.YtbjhdfakocfapaaMuG
namespace Go.Proofs.Ytbjhdfakocfapaa
open Go.RowKit
set_option linter.unusedVariables false
set_option linter.unusedSimpArgs false
theorem mulL_take (l : List Int) (t : Int) {k : Nat} (h : k < l.length) : mulL (l.take (k + 1)) t = mulL (l.take k) t ++ [num l k * t] := by
  unfold mulL num
  rw [List.take_add_one, List.getElem?_eq_getElem h, List.map_append]
  rfl
theorem mul_rg {x y : Int} (hx : -1000000000 ≤ x ∧ x ≤ 1000000000) (hy : 1 ≤ y ∧ y ≤ 1000) : -1000000000000 ≤ x * y ∧ x * y ≤ 1000000000000 := by
  have h1 : x * y ≤ 1000000000 * y := Int.mul_le_mul_of_nonneg_right hx.2 (by omega)
  have h2 : -1000000000 * y ≤ x * y := Int.mul_le_mul_of_nonneg_right hx.1 (by omega)
  omega
theorem mul_rg2 {x y : Int} (hx : -1000000000 ≤ x ∧ x ≤ 1000000000) (hy : 1 ≤ y ∧ y ≤ 1000) : -1000000000000 ≤ y * x ∧ y * x ≤ 1000000000000 := by
  rw [Int.mul_comm]; exact mul_rg hx hy
set_option maxHeartbeats 8000000 in
set_option maxRecDepth 100000 in
theorem scale_any (n : Net) (a : NetA) (t : Int) (w : World) (hn : NetR w n a) (hs : n.c.length ≤ maxLen ∧ n.f.length ≤ maxLen ∧ n.l.length ≤ maxLen) (hrow : ∀ r ∈ n.f, r.length ≤ maxLen) :
    Calls Try.prog 7 #[nv n a, .int .i64 t] w (VV (.bool true) w) := by
  have hml : maxLen = 9223372036854775807 := rfl
  obtain ⟨W1, hW1⟩ : ∃ W1, W1 = w.alloc (netB n a) := ⟨_, rfl⟩
  have G1 : Gr w W1 := by rw [hW1]; exact grAlloc _ _
  have A1 : W1.heap[w.heap.size]? = some (netB n a) := by rw [hW1]; exact newBlk _ _ _ rfl
  obtain ⟨a0, a1, a2⟩ := cells3 A1
  have HFe := Lib.hid (fun wx (hg : Gr W1 wx) => RFew_any n a wx (hn.gr (Gr.tr G1 hg)))
  have HVa := Lib.hid (fun wx (hg : Gr W1 wx) => RValid13_any n a wx (hn.gr (Gr.tr G1 hg)) hrow)
  have HSh := Lib.hid (fun wx (hg : Gr W1 wx) => Share_any n a wx (hn.gr (Gr.tr G1 hg)) hs)
  have HN := Lib.hid (fun wx (hg : Gr W1 wx) => hn.gr (Gr.tr G1 hg))
  have HB := Lib.hid (fun wx (hg : Gr W1 wx) => cells3 (grBlk hg A1))
  have HRo := Lib.hid hrow
  have HW1 := Lib.hid (show w.heap.size + 1 ≤ W1.heap.size from by rw [hW1]; simp)
  have HG := Lib.hid G1
  clear A1 hn hs G1
  rcases hf : fewB n with _ | _
  · rw [hf] at HFe
    clear hf
    go_enter Try.func7, Try.ntmps7
    go_upto_region 1 with fail
    rw [← hW1]
    clear hW1
    go_wp2_with (first
      | (go_at_call 10; refine (head_any _).mono ?_; rintro e w2 ⟨rfl, hg2⟩; have a0 := grCell hg2 a0; have a1 := grCell hg2 a1; have a2 := grCell hg2 a2; have hg2 := Lib.hid hg2)
      | (go_at_call 11; refine (HFe.out _ hg2.out).mono ?_; rintro e w3 ⟨rfl, hg3⟩; have a0 := grCell hg3 a0; have a1 := grCell hg3 a1; have a2 := grCell hg3 a2; have hg3 := Lib.hid (Gr.tr hg2.out hg3)))
    go_ret
    exact ⟨rfl, Gr.tr HG.out hg3.out⟩
  rw [hf] at HFe
  rcases hv : validB n with _ | _
  · rw [hv] at HVa
    clear hv
    go_enter Try.func7, Try.ntmps7
    go_upto_region 1 with fail
    rw [← hW1]
    clear hW1
    go_wp2_with (first
      | (go_at_call 10; refine (head_any _).mono ?_; rintro e w2 ⟨rfl, hg2⟩; have a0 := grCell hg2 a0; have a1 := grCell hg2 a1; have a2 := grCell hg2 a2; have hg2 := Lib.hid hg2)
      | (go_at_call 11; refine (HFe.out _ hg2.out).mono ?_; rintro e w3 ⟨rfl, hg3⟩; have a0 := grCell hg3 a0; have a1 := grCell hg3 a1; have a2 := grCell hg3 a2; have hg3 := Lib.hid (Gr.tr hg2.out hg3))
      | (go_at_call 18; refine (HVa.out _ hg3.out).mono ?_; rintro e w4 ⟨rfl, hg4⟩; have a0 := grCell hg4 a0; have a1 := grCell hg4 a1; have a2 := grCell hg4 a2; have hg4 := Lib.hid (Gr.tr hg3.out hg4)))
    go_ret
    exact ⟨rfl, Gr.tr HG.out hg4.out⟩
  rw [hv] at HVa
  by_cases h1 : t < 1
  · clear hv hf
    go_enter Try.func7, Try.ntmps7
    go_upto_region 1 with fail
    rw [← hW1]
    clear hW1
    go_wp2_with (first
      | (go_at_call 10; refine (head_any _).mono ?_; rintro e w2 ⟨rfl, hg2⟩; have a0 := grCell hg2 a0; have a1 := grCell hg2 a1; have a2 := grCell hg2 a2; have hg2 := Lib.hid hg2)
      | (go_at_call 11; refine (HFe.out _ hg2.out).mono ?_; rintro e w3 ⟨rfl, hg3⟩; have a0 := grCell hg3 a0; have a1 := grCell hg3 a1; have a2 := grCell hg3 a2; have hg3 := Lib.hid (Gr.tr hg2.out hg3))
      | (go_at_call 18; refine (HVa.out _ hg3.out).mono ?_; rintro e w4 ⟨rfl, hg4⟩; have a0 := grCell hg4 a0; have a1 := grCell hg4 a1; have a2 := grCell hg4 a2; have hg4 := Lib.hid (Gr.tr hg3.out hg4)))
    go_ret
    exact ⟨rfl, Gr.tr HG.out hg4.out⟩
  by_cases h2 : 1000 < t
  · clear hv hf
    go_enter Try.func7, Try.ntmps7
    go_upto_region 1 with fail
    rw [← hW1]
    clear hW1
    go_wp2_with (first
      | (go_at_call 10; refine (head_any _).mono ?_; rintro e w2 ⟨rfl, hg2⟩; have a0 := grCell hg2 a0; have a1 := grCell hg2 a1; have a2 := grCell hg2 a2; have hg2 := Lib.hid hg2)
      | (go_at_call 11; refine (HFe.out _ hg2.out).mono ?_; rintro e w3 ⟨rfl, hg3⟩; have a0 := grCell hg3 a0; have a1 := grCell hg3 a1; have a2 := grCell hg3 a2; have hg3 := Lib.hid (Gr.tr hg2.out hg3))
      | (go_at_call 18; refine (HVa.out _ hg3.out).mono ?_; rintro e w4 ⟨rfl, hg4⟩; have a0 := grCell hg4 a0; have a1 := grCell hg4 a1; have a2 := grCell hg4 a2; have hg4 := Lib.hid (Gr.tr hg3.out hg4)))
    go_ret
    exact ⟨rfl, Gr.tr HG.out hg4.out⟩
  obtain ⟨k1, k2, k3, k4, k5, k6⟩ := valid_parts hv
  have hS : Hid (∀ W e w', ShareP n W e w' → Gr W w' ∧ ∃ YA, QsR w' (shareM n) YA ∧ e = .returned (.tuple #[.slice YA (shareM n).length (shareM n).length, .int .i64 0])) := Lib.hid (fun W e w' h => share_ok hv h)
  have HV := Lib.hid hv
  have K := Lib.hid (And.intro k1 (And.intro k2 k3))
  have K5 := Lib.hid (fun j => capsB_num k5 j)
  have K6 := Lib.hid (fun j => capsB_num k6 j)
  have HT := Lib.hid (show 1 ≤ t ∧ t ≤ 1000 from by omega)
  obtain ⟨i0, hi, hz0, hz1, hz2⟩ := info_parts intInfo
  have HI := Lib.hid hi
  clear k1 k2 k3 k4 k5 k6 hv hf hrow
  go_enter Try.func7, Try.ntmps7
  go_upto_region 1 with fail
  rw [← hW1]
  clear hW1
  go_upto_region 7 with (first
    | (go_at_call 10; refine (head_any _).mono ?_; rintro e w2 ⟨rfl, hg2⟩; have a0 := grCell hg2 a0; have a1 := grCell hg2 a1; have a2 := grCell hg2 a2; have hg2 := Lib.hid hg2)
    | (go_at_call 11; refine (HFe.out _ hg2.out).mono ?_; rintro e w3 ⟨rfl, hg3⟩; have a0 := grCell hg3 a0; have a1 := grCell hg3 a1; have a2 := grCell hg3 a2; have hg3 := Lib.hid (Gr.tr hg2.out hg3))
    | (go_at_call 18; refine (HVa.out _ hg3.out).mono ?_; rintro e w4 ⟨rfl, hg4⟩; have a0 := grCell hg4 a0; have a1 := grCell hg4 a1; have a2 := grCell hg4 a2; have hg4 := Lib.hid (Gr.tr hg3.out hg4)))
  obtain ⟨W5, hW5⟩ : ∃ W5, (w4.alloc (.cells #[.slice none 0 0, .slice a.fa n.f.length a.fm, .slice none 0 0] 25 (0, 0))) = W5 := ⟨_, rfl⟩
  have G5 : Gr w4 W5 := by rw [← hW5]; exact grAlloc _ _
  have B5 : W5.heap[w4.heap.size]? = some (.cells #[.slice none 0 0, .slice a.fa n.f.length a.fm, .slice none 0 0] 25 (0, 0)) := by rw [← hW5]; exact newBlk _ _ _ rfl
  have HNB := Lib.hid (show NB W1 w4.heap.size (.slice a.fa n.f.length a.fm) (.slice none 0 0) (.slice none 0 0) [] [] W5 from
    ⟨hg4.out.tr G5, hg4.out.size, B5, ⟨rfl, .inl ⟨rfl, rfl⟩⟩, ⟨rfl, .inl ⟨rfl, rfl⟩⟩, fun k hk => by simp [Value.ownBlock] at hk⟩)
  obtain ⟨BM, hBM⟩ : ∃ BM, w4.heap.size = BM := ⟨_, rfl⟩
  rw [hW5, hBM]
  rw [hBM] at HNB
  clear hW5 hBM G5 B5 a0 a1 a2 hg2 hg3 hg4 HFe HVa
  obtain ⟨vf, hvf⟩ : ∃ vf, Value.slice a.fa n.f.length a.fm = vf := ⟨_, rfl⟩
  have HVF := Lib.hid hvf
  rw [hvf] at HNB
  clear hvf
  go_wp2
  go_loopg [9] (n.c.length) (fun gk s wr => ∃ (k : Nat) (va : Value) (ca : List Int), k + gk = n.c.length ∧ s = .int .i64 k ∧ Hid (ca = mulL (n.c.take k) t) ∧ Hid (NB W1 BM vf va (.slice none 0 0) ca [] wr))
  case atStart => exact ⟨0, _, [], by omega, rfl, Lib.hid rfl, HNB⟩
  case round =>
    obtain ⟨k, va, ca, hk, rfl, hcs, hNA⟩ := hrel
    clear HNB
    have hgr := hNA.out.gr
    obtain ⟨a0, a1, a2⟩ := HB.out _ hgr
    by_cases hlt : k < n.c.length
    · obtain ⟨g9, rfl⟩ : ∃ g, gk = g + 1 := ⟨gk - 1, by omega⟩
      obtain ⟨g, o, hA, hcl⟩ := (HN.out _ hgr).1.addr (by omega)
      have p0 := hcl k (num n.c k) (by simp [num, hlt])
      have hq : IntKind.i64.wrap ((k : Int) + 1) = (k : Int) + 1 := IntWalk.i64_in _ (by have := K.out; omega)
      have hcl8 : Hid (ca.length ≤ 8 ∧ ca.length = k) := Lib.hid (by rw [hcs.out]; have := K.out; simp [mulL]; omega)
      have hnx := Lib.hid (show mulL (n.c.take (k + 1)) t = ca ++ [num n.c k * t] from by rw [hcs.out]; exact mulL_take _ _ hlt)
      have e1 : IntKind.i64.wrap (num n.c k * t) = num n.c k * t := by
        have h5 := K5.out k
        have h6 := HT.out
        have h7 : num n.c k * t ≤ 1000 * t := Int.mul_le_mul_of_nonneg_right h5.2 (by omega)
        have h8 : 0 ≤ num n.c k * t := Int.mul_nonneg h5.1 (by omega)
        exact IntWalk.i64_in _ (by omega)
      obtain ⟨x, hx⟩ : ∃ x, num n.c k * t = x := ⟨_, rfl⟩
      rw [hx] at hnx
      have E1 := Lib.hid (show IntKind.i64.wrap (num n.c k * t) = x from by rw [e1, hx])
      have hBl := Lib.hid (blkLt hNA.out.blk)
      have hBl2 := hBl.out
      obtain ⟨c0, c1, c2⟩ := cells3 hNA.out.blk
      have zf := frz hNA.out.blk 0
      have hi := HI.out
      rw [hA] at a0
      have p0 : wr.drew.cell? ⟨g, o + k, none⟩ = some (.int .i64 (num n.c k)) := p0
      have a0 : wr.drew.cell? ⟨w.heap.size, 0, none⟩ = some (.slice (some ⟨g, o, none⟩) n.c.length a.cm) := a0
      have c0 : wr.drew.cell? ⟨BM, 0, none⟩ = some va := c0
      clear hcl hx e1 hA
      go_upto_region 10 with fail
      go_region_law (first
        | (refine step_append_lies _ (by rfl) _ _ _ (by rfl) (BM + 1) 3 i0 _ 1 8 Try.underlying22 hi hz0 hz1 hz2 rfl (by decide) va ca.length (iC ca) (by rfl) (owns_gr hNA.out.o0 ((grDrew _).tr (grAlloc _ _))) _ 1 1 [.int .i64 (IntKind.i64.wrap (num n.c k * t))] (by rfl) (by rfl) (newOneD wr (.int .i64 (IntKind.i64.wrap (num n.c k * t))) _ _ rfl) (one_int _) (by decide) (by have := hcl8.out; unfold maxLen; omega) (by have := hcl8.out; omega) (by have := hBl.out; simp; omega) _ rfl ?_; intro g2 cap w2 hown2 hgrow hat hlt2; rw [E1.out] at hown2; have hP := Lib.hid (NB.step0 (x := x) (hNA.out.up ((grDrew _).tr (grAlloc _ _))) hgrow hown2 hat); have hB2 : w2.heap[BM]? = some (.cells #[va, vf, .slice none 0 0] 25 (0, 0)) := (hgrow.block BM (by have := hBl.out; simp; omega) (fun e => by have := (World.ownsRow.lt hNA.out.o0 BM e.symm).1; omega)).trans (grBlk ((grDrew _).tr (grAlloc _ _)) hNA.out.blk); have c0 : w2.cell? ⟨BM, 0, none⟩ = some va := (cells3 hB2).1; have z2 := frz hB2 0; clear hB2 hown2 hgrow hat))
      all_goals
        (go_wp2
         go_roundg g9
         case rel => exact ⟨k + 1, _, ca ++ [x], by omega, by go_num, Lib.hid hnx.out.symm, hP⟩
         case measure => omega)
    · have hckca := Lib.hid (show ca = mulL n.c t from by rw [hcs.out, List.take_of_length_le (by omega)])
      clear hcs hk
      go_wp2
      clear hgr a0 a1 a2
      go_loopg [10] (n.l.length) (fun gk s wr => ∃ (k : Nat) (vb : Value) (cb : List Int), k + gk = n.l.length ∧ s = .int .i64 k ∧ Hid (cb = mulL (n.l.take k) t) ∧ Hid (NB W1 BM vf va vb ca cb wr))
      case atStart => exact ⟨0, _, [], by omega, rfl, Lib.hid rfl, hNA⟩
      case round =>
        obtain ⟨k, vb, cb, hk, rfl, hcs, hNB⟩ := hrel
        clear hNA
        have hgr := hNB.out.gr
        obtain ⟨a0, a1, a2⟩ := HB.out _ hgr
        by_cases hlt : k < n.l.length
        · obtain ⟨g9, rfl⟩ : ∃ g, gk = g + 1 := ⟨gk - 1, by omega⟩
          obtain ⟨g, o, hA, hcl⟩ := (HN.out _ hgr).2.2.addr (by omega)
          have p0 := hcl k (num n.l k) (by simp [num, hlt])
          have hq : IntKind.i64.wrap ((k : Int) + 1) = (k : Int) + 1 := IntWalk.i64_in _ (by have := K.out; omega)
          have hcl8 : Hid (cb.length ≤ 8 ∧ cb.length = k) := Lib.hid (by rw [hcs.out]; have := K.out; simp [mulL]; omega)
          have hnx := Lib.hid (show mulL (n.l.take (k + 1)) t = cb ++ [num n.l k * t] from by rw [hcs.out]; exact mulL_take _ _ hlt)
          have e1 : IntKind.i64.wrap (num n.l k * t) = num n.l k * t := by
            have h5 := K6.out k
            have h6 := HT.out
            have h7 : num n.l k * t ≤ 1000 * t := Int.mul_le_mul_of_nonneg_right h5.2 (by omega)
            have h8 : 0 ≤ num n.l k * t := Int.mul_nonneg h5.1 (by omega)
            exact IntWalk.i64_in _ (by omega)
          obtain ⟨x, hx⟩ : ∃ x, num n.l k * t = x := ⟨_, rfl⟩
          rw [hx] at hnx
          have E1 := Lib.hid (show IntKind.i64.wrap (num n.l k * t) = x from by rw [e1, hx])
          have hBl := Lib.hid (blkLt hNB.out.blk)
          have hBl2 := hBl.out
          obtain ⟨c0, c1, c2⟩ := cells3 hNB.out.blk
          have zf := frz hNB.out.blk 2
          have hi := HI.out
          rw [hA] at a2
          have p0 : wr.drew.cell? ⟨g, o + k, none⟩ = some (.int .i64 (num n.l k)) := p0
          have a2 : wr.drew.cell? ⟨w.heap.size, 2, none⟩ = some (.slice (some ⟨g, o, none⟩) n.l.length a.lm) := a2
          have c2 : wr.drew.cell? ⟨BM, 2, none⟩ = some vb := c2
          clear hcl hx e1 hA
          go_upto_region 14 with fail
          go_region_law (first
            | (refine step_append_lies _ (by rfl) _ _ _ (by rfl) (BM + 1) 3 i0 _ 1 8 Try.underlying22 hi hz0 hz1 hz2 rfl (by decide) vb cb.length (iC cb) (by rfl) (owns_gr hNB.out.o2 ((grDrew _).tr (grAlloc _ _))) _ 1 1 [.int .i64 (IntKind.i64.wrap (num n.l k * t))] (by rfl) (by rfl) (newOneD wr (.int .i64 (IntKind.i64.wrap (num n.l k * t))) _ _ rfl) (one_int _) (by decide) (by have := hcl8.out; unfold maxLen; omega) (by have := hcl8.out; omega) (by have := hBl.out; simp; omega) _ rfl ?_; intro g2 cap w2 hown2 hgrow hat hlt2; rw [E1.out] at hown2; have hP := Lib.hid (NB.step2 (x := x) (hNB.out.up ((grDrew _).tr (grAlloc _ _))) hgrow hown2 hat); have hB2 : w2.heap[BM]? = some (.cells #[va, vf, vb] 25 (0, 0)) := (hgrow.block BM (by have := hBl.out; simp; omega) (fun e => by have := (World.ownsRow.lt hNB.out.o2 BM e.symm).1; omega)).trans (grBlk ((grDrew _).tr (grAlloc _ _)) hNB.out.blk); have c2 : w2.cell? ⟨BM, 2, none⟩ = some vb := (cells3 hB2).2.2; have z2 := frz hB2 2; clear hB2 hown2 hgrow hat))
          all_goals
            (go_wp2
             go_roundg g9
             case rel => exact ⟨k + 1, _, cb ++ [x], by omega, by go_num, Lib.hid hnx.out.symm, hP⟩
             case measure => omega)
        · have hckcb := Lib.hid (show cb = mulL n.l t from by rw [hcs.out, List.take_of_length_le (by omega)])
          clear hcs hk
          obtain ⟨A0, m0, e0, hI0⟩ := own_ints hNB.out.o0 rfl
          obtain ⟨A2, m2, e2, hI2⟩ := own_ints hNB.out.o2 rfl
          obtain ⟨c0, c1, c2⟩ := cells3 hNB.out.blk
          rw [e0] at c0
          rw [e2] at c2
          rw [← HVF.out] at c1
          have hbl := blkLt hNB.out.blk
          have hMq := Lib.hid (show scaled n t = ⟨ca, n.f, cb⟩ from by unfold scaled; rw [hckca.out, hckcb.out])
          have hL8 := Lib.hid (show ca.length ≤ 8 ∧ cb.length ≤ 8 from by rw [hckca.out, hckcb.out]; have := K.out; simp [mulL]; omega)
          have hMR := Lib.hid (fun wx (hg : Gr wr wx) => (show NetR wx ⟨ca, n.f, cb⟩ ⟨A0, m0, a.fa, a.fm, A2, m2⟩ from ⟨hI0.gr hg, (HN.out _ (Gr.tr hgr hg)).2.1, hI2.gr hg⟩))
          have HVm := Lib.hid (fun wx (hg : Gr wr wx) => RValid13_any ⟨ca, n.f, cb⟩ ⟨A0, m0, a.fa, a.fm, A2, m2⟩ wx (hMR.out wx hg) HRo.out)
          have HSm := Lib.hid (fun wx (hg : Gr wr wx) => Share_any ⟨ca, n.f, cb⟩ ⟨A0, m0, a.fa, a.fm, A2, m2⟩ wx (hMR.out wx hg) (by have h1 := hL8.out; have h2 := K.out; exact ⟨by simp only; omega, by simp only; omega, by simp only; omega⟩))
          have hgw := Lib.hid hgr
          have hbH := Lib.hid hbl
          clear e0 e2 hI0 hI2 hgr hMR hckca hckcb HN HVF hNB
          rcases hvm : validB ⟨ca, n.f, cb⟩ with _ | _
          · rw [hvm] at HVm
            clear hvm HSm
            go_wp2_with (go_at_call 18; refine (HVm.out _ (Below.refl _ _)).mono ?_; rintro e w6 ⟨rfl, hg6⟩; have hg6 := Lib.hid hg6)
            go_ret
            exact ⟨rfl, Gr.tr HG.out (Gr.tr hgw.out hg6.out)⟩
          · rw [hvm] at HVm
            have hS2 : Hid (∀ W e w', ShareP ⟨ca, n.f, cb⟩ W e w' → Gr W w' ∧ ∃ YA, QsR w' (shareM ⟨ca, n.f, cb⟩) YA ∧ e = .returned (.tuple #[.slice YA (shareM ⟨ca, n.f, cb⟩).length (shareM ⟨ca, n.f, cb⟩).length, .int .i64 0])) := Lib.hid (fun W e w' h => share_ok hvm h)
            have hlx := (share_fair HV.out).2.1
            have hly := (share_fair hvm).2.1
            have tl : (((shareM n).length : Int) != ((shareM ⟨ca, n.f, cb⟩).length : Int)) = false := by simp; rw [hlx, hly]
            have hXY : Hid (∀ k, k < n.f.length → (rat (shareM ⟨ca, n.f, cb⟩) k).n * (rat (shareM n) k).d = t * (rat (shareM n) k).n * (rat (shareM ⟨ca, n.f, cb⟩) k).d) := Lib.hid (fun k hk => by
              have hv2 : validB (scaled n t) = true := by rw [hMq.out]; exact hvm
              have h := scale_val HV.out hv2 HT.out.1 hk
              rw [hMq.out] at h
              exact h)
            have hQx : Hid (∀ k, k < n.f.length → qB (rat (shareM n) k) = true ∧ 1 ≤ (rat (shareM n) k).d ∧ (rat (shareM n) k).d ≤ 18) := Lib.hid (fun k hk => ⟨(share_fair HV.out).2.2.1 k hk, share_den HV.out _ (rat_mem (by omega))⟩)
            have hQy : Hid (∀ k, k < n.f.length → qB (rat (shareM ⟨ca, n.f, cb⟩) k) = true ∧ 1 ≤ (rat (shareM ⟨ca, n.f, cb⟩) k).d ∧ (rat (shareM ⟨ca, n.f, cb⟩) k).d ≤ 18) := Lib.hid (fun k hk => ⟨(share_fair hvm).2.2.1 k hk, share_den hvm _ (rat_mem (by have h : (shareM ⟨ca, n.f, cb⟩).length = n.f.length := hly; omega))⟩)
            have hly2 : (shareM ⟨ca, n.f, cb⟩).length = n.f.length := hly
            have HL := Lib.hid (show (shareM n).length = n.f.length ∧ (shareM ⟨ca, n.f, cb⟩).length = n.f.length ∧ n.f.length ≤ 8 from ⟨hlx, hly2, K.out.2.1⟩)
            have HSh2 := Lib.hid (fun wx (hg : Gr wr wx) => HSh.out wx (Gr.tr hgw.out hg))
            clear hvm hlx hly hly2 HSh HV hMq K5 K6 HI hL8
            generalize shareM ⟨ca, n.f, cb⟩ = ys at *
            generalize shareM n = xs at *
            go_wp2_with (first
              | (go_at_call 18; refine (HVm.out _ (Below.refl _ _)).mono ?_; rintro e w6 ⟨rfl, hg6⟩; have a0 := grCell hg6 a0; have a1 := grCell hg6 a1; have a2 := grCell hg6 a2; have c0 := grCell hg6 c0; have c1 := grCell hg6 c1; have c2 := grCell hg6 c2; have hg6 := Lib.hid hg6)
              | (go_at_call 12; have gg := hQ1; refine (HSm.out _ hg7.out).mono ?_; intro e w8 hP; obtain ⟨hg8, YB, hQ2, rfl⟩ := hS2.out _ _ _ hP; clear hP; have hQ2 := Lib.hid hQ2; have hQ1 := Lib.hid (hQ1.out.gr hg8); have hg8 := Lib.hid (Gr.tr hg7.out hg8))
              | (go_at_call 12; refine (HSh2.out _ hg6.out).mono ?_; intro e w7 hP; obtain ⟨hg7, YA, hQ1, rfl⟩ := hS.out _ _ _ hP; clear hP; have hQ1 := Lib.hid hQ1; have c0 := grCell hg7 c0; have c1 := grCell hg7 c1; have c2 := grCell hg7 c2; have hg7 := Lib.hid (Gr.tr hg6.out hg7)))
            clear a0 a1 a2 c0 c1 c2 hS hS2 hg6 hg7 HSm HSh2 HVm
            go_loopg [5, 16] (xs.length) (fun gk u s wy => ∃ k : Nat, k + gk = xs.length ∧ u = .bool true ∧ s = .int .i64 k ∧ Hid (Gr w8 wy))
            case atStart => exact ⟨0, by omega, rfl, rfl, Lib.hid (Below.refl _ _)⟩
            case round =>
              obtain ⟨k, hk, rfl, rfl, hW⟩ := hrel
              have hle : xs.length ≤ 8 := by have := HL.out; omega
              by_cases hlt3 : k < xs.length
              · obtain ⟨g9, rfl⟩ : ∃ g, gk = g + 1 := ⟨gk - 1, by omega⟩
                have hky : k < ys.length := by have := HL.out; omega
                have hkf : k < n.f.length := by have := HL.out; omega
                obtain ⟨g, o, rfl, hcs1⟩ := (hQ1.out.gr hW.out).addr (by omega)
                obtain ⟨p0, p1⟩ := hcs1 k _ (rat_get hlt3)
                obtain ⟨g2, o2, rfl, hcs2⟩ := (hQ2.out.gr hW.out).addr (by omega)
                obtain ⟨q0, q1⟩ := hcs2 k _ (rat_get hky)
                have hq : IntKind.i64.wrap ((k : Int) + 1) = (k : Int) + 1 := IntWalk.i64_in _ (by omega)
                have hxy := hXY.out k hkf
                obtain ⟨x1, x2, x3⟩ := hQx.out k hkf
                obtain ⟨y1, y2, y3⟩ := hQy.out k hkf
                have ht := HT.out
                obtain ⟨x, hx⟩ : ∃ x, rat xs k = x := ⟨_, rfl⟩
                obtain ⟨y, hy⟩ : ∃ y, rat ys k = y := ⟨_, rfl⟩
                rw [hx] at p0 p1 hxy x1 x2 x3
                rw [hy] at q0 q1 hxy y1 y2 y3
                have bx := (qB_iff.1 x1).1
                have by_ := (qB_iff.1 y1).1
                have r1 := mul_rg (x := y.n) (y := x.d) by_.2.2 (show 1 ≤ x.d ∧ x.d ≤ 1000 by omega)
                have r2 := mul_rg2 (x := x.n) (y := t) bx.2.2 (show 1 ≤ t ∧ t ≤ 1000 by omega)
                have f1 : IntKind.i64.wrap (y.n * x.d) = y.n * x.d := IntWalk.i64_in _ (by omega)
                have f2 : IntKind.i64.wrap (t * x.n) = t * x.n := IntWalk.i64_in _ (by omega)
                have f3 : IntKind.i64.wrap (t * x.n * y.d) = y.n * x.d := by rw [← hxy]; exact f1
                obtain ⟨z1, hz1⟩ : ∃ z, y.n * x.d = z := ⟨_, rfl⟩
                obtain ⟨z2, hz2⟩ : ∃ z, t * x.n = z := ⟨_, rfl⟩
                have F1 : IntKind.i64.wrap (y.n * x.d) = z1 := by rw [f1, hz1]
                have F2 : IntKind.i64.wrap (t * x.n) = z2 := by rw [f2, hz2]
                have F3 : IntKind.i64.wrap (z2 * y.d) = z1 := by rw [← hz2, f3, hz1]
                clear hcs1 hcs2 hxy x1 x2 x3 y1 y2 y3 bx by_ r1 r2 f1 f2 f3 hz1 hz2 hx hy ht
                go_upto_region 25 with fail
                refine wp_region_G (S := fun wq => Gr wr wq) (by kernel_rfl) (grDrew _) (fun hHeld => ?_)
                have hSG : Hid (∀ wp wq : World, Gr wr wp → Gr wp wq → Gr wr wq) := Lib.hid (fun _ _ h k => h.tr k)
                have hmv := Lib.hid (fun (wq : World) (hq : Gr wr wq) => And.intro (grCell hq p0) (And.intro (grCell hq p1) (And.intro (grCell hq q0) (grCell hq q1))))
                first
                 | (refine tk hSG 0 (v := ?_) rfl (by kernel_rfl) (fun _ _ _ h => h) (by rfl) ?_ hHeld ?_; rotate_left; focus (intro w' hSw; obtain ⟨p0, p1, q0, q1⟩ := hmv.out _ hSw; go_simp; (try with_reducible rfl)))
                 | refine tn hSG 0 rfl (by kernel_rfl) (fun _ _ _ h => h) (by rfl) hHeld ?_
                (try simp only [zq1, zq2, zq3, Act.put, zq4, zq5, zq6])
                first
                 | (refine tk hSG 1 (v := ?_) rfl (by kernel_rfl) (fun _ _ _ h => h) (by rfl) ?_ hHeld ?_; rotate_left; focus (intro w' hSw; obtain ⟨p0, p1, q0, q1⟩ := hmv.out _ hSw; go_simp; (try with_reducible rfl)))
                 | refine tn hSG 1 rfl (by kernel_rfl) (fun _ _ _ h => h) (by rfl) hHeld ?_
                (try simp only [zq1, zq2, zq3, Act.put, zq4, zq5, zq6])
                first
                 | (refine tk hSG 2 (v := ?_) rfl (by kernel_rfl) (fun _ _ _ h => h) (by rfl) ?_ hHeld ?_; rotate_left; focus (intro w' hSw; obtain ⟨p0, p1, q0, q1⟩ := hmv.out _ hSw; go_simp; (try with_reducible rfl)))
                 | refine tn hSG 2 rfl (by kernel_rfl) (fun _ _ _ h => h) (by rfl) hHeld ?_
                (try simp only [zq1, zq2, zq3, Act.put, zq4, zq5, zq6])
                first
                 | (refine tk hSG 3 (v := ?_) rfl (by kernel_rfl) (fun _ _ _ h => h) (by rfl) ?_ hHeld ?_; rotate_left; focus (intro w' hSw; obtain ⟨p0, p1, q0, q1⟩ := hmv.out _ hSw; go_simp; (try with_reducible rfl)))
                 | refine tn hSG 3 rfl (by kernel_rfl) (fun _ _ _ h => h) (by rfl) hHeld ?_
                (try simp only [zq1, zq2, zq3, Act.put, zq4, zq5, zq6])
                first
                 | (refine tk hSG 4 (v := ?_) rfl (by kernel_rfl) (fun _ _ _ h => h) (by rfl) ?_ hHeld ?_; rotate_left; focus (intro w' hSw; obtain ⟨p0, p1, q0, q1⟩ := hmv.out _ hSw; go_simp; (try with_reducible rfl)))
                 | refine tn hSG 4 rfl (by kernel_rfl) (fun _ _ _ h => h) (by rfl) hHeld ?_
                (try simp only [zq1, zq2, zq3, Act.put, zq4, zq5, zq6])
                first
                 | (refine tk hSG 5 (v := ?_) rfl (by kernel_rfl) (fun _ _ _ h => h) (by rfl) ?_ hHeld ?_; rotate_left; focus (intro w' hSw; obtain ⟨p0, p1, q0, q1⟩ := hmv.out _ hSw; go_simp; (try with_reducible rfl)))
                 | refine tn hSG 5 rfl (by kernel_rfl) (fun _ _ _ h => h) (by rfl) hHeld ?_
                (try simp only [zq1, zq2, zq3, Act.put, zq4, zq5, zq6])
                first
                 | (refine tk hSG 6 (v := ?_) rfl (by kernel_rfl) (fun _ _ _ h => h) (by rfl) ?_ hHeld ?_; rotate_left; focus (intro w' hSw; obtain ⟨p0, p1, q0, q1⟩ := hmv.out _ hSw; go_simp; (try with_reducible rfl)))
                 | refine tn hSG 6 rfl (by kernel_rfl) (fun _ _ _ h => h) (by rfl) hHeld ?_
                (try simp only [zq1, zq2, zq3, Act.put, zq4, zq5, zq6])
                first
                 | (refine tk hSG 7 (v := ?_) rfl (by kernel_rfl) (fun _ _ _ h => h) (by rfl) ?_ hHeld ?_; rotate_left; focus (intro w' hSw; obtain ⟨p0, p1, q0, q1⟩ := hmv.out _ hSw; go_simp; (try with_reducible rfl)))
                 | refine tn hSG 7 rfl (by kernel_rfl) (fun _ _ _ h => h) (by rfl) hHeld ?_
                (try simp only [zq1, zq2, zq3, Act.put, zq4, zq5, zq6])
                first
                 | (refine tk hSG 8 (v := ?_) rfl (by kernel_rfl) (fun _ _ _ h => h) (by rfl) ?_ hHeld ?_; rotate_left; focus (intro w' hSw; obtain ⟨p0, p1, q0, q1⟩ := hmv.out _ hSw; go_simp; (try with_reducible rfl)))
                 | refine tn hSG 8 rfl (by kernel_rfl) (fun _ _ _ h => h) (by rfl) hHeld ?_
                (try simp only [zq1, zq2, zq3, Act.put, zq4, zq5, zq6])
                first
                 | (refine tk hSG 9 (v := ?_) rfl (by kernel_rfl) (fun _ _ _ h => h) (by rfl) ?_ hHeld ?_; rotate_left; focus (intro w' hSw; obtain ⟨p0, p1, q0, q1⟩ := hmv.out _ hSw; go_simp; (try with_reducible rfl)))
                 | refine tn hSG 9 rfl (by kernel_rfl) (fun _ _ _ h => h) (by rfl) hHeld ?_
                (try simp only [zq1, zq2, zq3, Act.put, zq4, zq5, zq6])
                first
                 | (refine tk hSG 10 (v := ?_) rfl (by kernel_rfl) (fun _ _ _ h => h) (by rfl) ?_ hHeld ?_; rotate_left; focus (intro w' hSw; obtain ⟨p0, p1, q0, q1⟩ := hmv.out _ hSw; go_simp; (try with_reducible rfl)))
                 | refine tn hSG 10 rfl (by kernel_rfl) (fun _ _ _ h => h) (by rfl) hHeld ?_
                (try simp only [zq1, zq2, zq3, Act.put, zq4, zq5, zq6])
                first
                 | (refine tk hSG 11 (v := ?_) rfl (by kernel_rfl) (fun _ _ _ h => h) (by rfl) ?_ hHeld ?_; rotate_left; focus (intro w' hSw; obtain ⟨p0, p1, q0, q1⟩ := hmv.out _ hSw; go_simp; (try with_reducible rfl)))
                 | refine tn hSG 11 rfl (by kernel_rfl) (fun _ _ _ h => h) (by rfl) hHeld ?_
                (try simp only [zq1, zq2, zq3, Act.put, zq4, zq5, zq6])
                first
                 | (refine tk hSG 12 (v := ?_) rfl (by kernel_rfl) (fun _ _ _ h => h) (by rfl) ?_ hHeld ?_; rotate_left; focus (intro w' hSw; obtain ⟨p0, p1, q0, q1⟩ := hmv.out _ hSw; go_simp; (try with_reducible rfl)))
                 | refine tn hSG 12 rfl (by kernel_rfl) (fun _ _ _ h => h) (by rfl) hHeld ?_
                (try simp only [zq1, zq2, zq3, Act.put, zq4, zq5, zq6])
                first
                 | (refine tk hSG 13 (v := ?_) rfl (by kernel_rfl) (fun _ _ _ h => h) (by rfl) ?_ hHeld ?_; rotate_left; focus (intro w' hSw; obtain ⟨p0, p1, q0, q1⟩ := hmv.out _ hSw; go_simp; (try with_reducible rfl)))
                 | refine tn hSG 13 rfl (by kernel_rfl) (fun _ _ _ h => h) (by rfl) hHeld ?_
                (try simp only [zq1, zq2, zq3, Act.put, zq4, zq5, zq6])
                first
                 | (refine tk hSG 14 (v := ?_) rfl (by kernel_rfl) (fun _ _ _ h => h) (by rfl) ?_ hHeld ?_; rotate_left; focus (intro w' hSw; obtain ⟨p0, p1, q0, q1⟩ := hmv.out _ hSw; go_simp; (try with_reducible rfl)))
                 | refine tn hSG 14 rfl (by kernel_rfl) (fun _ _ _ h => h) (by rfl) hHeld ?_
                (try simp only [zq1, zq2, zq3, Act.put, zq4, zq5, zq6])
                first
                 | (refine tk hSG 15 (v := ?_) rfl (by kernel_rfl) (fun _ _ _ h => h) (by rfl) ?_ hHeld ?_; rotate_left; focus (intro w' hSw; obtain ⟨p0, p1, q0, q1⟩ := hmv.out _ hSw; go_simp; (try with_reducible rfl)))
                 | refine tn hSG 15 rfl (by kernel_rfl) (fun _ _ _ h => h) (by rfl) hHeld ?_
                (try simp only [zq1, zq2, zq3, Act.put, zq4, zq5, zq6])
                first
                 | (refine tk hSG 16 (v := ?_) rfl (by kernel_rfl) (fun _ _ _ h => h) (by rfl) ?_ hHeld ?_; rotate_left; focus (intro w' hSw; obtain ⟨p0, p1, q0, q1⟩ := hmv.out _ hSw; go_simp; (try with_reducible rfl)))
                 | refine tn hSG 16 rfl (by kernel_rfl) (fun _ _ _ h => h) (by rfl) hHeld ?_
                (try simp only [zq1, zq2, zq3, Act.put, zq4, zq5, zq6])
                first
                 | (refine tk hSG 17 (v := ?_) rfl (by kernel_rfl) (fun _ _ _ h => h) (by rfl) ?_ hHeld ?_; rotate_left; focus (intro w' hSw; obtain ⟨p0, p1, q0, q1⟩ := hmv.out _ hSw; go_simp; (try with_reducible rfl)))
                 | refine tn hSG 17 rfl (by kernel_rfl) (fun _ _ _ h => h) (by rfl) hHeld ?_
                (try simp only [zq1, zq2, zq3, Act.put, zq4, zq5, zq6])
                first
                 | (refine tk hSG 18 (v := ?_) rfl (by kernel_rfl) (fun _ _ _ h => h) (by rfl) ?_ hHeld ?_; rotate_left; focus (intro w' hSw; obtain ⟨p0, p1, q0, q1⟩ := hmv.out _ hSw; go_simp; (try with_reducible rfl)))
                 | refine tn hSG 18 rfl (by kernel_rfl) (fun _ _ _ h => h) (by rfl) hHeld ?_
                (try simp only [zq1, zq2, zq3, Act.put, zq4, zq5, zq6])
                first
                 | (refine tk hSG 19 (v := ?_) rfl (by kernel_rfl) (fun _ _ _ h => h) (by rfl) ?_ hHeld ?_; rotate_left; focus (intro w' hSw; obtain ⟨p0, p1, q0, q1⟩ := hmv.out _ hSw; go_simp; (try with_reducible rfl)))
                 | refine tn hSG 19 rfl (by kernel_rfl) (fun _ _ _ h => h) (by rfl) hHeld ?_
                (try simp only [zq1, zq2, zq3, Act.put, zq4, zq5, zq6])
                first
                 | (refine tk hSG 20 (v := ?_) rfl (by kernel_rfl) (fun _ _ _ h => h) (by rfl) ?_ hHeld ?_; rotate_left; focus (intro w' hSw; obtain ⟨p0, p1, q0, q1⟩ := hmv.out _ hSw; go_simp; (try with_reducible rfl)))
                 | refine tn hSG 20 rfl (by kernel_rfl) (fun _ _ _ h => h) (by rfl) hHeld ?_
                (try simp only [zq1, zq2, zq3, Act.put, zq4, zq5, zq6])
                first
                 | (refine tk hSG 21 (v := ?_) rfl (by kernel_rfl) (fun _ _ _ h => h) (by rfl) ?_ hHeld ?_; rotate_left; focus (intro w' hSw; obtain ⟨p0, p1, q0, q1⟩ := hmv.out _ hSw; go_simp; (try with_reducible rfl)))
                 | refine tn hSG 21 rfl (by kernel_rfl) (fun _ _ _ h => h) (by rfl) hHeld ?_
                (try simp only [zq1, zq2, zq3, Act.put, zq4, zq5, zq6])
                first
                 | (refine tk hSG 22 (v := ?_) rfl (by kernel_rfl) (fun _ _ _ h => h) (by rfl) ?_ hHeld ?_; rotate_left; focus (intro w' hSw; obtain ⟨p0, p1, q0, q1⟩ := hmv.out _ hSw; go_simp; (try with_reducible rfl)))
                 | refine tn hSG 22 rfl (by kernel_rfl) (fun _ _ _ h => h) (by rfl) hHeld ?_
                (try simp only [zq1, zq2, zq3, Act.put, zq4, zq5, zq6])
                first
                 | (refine tk hSG 23 (v := ?_) rfl (by kernel_rfl) (fun _ _ _ h => h) (by rfl) ?_ hHeld ?_; rotate_left; focus (intro w' hSw; obtain ⟨p0, p1, q0, q1⟩ := hmv.out _ hSw; go_simp; (try with_reducible rfl)))
                 | refine tn hSG 23 rfl (by kernel_rfl) (fun _ _ _ h => h) (by rfl) hHeld ?_
                (try simp only [zq1, zq2, zq3, Act.put, zq4, zq5, zq6])
                first
                 | (refine tk hSG 24 (v := ?_) rfl (by kernel_rfl) (fun _ _ _ h => h) (by rfl) ?_ hHeld ?_; rotate_left; focus (intro w' hSw; obtain ⟨p0, p1, q0, q1⟩ := hmv.out _ hSw; go_simp; (try with_reducible rfl)))
                 | refine tn hSG 24 rfl (by kernel_rfl) (fun _ _ _ h => h) (by rfl) hHeld ?_
                (try simp only [zq1, zq2, zq3, Act.put, zq4, zq5, zq6])
                first
                 | (refine tk hSG 25 (v := ?_) rfl (by kernel_rfl) (fun _ _ _ h => h) (by rfl) ?_ hHeld ?_; rotate_left; focus (intro w' hSw; obtain ⟨p0, p1, q0, q1⟩ := hmv.out _ hSw; go_simp; (try with_reducible rfl)))
                 | refine tn hSG 25 rfl (by kernel_rfl) (fun _ _ _ h => h) (by rfl) hHeld ?_
                (try simp only [zq1, zq2, zq3, Act.put, zq4, zq5, zq6])
                first
                 | (refine tk hSG 26 (v := ?_) rfl (by kernel_rfl) (fun _ _ _ h => h) (by rfl) ?_ hHeld ?_; rotate_left; focus (intro w' hSw; obtain ⟨p0, p1, q0, q1⟩ := hmv.out _ hSw; go_simp; (try with_reducible rfl)))
                 | refine tn hSG 26 rfl (by kernel_rfl) (fun _ _ _ h => h) (by rfl) hHeld ?_
                (try simp only [zq1, zq2, zq3, Act.put, zq4, zq5, zq6])
                first
                 | (refine tk hSG 27 (v := ?_) rfl (by kernel_rfl) (fun _ _ _ h => h) (by rfl) ?_ hHeld ?_; rotate_left; focus (intro w' hSw; obtain ⟨p0, p1, q0, q1⟩ := hmv.out _ hSw; go_simp; (try with_reducible rfl)))
                 | refine tn hSG 27 rfl (by kernel_rfl) (fun _ _ _ h => h) (by rfl) hHeld ?_
                (try simp only [zq1, zq2, zq3, Act.put, zq4, zq5, zq6])
                first
                 | (refine tk hSG 28 (v := ?_) rfl (by kernel_rfl) (fun _ _ _ h => h) (by rfl) ?_ hHeld ?_; rotate_left; focus (intro w' hSw; obtain ⟨p0, p1, q0, q1⟩ := hmv.out _ hSw; go_simp; (try with_reducible rfl)))
                 | refine tn hSG 28 rfl (by kernel_rfl) (fun _ _ _ h => h) (by rfl) hHeld ?_
                (try simp only [zq1, zq2, zq3, Act.put, zq4, zq5, zq6])
                refine wpAnyG_done (by kernel_rfl) (fun w9 hgD => ?_) _
                have hg9 : Gr wr w9 := (grDrew wr).tr hgD
                clear hgD hSG hHeld
                clear hmv p0 p1 q0 q1 F1 F2 F3
                have hg9 := Lib.hid hg9
                go_wp2
                go_roundg g9
                case rel => exact ⟨k + 1, by omega, rfl, by go_num, Lib.hid (Gr.tr hW.out hg9.out)⟩
                case measure => omega
              · go_wp2
                go_ret
                exact ⟨rfl, Gr.tr HG.out (Gr.tr hgw.out (Gr.tr hg8.out hW.out))⟩
end Go.Proofs.Ytbjhdfakocfapaa
