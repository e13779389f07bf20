/- The contract of package units' Infer; condition: the listed package-level variables hold what the text lays. -/
import Derived.Test.YtmofclpheioepaaDoorUxG
import Derived.Test.YtmofclpheioepaaDoorUxH
namespace Go.Proofs.YtmofclpheioepaaDoor
open Go.RowKit
set_option linter.unusedVariables false
set_option linter.unusedSimpArgs false

theorem scopeM_rg {us : List Int} {s : List Pw} (h : scopeM us = some s) : allRg s ∧ s.length ≤ 12 ∧ s = us.map kindP := by
  unfold scopeM at h
  split at h
  · rename_i hc
    simp only [Option.some.injEq] at h
    subst h
    exact ⟨kinds_rg us, by simpa using hc.1, rfl⟩
  · simp at h
theorem inferM_none {us : List Int} {t : Ex} (h : scopeM us = none) : inferM us t = (⟨0, 0, 0⟩, 1) := by unfold inferM; rw [h]
theorem inferM_long {us : List Int} {t : Ex} {s : List Pw} (h : scopeM us = some s) (hs : 60 < t.size) : inferM us t = (⟨0, 0, 0⟩, 2) := by unfold inferM; rw [h]; exact if_pos hs
theorem inferM_ok {us : List Int} {t : Ex} {s : List Pw} (h : scopeM us = some s) (hs : ¬ 60 < t.size) : inferM us t = resP (inf s t) := by
  unfold inferM
  rw [h]
  simp only [if_neg hs]
  cases inf s t <;> rfl
set_option maxHeartbeats 2000000 in
set_option maxRecDepth 100000 in
theorem Infer_any (vs : List Vr) (A B : Option Addr) (m c : Nat) (t : Ex) (w : World) (hL : LaidW w) (hV : VarsR w vs A) (hK : KidsE w t.kids B) :
    Calls Tryd.prog 11 #[.slice A vs.length m, ev t B c] w (VV (.tuple #[pv (inferM (vs.map (·.u)) t).1, .int .i64 (inferM (vs.map (·.u)) t).2]) w) := by
  have hb0 := ((Below.refl w.heap.size w).alloc (Nat.le_refl _) (.cells (eArr t B c) 29)).alloc (by simp) (.cells (pArr ⟨0, 0, 0⟩) 34)
  have HT0 : Hid (((w.alloc (.cells (eArr t B c) 29)).alloc (.cells (pArr ⟨0, 0, 0⟩) 34)).heap[w.heap.size]? = some (.cells (eArr t B c) 29 (0, 0))) :=
    Lib.hid ((Below.heap_alloc _ _ _ (by simp)).trans (newBlk _ _ _ rfl))
  have HR0 : Hid (((w.alloc (.cells (eArr t B c) 29)).alloc (.cells (pArr ⟨0, 0, 0⟩) 34)).heap[w.heap.size + 1]? = some (.cells (pArr ⟨0, 0, 0⟩) 34 (0, 0))) :=
    Lib.hid (newBlk _ _ _ (by simp))
  have HS := Lib.hid (scopeOf_any vs A m _ (hL.below hb0) (hV.below hb0))
  have HL0 := Lib.hid (hL.below hb0)
  have HK0 := Lib.hid (hK.below hb0)
  have HB0 := Lib.hid hb0
  obtain ⟨r, hr⟩ : ∃ r, scopeM (vs.map (·.u)) = r := ⟨_, rfl⟩
  rw [hr] at HS
  have HG := Lib.hid hr
  generalize vs.length = n at *
  clear hL hV hK hb0 hr
  rcases r with _ | s
  · rw [inferM_none HG.out]
    go_enter Tryd.func11, Tryd.ntmps11
    go_wp2_with (go_at_call 28; refine HS.out.mono ?_; rintro e w1 ⟨he, hb1⟩; simp only at he; subst he; have HR1 := Lib.hid ((hb1.block (w.heap.size + 1) (by simp)).trans HR0.out); have hx1 := blkLt HR1.out; obtain ⟨⟨c0, c1, c2⟩, d0, d1, d2⟩ := cells3 HR1.out; have HW1 := Lib.hid (HB0.out.trans (hb1.mono (by simp <;> omega))); clear hb1)
    obtain ⟨f0, f1, f2⟩ := res3 (x := .int .i64 0) (y := .int .i64 0) (z := .int .i64 0) HR1.out
    exact bodyPost_ret (v := .tuple #[pv ⟨0, 0, 0⟩, .int .i64 1]) (by simp [results, Tryd.results11, go_sem, f0, f1, f2]) rfl ⟨rfl, below3 HW1.out (Nat.le_add_right w.heap.size 1)⟩
  · obtain ⟨hrg, hl12, -⟩ := scopeM_rg HG.out
    have hrg := Lib.hid hrg
    by_cases hsz : 60 < t.size
    · rw [inferM_long HG.out hsz]
      have HI := Lib.hid (fun (w1 : World) (hb : Below ((w.alloc (.cells (eArr t B c) 29)).alloc (.cells (pArr ⟨0, 0, 0⟩) 34)).heap.size ((w.alloc (.cells (eArr t B c) 29)).alloc (.cells (pArr ⟨0, 0, 0⟩) 34)) w1) => (show Calls Tryd.prog 29 #[ev t B c] w1 (BB true w1) from by have := isLong_any t w1 B c (HK0.out.below hb); rw [decide_eq_true hsz] at this; exact this))
      clear hsz
      go_enter Tryd.func11, Tryd.ntmps11
      go_wp2_with (first
        | (go_at_call 28; refine HS.out.mono ?_; rintro e w1 ⟨⟨A1, c1, he, hp1⟩, hb1⟩; subst he; have HT1 := Lib.hid ((hb1.block w.heap.size (by simp <;> omega)).trans HT0.out); have HR1 := Lib.hid ((hb1.block (w.heap.size + 1) (by simp)).trans HR0.out); have hxt1 := blkLt HT1.out; have hx1 := blkLt HR1.out; obtain ⟨⟨b0, b1, b2, b3⟩, -⟩ := cells4 HT1.out; have HI1 := Lib.hid (HI.out w1 hb1); have HW1 := Lib.hid (HB0.out.trans (hb1.mono (by simp <;> omega))); clear hb1 hp1)
        | (go_at_call 29; refine HI1.out.mono ?_; rintro e w2 ⟨rfl, hb2⟩; have HR2 := Lib.hid ((hb2.block _ hx1).trans HR1.out); have hx2 := blkLt HR2.out; obtain ⟨⟨c0, c1, c2⟩, d0, d1, d2⟩ := cells3 HR2.out; have HW2 := Lib.hid (HW1.out.trans (hb2.mono HW1.out.size)); clear hb2))
      obtain ⟨f0, f1, f2⟩ := res3 (x := .int .i64 0) (y := .int .i64 0) (z := .int .i64 0) HR2.out
      exact bodyPost_ret (v := .tuple #[pv ⟨0, 0, 0⟩, .int .i64 2]) (by simp [results, Tryd.results11, go_sem, f0, f1, f2]) rfl ⟨rfl, below3 HW2.out (Nat.le_add_right w.heap.size 1)⟩
    · rw [inferM_ok HG.out hsz]
      have HI := Lib.hid (fun (w1 : World) (hb : Below ((w.alloc (.cells (eArr t B c) 29)).alloc (.cells (pArr ⟨0, 0, 0⟩) 34)).heap.size ((w.alloc (.cells (eArr t B c) 29)).alloc (.cells (pArr ⟨0, 0, 0⟩) 34)) w1) => (show Calls Tryd.prog 29 #[ev t B c] w1 (BB false w1) from by have := isLong_any t w1 B c (HK0.out.below hb); rw [decide_eq_false hsz] at this; exact this))
      have HV := Lib.hid (fun (w1 w2 : World) (A1 : Option Addr) (c1 : Nat) (hp : PwsR w1 s A1) (hb : Below ((w.alloc (.cells (eArr t B c) 29)).alloc (.cells (pArr ⟨0, 0, 0⟩) 34)).heap.size ((w.alloc (.cells (eArr t B c) 29)).alloc (.cells (pArr ⟨0, 0, 0⟩) 34)) w1) (hb2 : Below w1.heap.size w1 w2) =>
        infer_any hrg.out hl12 t w2 B A1 c c1 ((HL0.out.below hb).below hb2) (hp.below hb2) ((HK0.out.below hb).below hb2) (by omega))
      generalize resP (inf s t) = q at *
      obtain ⟨p, er⟩ := q
      clear hsz
      go_enter Tryd.func11, Tryd.ntmps11
      go_wp2_with (first
        | (go_at_call 28; refine HS.out.mono ?_; rintro e w1 ⟨⟨A1, c1, he, hp1⟩, hb1⟩; subst he; have HT1 := Lib.hid ((hb1.block w.heap.size (by simp <;> omega)).trans HT0.out); have HR1 := Lib.hid ((hb1.block (w.heap.size + 1) (by simp)).trans HR0.out); have hxt1 := blkLt HT1.out; have hx1 := blkLt HR1.out; obtain ⟨⟨b0, b1, b2, b3⟩, -⟩ := cells4 HT1.out; have HI1 := Lib.hid (HI.out w1 hb1); have HV1 := Lib.hid (fun w2 hb2 => HV.out w1 w2 A1 c1 hp1 hb1 hb2); have HW1 := Lib.hid (HB0.out.trans (hb1.mono (by simp <;> omega))); clear hb1 hp1)
        | (go_at_call 29; refine HI1.out.mono ?_; rintro e w2 ⟨rfl, hb2⟩; have HT2 := Lib.hid ((hb2.block _ hxt1).trans HT1.out); have HR2 := Lib.hid ((hb2.block _ hx1).trans HR1.out); have hxt2 := blkLt HT2.out; have hx2 := blkLt HR2.out; clear b0 b1 b2 b3; obtain ⟨⟨b0, b1, b2, b3⟩, -⟩ := cells4 HT2.out; have HV2 := Lib.hid (HV1.out w2 hb2); have HW2 := Lib.hid (HW1.out.trans (hb2.mono HW1.out.size)); clear hb2)
        | (go_at_call 30; refine HV2.out.mono ?_; rintro e w3 ⟨rfl, hb3⟩; have HR3 := Lib.hid ((hb3.block _ hx2).trans HR2.out); have hx3 := blkLt HR3.out; have HW3 := Lib.hid (HW2.out.trans (hb3.mono HW2.out.size)); clear hb3 b0 b1 b2 b3)
        | (go_at_call 31; refine (unit_any p _).mono ?_; rintro e w4 ⟨rfl, hb4⟩; have HR4 := Lib.hid ((hb4.block (w.heap.size + 1) (by simp <;> omega)).trans ((Below.heap_alloc _ _ _ hx3).trans HR3.out)); have hx4 := blkLt HR4.out; obtain ⟨⟨c0, c1, c2⟩, d0, d1, d2⟩ := cells3 HR4.out; have HW4 := Lib.hid ((HW3.out.alloc HW3.out.size _).trans (hb4.mono (by have := HW3.out.size; simp; omega))); clear hb4))
      obtain ⟨f0, f1, f2⟩ := res3 (x := .int .i64 p.a) (y := .int .i64 p.b) (z := .int .i64 p.c) HR4.out
      exact bodyPost_ret (v := .tuple #[pv p, .int .i64 er]) (by simp [results, Tryd.results11, go_sem, f0, f1, f2]) rfl ⟨rfl, below3 HW4.out (Nat.le_add_right w.heap.size 1)⟩
end Go.Proofs.YtmofclpheioepaaDoor
