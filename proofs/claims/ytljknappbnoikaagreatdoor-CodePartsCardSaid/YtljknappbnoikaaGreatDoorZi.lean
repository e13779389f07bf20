/- Texts of one proof: KyE. -/
import Derived.Test.YtljknappbnoikaaGreatDoorZh
set_option linter.unusedVariables false
set_option linter.unusedSimpArgs false
set_option maxRecDepth 100000
set_option maxHeartbeats 8000000
namespace Go.Proofs.YtljknappbnoikaaGreatDoor
open Go.RowKit
namespace K
theorem set2k {w : World} {b : Nat} {v0 v1 x y : Value} {T : TypeId} (h : w.heap[b]? = some (.cells #[v0, v1] T (0, 0))) :
  ((w.setCell ⟨b, 0, none⟩ x).setCell ⟨b, 1, none⟩ y).heap[b]? = some (.cells #[x, y] T (0, 0)) := by
 have g0 : (w.setCell ⟨b, 0, none⟩ x).heap[b]? = some (.cells #[x, v1] T (0, 0)) := by rw [heap_setCell_same w b 0 _ _ _ h]; simp
 rw [heap_setCell_same _ b 1 _ _ _ g0]; simp
theorem isFormed_any (l : List In) (A : Option Addr) (lc : Nat) (vars : Int) (HA : Option Addr) (hl hc : Nat) (i : Nat) (x : In) (hx : l[i]? = some x) (hlen : l.length ≤ 100000) (hv : -1000 ≤ vars ∧ vars ≤ 1000) (w : World) (hR : InsR w l A) :
  Calls Tryz.prog 22 #[.agg (hA l.length A lc vars HA hl hc), .int .i64 i] w (GG (.bool (formI x i l.length vars)) w) := by
 have hi : i < l.length := (List.getElem?_eq_some_iff.1 hx).1
 have HN := Lib.hid (fun (wx : World) (hg : Gr w wx) => numbers_any l A lc vars HA hl hc i x hx hlen hv wx (hR.gr hg))
 obtain ⟨g, o, rfl, hat⟩ := hR.addr (by omega)
 obtain ⟨e0, e1, e2⟩ := hat i x hx
 obtain ⟨W1, hW1⟩ : ∃ W1, W1 = w.alloc (.cells (hA l.length (some ⟨g, o, none⟩) lc vars HA hl hc) 54) := ⟨_, rfl⟩
 have hG1 : Gr w W1 := by rw [hW1]; exact grAlloc _ _
 have hH1 : W1.heap[w.heap.size]? = some (.cells (hA l.length (some ⟨g, o, none⟩) lc vars HA hl hc) 54 (0, 0)) := by rw [hW1]; exact nBlk _ _ _ rfl
 have hs1 : W1.heap.size = w.heap.size + 1 := by rw [hW1]; simp
 obtain ⟨W4, hW4⟩ : ∃ W4, W4 = (W1.alloc (.cells #[.int .i64 x.op, .int .i64 x.n, .int .i64 x.r] 41)).alloc (.cells #[.int .i64 0, .int .i64 0] 86) := ⟨_, rfl⟩
 have hG4 : Gr W1 W4 := by rw [hW4]; exact (grAlloc _ _).tr (grAlloc _ _)
 have HI4 : W4.heap[w.heap.size + 1]? = some (.cells #[.int .i64 x.op, .int .i64 x.n, .int .i64 x.r] 41 (0, 0)) := by rw [hW4]; exact grBlk (grAlloc _ _) (nBlk _ _ _ hs1.symm)
 have HS4 : W4.heap[w.heap.size + 2]? = some (.cells #[.int .i64 0, .int .i64 0] 86 (0, 0)) := by rw [hW4]; exact nBlk _ _ _ (by simp [hs1])
 have HB4 : Gr w W4 := hG1.tr hG4
 have HH4 := grBlk hG4 hH1
 have e0 := grCell hG1 e0
 have e1 := grCell hG1 e1
 have e2 := grCell hG1 e2
 obtain ⟨x0, x1, x2⟩ := cells3k hH1
 have HBt := Lib.hid (fun (wx : World) (n lo hi : Int) => between_any n lo hi wx)
 unfold formI
 generalize hrg : rgN x i l.length vars = rg at *
 obtain ⟨rl, rh⟩ := rg
 simp only at HN
 obtain ⟨R, hRR⟩ : ∃ R, (btw2 x.op (1, 13) && (btw2 x.n (rl, rh) && btw2 x.r (if x.op = 12 then (1, 6) else (0, 0)))) = R := ⟨_, rfl⟩
 rw [hRR]
 have hRH := Lib.hid hRR
 clear hat hR hx hrg hRR
 generalize l.length = ln at *
 go_enter Tryz.func22, Tryz.ntmps22
 go_upto_region 1 with fail
 rw [← hW1]
 clear hW1 hG1 hH1
 go_upto_region 3 with fail
 rw [← hW4]
 clear hW4 hG4 e0 e1 e2 x0 x1 x2 hs1
 obtain ⟨y0, y1, y2⟩ := cells3k HI4
 by_cases h12 : x.op = 12
 ·have t12 : (x.op == 12) = true := by simp [h12]
  have h12H := Lib.hid h12
  clear h12
  obtain ⟨s0, s1⟩ := cells2k HS4
  have d0 := frz HS4 0
  have d1 := frz HS4 1
  obtain ⟨W5, hW5⟩ : ∃ W5, W5 = (W4.setCell ⟨w.heap.size + 2, 0, none⟩ (.int .i64 1)).setCell ⟨w.heap.size + 2, 1, none⟩ (.int .i64 6) := ⟨_, rfl⟩
  have HB5 : Hid (Gr w W5) := Lib.hid (by rw [hW5]; exact belK (belK HB4 (by omega)) (by omega))
  have HS5 : Hid (W5.heap[w.heap.size + 2]? = some (.cells #[.int .i64 1, .int .i64 6] 86 (0, 0))) := Lib.hid (by rw [hW5]; exact set2k HS4)
  have HI5 : Hid (W5.heap[w.heap.size + 1]? = some (.cells #[.int .i64 x.op, .int .i64 x.n, .int .i64 x.r] 41 (0, 0))) := Lib.hid (by rw [hW5]; exact (heap_setCell_other _ _ _ _ (show w.heap.size + 1 ≠ w.heap.size + 2 by omega)).trans ((heap_setCell_other _ _ _ _ (show w.heap.size + 1 ≠ w.heap.size + 2 by omega)).trans HI4))
  have HH5 : Hid (W5.heap[w.heap.size]? = some (.cells (hA ln (some ⟨g, o, none⟩) lc vars HA hl hc) 54 (0, 0))) := Lib.hid (by rw [hW5]; exact (heap_setCell_other _ _ _ _ (show w.heap.size ≠ w.heap.size + 2 by omega)).trans ((heap_setCell_other _ _ _ _ (show w.heap.size ≠ w.heap.size + 2 by omega)).trans HH4))
  go_upto_region 5 with fail
  rw [← hW5]
  clear hW5 s0 s1 d0 d1 y0 y1 y2 t12
  obtain ⟨z0, z1, z2⟩ := cells3k HH5.out
  obtain ⟨y0, y1, y2⟩ := cells3k HI5.out
  obtain ⟨s0, s1⟩ := cells2k HS5.out
  rcases hb1 : btw2 x.op (1, 13) with _ | _
  ·have HBt1 := Lib.hid (fun wx => by have h := HBt.out wx x.op 1 13; rw [hb1] at h; exact h)
   have hvH := Lib.hid (show false = R by rw [← hRH.out, hb1]; rfl)
   refine wp_region_G (S := fun wq => Gr W5 wq) (by kernel_rfl) (grDrew _) (fun hHeld => ?_)
   have hSG : Hid (∀ wp wq : World, Gr W5 wp → Gr wp wq → Gr W5 wq) := Lib.hid (fun _ _ h k => h.tr k)
   have hmv := Lib.hid (fun (wq : World) (hq : Gr W5 wq) => And.intro (grCell hq z0) (And.intro (grCell hq z1) (And.intro (grCell hq z2) (And.intro (grCell hq y0) (And.intro (grCell hq y1) (And.intro (grCell hq y2) (And.intro (grCell hq s0) (grCell hq s1))))))))
   first
    | (refine tk hSG 0 (v := ?_) rfl (by kernel_rfl) (fun _ _ _ h => h) (by rfl) ?_ hHeld ?_; rotate_left; focus (intro w' hSw; obtain ⟨z0, z1, z2, y0, y1, y2, s0, s1⟩ := hmv.out _ hSw; go_simp; (try with_reducible rfl)))
    | refine tn hSG 0 rfl (by kernel_rfl) (fun _ _ _ h => h) (by rfl) hHeld ?_
   (try simp only [zq1, zq2, zq3, Act.put, zq4, zq5, zq6])
   first
    | (refine tk hSG 1 (v := ?_) rfl (by kernel_rfl) (fun _ _ _ h => h) (by rfl) ?_ hHeld ?_; rotate_left; focus (intro w' hSw; obtain ⟨z0, z1, z2, y0, y1, y2, s0, s1⟩ := hmv.out _ hSw; go_simp; (try with_reducible rfl)))
    | refine tn hSG 1 rfl (by kernel_rfl) (fun _ _ _ h => h) (by rfl) hHeld ?_
   (try simp only [zq1, zq2, zq3, Act.put, zq4, zq5, zq6])
   first
    | (refine tk hSG 2 (v := ?_) rfl (by kernel_rfl) (fun _ _ _ h => h) (by rfl) ?_ hHeld ?_; rotate_left; focus (intro w' hSw; obtain ⟨z0, z1, z2, y0, y1, y2, s0, s1⟩ := hmv.out _ hSw; go_simp; (try with_reducible rfl)))
    | refine tn hSG 2 rfl (by kernel_rfl) (fun _ _ _ h => h) (by rfl) hHeld ?_
   (try simp only [zq1, zq2, zq3, Act.put, zq4, zq5, zq6])
   refine tc hSG 3 (v := .bool false) rfl (by kernel_rfl) (fun _ _ _ h => h) (by rfl) ?_ hHeld ?_
   focus (intro wz hSw K hK; obtain ⟨z0, z1, z2, y0, y1, y2, s0, s1⟩ := hmv.out _ hSw; go_simp; go_at_call 42; refine (HBt1.out _).mono ?_; rintro e w2 ⟨rfl, hb2⟩; first | exact hK.out _ hb2 | (have h9 := hK.out _ hb2; (try simp only [zq1, zq2, zq3, Act.put, zq4, zq5, zq6] at h9 ⊢); exact h9) | (have h9 := hK.out _ hb2; go_simp; exact h9))
   (try simp only [zq1, zq2, zq3, Act.put, zq4, zq5, zq6])
   first
    | (refine tk hSG 4 (v := ?_) rfl (by kernel_rfl) (fun _ _ _ h => h) (by rfl) ?_ hHeld ?_; rotate_left; focus (intro w' hSw; obtain ⟨z0, z1, z2, y0, y1, y2, s0, s1⟩ := hmv.out _ hSw; go_simp; (try with_reducible rfl)))
    | refine tn hSG 4 rfl (by kernel_rfl) (fun _ _ _ h => h) (by rfl) hHeld ?_
   (try simp only [zq1, zq2, zq3, Act.put, zq4, zq5, zq6])
   first
    | (refine tk hSG 5 (v := ?_) rfl (by kernel_rfl) (fun _ _ _ h => h) (by rfl) ?_ hHeld ?_; rotate_left; focus (intro w' hSw; obtain ⟨z0, z1, z2, y0, y1, y2, s0, s1⟩ := hmv.out _ hSw; go_simp; (try with_reducible rfl)))
    | refine tn hSG 5 rfl (by kernel_rfl) (fun _ _ _ h => h) (by rfl) hHeld ?_
   (try simp only [zq1, zq2, zq3, Act.put, zq4, zq5, zq6])
   first
    | (refine tk hSG 6 (v := ?_) rfl (by kernel_rfl) (fun _ _ _ h => h) (by rfl) ?_ hHeld ?_; rotate_left; focus (intro w' hSw; obtain ⟨z0, z1, z2, y0, y1, y2, s0, s1⟩ := hmv.out _ hSw; go_simp; (try with_reducible rfl)))
    | refine tn hSG 6 rfl (by kernel_rfl) (fun _ _ _ h => h) (by rfl) hHeld ?_
   (try simp only [zq1, zq2, zq3, Act.put, zq4, zq5, zq6])
   first
    | (refine tk hSG 7 (v := ?_) rfl (by kernel_rfl) (fun _ _ _ h => h) (by rfl) ?_ hHeld ?_; rotate_left; focus (intro w' hSw; obtain ⟨z0, z1, z2, y0, y1, y2, s0, s1⟩ := hmv.out _ hSw; go_simp; (try with_reducible rfl)))
    | refine tn hSG 7 rfl (by kernel_rfl) (fun _ _ _ h => h) (by rfl) hHeld ?_
   (try simp only [zq1, zq2, zq3, Act.put, zq4, zq5, zq6])
   first
    | (refine tk hSG 8 (v := ?_) rfl (by kernel_rfl) (fun _ _ _ h => h) (by rfl) ?_ hHeld ?_; rotate_left; focus (intro w' hSw; obtain ⟨z0, z1, z2, y0, y1, y2, s0, s1⟩ := hmv.out _ hSw; go_simp; (try with_reducible rfl)))
    | refine tn hSG 8 rfl (by kernel_rfl) (fun _ _ _ h => h) (by rfl) hHeld ?_
   (try simp only [zq1, zq2, zq3, Act.put, zq4, zq5, zq6])
   first
    | (refine tk hSG 9 (v := ?_) rfl (by kernel_rfl) (fun _ _ _ h => h) (by rfl) ?_ hHeld ?_; rotate_left; focus (intro w' hSw; obtain ⟨z0, z1, z2, y0, y1, y2, s0, s1⟩ := hmv.out _ hSw; go_simp; (try with_reducible rfl)))
    | refine tn hSG 9 rfl (by kernel_rfl) (fun _ _ _ h => h) (by rfl) hHeld ?_
   (try simp only [zq1, zq2, zq3, Act.put, zq4, zq5, zq6])
   first
    | (refine tk hSG 10 (v := ?_) rfl (by kernel_rfl) (fun _ _ _ h => h) (by rfl) ?_ hHeld ?_; rotate_left; focus (intro w' hSw; obtain ⟨z0, z1, z2, y0, y1, y2, s0, s1⟩ := hmv.out _ hSw; go_simp; (try with_reducible rfl)))
    | refine tn hSG 10 rfl (by kernel_rfl) (fun _ _ _ h => h) (by rfl) hHeld ?_
   (try simp only [zq1, zq2, zq3, Act.put, zq4, zq5, zq6])
   first
    | (refine tk hSG 11 (v := ?_) rfl (by kernel_rfl) (fun _ _ _ h => h) (by rfl) ?_ hHeld ?_; rotate_left; focus (intro w' hSw; obtain ⟨z0, z1, z2, y0, y1, y2, s0, s1⟩ := hmv.out _ hSw; go_simp; (try with_reducible rfl)))
    | refine tn hSG 11 rfl (by kernel_rfl) (fun _ _ _ h => h) (by rfl) hHeld ?_
   (try simp only [zq1, zq2, zq3, Act.put, zq4, zq5, zq6])
   first
    | (refine tk hSG 12 (v := ?_) rfl (by kernel_rfl) (fun _ _ _ h => h) (by rfl) ?_ hHeld ?_; rotate_left; focus (intro w' hSw; obtain ⟨z0, z1, z2, y0, y1, y2, s0, s1⟩ := hmv.out _ hSw; go_simp; (try with_reducible rfl)))
    | refine tn hSG 12 rfl (by kernel_rfl) (fun _ _ _ h => h) (by rfl) hHeld ?_
   (try simp only [zq1, zq2, zq3, Act.put, zq4, zq5, zq6])
   first
    | (refine tk hSG 13 (v := ?_) rfl (by kernel_rfl) (fun _ _ _ h => h) (by rfl) ?_ hHeld ?_; rotate_left; focus (intro w' hSw; obtain ⟨z0, z1, z2, y0, y1, y2, s0, s1⟩ := hmv.out _ hSw; go_simp; (try with_reducible rfl)))
    | refine tn hSG 13 rfl (by kernel_rfl) (fun _ _ _ h => h) (by rfl) hHeld ?_
   (try simp only [zq1, zq2, zq3, Act.put, zq4, zq5, zq6])
   first
    | (refine tk hSG 14 (v := ?_) rfl (by kernel_rfl) (fun _ _ _ h => h) (by rfl) ?_ hHeld ?_; rotate_left; focus (intro w' hSw; obtain ⟨z0, z1, z2, y0, y1, y2, s0, s1⟩ := hmv.out _ hSw; go_simp; (try with_reducible rfl)))
    | refine tn hSG 14 rfl (by kernel_rfl) (fun _ _ _ h => h) (by rfl) hHeld ?_
   (try simp only [zq1, zq2, zq3, Act.put, zq4, zq5, zq6])
   first
    | (refine tk hSG 15 (v := ?_) rfl (by kernel_rfl) (fun _ _ _ h => h) (by rfl) ?_ hHeld ?_; rotate_left; focus (intro w' hSw; obtain ⟨z0, z1, z2, y0, y1, y2, s0, s1⟩ := hmv.out _ hSw; go_simp; (try with_reducible rfl)))
    | refine tn hSG 15 rfl (by kernel_rfl) (fun _ _ _ h => h) (by rfl) hHeld ?_
   (try simp only [zq1, zq2, zq3, Act.put, zq4, zq5, zq6])
   first
    | (refine tk hSG 16 (v := ?_) rfl (by kernel_rfl) (fun _ _ _ h => h) (by rfl) ?_ hHeld ?_; rotate_left; focus (intro w' hSw; obtain ⟨z0, z1, z2, y0, y1, y2, s0, s1⟩ := hmv.out _ hSw; go_simp; (try with_reducible rfl)))
    | refine tn hSG 16 rfl (by kernel_rfl) (fun _ _ _ h => h) (by rfl) hHeld ?_
   (try simp only [zq1, zq2, zq3, Act.put, zq4, zq5, zq6])
   first
    | (refine tk hSG 17 (v := ?_) rfl (by kernel_rfl) (fun _ _ _ h => h) (by rfl) ?_ hHeld ?_; rotate_left; focus (intro w' hSw; obtain ⟨z0, z1, z2, y0, y1, y2, s0, s1⟩ := hmv.out _ hSw; go_simp; (try with_reducible rfl)))
    | refine tn hSG 17 rfl (by kernel_rfl) (fun _ _ _ h => h) (by rfl) hHeld ?_
   (try simp only [zq1, zq2, zq3, Act.put, zq4, zq5, zq6])
   first
    | (refine tk hSG 18 (v := ?_) rfl (by kernel_rfl) (fun _ _ _ h => h) (by rfl) ?_ hHeld ?_; rotate_left; focus (intro w' hSw; obtain ⟨z0, z1, z2, y0, y1, y2, s0, s1⟩ := hmv.out _ hSw; go_simp; (try with_reducible rfl)))
    | refine tn hSG 18 rfl (by kernel_rfl) (fun _ _ _ h => h) (by rfl) hHeld ?_
   (try simp only [zq1, zq2, zq3, Act.put, zq4, zq5, zq6])
   refine wpAnyG_done (by kernel_rfl) (fun w5 hgD => ?_) _
   have hg5 : Gr W5 w5 := (grDrew W5).tr hgD
   clear hgD hSG hHeld
   have HB6 := Lib.hid (Gr.tr HB5.out hg5)
   go_wp2
   go_ret
   exact ⟨retb hvH.out, HB6.out⟩
  ·have HBt1 := Lib.hid (fun wx => by have h := HBt.out wx x.op 1 13; rw [hb1] at h; exact h)
   rcases hb2 : btw2 x.n (rl, rh) with _ | _
   ·have HBt2 := Lib.hid (fun wx => by have h := HBt.out wx x.n rl rh; rw [hb2] at h; exact h)
    have hvH := Lib.hid (show false = R by rw [← hRH.out, hb1, hb2]; rfl)
    refine wp_region_G (S := fun wq => Gr W5 wq) (by kernel_rfl) (grDrew _) (fun hHeld => ?_)
    have hSG : Hid (∀ wp wq : World, Gr W5 wp → Gr wp wq → Gr W5 wq) := Lib.hid (fun _ _ h k => h.tr k)
    have hmv := Lib.hid (fun (wq : World) (hq : Gr W5 wq) => And.intro (grCell hq z0) (And.intro (grCell hq z1) (And.intro (grCell hq z2) (And.intro (grCell hq y0) (And.intro (grCell hq y1) (And.intro (grCell hq y2) (And.intro (grCell hq s0) (grCell hq s1))))))))
    first
     | (refine tk hSG 0 (v := ?_) rfl (by kernel_rfl) (fun _ _ _ h => h) (by rfl) ?_ hHeld ?_; rotate_left; focus (intro w' hSw; obtain ⟨z0, z1, z2, y0, y1, y2, s0, s1⟩ := hmv.out _ hSw; go_simp; (try with_reducible rfl)))
     | refine tn hSG 0 rfl (by kernel_rfl) (fun _ _ _ h => h) (by rfl) hHeld ?_
    (try simp only [zq1, zq2, zq3, Act.put, zq4, zq5, zq6])
    first
     | (refine tk hSG 1 (v := ?_) rfl (by kernel_rfl) (fun _ _ _ h => h) (by rfl) ?_ hHeld ?_; rotate_left; focus (intro w' hSw; obtain ⟨z0, z1, z2, y0, y1, y2, s0, s1⟩ := hmv.out _ hSw; go_simp; (try with_reducible rfl)))
     | refine tn hSG 1 rfl (by kernel_rfl) (fun _ _ _ h => h) (by rfl) hHeld ?_
    (try simp only [zq1, zq2, zq3, Act.put, zq4, zq5, zq6])
    first
     | (refine tk hSG 2 (v := ?_) rfl (by kernel_rfl) (fun _ _ _ h => h) (by rfl) ?_ hHeld ?_; rotate_left; focus (intro w' hSw; obtain ⟨z0, z1, z2, y0, y1, y2, s0, s1⟩ := hmv.out _ hSw; go_simp; (try with_reducible rfl)))
     | refine tn hSG 2 rfl (by kernel_rfl) (fun _ _ _ h => h) (by rfl) hHeld ?_
    (try simp only [zq1, zq2, zq3, Act.put, zq4, zq5, zq6])
    refine tc hSG 3 (v := .bool true) rfl (by kernel_rfl) (fun _ _ _ h => h) (by rfl) ?_ hHeld ?_
    focus (intro wz hSw K hK; obtain ⟨z0, z1, z2, y0, y1, y2, s0, s1⟩ := hmv.out _ hSw; go_simp; go_at_call 42; refine (HBt1.out _).mono ?_; rintro e w2 ⟨rfl, hb2⟩; first | exact hK.out _ hb2 | (have h9 := hK.out _ hb2; (try simp only [zq1, zq2, zq3, Act.put, zq4, zq5, zq6] at h9 ⊢); exact h9) | (have h9 := hK.out _ hb2; go_simp; exact h9))
    (try simp only [zq1, zq2, zq3, Act.put, zq4, zq5, zq6])
    first
     | (refine tk hSG 4 (v := ?_) rfl (by kernel_rfl) (fun _ _ _ h => h) (by rfl) ?_ hHeld ?_; rotate_left; focus (intro w' hSw; obtain ⟨z0, z1, z2, y0, y1, y2, s0, s1⟩ := hmv.out _ hSw; go_simp; (try with_reducible rfl)))
     | refine tn hSG 4 rfl (by kernel_rfl) (fun _ _ _ h => h) (by rfl) hHeld ?_
    (try simp only [zq1, zq2, zq3, Act.put, zq4, zq5, zq6])
    first
     | (refine tk hSG 5 (v := ?_) rfl (by kernel_rfl) (fun _ _ _ h => h) (by rfl) ?_ hHeld ?_; rotate_left; focus (intro w' hSw; obtain ⟨z0, z1, z2, y0, y1, y2, s0, s1⟩ := hmv.out _ hSw; go_simp; (try with_reducible rfl)))
     | refine tn hSG 5 rfl (by kernel_rfl) (fun _ _ _ h => h) (by rfl) hHeld ?_
    (try simp only [zq1, zq2, zq3, Act.put, zq4, zq5, zq6])
    first
     | (refine tk hSG 6 (v := ?_) rfl (by kernel_rfl) (fun _ _ _ h => h) (by rfl) ?_ hHeld ?_; rotate_left; focus (intro w' hSw; obtain ⟨z0, z1, z2, y0, y1, y2, s0, s1⟩ := hmv.out _ hSw; go_simp; (try with_reducible rfl)))
     | refine tn hSG 6 rfl (by kernel_rfl) (fun _ _ _ h => h) (by rfl) hHeld ?_
    (try simp only [zq1, zq2, zq3, Act.put, zq4, zq5, zq6])
    first
     | (refine tk hSG 7 (v := ?_) rfl (by kernel_rfl) (fun _ _ _ h => h) (by rfl) ?_ hHeld ?_; rotate_left; focus (intro w' hSw; obtain ⟨z0, z1, z2, y0, y1, y2, s0, s1⟩ := hmv.out _ hSw; go_simp; (try with_reducible rfl)))
     | refine tn hSG 7 rfl (by kernel_rfl) (fun _ _ _ h => h) (by rfl) hHeld ?_
    (try simp only [zq1, zq2, zq3, Act.put, zq4, zq5, zq6])
    first
     | (refine tk hSG 8 (v := ?_) rfl (by kernel_rfl) (fun _ _ _ h => h) (by rfl) ?_ hHeld ?_; rotate_left; focus (intro w' hSw; obtain ⟨z0, z1, z2, y0, y1, y2, s0, s1⟩ := hmv.out _ hSw; go_simp; (try with_reducible rfl)))
     | refine tn hSG 8 rfl (by kernel_rfl) (fun _ _ _ h => h) (by rfl) hHeld ?_
    (try simp only [zq1, zq2, zq3, Act.put, zq4, zq5, zq6])
    refine tc hSG 9 (v := .agg #[.int .i64 rl, .int .i64 rh]) rfl (by kernel_rfl) (fun _ _ _ h => h) (by rfl) ?_ hHeld ?_
    focus (intro wz hSw K hK; obtain ⟨z0, z1, z2, y0, y1, y2, s0, s1⟩ := hmv.out _ hSw; go_simp; go_at_call 43; refine (HN.out _ (Gr.tr HB5.out hSw)).mono ?_; rintro e w2 ⟨rfl, hb2⟩; first | exact hK.out _ hb2 | (have h9 := hK.out _ hb2; (try simp only [zq1, zq2, zq3, Act.put, zq4, zq5, zq6] at h9 ⊢); exact h9) | (have h9 := hK.out _ hb2; go_simp; exact h9))
    (try simp only [zq1, zq2, zq3, Act.put, zq4, zq5, zq6])
    refine tc hSG 10 (v := .bool false) rfl (by kernel_rfl) (fun _ _ _ h => h) (by rfl) ?_ hHeld ?_
    focus (intro wz hSw K hK; obtain ⟨z0, z1, z2, y0, y1, y2, s0, s1⟩ := hmv.out _ hSw; go_simp; go_at_call 42; refine (HBt2.out _).mono ?_; rintro e w2 ⟨rfl, hb2⟩; first | exact hK.out _ hb2 | (have h9 := hK.out _ hb2; (try simp only [zq1, zq2, zq3, Act.put, zq4, zq5, zq6] at h9 ⊢); exact h9) | (have h9 := hK.out _ hb2; go_simp; exact h9))
    (try simp only [zq1, zq2, zq3, Act.put, zq4, zq5, zq6])
    first
     | (refine tk hSG 11 (v := ?_) rfl (by kernel_rfl) (fun _ _ _ h => h) (by rfl) ?_ hHeld ?_; rotate_left; focus (intro w' hSw; obtain ⟨z0, z1, z2, y0, y1, y2, s0, s1⟩ := hmv.out _ hSw; go_simp; (try with_reducible rfl)))
     | refine tn hSG 11 rfl (by kernel_rfl) (fun _ _ _ h => h) (by rfl) hHeld ?_
    (try simp only [zq1, zq2, zq3, Act.put, zq4, zq5, zq6])
    first
     | (refine tk hSG 12 (v := ?_) rfl (by kernel_rfl) (fun _ _ _ h => h) (by rfl) ?_ hHeld ?_; rotate_left; focus (intro w' hSw; obtain ⟨z0, z1, z2, y0, y1, y2, s0, s1⟩ := hmv.out _ hSw; go_simp; (try with_reducible rfl)))
     | refine tn hSG 12 rfl (by kernel_rfl) (fun _ _ _ h => h) (by rfl) hHeld ?_
    (try simp only [zq1, zq2, zq3, Act.put, zq4, zq5, zq6])
    first
     | (refine tk hSG 13 (v := ?_) rfl (by kernel_rfl) (fun _ _ _ h => h) (by rfl) ?_ hHeld ?_; rotate_left; focus (intro w' hSw; obtain ⟨z0, z1, z2, y0, y1, y2, s0, s1⟩ := hmv.out _ hSw; go_simp; (try with_reducible rfl)))
     | refine tn hSG 13 rfl (by kernel_rfl) (fun _ _ _ h => h) (by rfl) hHeld ?_
    (try simp only [zq1, zq2, zq3, Act.put, zq4, zq5, zq6])
    first
     | (refine tk hSG 14 (v := ?_) rfl (by kernel_rfl) (fun _ _ _ h => h) (by rfl) ?_ hHeld ?_; rotate_left; focus (intro w' hSw; obtain ⟨z0, z1, z2, y0, y1, y2, s0, s1⟩ := hmv.out _ hSw; go_simp; (try with_reducible rfl)))
     | refine tn hSG 14 rfl (by kernel_rfl) (fun _ _ _ h => h) (by rfl) hHeld ?_
    (try simp only [zq1, zq2, zq3, Act.put, zq4, zq5, zq6])
    first
     | (refine tk hSG 15 (v := ?_) rfl (by kernel_rfl) (fun _ _ _ h => h) (by rfl) ?_ hHeld ?_; rotate_left; focus (intro w' hSw; obtain ⟨z0, z1, z2, y0, y1, y2, s0, s1⟩ := hmv.out _ hSw; go_simp; (try with_reducible rfl)))
     | refine tn hSG 15 rfl (by kernel_rfl) (fun _ _ _ h => h) (by rfl) hHeld ?_
    (try simp only [zq1, zq2, zq3, Act.put, zq4, zq5, zq6])
    first
     | (refine tk hSG 16 (v := ?_) rfl (by kernel_rfl) (fun _ _ _ h => h) (by rfl) ?_ hHeld ?_; rotate_left; focus (intro w' hSw; obtain ⟨z0, z1, z2, y0, y1, y2, s0, s1⟩ := hmv.out _ hSw; go_simp; (try with_reducible rfl)))
     | refine tn hSG 16 rfl (by kernel_rfl) (fun _ _ _ h => h) (by rfl) hHeld ?_
    (try simp only [zq1, zq2, zq3, Act.put, zq4, zq5, zq6])
    first
     | (refine tk hSG 17 (v := ?_) rfl (by kernel_rfl) (fun _ _ _ h => h) (by rfl) ?_ hHeld ?_; rotate_left; focus (intro w' hSw; obtain ⟨z0, z1, z2, y0, y1, y2, s0, s1⟩ := hmv.out _ hSw; go_simp; (try with_reducible rfl)))
     | refine tn hSG 17 rfl (by kernel_rfl) (fun _ _ _ h => h) (by rfl) hHeld ?_
    (try simp only [zq1, zq2, zq3, Act.put, zq4, zq5, zq6])
    first
     | (refine tk hSG 18 (v := ?_) rfl (by kernel_rfl) (fun _ _ _ h => h) (by rfl) ?_ hHeld ?_; rotate_left; focus (intro w' hSw; obtain ⟨z0, z1, z2, y0, y1, y2, s0, s1⟩ := hmv.out _ hSw; go_simp; (try with_reducible rfl)))
     | refine tn hSG 18 rfl (by kernel_rfl) (fun _ _ _ h => h) (by rfl) hHeld ?_
    (try simp only [zq1, zq2, zq3, Act.put, zq4, zq5, zq6])
    refine wpAnyG_done (by kernel_rfl) (fun w5 hgD => ?_) _
    have hg5 : Gr W5 w5 := (grDrew W5).tr hgD
    clear hgD hSG hHeld
    have HB6 := Lib.hid (Gr.tr HB5.out hg5)
    go_wp2
    go_ret
    exact ⟨retb hvH.out, HB6.out⟩
   ·have HBt2 := Lib.hid (fun wx => by have h := HBt.out wx x.n rl rh; rw [hb2] at h; exact h)
    obtain ⟨b3, hb3⟩ : ∃ b3, btw2 x.r (1, 6) = b3 := ⟨_, rfl⟩
    have HBt3 := Lib.hid (fun wx => by have h := HBt.out wx x.r 1 6; rw [hb3] at h; exact h)
    have hvH := Lib.hid (show b3 = R by rw [← hRH.out, hb1, hb2, if_pos h12H.out, hb3]; rfl)
    refine wp_region_G (S := fun wq => Gr W5 wq) (by kernel_rfl) (grDrew _) (fun hHeld => ?_)
    have hSG : Hid (∀ wp wq : World, Gr W5 wp → Gr wp wq → Gr W5 wq) := Lib.hid (fun _ _ h k => h.tr k)
    have hmv := Lib.hid (fun (wq : World) (hq : Gr W5 wq) => And.intro (grCell hq z0) (And.intro (grCell hq z1) (And.intro (grCell hq z2) (And.intro (grCell hq y0) (And.intro (grCell hq y1) (And.intro (grCell hq y2) (And.intro (grCell hq s0) (grCell hq s1))))))))
    first
     | (refine tk hSG 0 (v := ?_) rfl (by kernel_rfl) (fun _ _ _ h => h) (by rfl) ?_ hHeld ?_; rotate_left; focus (intro w' hSw; obtain ⟨z0, z1, z2, y0, y1, y2, s0, s1⟩ := hmv.out _ hSw; go_simp; (try with_reducible rfl)))
     | refine tn hSG 0 rfl (by kernel_rfl) (fun _ _ _ h => h) (by rfl) hHeld ?_
    (try simp only [zq1, zq2, zq3, Act.put, zq4, zq5, zq6])
    first
     | (refine tk hSG 1 (v := ?_) rfl (by kernel_rfl) (fun _ _ _ h => h) (by rfl) ?_ hHeld ?_; rotate_left; focus (intro w' hSw; obtain ⟨z0, z1, z2, y0, y1, y2, s0, s1⟩ := hmv.out _ hSw; go_simp; (try with_reducible rfl)))
     | refine tn hSG 1 rfl (by kernel_rfl) (fun _ _ _ h => h) (by rfl) hHeld ?_
    (try simp only [zq1, zq2, zq3, Act.put, zq4, zq5, zq6])
    first
     | (refine tk hSG 2 (v := ?_) rfl (by kernel_rfl) (fun _ _ _ h => h) (by rfl) ?_ hHeld ?_; rotate_left; focus (intro w' hSw; obtain ⟨z0, z1, z2, y0, y1, y2, s0, s1⟩ := hmv.out _ hSw; go_simp; (try with_reducible rfl)))
     | refine tn hSG 2 rfl (by kernel_rfl) (fun _ _ _ h => h) (by rfl) hHeld ?_
    (try simp only [zq1, zq2, zq3, Act.put, zq4, zq5, zq6])
    refine tc hSG 3 (v := .bool true) rfl (by kernel_rfl) (fun _ _ _ h => h) (by rfl) ?_ hHeld ?_
    focus (intro wz hSw K hK; obtain ⟨z0, z1, z2, y0, y1, y2, s0, s1⟩ := hmv.out _ hSw; go_simp; go_at_call 42; refine (HBt1.out _).mono ?_; rintro e w2 ⟨rfl, hb2⟩; first | exact hK.out _ hb2 | (have h9 := hK.out _ hb2; (try simp only [zq1, zq2, zq3, Act.put, zq4, zq5, zq6] at h9 ⊢); exact h9) | (have h9 := hK.out _ hb2; go_simp; exact h9))
    (try simp only [zq1, zq2, zq3, Act.put, zq4, zq5, zq6])
    first
     | (refine tk hSG 4 (v := ?_) rfl (by kernel_rfl) (fun _ _ _ h => h) (by rfl) ?_ hHeld ?_; rotate_left; focus (intro w' hSw; obtain ⟨z0, z1, z2, y0, y1, y2, s0, s1⟩ := hmv.out _ hSw; go_simp; (try with_reducible rfl)))
     | refine tn hSG 4 rfl (by kernel_rfl) (fun _ _ _ h => h) (by rfl) hHeld ?_
    (try simp only [zq1, zq2, zq3, Act.put, zq4, zq5, zq6])
    first
     | (refine tk hSG 5 (v := ?_) rfl (by kernel_rfl) (fun _ _ _ h => h) (by rfl) ?_ hHeld ?_; rotate_left; focus (intro w' hSw; obtain ⟨z0, z1, z2, y0, y1, y2, s0, s1⟩ := hmv.out _ hSw; go_simp; (try with_reducible rfl)))
     | refine tn hSG 5 rfl (by kernel_rfl) (fun _ _ _ h => h) (by rfl) hHeld ?_
    (try simp only [zq1, zq2, zq3, Act.put, zq4, zq5, zq6])
    first
     | (refine tk hSG 6 (v := ?_) rfl (by kernel_rfl) (fun _ _ _ h => h) (by rfl) ?_ hHeld ?_; rotate_left; focus (intro w' hSw; obtain ⟨z0, z1, z2, y0, y1, y2, s0, s1⟩ := hmv.out _ hSw; go_simp; (try with_reducible rfl)))
     | refine tn hSG 6 rfl (by kernel_rfl) (fun _ _ _ h => h) (by rfl) hHeld ?_
    (try simp only [zq1, zq2, zq3, Act.put, zq4, zq5, zq6])
    first
     | (refine tk hSG 7 (v := ?_) rfl (by kernel_rfl) (fun _ _ _ h => h) (by rfl) ?_ hHeld ?_; rotate_left; focus (intro w' hSw; obtain ⟨z0, z1, z2, y0, y1, y2, s0, s1⟩ := hmv.out _ hSw; go_simp; (try with_reducible rfl)))
     | refine tn hSG 7 rfl (by kernel_rfl) (fun _ _ _ h => h) (by rfl) hHeld ?_
    (try simp only [zq1, zq2, zq3, Act.put, zq4, zq5, zq6])
    first
     | (refine tk hSG 8 (v := ?_) rfl (by kernel_rfl) (fun _ _ _ h => h) (by rfl) ?_ hHeld ?_; rotate_left; focus (intro w' hSw; obtain ⟨z0, z1, z2, y0, y1, y2, s0, s1⟩ := hmv.out _ hSw; go_simp; (try with_reducible rfl)))
     | refine tn hSG 8 rfl (by kernel_rfl) (fun _ _ _ h => h) (by rfl) hHeld ?_
    (try simp only [zq1, zq2, zq3, Act.put, zq4, zq5, zq6])
    refine tc hSG 9 (v := .agg #[.int .i64 rl, .int .i64 rh]) rfl (by kernel_rfl) (fun _ _ _ h => h) (by rfl) ?_ hHeld ?_
    focus (intro wz hSw K hK; obtain ⟨z0, z1, z2, y0, y1, y2, s0, s1⟩ := hmv.out _ hSw; go_simp; go_at_call 43; refine (HN.out _ (Gr.tr HB5.out hSw)).mono ?_; rintro e w2 ⟨rfl, hb2⟩; first | exact hK.out _ hb2 | (have h9 := hK.out _ hb2; (try simp only [zq1, zq2, zq3, Act.put, zq4, zq5, zq6] at h9 ⊢); exact h9) | (have h9 := hK.out _ hb2; go_simp; exact h9))
    (try simp only [zq1, zq2, zq3, Act.put, zq4, zq5, zq6])
    refine tc hSG 10 (v := .bool true) rfl (by kernel_rfl) (fun _ _ _ h => h) (by rfl) ?_ hHeld ?_
    focus (intro wz hSw K hK; obtain ⟨z0, z1, z2, y0, y1, y2, s0, s1⟩ := hmv.out _ hSw; go_simp; go_at_call 42; refine (HBt2.out _).mono ?_; rintro e w2 ⟨rfl, hb2⟩; first | exact hK.out _ hb2 | (have h9 := hK.out _ hb2; (try simp only [zq1, zq2, zq3, Act.put, zq4, zq5, zq6] at h9 ⊢); exact h9) | (have h9 := hK.out _ hb2; go_simp; exact h9))
    (try simp only [zq1, zq2, zq3, Act.put, zq4, zq5, zq6])
    first
     | (refine tk hSG 11 (v := ?_) rfl (by kernel_rfl) (fun _ _ _ h => h) (by rfl) ?_ hHeld ?_; rotate_left; focus (intro w' hSw; obtain ⟨z0, z1, z2, y0, y1, y2, s0, s1⟩ := hmv.out _ hSw; go_simp; (try with_reducible rfl)))
     | refine tn hSG 11 rfl (by kernel_rfl) (fun _ _ _ h => h) (by rfl) hHeld ?_
    (try simp only [zq1, zq2, zq3, Act.put, zq4, zq5, zq6])
    first
     | (refine tk hSG 12 (v := ?_) rfl (by kernel_rfl) (fun _ _ _ h => h) (by rfl) ?_ hHeld ?_; rotate_left; focus (intro w' hSw; obtain ⟨z0, z1, z2, y0, y1, y2, s0, s1⟩ := hmv.out _ hSw; go_simp; (try with_reducible rfl)))
     | refine tn hSG 12 rfl (by kernel_rfl) (fun _ _ _ h => h) (by rfl) hHeld ?_
    (try simp only [zq1, zq2, zq3, Act.put, zq4, zq5, zq6])
    first
     | (refine tk hSG 13 (v := ?_) rfl (by kernel_rfl) (fun _ _ _ h => h) (by rfl) ?_ hHeld ?_; rotate_left; focus (intro w' hSw; obtain ⟨z0, z1, z2, y0, y1, y2, s0, s1⟩ := hmv.out _ hSw; go_simp; (try with_reducible rfl)))
     | refine tn hSG 13 rfl (by kernel_rfl) (fun _ _ _ h => h) (by rfl) hHeld ?_
    (try simp only [zq1, zq2, zq3, Act.put, zq4, zq5, zq6])
    first
     | (refine tk hSG 14 (v := ?_) rfl (by kernel_rfl) (fun _ _ _ h => h) (by rfl) ?_ hHeld ?_; rotate_left; focus (intro w' hSw; obtain ⟨z0, z1, z2, y0, y1, y2, s0, s1⟩ := hmv.out _ hSw; go_simp; (try with_reducible rfl)))
     | refine tn hSG 14 rfl (by kernel_rfl) (fun _ _ _ h => h) (by rfl) hHeld ?_
    (try simp only [zq1, zq2, zq3, Act.put, zq4, zq5, zq6])
    first
     | (refine tk hSG 15 (v := ?_) rfl (by kernel_rfl) (fun _ _ _ h => h) (by rfl) ?_ hHeld ?_; rotate_left; focus (intro w' hSw; obtain ⟨z0, z1, z2, y0, y1, y2, s0, s1⟩ := hmv.out _ hSw; go_simp; (try with_reducible rfl)))
     | refine tn hSG 15 rfl (by kernel_rfl) (fun _ _ _ h => h) (by rfl) hHeld ?_
    (try simp only [zq1, zq2, zq3, Act.put, zq4, zq5, zq6])
    refine tc hSG 16 (v := .bool b3) rfl (by kernel_rfl) (fun _ _ _ h => h) (by rfl) ?_ hHeld ?_
    focus (intro wz hSw K hK; obtain ⟨z0, z1, z2, y0, y1, y2, s0, s1⟩ := hmv.out _ hSw; go_simp; go_at_call 42; refine (HBt3.out _).mono ?_; rintro e w2 ⟨rfl, hb2⟩; first | exact hK.out _ hb2 | (have h9 := hK.out _ hb2; (try simp only [zq1, zq2, zq3, Act.put, zq4, zq5, zq6] at h9 ⊢); exact h9) | (have h9 := hK.out _ hb2; go_simp; exact h9))
    (try simp only [zq1, zq2, zq3, Act.put, zq4, zq5, zq6])
    first
     | (refine tk hSG 17 (v := ?_) rfl (by kernel_rfl) (fun _ _ _ h => h) (by rfl) ?_ hHeld ?_; rotate_left; focus (intro w' hSw; obtain ⟨z0, z1, z2, y0, y1, y2, s0, s1⟩ := hmv.out _ hSw; go_simp; (try with_reducible rfl)))
     | refine tn hSG 17 rfl (by kernel_rfl) (fun _ _ _ h => h) (by rfl) hHeld ?_
    (try simp only [zq1, zq2, zq3, Act.put, zq4, zq5, zq6])
    first
     | (refine tk hSG 18 (v := ?_) rfl (by kernel_rfl) (fun _ _ _ h => h) (by rfl) ?_ hHeld ?_; rotate_left; focus (intro w' hSw; obtain ⟨z0, z1, z2, y0, y1, y2, s0, s1⟩ := hmv.out _ hSw; go_simp; (try with_reducible rfl)))
     | refine tn hSG 18 rfl (by kernel_rfl) (fun _ _ _ h => h) (by rfl) hHeld ?_
    (try simp only [zq1, zq2, zq3, Act.put, zq4, zq5, zq6])
    refine wpAnyG_done (by kernel_rfl) (fun w5 hgD => ?_) _
    have hg5 : Gr W5 w5 := (grDrew W5).tr hgD
    clear hgD hSG hHeld
    have HB6 := Lib.hid (Gr.tr HB5.out hg5)
    go_wp2
    go_ret
    exact ⟨retb hvH.out, HB6.out⟩
 ·have t12 : (x.op == 12) = false := by simp [h12]
  have h12H := Lib.hid h12
  clear h12
  obtain ⟨W5, hW5⟩ : ∃ W5, W5 = W4 := ⟨_, rfl⟩
  have HB5 : Hid (Gr w W5) := Lib.hid (by rw [hW5]; exact HB4)
  have HS5 : Hid (W5.heap[w.heap.size + 2]? = some (.cells #[.int .i64 0, .int .i64 0] 86 (0, 0))) := Lib.hid (by rw [hW5]; exact HS4)
  have HI5 : Hid (W5.heap[w.heap.size + 1]? = some (.cells #[.int .i64 x.op, .int .i64 x.n, .int .i64 x.r] 41 (0, 0))) := Lib.hid (by rw [hW5]; exact HI4)
  have HH5 : Hid (W5.heap[w.heap.size]? = some (.cells (hA ln (some ⟨g, o, none⟩) lc vars HA hl hc) 54 (0, 0))) := Lib.hid (by rw [hW5]; exact HH4)
  go_upto_region 5 with fail
  rw [← hW5]
  clear hW5 y0 y1 y2 t12
  obtain ⟨z0, z1, z2⟩ := cells3k HH5.out
  obtain ⟨y0, y1, y2⟩ := cells3k HI5.out
  obtain ⟨s0, s1⟩ := cells2k HS5.out
  rcases hb1 : btw2 x.op (1, 13) with _ | _
  ·have HBt1 := Lib.hid (fun wx => by have h := HBt.out wx x.op 1 13; rw [hb1] at h; exact h)
   have hvH := Lib.hid (show false = R by rw [← hRH.out, hb1]; rfl)
   refine wp_region_G (S := fun wq => Gr W5 wq) (by kernel_rfl) (grDrew _) (fun hHeld => ?_)
   have hSG : Hid (∀ wp wq : World, Gr W5 wp → Gr wp wq → Gr W5 wq) := Lib.hid (fun _ _ h k => h.tr k)
   have hmv := Lib.hid (fun (wq : World) (hq : Gr W5 wq) => And.intro (grCell hq z0) (And.intro (grCell hq z1) (And.intro (grCell hq z2) (And.intro (grCell hq y0) (And.intro (grCell hq y1) (And.intro (grCell hq y2) (And.intro (grCell hq s0) (grCell hq s1))))))))
   first
    | (refine tk hSG 0 (v := ?_) rfl (by kernel_rfl) (fun _ _ _ h => h) (by rfl) ?_ hHeld ?_; rotate_left; focus (intro w' hSw; obtain ⟨z0, z1, z2, y0, y1, y2, s0, s1⟩ := hmv.out _ hSw; go_simp; (try with_reducible rfl)))
    | refine tn hSG 0 rfl (by kernel_rfl) (fun _ _ _ h => h) (by rfl) hHeld ?_
   (try simp only [zq1, zq2, zq3, Act.put, zq4, zq5, zq6])
   first
    | (refine tk hSG 1 (v := ?_) rfl (by kernel_rfl) (fun _ _ _ h => h) (by rfl) ?_ hHeld ?_; rotate_left; focus (intro w' hSw; obtain ⟨z0, z1, z2, y0, y1, y2, s0, s1⟩ := hmv.out _ hSw; go_simp; (try with_reducible rfl)))
    | refine tn hSG 1 rfl (by kernel_rfl) (fun _ _ _ h => h) (by rfl) hHeld ?_
   (try simp only [zq1, zq2, zq3, Act.put, zq4, zq5, zq6])
   first
    | (refine tk hSG 2 (v := ?_) rfl (by kernel_rfl) (fun _ _ _ h => h) (by rfl) ?_ hHeld ?_; rotate_left; focus (intro w' hSw; obtain ⟨z0, z1, z2, y0, y1, y2, s0, s1⟩ := hmv.out _ hSw; go_simp; (try with_reducible rfl)))
    | refine tn hSG 2 rfl (by kernel_rfl) (fun _ _ _ h => h) (by rfl) hHeld ?_
   (try simp only [zq1, zq2, zq3, Act.put, zq4, zq5, zq6])
   refine tc hSG 3 (v := .bool false) rfl (by kernel_rfl) (fun _ _ _ h => h) (by rfl) ?_ hHeld ?_
   focus (intro wz hSw K hK; obtain ⟨z0, z1, z2, y0, y1, y2, s0, s1⟩ := hmv.out _ hSw; go_simp; go_at_call 42; refine (HBt1.out _).mono ?_; rintro e w2 ⟨rfl, hb2⟩; first | exact hK.out _ hb2 | (have h9 := hK.out _ hb2; (try simp only [zq1, zq2, zq3, Act.put, zq4, zq5, zq6] at h9 ⊢); exact h9) | (have h9 := hK.out _ hb2; go_simp; exact h9))
   (try simp only [zq1, zq2, zq3, Act.put, zq4, zq5, zq6])
   first
    | (refine tk hSG 4 (v := ?_) rfl (by kernel_rfl) (fun _ _ _ h => h) (by rfl) ?_ hHeld ?_; rotate_left; focus (intro w' hSw; obtain ⟨z0, z1, z2, y0, y1, y2, s0, s1⟩ := hmv.out _ hSw; go_simp; (try with_reducible rfl)))
    | refine tn hSG 4 rfl (by kernel_rfl) (fun _ _ _ h => h) (by rfl) hHeld ?_
   (try simp only [zq1, zq2, zq3, Act.put, zq4, zq5, zq6])
   first
    | (refine tk hSG 5 (v := ?_) rfl (by kernel_rfl) (fun _ _ _ h => h) (by rfl) ?_ hHeld ?_; rotate_left; focus (intro w' hSw; obtain ⟨z0, z1, z2, y0, y1, y2, s0, s1⟩ := hmv.out _ hSw; go_simp; (try with_reducible rfl)))
    | refine tn hSG 5 rfl (by kernel_rfl) (fun _ _ _ h => h) (by rfl) hHeld ?_
   (try simp only [zq1, zq2, zq3, Act.put, zq4, zq5, zq6])
   first
    | (refine tk hSG 6 (v := ?_) rfl (by kernel_rfl) (fun _ _ _ h => h) (by rfl) ?_ hHeld ?_; rotate_left; focus (intro w' hSw; obtain ⟨z0, z1, z2, y0, y1, y2, s0, s1⟩ := hmv.out _ hSw; go_simp; (try with_reducible rfl)))
    | refine tn hSG 6 rfl (by kernel_rfl) (fun _ _ _ h => h) (by rfl) hHeld ?_
   (try simp only [zq1, zq2, zq3, Act.put, zq4, zq5, zq6])
   first
    | (refine tk hSG 7 (v := ?_) rfl (by kernel_rfl) (fun _ _ _ h => h) (by rfl) ?_ hHeld ?_; rotate_left; focus (intro w' hSw; obtain ⟨z0, z1, z2, y0, y1, y2, s0, s1⟩ := hmv.out _ hSw; go_simp; (try with_reducible rfl)))
    | refine tn hSG 7 rfl (by kernel_rfl) (fun _ _ _ h => h) (by rfl) hHeld ?_
   (try simp only [zq1, zq2, zq3, Act.put, zq4, zq5, zq6])
   first
    | (refine tk hSG 8 (v := ?_) rfl (by kernel_rfl) (fun _ _ _ h => h) (by rfl) ?_ hHeld ?_; rotate_left; focus (intro w' hSw; obtain ⟨z0, z1, z2, y0, y1, y2, s0, s1⟩ := hmv.out _ hSw; go_simp; (try with_reducible rfl)))
    | refine tn hSG 8 rfl (by kernel_rfl) (fun _ _ _ h => h) (by rfl) hHeld ?_
   (try simp only [zq1, zq2, zq3, Act.put, zq4, zq5, zq6])
   first
    | (refine tk hSG 9 (v := ?_) rfl (by kernel_rfl) (fun _ _ _ h => h) (by rfl) ?_ hHeld ?_; rotate_left; focus (intro w' hSw; obtain ⟨z0, z1, z2, y0, y1, y2, s0, s1⟩ := hmv.out _ hSw; go_simp; (try with_reducible rfl)))
    | refine tn hSG 9 rfl (by kernel_rfl) (fun _ _ _ h => h) (by rfl) hHeld ?_
   (try simp only [zq1, zq2, zq3, Act.put, zq4, zq5, zq6])
   first
    | (refine tk hSG 10 (v := ?_) rfl (by kernel_rfl) (fun _ _ _ h => h) (by rfl) ?_ hHeld ?_; rotate_left; focus (intro w' hSw; obtain ⟨z0, z1, z2, y0, y1, y2, s0, s1⟩ := hmv.out _ hSw; go_simp; (try with_reducible rfl)))
    | refine tn hSG 10 rfl (by kernel_rfl) (fun _ _ _ h => h) (by rfl) hHeld ?_
   (try simp only [zq1, zq2, zq3, Act.put, zq4, zq5, zq6])
   first
    | (refine tk hSG 11 (v := ?_) rfl (by kernel_rfl) (fun _ _ _ h => h) (by rfl) ?_ hHeld ?_; rotate_left; focus (intro w' hSw; obtain ⟨z0, z1, z2, y0, y1, y2, s0, s1⟩ := hmv.out _ hSw; go_simp; (try with_reducible rfl)))
    | refine tn hSG 11 rfl (by kernel_rfl) (fun _ _ _ h => h) (by rfl) hHeld ?_
   (try simp only [zq1, zq2, zq3, Act.put, zq4, zq5, zq6])
   first
    | (refine tk hSG 12 (v := ?_) rfl (by kernel_rfl) (fun _ _ _ h => h) (by rfl) ?_ hHeld ?_; rotate_left; focus (intro w' hSw; obtain ⟨z0, z1, z2, y0, y1, y2, s0, s1⟩ := hmv.out _ hSw; go_simp; (try with_reducible rfl)))
    | refine tn hSG 12 rfl (by kernel_rfl) (fun _ _ _ h => h) (by rfl) hHeld ?_
   (try simp only [zq1, zq2, zq3, Act.put, zq4, zq5, zq6])
   first
    | (refine tk hSG 13 (v := ?_) rfl (by kernel_rfl) (fun _ _ _ h => h) (by rfl) ?_ hHeld ?_; rotate_left; focus (intro w' hSw; obtain ⟨z0, z1, z2, y0, y1, y2, s0, s1⟩ := hmv.out _ hSw; go_simp; (try with_reducible rfl)))
    | refine tn hSG 13 rfl (by kernel_rfl) (fun _ _ _ h => h) (by rfl) hHeld ?_
   (try simp only [zq1, zq2, zq3, Act.put, zq4, zq5, zq6])
   first
    | (refine tk hSG 14 (v := ?_) rfl (by kernel_rfl) (fun _ _ _ h => h) (by rfl) ?_ hHeld ?_; rotate_left; focus (intro w' hSw; obtain ⟨z0, z1, z2, y0, y1, y2, s0, s1⟩ := hmv.out _ hSw; go_simp; (try with_reducible rfl)))
    | refine tn hSG 14 rfl (by kernel_rfl) (fun _ _ _ h => h) (by rfl) hHeld ?_
   (try simp only [zq1, zq2, zq3, Act.put, zq4, zq5, zq6])
   first
    | (refine tk hSG 15 (v := ?_) rfl (by kernel_rfl) (fun _ _ _ h => h) (by rfl) ?_ hHeld ?_; rotate_left; focus (intro w' hSw; obtain ⟨z0, z1, z2, y0, y1, y2, s0, s1⟩ := hmv.out _ hSw; go_simp; (try with_reducible rfl)))
    | refine tn hSG 15 rfl (by kernel_rfl) (fun _ _ _ h => h) (by rfl) hHeld ?_
   (try simp only [zq1, zq2, zq3, Act.put, zq4, zq5, zq6])
   first
    | (refine tk hSG 16 (v := ?_) rfl (by kernel_rfl) (fun _ _ _ h => h) (by rfl) ?_ hHeld ?_; rotate_left; focus (intro w' hSw; obtain ⟨z0, z1, z2, y0, y1, y2, s0, s1⟩ := hmv.out _ hSw; go_simp; (try with_reducible rfl)))
    | refine tn hSG 16 rfl (by kernel_rfl) (fun _ _ _ h => h) (by rfl) hHeld ?_
   (try simp only [zq1, zq2, zq3, Act.put, zq4, zq5, zq6])
   first
    | (refine tk hSG 17 (v := ?_) rfl (by kernel_rfl) (fun _ _ _ h => h) (by rfl) ?_ hHeld ?_; rotate_left; focus (intro w' hSw; obtain ⟨z0, z1, z2, y0, y1, y2, s0, s1⟩ := hmv.out _ hSw; go_simp; (try with_reducible rfl)))
    | refine tn hSG 17 rfl (by kernel_rfl) (fun _ _ _ h => h) (by rfl) hHeld ?_
   (try simp only [zq1, zq2, zq3, Act.put, zq4, zq5, zq6])
   first
    | (refine tk hSG 18 (v := ?_) rfl (by kernel_rfl) (fun _ _ _ h => h) (by rfl) ?_ hHeld ?_; rotate_left; focus (intro w' hSw; obtain ⟨z0, z1, z2, y0, y1, y2, s0, s1⟩ := hmv.out _ hSw; go_simp; (try with_reducible rfl)))
    | refine tn hSG 18 rfl (by kernel_rfl) (fun _ _ _ h => h) (by rfl) hHeld ?_
   (try simp only [zq1, zq2, zq3, Act.put, zq4, zq5, zq6])
   refine wpAnyG_done (by kernel_rfl) (fun w5 hgD => ?_) _
   have hg5 : Gr W5 w5 := (grDrew W5).tr hgD
   clear hgD hSG hHeld
   have HB6 := Lib.hid (Gr.tr HB5.out hg5)
   go_wp2
   go_ret
   exact ⟨retb hvH.out, HB6.out⟩
  ·have HBt1 := Lib.hid (fun wx => by have h := HBt.out wx x.op 1 13; rw [hb1] at h; exact h)
   rcases hb2 : btw2 x.n (rl, rh) with _ | _
   ·have HBt2 := Lib.hid (fun wx => by have h := HBt.out wx x.n rl rh; rw [hb2] at h; exact h)
    have hvH := Lib.hid (show false = R by rw [← hRH.out, hb1, hb2]; rfl)
    refine wp_region_G (S := fun wq => Gr W5 wq) (by kernel_rfl) (grDrew _) (fun hHeld => ?_)
    have hSG : Hid (∀ wp wq : World, Gr W5 wp → Gr wp wq → Gr W5 wq) := Lib.hid (fun _ _ h k => h.tr k)
    have hmv := Lib.hid (fun (wq : World) (hq : Gr W5 wq) => And.intro (grCell hq z0) (And.intro (grCell hq z1) (And.intro (grCell hq z2) (And.intro (grCell hq y0) (And.intro (grCell hq y1) (And.intro (grCell hq y2) (And.intro (grCell hq s0) (grCell hq s1))))))))
    first
     | (refine tk hSG 0 (v := ?_) rfl (by kernel_rfl) (fun _ _ _ h => h) (by rfl) ?_ hHeld ?_; rotate_left; focus (intro w' hSw; obtain ⟨z0, z1, z2, y0, y1, y2, s0, s1⟩ := hmv.out _ hSw; go_simp; (try with_reducible rfl)))
     | refine tn hSG 0 rfl (by kernel_rfl) (fun _ _ _ h => h) (by rfl) hHeld ?_
    (try simp only [zq1, zq2, zq3, Act.put, zq4, zq5, zq6])
    first
     | (refine tk hSG 1 (v := ?_) rfl (by kernel_rfl) (fun _ _ _ h => h) (by rfl) ?_ hHeld ?_; rotate_left; focus (intro w' hSw; obtain ⟨z0, z1, z2, y0, y1, y2, s0, s1⟩ := hmv.out _ hSw; go_simp; (try with_reducible rfl)))
     | refine tn hSG 1 rfl (by kernel_rfl) (fun _ _ _ h => h) (by rfl) hHeld ?_
    (try simp only [zq1, zq2, zq3, Act.put, zq4, zq5, zq6])
    first
     | (refine tk hSG 2 (v := ?_) rfl (by kernel_rfl) (fun _ _ _ h => h) (by rfl) ?_ hHeld ?_; rotate_left; focus (intro w' hSw; obtain ⟨z0, z1, z2, y0, y1, y2, s0, s1⟩ := hmv.out _ hSw; go_simp; (try with_reducible rfl)))
     | refine tn hSG 2 rfl (by kernel_rfl) (fun _ _ _ h => h) (by rfl) hHeld ?_
    (try simp only [zq1, zq2, zq3, Act.put, zq4, zq5, zq6])
    refine tc hSG 3 (v := .bool true) rfl (by kernel_rfl) (fun _ _ _ h => h) (by rfl) ?_ hHeld ?_
    focus (intro wz hSw K hK; obtain ⟨z0, z1, z2, y0, y1, y2, s0, s1⟩ := hmv.out _ hSw; go_simp; go_at_call 42; refine (HBt1.out _).mono ?_; rintro e w2 ⟨rfl, hb2⟩; first | exact hK.out _ hb2 | (have h9 := hK.out _ hb2; (try simp only [zq1, zq2, zq3, Act.put, zq4, zq5, zq6] at h9 ⊢); exact h9) | (have h9 := hK.out _ hb2; go_simp; exact h9))
    (try simp only [zq1, zq2, zq3, Act.put, zq4, zq5, zq6])
    first
     | (refine tk hSG 4 (v := ?_) rfl (by kernel_rfl) (fun _ _ _ h => h) (by rfl) ?_ hHeld ?_; rotate_left; focus (intro w' hSw; obtain ⟨z0, z1, z2, y0, y1, y2, s0, s1⟩ := hmv.out _ hSw; go_simp; (try with_reducible rfl)))
     | refine tn hSG 4 rfl (by kernel_rfl) (fun _ _ _ h => h) (by rfl) hHeld ?_
    (try simp only [zq1, zq2, zq3, Act.put, zq4, zq5, zq6])
    first
     | (refine tk hSG 5 (v := ?_) rfl (by kernel_rfl) (fun _ _ _ h => h) (by rfl) ?_ hHeld ?_; rotate_left; focus (intro w' hSw; obtain ⟨z0, z1, z2, y0, y1, y2, s0, s1⟩ := hmv.out _ hSw; go_simp; (try with_reducible rfl)))
     | refine tn hSG 5 rfl (by kernel_rfl) (fun _ _ _ h => h) (by rfl) hHeld ?_
    (try simp only [zq1, zq2, zq3, Act.put, zq4, zq5, zq6])
    first
     | (refine tk hSG 6 (v := ?_) rfl (by kernel_rfl) (fun _ _ _ h => h) (by rfl) ?_ hHeld ?_; rotate_left; focus (intro w' hSw; obtain ⟨z0, z1, z2, y0, y1, y2, s0, s1⟩ := hmv.out _ hSw; go_simp; (try with_reducible rfl)))
     | refine tn hSG 6 rfl (by kernel_rfl) (fun _ _ _ h => h) (by rfl) hHeld ?_
    (try simp only [zq1, zq2, zq3, Act.put, zq4, zq5, zq6])
    first
     | (refine tk hSG 7 (v := ?_) rfl (by kernel_rfl) (fun _ _ _ h => h) (by rfl) ?_ hHeld ?_; rotate_left; focus (intro w' hSw; obtain ⟨z0, z1, z2, y0, y1, y2, s0, s1⟩ := hmv.out _ hSw; go_simp; (try with_reducible rfl)))
     | refine tn hSG 7 rfl (by kernel_rfl) (fun _ _ _ h => h) (by rfl) hHeld ?_
    (try simp only [zq1, zq2, zq3, Act.put, zq4, zq5, zq6])
    first
     | (refine tk hSG 8 (v := ?_) rfl (by kernel_rfl) (fun _ _ _ h => h) (by rfl) ?_ hHeld ?_; rotate_left; focus (intro w' hSw; obtain ⟨z0, z1, z2, y0, y1, y2, s0, s1⟩ := hmv.out _ hSw; go_simp; (try with_reducible rfl)))
     | refine tn hSG 8 rfl (by kernel_rfl) (fun _ _ _ h => h) (by rfl) hHeld ?_
    (try simp only [zq1, zq2, zq3, Act.put, zq4, zq5, zq6])
    refine tc hSG 9 (v := .agg #[.int .i64 rl, .int .i64 rh]) rfl (by kernel_rfl) (fun _ _ _ h => h) (by rfl) ?_ hHeld ?_
    focus (intro wz hSw K hK; obtain ⟨z0, z1, z2, y0, y1, y2, s0, s1⟩ := hmv.out _ hSw; go_simp; go_at_call 43; refine (HN.out _ (Gr.tr HB5.out hSw)).mono ?_; rintro e w2 ⟨rfl, hb2⟩; first | exact hK.out _ hb2 | (have h9 := hK.out _ hb2; (try simp only [zq1, zq2, zq3, Act.put, zq4, zq5, zq6] at h9 ⊢); exact h9) | (have h9 := hK.out _ hb2; go_simp; exact h9))
    (try simp only [zq1, zq2, zq3, Act.put, zq4, zq5, zq6])
    refine tc hSG 10 (v := .bool false) rfl (by kernel_rfl) (fun _ _ _ h => h) (by rfl) ?_ hHeld ?_
    focus (intro wz hSw K hK; obtain ⟨z0, z1, z2, y0, y1, y2, s0, s1⟩ := hmv.out _ hSw; go_simp; go_at_call 42; refine (HBt2.out _).mono ?_; rintro e w2 ⟨rfl, hb2⟩; first | exact hK.out _ hb2 | (have h9 := hK.out _ hb2; (try simp only [zq1, zq2, zq3, Act.put, zq4, zq5, zq6] at h9 ⊢); exact h9) | (have h9 := hK.out _ hb2; go_simp; exact h9))
    (try simp only [zq1, zq2, zq3, Act.put, zq4, zq5, zq6])
    first
     | (refine tk hSG 11 (v := ?_) rfl (by kernel_rfl) (fun _ _ _ h => h) (by rfl) ?_ hHeld ?_; rotate_left; focus (intro w' hSw; obtain ⟨z0, z1, z2, y0, y1, y2, s0, s1⟩ := hmv.out _ hSw; go_simp; (try with_reducible rfl)))
     | refine tn hSG 11 rfl (by kernel_rfl) (fun _ _ _ h => h) (by rfl) hHeld ?_
    (try simp only [zq1, zq2, zq3, Act.put, zq4, zq5, zq6])
    first
     | (refine tk hSG 12 (v := ?_) rfl (by kernel_rfl) (fun _ _ _ h => h) (by rfl) ?_ hHeld ?_; rotate_left; focus (intro w' hSw; obtain ⟨z0, z1, z2, y0, y1, y2, s0, s1⟩ := hmv.out _ hSw; go_simp; (try with_reducible rfl)))
     | refine tn hSG 12 rfl (by kernel_rfl) (fun _ _ _ h => h) (by rfl) hHeld ?_
    (try simp only [zq1, zq2, zq3, Act.put, zq4, zq5, zq6])
    first
     | (refine tk hSG 13 (v := ?_) rfl (by kernel_rfl) (fun _ _ _ h => h) (by rfl) ?_ hHeld ?_; rotate_left; focus (intro w' hSw; obtain ⟨z0, z1, z2, y0, y1, y2, s0, s1⟩ := hmv.out _ hSw; go_simp; (try with_reducible rfl)))
     | refine tn hSG 13 rfl (by kernel_rfl) (fun _ _ _ h => h) (by rfl) hHeld ?_
    (try simp only [zq1, zq2, zq3, Act.put, zq4, zq5, zq6])
    first
     | (refine tk hSG 14 (v := ?_) rfl (by kernel_rfl) (fun _ _ _ h => h) (by rfl) ?_ hHeld ?_; rotate_left; focus (intro w' hSw; obtain ⟨z0, z1, z2, y0, y1, y2, s0, s1⟩ := hmv.out _ hSw; go_simp; (try with_reducible rfl)))
     | refine tn hSG 14 rfl (by kernel_rfl) (fun _ _ _ h => h) (by rfl) hHeld ?_
    (try simp only [zq1, zq2, zq3, Act.put, zq4, zq5, zq6])
    first
     | (refine tk hSG 15 (v := ?_) rfl (by kernel_rfl) (fun _ _ _ h => h) (by rfl) ?_ hHeld ?_; rotate_left; focus (intro w' hSw; obtain ⟨z0, z1, z2, y0, y1, y2, s0, s1⟩ := hmv.out _ hSw; go_simp; (try with_reducible rfl)))
     | refine tn hSG 15 rfl (by kernel_rfl) (fun _ _ _ h => h) (by rfl) hHeld ?_
    (try simp only [zq1, zq2, zq3, Act.put, zq4, zq5, zq6])
    first
     | (refine tk hSG 16 (v := ?_) rfl (by kernel_rfl) (fun _ _ _ h => h) (by rfl) ?_ hHeld ?_; rotate_left; focus (intro w' hSw; obtain ⟨z0, z1, z2, y0, y1, y2, s0, s1⟩ := hmv.out _ hSw; go_simp; (try with_reducible rfl)))
     | refine tn hSG 16 rfl (by kernel_rfl) (fun _ _ _ h => h) (by rfl) hHeld ?_
    (try simp only [zq1, zq2, zq3, Act.put, zq4, zq5, zq6])
    first
     | (refine tk hSG 17 (v := ?_) rfl (by kernel_rfl) (fun _ _ _ h => h) (by rfl) ?_ hHeld ?_; rotate_left; focus (intro w' hSw; obtain ⟨z0, z1, z2, y0, y1, y2, s0, s1⟩ := hmv.out _ hSw; go_simp; (try with_reducible rfl)))
     | refine tn hSG 17 rfl (by kernel_rfl) (fun _ _ _ h => h) (by rfl) hHeld ?_
    (try simp only [zq1, zq2, zq3, Act.put, zq4, zq5, zq6])
    first
     | (refine tk hSG 18 (v := ?_) rfl (by kernel_rfl) (fun _ _ _ h => h) (by rfl) ?_ hHeld ?_; rotate_left; focus (intro w' hSw; obtain ⟨z0, z1, z2, y0, y1, y2, s0, s1⟩ := hmv.out _ hSw; go_simp; (try with_reducible rfl)))
     | refine tn hSG 18 rfl (by kernel_rfl) (fun _ _ _ h => h) (by rfl) hHeld ?_
    (try simp only [zq1, zq2, zq3, Act.put, zq4, zq5, zq6])
    refine wpAnyG_done (by kernel_rfl) (fun w5 hgD => ?_) _
    have hg5 : Gr W5 w5 := (grDrew W5).tr hgD
    clear hgD hSG hHeld
    have HB6 := Lib.hid (Gr.tr HB5.out hg5)
    go_wp2
    go_ret
    exact ⟨retb hvH.out, HB6.out⟩
   ·have HBt2 := Lib.hid (fun wx => by have h := HBt.out wx x.n rl rh; rw [hb2] at h; exact h)
    obtain ⟨b3, hb3⟩ : ∃ b3, btw2 x.r (0, 0) = b3 := ⟨_, rfl⟩
    have HBt3 := Lib.hid (fun wx => by have h := HBt.out wx x.r 0 0; rw [hb3] at h; exact h)
    have hvH := Lib.hid (show b3 = R by rw [← hRH.out, hb1, hb2, if_neg h12H.out, hb3]; rfl)
    refine wp_region_G (S := fun wq => Gr W5 wq) (by kernel_rfl) (grDrew _) (fun hHeld => ?_)
    have hSG : Hid (∀ wp wq : World, Gr W5 wp → Gr wp wq → Gr W5 wq) := Lib.hid (fun _ _ h k => h.tr k)
    have hmv := Lib.hid (fun (wq : World) (hq : Gr W5 wq) => And.intro (grCell hq z0) (And.intro (grCell hq z1) (And.intro (grCell hq z2) (And.intro (grCell hq y0) (And.intro (grCell hq y1) (And.intro (grCell hq y2) (And.intro (grCell hq s0) (grCell hq s1))))))))
    first
     | (refine tk hSG 0 (v := ?_) rfl (by kernel_rfl) (fun _ _ _ h => h) (by rfl) ?_ hHeld ?_; rotate_left; focus (intro w' hSw; obtain ⟨z0, z1, z2, y0, y1, y2, s0, s1⟩ := hmv.out _ hSw; go_simp; (try with_reducible rfl)))
     | refine tn hSG 0 rfl (by kernel_rfl) (fun _ _ _ h => h) (by rfl) hHeld ?_
    (try simp only [zq1, zq2, zq3, Act.put, zq4, zq5, zq6])
    first
     | (refine tk hSG 1 (v := ?_) rfl (by kernel_rfl) (fun _ _ _ h => h) (by rfl) ?_ hHeld ?_; rotate_left; focus (intro w' hSw; obtain ⟨z0, z1, z2, y0, y1, y2, s0, s1⟩ := hmv.out _ hSw; go_simp; (try with_reducible rfl)))
     | refine tn hSG 1 rfl (by kernel_rfl) (fun _ _ _ h => h) (by rfl) hHeld ?_
    (try simp only [zq1, zq2, zq3, Act.put, zq4, zq5, zq6])
    first
     | (refine tk hSG 2 (v := ?_) rfl (by kernel_rfl) (fun _ _ _ h => h) (by rfl) ?_ hHeld ?_; rotate_left; focus (intro w' hSw; obtain ⟨z0, z1, z2, y0, y1, y2, s0, s1⟩ := hmv.out _ hSw; go_simp; (try with_reducible rfl)))
     | refine tn hSG 2 rfl (by kernel_rfl) (fun _ _ _ h => h) (by rfl) hHeld ?_
    (try simp only [zq1, zq2, zq3, Act.put, zq4, zq5, zq6])
    refine tc hSG 3 (v := .bool true) rfl (by kernel_rfl) (fun _ _ _ h => h) (by rfl) ?_ hHeld ?_
    focus (intro wz hSw K hK; obtain ⟨z0, z1, z2, y0, y1, y2, s0, s1⟩ := hmv.out _ hSw; go_simp; go_at_call 42; refine (HBt1.out _).mono ?_; rintro e w2 ⟨rfl, hb2⟩; first | exact hK.out _ hb2 | (have h9 := hK.out _ hb2; (try simp only [zq1, zq2, zq3, Act.put, zq4, zq5, zq6] at h9 ⊢); exact h9) | (have h9 := hK.out _ hb2; go_simp; exact h9))
    (try simp only [zq1, zq2, zq3, Act.put, zq4, zq5, zq6])
    first
     | (refine tk hSG 4 (v := ?_) rfl (by kernel_rfl) (fun _ _ _ h => h) (by rfl) ?_ hHeld ?_; rotate_left; focus (intro w' hSw; obtain ⟨z0, z1, z2, y0, y1, y2, s0, s1⟩ := hmv.out _ hSw; go_simp; (try with_reducible rfl)))
     | refine tn hSG 4 rfl (by kernel_rfl) (fun _ _ _ h => h) (by rfl) hHeld ?_
    (try simp only [zq1, zq2, zq3, Act.put, zq4, zq5, zq6])
    first
     | (refine tk hSG 5 (v := ?_) rfl (by kernel_rfl) (fun _ _ _ h => h) (by rfl) ?_ hHeld ?_; rotate_left; focus (intro w' hSw; obtain ⟨z0, z1, z2, y0, y1, y2, s0, s1⟩ := hmv.out _ hSw; go_simp; (try with_reducible rfl)))
     | refine tn hSG 5 rfl (by kernel_rfl) (fun _ _ _ h => h) (by rfl) hHeld ?_
    (try simp only [zq1, zq2, zq3, Act.put, zq4, zq5, zq6])
    first
     | (refine tk hSG 6 (v := ?_) rfl (by kernel_rfl) (fun _ _ _ h => h) (by rfl) ?_ hHeld ?_; rotate_left; focus (intro w' hSw; obtain ⟨z0, z1, z2, y0, y1, y2, s0, s1⟩ := hmv.out _ hSw; go_simp; (try with_reducible rfl)))
     | refine tn hSG 6 rfl (by kernel_rfl) (fun _ _ _ h => h) (by rfl) hHeld ?_
    (try simp only [zq1, zq2, zq3, Act.put, zq4, zq5, zq6])
    first
     | (refine tk hSG 7 (v := ?_) rfl (by kernel_rfl) (fun _ _ _ h => h) (by rfl) ?_ hHeld ?_; rotate_left; focus (intro w' hSw; obtain ⟨z0, z1, z2, y0, y1, y2, s0, s1⟩ := hmv.out _ hSw; go_simp; (try with_reducible rfl)))
     | refine tn hSG 7 rfl (by kernel_rfl) (fun _ _ _ h => h) (by rfl) hHeld ?_
    (try simp only [zq1, zq2, zq3, Act.put, zq4, zq5, zq6])
    first
     | (refine tk hSG 8 (v := ?_) rfl (by kernel_rfl) (fun _ _ _ h => h) (by rfl) ?_ hHeld ?_; rotate_left; focus (intro w' hSw; obtain ⟨z0, z1, z2, y0, y1, y2, s0, s1⟩ := hmv.out _ hSw; go_simp; (try with_reducible rfl)))
     | refine tn hSG 8 rfl (by kernel_rfl) (fun _ _ _ h => h) (by rfl) hHeld ?_
    (try simp only [zq1, zq2, zq3, Act.put, zq4, zq5, zq6])
    refine tc hSG 9 (v := .agg #[.int .i64 rl, .int .i64 rh]) rfl (by kernel_rfl) (fun _ _ _ h => h) (by rfl) ?_ hHeld ?_
    focus (intro wz hSw K hK; obtain ⟨z0, z1, z2, y0, y1, y2, s0, s1⟩ := hmv.out _ hSw; go_simp; go_at_call 43; refine (HN.out _ (Gr.tr HB5.out hSw)).mono ?_; rintro e w2 ⟨rfl, hb2⟩; first | exact hK.out _ hb2 | (have h9 := hK.out _ hb2; (try simp only [zq1, zq2, zq3, Act.put, zq4, zq5, zq6] at h9 ⊢); exact h9) | (have h9 := hK.out _ hb2; go_simp; exact h9))
    (try simp only [zq1, zq2, zq3, Act.put, zq4, zq5, zq6])
    refine tc hSG 10 (v := .bool true) rfl (by kernel_rfl) (fun _ _ _ h => h) (by rfl) ?_ hHeld ?_
    focus (intro wz hSw K hK; obtain ⟨z0, z1, z2, y0, y1, y2, s0, s1⟩ := hmv.out _ hSw; go_simp; go_at_call 42; refine (HBt2.out _).mono ?_; rintro e w2 ⟨rfl, hb2⟩; first | exact hK.out _ hb2 | (have h9 := hK.out _ hb2; (try simp only [zq1, zq2, zq3, Act.put, zq4, zq5, zq6] at h9 ⊢); exact h9) | (have h9 := hK.out _ hb2; go_simp; exact h9))
    (try simp only [zq1, zq2, zq3, Act.put, zq4, zq5, zq6])
    first
     | (refine tk hSG 11 (v := ?_) rfl (by kernel_rfl) (fun _ _ _ h => h) (by rfl) ?_ hHeld ?_; rotate_left; focus (intro w' hSw; obtain ⟨z0, z1, z2, y0, y1, y2, s0, s1⟩ := hmv.out _ hSw; go_simp; (try with_reducible rfl)))
     | refine tn hSG 11 rfl (by kernel_rfl) (fun _ _ _ h => h) (by rfl) hHeld ?_
    (try simp only [zq1, zq2, zq3, Act.put, zq4, zq5, zq6])
    first
     | (refine tk hSG 12 (v := ?_) rfl (by kernel_rfl) (fun _ _ _ h => h) (by rfl) ?_ hHeld ?_; rotate_left; focus (intro w' hSw; obtain ⟨z0, z1, z2, y0, y1, y2, s0, s1⟩ := hmv.out _ hSw; go_simp; (try with_reducible rfl)))
     | refine tn hSG 12 rfl (by kernel_rfl) (fun _ _ _ h => h) (by rfl) hHeld ?_
    (try simp only [zq1, zq2, zq3, Act.put, zq4, zq5, zq6])
    first
     | (refine tk hSG 13 (v := ?_) rfl (by kernel_rfl) (fun _ _ _ h => h) (by rfl) ?_ hHeld ?_; rotate_left; focus (intro w' hSw; obtain ⟨z0, z1, z2, y0, y1, y2, s0, s1⟩ := hmv.out _ hSw; go_simp; (try with_reducible rfl)))
     | refine tn hSG 13 rfl (by kernel_rfl) (fun _ _ _ h => h) (by rfl) hHeld ?_
    (try simp only [zq1, zq2, zq3, Act.put, zq4, zq5, zq6])
    first
     | (refine tk hSG 14 (v := ?_) rfl (by kernel_rfl) (fun _ _ _ h => h) (by rfl) ?_ hHeld ?_; rotate_left; focus (intro w' hSw; obtain ⟨z0, z1, z2, y0, y1, y2, s0, s1⟩ := hmv.out _ hSw; go_simp; (try with_reducible rfl)))
     | refine tn hSG 14 rfl (by kernel_rfl) (fun _ _ _ h => h) (by rfl) hHeld ?_
    (try simp only [zq1, zq2, zq3, Act.put, zq4, zq5, zq6])
    first
     | (refine tk hSG 15 (v := ?_) rfl (by kernel_rfl) (fun _ _ _ h => h) (by rfl) ?_ hHeld ?_; rotate_left; focus (intro w' hSw; obtain ⟨z0, z1, z2, y0, y1, y2, s0, s1⟩ := hmv.out _ hSw; go_simp; (try with_reducible rfl)))
     | refine tn hSG 15 rfl (by kernel_rfl) (fun _ _ _ h => h) (by rfl) hHeld ?_
    (try simp only [zq1, zq2, zq3, Act.put, zq4, zq5, zq6])
    refine tc hSG 16 (v := .bool b3) rfl (by kernel_rfl) (fun _ _ _ h => h) (by rfl) ?_ hHeld ?_
    focus (intro wz hSw K hK; obtain ⟨z0, z1, z2, y0, y1, y2, s0, s1⟩ := hmv.out _ hSw; go_simp; go_at_call 42; refine (HBt3.out _).mono ?_; rintro e w2 ⟨rfl, hb2⟩; first | exact hK.out _ hb2 | (have h9 := hK.out _ hb2; (try simp only [zq1, zq2, zq3, Act.put, zq4, zq5, zq6] at h9 ⊢); exact h9) | (have h9 := hK.out _ hb2; go_simp; exact h9))
    (try simp only [zq1, zq2, zq3, Act.put, zq4, zq5, zq6])
    first
     | (refine tk hSG 17 (v := ?_) rfl (by kernel_rfl) (fun _ _ _ h => h) (by rfl) ?_ hHeld ?_; rotate_left; focus (intro w' hSw; obtain ⟨z0, z1, z2, y0, y1, y2, s0, s1⟩ := hmv.out _ hSw; go_simp; (try with_reducible rfl)))
     | refine tn hSG 17 rfl (by kernel_rfl) (fun _ _ _ h => h) (by rfl) hHeld ?_
    (try simp only [zq1, zq2, zq3, Act.put, zq4, zq5, zq6])
    first
     | (refine tk hSG 18 (v := ?_) rfl (by kernel_rfl) (fun _ _ _ h => h) (by rfl) ?_ hHeld ?_; rotate_left; focus (intro w' hSw; obtain ⟨z0, z1, z2, y0, y1, y2, s0, s1⟩ := hmv.out _ hSw; go_simp; (try with_reducible rfl)))
     | refine tn hSG 18 rfl (by kernel_rfl) (fun _ _ _ h => h) (by rfl) hHeld ?_
    (try simp only [zq1, zq2, zq3, Act.put, zq4, zq5, zq6])
    refine wpAnyG_done (by kernel_rfl) (fun w5 hgD => ?_) _
    have hg5 : Gr W5 w5 := (grDrew W5).tr hgD
    clear hgD hSG hHeld
    have HB6 := Lib.hid (Gr.tr HB5.out hg5)
    go_wp2
    go_ret
    exact ⟨retb hvH.out, HB6.out⟩
end K
end Go.Proofs.YtljknappbnoikaaGreatDoor
