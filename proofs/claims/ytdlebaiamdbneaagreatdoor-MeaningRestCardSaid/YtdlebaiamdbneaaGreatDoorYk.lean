/- Texts of one proof: MxL. -/
import Derived.Test.YtdlebaiamdbneaaGreatDoorYj
set_option linter.unusedVariables false
set_option linter.unusedSimpArgs false
set_option maxRecDepth 100000
set_option maxHeartbeats 8000000
namespace Go.Proofs.YtdlebaiamdbneaaGreatDoor
open Go.RowKit
namespace M
open I
open U (Ex St StsR btw btw_iff ev eArr KidsE newBlk blkLt Vr VarsR VrAt KpL)
open R (epanic bAllocX insR LeftP erOf cell1 limS WfL)
def LaidI (w : World) : Prop := ∀ (k : Nat) (s : Sp), insR[k]? = some s → w.cell? ⟨0, k * 2, none⟩ = some (.int .i64 s.lo) ∧ w.cell? ⟨0, k * 2 + 1, none⟩ = some (.int .i64 s.hi)
theorem LaidI.gr {w w' : World} (h : LaidI w) (hg : Gr w w') : LaidI w' := fun k s hs => ⟨grCell hg (h k s hs).1, grCell hg (h k s hs).2⟩
def rsB (e i0 i1 i2 i3 : Int) : Nat → Bool
 | 0 => btw i0 1 1000 && (btw i1 1 10000000 && (btw i2 1 10000 && (btw i3 0 4000 && btw e 0 4)))
 | 1 => btw i1 1 10000000 && (btw i2 1 10000 && (btw i3 0 4000 && btw e 0 4))
 | 2 => btw i2 1 10000 && (btw i3 0 4000 && btw e 0 4)
 | 3 => btw i3 0 4000 && btw e 0 4
 | _ => btw e 0 4
abbrev clA (e i0 i1 i2 i3 : Int) : Array Value := #[.int .i64 e, .int .i64 i0, .int .i64 i1, .int .i64 i2, .int .i64 i3]
theorem ix4 (v0 v1 v2 v3 : Value) (w : World) : (Instr.index 28 (.agg #[v0, v1, v2, v3]) (.int .i64 0)).run Tryz.prog w = .ok v0 w ∧ (Instr.index 28 (.agg #[v0, v1, v2, v3]) (.int .i64 1)).run Tryz.prog w = .ok v1 w ∧ (Instr.index 28 (.agg #[v0, v1, v2, v3]) (.int .i64 2)).run Tryz.prog w = .ok v2 w ∧ (Instr.index 28 (.agg #[v0, v1, v2, v3]) (.int .i64 3)).run Tryz.prog w = .ok v3 w := by
 refine ⟨?_, ?_, ?_, ?_⟩ <;> simp [Instr.index, run_underlying Tryz.underlying28, asIntOf, go_sem]
theorem isCall_any (e i0 i1 i2 i3 : Int) (w : World) (hL : LaidI w) : Calls Tryz.prog 25 #[.agg (clA e i0 i1 i2 i3)] w (BB (rsB e i0 i1 i2 i3 0) w) := by
 obtain ⟨r, hr⟩ : ∃ r, rsB e i0 i1 i2 i3 0 = r := ⟨_, rfl⟩
 rw [hr]
 have hrH : Hid (rsB e i0 i1 i2 i3 0 = r) := Lib.hid hr
 have HX0 : Hid ((w.alloc (.cells (clA e i0 i1 i2 i3) 30)).heap[w.heap.size]? = some (.cells (clA e i0 i1 i2 i3) 30 (0, 0))) := Lib.hid (newBlk _ _ _ rfl)
 have HB0 := Lib.hid (grAlloc w (.cells (clA e i0 i1 i2 i3) 30))
 have HL := Lib.hid hL
 have hix := fun wx => (ix4 (.int .i64 i0) (.int .i64 i1) (.int .i64 i2) (.int .i64 i3) wx).1
 have hix1 := fun wx => (ix4 (.int .i64 i0) (.int .i64 i1) (.int .i64 i2) (.int .i64 i3) wx).2.1
 have hix2 := fun wx => (ix4 (.int .i64 i0) (.int .i64 i1) (.int .i64 i2) (.int .i64 i3) wx).2.2.1
 have hix3 := fun wx => (ix4 (.int .i64 i0) (.int .i64 i1) (.int .i64 i2) (.int .i64 i3) wx).2.2.2
 clear hL hr
 go_enter Tryz.func25, Tryz.ntmps25
 go_wp2_with fail
 go_loopg [7] (4) (fun gk i wr => ∃ k : Nat, k + gk = 4 ∧ i = .int .i64 k ∧ Hid (rsB e i0 i1 i2 i3 k = r) ∧ Hid (wr.heap[w.heap.size]? = some (.cells (clA e i0 i1 i2 i3) 30 (0, 0))) ∧ Hid (Gr w wr))
 case atStart => exact ⟨0, by omega, rfl, hrH, HX0, HB0⟩
 case round =>
  obtain ⟨k, hk, rfl, hG, hX, hW⟩ := hrel
  clear HX0 HB0
  have h5 : k = 0 ∨ k = 1 ∨ k = 2 ∨ k = 3 ∨ k = 4 := by omega
  obtain ⟨⟨c0, c1, c2, c3, c4⟩, -⟩ := C.cells5C hX.out
  rcases h5 with rfl | rfl | rfl | rfl | rfl
  ·obtain ⟨gq, rfl⟩ : ∃ g, gk = g + 1 := ⟨gk - 1, by omega⟩
   obtain ⟨g0, g1⟩ := HL.out 0 ⟨1, 1000⟩ rfl
   have g0 := grCell hW.out g0
   have g1 := grCell hW.out g1
   have HBt := Lib.hid (fun wx => between_any i0 1 1000 wx)
   have hGd : (btw i0 1 1000 && rsB e i0 i1 i2 i3 1) = r := hG.out
   rcases hb : btw i0 1 1000 with _ | _
   ·rw [hb] at HBt hGd
    obtain rfl : false = r := by simpa using hGd
    clear hb hGd hG
    go_upto_region 4 with fail
    refine wp_region_G (S := fun wq => Gr wr wq) (by kernel_rfl) (grDrew _) (fun hHeld => ?_)
    have hSG : Hid (∀ wp wq : World, Gr wr wp → Gr wp wq → Gr wr wq) := Lib.hid (fun _ _ h k => h.tr k)
    have hmv := Lib.hid (fun (wq : World) (hq : Gr wr wq) => And.intro (grCell hq g0) (grCell hq g1))
    first
     | (refine tk hSG 0 (v := ?_) rfl (by kernel_rfl) (fun _ _ _ h => h) (by rfl) ?_ hHeld ?_; rotate_left; focus (intro w' hSw; obtain ⟨g0, g1⟩ := hmv.out _ hSw; go_simp; (try with_reducible rfl)))
     | refine tn hSG 0 rfl (by kernel_rfl) (fun _ _ _ h => h) (by rfl) hHeld ?_
    (try simp only [zq1, zq2, zq3, Act.put, zq4, zq5, zq6])
    first
     | (refine tk hSG 1 (v := ?_) rfl (by kernel_rfl) (fun _ _ _ h => h) (by rfl) ?_ hHeld ?_; rotate_left; focus (intro w' hSw; obtain ⟨g0, g1⟩ := hmv.out _ hSw; go_simp; (try with_reducible rfl)))
     | refine tn hSG 1 rfl (by kernel_rfl) (fun _ _ _ h => h) (by rfl) hHeld ?_
    (try simp only [zq1, zq2, zq3, Act.put, zq4, zq5, zq6])
    refine tk hSG 2 (v := .pointer (some ⟨0, 0, none⟩)) rfl (by kernel_rfl) (fun _ _ _ h => h) (by rfl) ?_ hHeld ?_
    focus (intro w' hSw; obtain ⟨g0, g1⟩ := hmv.out _ hSw; go_simp; (try (intro hq; omega)))
    (try simp only [zq1, zq2, zq3, Act.put, zq4, zq5, zq6])
    first
     | (refine tk hSG 3 (v := ?_) rfl (by kernel_rfl) (fun _ _ _ h => h) (by rfl) ?_ hHeld ?_; rotate_left; focus (intro w' hSw; obtain ⟨g0, g1⟩ := hmv.out _ hSw; go_simp; (try with_reducible rfl)))
     | refine tn hSG 3 rfl (by kernel_rfl) (fun _ _ _ h => h) (by rfl) hHeld ?_
    (try simp only [zq1, zq2, zq3, Act.put, zq4, zq5, zq6])
    first
     | (refine tk hSG 4 (v := ?_) rfl (by kernel_rfl) (fun _ _ _ h => h) (by rfl) ?_ hHeld ?_; rotate_left; focus (intro w' hSw; obtain ⟨g0, g1⟩ := hmv.out _ hSw; go_simp; (try with_reducible rfl)))
     | refine tn hSG 4 rfl (by kernel_rfl) (fun _ _ _ h => h) (by rfl) hHeld ?_
    (try simp only [zq1, zq2, zq3, Act.put, zq4, zq5, zq6])
    first
     | (refine tk hSG 5 (v := ?_) rfl (by kernel_rfl) (fun _ _ _ h => h) (by rfl) ?_ hHeld ?_; rotate_left; focus (intro w' hSw; obtain ⟨g0, g1⟩ := hmv.out _ hSw; go_simp; (try with_reducible rfl)))
     | refine tn hSG 5 rfl (by kernel_rfl) (fun _ _ _ h => h) (by rfl) hHeld ?_
    (try simp only [zq1, zq2, zq3, Act.put, zq4, zq5, zq6])
    refine tk hSG 6 (v := .pointer (some ⟨0, 0, none⟩)) rfl (by kernel_rfl) (fun _ _ _ h => h) (by rfl) ?_ hHeld ?_
    focus (intro w' hSw; obtain ⟨g0, g1⟩ := hmv.out _ hSw; go_simp; (try (intro hq; omega)))
    (try simp only [zq1, zq2, zq3, Act.put, zq4, zq5, zq6])
    first
     | (refine tk hSG 7 (v := ?_) rfl (by kernel_rfl) (fun _ _ _ h => h) (by rfl) ?_ hHeld ?_; rotate_left; focus (intro w' hSw; obtain ⟨g0, g1⟩ := hmv.out _ hSw; go_simp; (try with_reducible rfl)))
     | refine tn hSG 7 rfl (by kernel_rfl) (fun _ _ _ h => h) (by rfl) hHeld ?_
    (try simp only [zq1, zq2, zq3, Act.put, zq4, zq5, zq6])
    first
     | (refine tk hSG 8 (v := ?_) rfl (by kernel_rfl) (fun _ _ _ h => h) (by rfl) ?_ hHeld ?_; rotate_left; focus (intro w' hSw; obtain ⟨g0, g1⟩ := hmv.out _ hSw; go_simp; (try with_reducible rfl)))
     | refine tn hSG 8 rfl (by kernel_rfl) (fun _ _ _ h => h) (by rfl) hHeld ?_
    (try simp only [zq1, zq2, zq3, Act.put, zq4, zq5, zq6])
    refine tc hSG 9 (v := .bool false) rfl (by kernel_rfl) (fun _ _ _ h => h) (by rfl) ?_ hHeld ?_
    focus (intro wz hSw K hK; obtain ⟨g0, g1⟩ := hmv.out _ hSw; go_simp; go_at_call 45; refine (HBt.out _).mono ?_; rintro e w2 ⟨rfl, hw⟩; have hb2 := belOf hw; exact hK.out _ hb2)
    (try simp only [zq1, zq2, zq3, Act.put, zq4, zq5, zq6])
    first
     | (refine tk hSG 10 (v := ?_) rfl (by kernel_rfl) (fun _ _ _ h => h) (by rfl) ?_ hHeld ?_; rotate_left; focus (intro w' hSw; obtain ⟨g0, g1⟩ := hmv.out _ hSw; go_simp; (try with_reducible rfl)))
     | refine tn hSG 10 rfl (by kernel_rfl) (fun _ _ _ h => h) (by rfl) hHeld ?_
    (try simp only [zq1, zq2, zq3, Act.put, zq4, zq5, zq6])
    refine wpAnyG_done (by kernel_rfl) (fun w5 hgD => ?_) _
    have hg5 : Gr wr w5 := (grDrew wr).tr hgD
    clear hgD hSG hHeld
    have hB6 := Lib.hid (hW.out.tr hg5)
    go_wp2
    go_ret
    exact ⟨rfl, hB6.out⟩
   ·rw [hb] at HBt hGd
    have hGd := Lib.hid (show rsB e i0 i1 i2 i3 1 = r by simpa using hGd)
    clear hb hG
    go_upto_region 4 with fail
    refine wp_region_G (S := fun wq => Gr wr wq) (by kernel_rfl) (grDrew _) (fun hHeld => ?_)
    have hSG : Hid (∀ wp wq : World, Gr wr wp → Gr wp wq → Gr wr wq) := Lib.hid (fun _ _ h k => h.tr k)
    have hmv := Lib.hid (fun (wq : World) (hq : Gr wr wq) => And.intro (grCell hq g0) (grCell hq g1))
    first
     | (refine tk hSG 0 (v := ?_) rfl (by kernel_rfl) (fun _ _ _ h => h) (by rfl) ?_ hHeld ?_; rotate_left; focus (intro w' hSw; obtain ⟨g0, g1⟩ := hmv.out _ hSw; go_simp; (try with_reducible rfl)))
     | refine tn hSG 0 rfl (by kernel_rfl) (fun _ _ _ h => h) (by rfl) hHeld ?_
    (try simp only [zq1, zq2, zq3, Act.put, zq4, zq5, zq6])
    first
     | (refine tk hSG 1 (v := ?_) rfl (by kernel_rfl) (fun _ _ _ h => h) (by rfl) ?_ hHeld ?_; rotate_left; focus (intro w' hSw; obtain ⟨g0, g1⟩ := hmv.out _ hSw; go_simp; (try with_reducible rfl)))
     | refine tn hSG 1 rfl (by kernel_rfl) (fun _ _ _ h => h) (by rfl) hHeld ?_
    (try simp only [zq1, zq2, zq3, Act.put, zq4, zq5, zq6])
    refine tk hSG 2 (v := .pointer (some ⟨0, 0, none⟩)) rfl (by kernel_rfl) (fun _ _ _ h => h) (by rfl) ?_ hHeld ?_
    focus (intro w' hSw; obtain ⟨g0, g1⟩ := hmv.out _ hSw; go_simp; (try (intro hq; omega)))
    (try simp only [zq1, zq2, zq3, Act.put, zq4, zq5, zq6])
    first
     | (refine tk hSG 3 (v := ?_) rfl (by kernel_rfl) (fun _ _ _ h => h) (by rfl) ?_ hHeld ?_; rotate_left; focus (intro w' hSw; obtain ⟨g0, g1⟩ := hmv.out _ hSw; go_simp; (try with_reducible rfl)))
     | refine tn hSG 3 rfl (by kernel_rfl) (fun _ _ _ h => h) (by rfl) hHeld ?_
    (try simp only [zq1, zq2, zq3, Act.put, zq4, zq5, zq6])
    first
     | (refine tk hSG 4 (v := ?_) rfl (by kernel_rfl) (fun _ _ _ h => h) (by rfl) ?_ hHeld ?_; rotate_left; focus (intro w' hSw; obtain ⟨g0, g1⟩ := hmv.out _ hSw; go_simp; (try with_reducible rfl)))
     | refine tn hSG 4 rfl (by kernel_rfl) (fun _ _ _ h => h) (by rfl) hHeld ?_
    (try simp only [zq1, zq2, zq3, Act.put, zq4, zq5, zq6])
    first
     | (refine tk hSG 5 (v := ?_) rfl (by kernel_rfl) (fun _ _ _ h => h) (by rfl) ?_ hHeld ?_; rotate_left; focus (intro w' hSw; obtain ⟨g0, g1⟩ := hmv.out _ hSw; go_simp; (try with_reducible rfl)))
     | refine tn hSG 5 rfl (by kernel_rfl) (fun _ _ _ h => h) (by rfl) hHeld ?_
    (try simp only [zq1, zq2, zq3, Act.put, zq4, zq5, zq6])
    refine tk hSG 6 (v := .pointer (some ⟨0, 0, none⟩)) rfl (by kernel_rfl) (fun _ _ _ h => h) (by rfl) ?_ hHeld ?_
    focus (intro w' hSw; obtain ⟨g0, g1⟩ := hmv.out _ hSw; go_simp; (try (intro hq; omega)))
    (try simp only [zq1, zq2, zq3, Act.put, zq4, zq5, zq6])
    first
     | (refine tk hSG 7 (v := ?_) rfl (by kernel_rfl) (fun _ _ _ h => h) (by rfl) ?_ hHeld ?_; rotate_left; focus (intro w' hSw; obtain ⟨g0, g1⟩ := hmv.out _ hSw; go_simp; (try with_reducible rfl)))
     | refine tn hSG 7 rfl (by kernel_rfl) (fun _ _ _ h => h) (by rfl) hHeld ?_
    (try simp only [zq1, zq2, zq3, Act.put, zq4, zq5, zq6])
    first
     | (refine tk hSG 8 (v := ?_) rfl (by kernel_rfl) (fun _ _ _ h => h) (by rfl) ?_ hHeld ?_; rotate_left; focus (intro w' hSw; obtain ⟨g0, g1⟩ := hmv.out _ hSw; go_simp; (try with_reducible rfl)))
     | refine tn hSG 8 rfl (by kernel_rfl) (fun _ _ _ h => h) (by rfl) hHeld ?_
    (try simp only [zq1, zq2, zq3, Act.put, zq4, zq5, zq6])
    refine tc hSG 9 (v := .bool true) rfl (by kernel_rfl) (fun _ _ _ h => h) (by rfl) ?_ hHeld ?_
    focus (intro wz hSw K hK; obtain ⟨g0, g1⟩ := hmv.out _ hSw; go_simp; go_at_call 45; refine (HBt.out _).mono ?_; rintro e w2 ⟨rfl, hw⟩; have hb2 := belOf hw; exact hK.out _ hb2)
    (try simp only [zq1, zq2, zq3, Act.put, zq4, zq5, zq6])
    first
     | (refine tk hSG 10 (v := ?_) rfl (by kernel_rfl) (fun _ _ _ h => h) (by rfl) ?_ hHeld ?_; rotate_left; focus (intro w' hSw; obtain ⟨g0, g1⟩ := hmv.out _ hSw; go_simp; (try with_reducible rfl)))
     | refine tn hSG 10 rfl (by kernel_rfl) (fun _ _ _ h => h) (by rfl) hHeld ?_
    (try simp only [zq1, zq2, zq3, Act.put, zq4, zq5, zq6])
    refine wpAnyG_done (by kernel_rfl) (fun w5 hgD => ?_) _
    have hg5 : Gr wr w5 := (grDrew wr).tr hgD
    clear hgD hSG hHeld
    have hB6 := Lib.hid (hW.out.tr hg5)
    have hX6 := Lib.hid (grBlk hg5 hX.out)
    clear c0 c1 c2 c3 c4 g0 g1 hg5
    go_upto_region 6 with fail
    go_wp2
    go_roundg gq
    case measure => omega
    case rel => exact ⟨1, by omega, by go_num, hGd, hX6, hB6⟩
  ·obtain ⟨gq, rfl⟩ : ∃ g, gk = g + 1 := ⟨gk - 1, by omega⟩
   obtain ⟨g0, g1⟩ := HL.out 1 ⟨1, 10000000⟩ rfl
   have g0 := grCell hW.out g0
   have g1 := grCell hW.out g1
   have HBt := Lib.hid (fun wx => between_any i1 1 10000000 wx)
   have hGd : (btw i1 1 10000000 && rsB e i0 i1 i2 i3 2) = r := hG.out
   rcases hb : btw i1 1 10000000 with _ | _
   ·rw [hb] at HBt hGd
    obtain rfl : false = r := by simpa using hGd
    clear hb hGd hG
    go_upto_region 4 with fail
    refine wp_region_G (S := fun wq => Gr wr wq) (by kernel_rfl) (grDrew _) (fun hHeld => ?_)
    have hSG : Hid (∀ wp wq : World, Gr wr wp → Gr wp wq → Gr wr wq) := Lib.hid (fun _ _ h k => h.tr k)
    have hmv := Lib.hid (fun (wq : World) (hq : Gr wr wq) => And.intro (grCell hq g0) (grCell hq g1))
    first
     | (refine tk hSG 0 (v := ?_) rfl (by kernel_rfl) (fun _ _ _ h => h) (by rfl) ?_ hHeld ?_; rotate_left; focus (intro w' hSw; obtain ⟨g0, g1⟩ := hmv.out _ hSw; go_simp; (try with_reducible rfl)))
     | refine tn hSG 0 rfl (by kernel_rfl) (fun _ _ _ h => h) (by rfl) hHeld ?_
    (try simp only [zq1, zq2, zq3, Act.put, zq4, zq5, zq6])
    first
     | (refine tk hSG 1 (v := ?_) rfl (by kernel_rfl) (fun _ _ _ h => h) (by rfl) ?_ hHeld ?_; rotate_left; focus (intro w' hSw; obtain ⟨g0, g1⟩ := hmv.out _ hSw; go_simp; (try with_reducible rfl)))
     | refine tn hSG 1 rfl (by kernel_rfl) (fun _ _ _ h => h) (by rfl) hHeld ?_
    (try simp only [zq1, zq2, zq3, Act.put, zq4, zq5, zq6])
    refine tk hSG 2 (v := .pointer (some ⟨0, 2, none⟩)) rfl (by kernel_rfl) (fun _ _ _ h => h) (by rfl) ?_ hHeld ?_
    focus (intro w' hSw; obtain ⟨g0, g1⟩ := hmv.out _ hSw; go_simp; (try (intro hq; omega)))
    (try simp only [zq1, zq2, zq3, Act.put, zq4, zq5, zq6])
    first
     | (refine tk hSG 3 (v := ?_) rfl (by kernel_rfl) (fun _ _ _ h => h) (by rfl) ?_ hHeld ?_; rotate_left; focus (intro w' hSw; obtain ⟨g0, g1⟩ := hmv.out _ hSw; go_simp; (try with_reducible rfl)))
     | refine tn hSG 3 rfl (by kernel_rfl) (fun _ _ _ h => h) (by rfl) hHeld ?_
    (try simp only [zq1, zq2, zq3, Act.put, zq4, zq5, zq6])
    first
     | (refine tk hSG 4 (v := ?_) rfl (by kernel_rfl) (fun _ _ _ h => h) (by rfl) ?_ hHeld ?_; rotate_left; focus (intro w' hSw; obtain ⟨g0, g1⟩ := hmv.out _ hSw; go_simp; (try with_reducible rfl)))
     | refine tn hSG 4 rfl (by kernel_rfl) (fun _ _ _ h => h) (by rfl) hHeld ?_
    (try simp only [zq1, zq2, zq3, Act.put, zq4, zq5, zq6])
    first
     | (refine tk hSG 5 (v := ?_) rfl (by kernel_rfl) (fun _ _ _ h => h) (by rfl) ?_ hHeld ?_; rotate_left; focus (intro w' hSw; obtain ⟨g0, g1⟩ := hmv.out _ hSw; go_simp; (try with_reducible rfl)))
     | refine tn hSG 5 rfl (by kernel_rfl) (fun _ _ _ h => h) (by rfl) hHeld ?_
    (try simp only [zq1, zq2, zq3, Act.put, zq4, zq5, zq6])
    refine tk hSG 6 (v := .pointer (some ⟨0, 2, none⟩)) rfl (by kernel_rfl) (fun _ _ _ h => h) (by rfl) ?_ hHeld ?_
    focus (intro w' hSw; obtain ⟨g0, g1⟩ := hmv.out _ hSw; go_simp; (try (intro hq; omega)))
    (try simp only [zq1, zq2, zq3, Act.put, zq4, zq5, zq6])
    first
     | (refine tk hSG 7 (v := ?_) rfl (by kernel_rfl) (fun _ _ _ h => h) (by rfl) ?_ hHeld ?_; rotate_left; focus (intro w' hSw; obtain ⟨g0, g1⟩ := hmv.out _ hSw; go_simp; (try with_reducible rfl)))
     | refine tn hSG 7 rfl (by kernel_rfl) (fun _ _ _ h => h) (by rfl) hHeld ?_
    (try simp only [zq1, zq2, zq3, Act.put, zq4, zq5, zq6])
    first
     | (refine tk hSG 8 (v := ?_) rfl (by kernel_rfl) (fun _ _ _ h => h) (by rfl) ?_ hHeld ?_; rotate_left; focus (intro w' hSw; obtain ⟨g0, g1⟩ := hmv.out _ hSw; go_simp; (try with_reducible rfl)))
     | refine tn hSG 8 rfl (by kernel_rfl) (fun _ _ _ h => h) (by rfl) hHeld ?_
    (try simp only [zq1, zq2, zq3, Act.put, zq4, zq5, zq6])
    refine tc hSG 9 (v := .bool false) rfl (by kernel_rfl) (fun _ _ _ h => h) (by rfl) ?_ hHeld ?_
    focus (intro wz hSw K hK; obtain ⟨g0, g1⟩ := hmv.out _ hSw; go_simp; go_at_call 45; refine (HBt.out _).mono ?_; rintro e w2 ⟨rfl, hw⟩; have hb2 := belOf hw; exact hK.out _ hb2)
    (try simp only [zq1, zq2, zq3, Act.put, zq4, zq5, zq6])
    first
     | (refine tk hSG 10 (v := ?_) rfl (by kernel_rfl) (fun _ _ _ h => h) (by rfl) ?_ hHeld ?_; rotate_left; focus (intro w' hSw; obtain ⟨g0, g1⟩ := hmv.out _ hSw; go_simp; (try with_reducible rfl)))
     | refine tn hSG 10 rfl (by kernel_rfl) (fun _ _ _ h => h) (by rfl) hHeld ?_
    (try simp only [zq1, zq2, zq3, Act.put, zq4, zq5, zq6])
    refine wpAnyG_done (by kernel_rfl) (fun w5 hgD => ?_) _
    have hg5 : Gr wr w5 := (grDrew wr).tr hgD
    clear hgD hSG hHeld
    have hB6 := Lib.hid (hW.out.tr hg5)
    go_wp2
    go_ret
    exact ⟨rfl, hB6.out⟩
   ·rw [hb] at HBt hGd
    have hGd := Lib.hid (show rsB e i0 i1 i2 i3 2 = r by simpa using hGd)
    clear hb hG
    go_upto_region 4 with fail
    refine wp_region_G (S := fun wq => Gr wr wq) (by kernel_rfl) (grDrew _) (fun hHeld => ?_)
    have hSG : Hid (∀ wp wq : World, Gr wr wp → Gr wp wq → Gr wr wq) := Lib.hid (fun _ _ h k => h.tr k)
    have hmv := Lib.hid (fun (wq : World) (hq : Gr wr wq) => And.intro (grCell hq g0) (grCell hq g1))
    first
     | (refine tk hSG 0 (v := ?_) rfl (by kernel_rfl) (fun _ _ _ h => h) (by rfl) ?_ hHeld ?_; rotate_left; focus (intro w' hSw; obtain ⟨g0, g1⟩ := hmv.out _ hSw; go_simp; (try with_reducible rfl)))
     | refine tn hSG 0 rfl (by kernel_rfl) (fun _ _ _ h => h) (by rfl) hHeld ?_
    (try simp only [zq1, zq2, zq3, Act.put, zq4, zq5, zq6])
    first
     | (refine tk hSG 1 (v := ?_) rfl (by kernel_rfl) (fun _ _ _ h => h) (by rfl) ?_ hHeld ?_; rotate_left; focus (intro w' hSw; obtain ⟨g0, g1⟩ := hmv.out _ hSw; go_simp; (try with_reducible rfl)))
     | refine tn hSG 1 rfl (by kernel_rfl) (fun _ _ _ h => h) (by rfl) hHeld ?_
    (try simp only [zq1, zq2, zq3, Act.put, zq4, zq5, zq6])
    refine tk hSG 2 (v := .pointer (some ⟨0, 2, none⟩)) rfl (by kernel_rfl) (fun _ _ _ h => h) (by rfl) ?_ hHeld ?_
    focus (intro w' hSw; obtain ⟨g0, g1⟩ := hmv.out _ hSw; go_simp; (try (intro hq; omega)))
    (try simp only [zq1, zq2, zq3, Act.put, zq4, zq5, zq6])
    first
     | (refine tk hSG 3 (v := ?_) rfl (by kernel_rfl) (fun _ _ _ h => h) (by rfl) ?_ hHeld ?_; rotate_left; focus (intro w' hSw; obtain ⟨g0, g1⟩ := hmv.out _ hSw; go_simp; (try with_reducible rfl)))
     | refine tn hSG 3 rfl (by kernel_rfl) (fun _ _ _ h => h) (by rfl) hHeld ?_
    (try simp only [zq1, zq2, zq3, Act.put, zq4, zq5, zq6])
    first
     | (refine tk hSG 4 (v := ?_) rfl (by kernel_rfl) (fun _ _ _ h => h) (by rfl) ?_ hHeld ?_; rotate_left; focus (intro w' hSw; obtain ⟨g0, g1⟩ := hmv.out _ hSw; go_simp; (try with_reducible rfl)))
     | refine tn hSG 4 rfl (by kernel_rfl) (fun _ _ _ h => h) (by rfl) hHeld ?_
    (try simp only [zq1, zq2, zq3, Act.put, zq4, zq5, zq6])
    first
     | (refine tk hSG 5 (v := ?_) rfl (by kernel_rfl) (fun _ _ _ h => h) (by rfl) ?_ hHeld ?_; rotate_left; focus (intro w' hSw; obtain ⟨g0, g1⟩ := hmv.out _ hSw; go_simp; (try with_reducible rfl)))
     | refine tn hSG 5 rfl (by kernel_rfl) (fun _ _ _ h => h) (by rfl) hHeld ?_
    (try simp only [zq1, zq2, zq3, Act.put, zq4, zq5, zq6])
    refine tk hSG 6 (v := .pointer (some ⟨0, 2, none⟩)) rfl (by kernel_rfl) (fun _ _ _ h => h) (by rfl) ?_ hHeld ?_
    focus (intro w' hSw; obtain ⟨g0, g1⟩ := hmv.out _ hSw; go_simp; (try (intro hq; omega)))
    (try simp only [zq1, zq2, zq3, Act.put, zq4, zq5, zq6])
    first
     | (refine tk hSG 7 (v := ?_) rfl (by kernel_rfl) (fun _ _ _ h => h) (by rfl) ?_ hHeld ?_; rotate_left; focus (intro w' hSw; obtain ⟨g0, g1⟩ := hmv.out _ hSw; go_simp; (try with_reducible rfl)))
     | refine tn hSG 7 rfl (by kernel_rfl) (fun _ _ _ h => h) (by rfl) hHeld ?_
    (try simp only [zq1, zq2, zq3, Act.put, zq4, zq5, zq6])
    first
     | (refine tk hSG 8 (v := ?_) rfl (by kernel_rfl) (fun _ _ _ h => h) (by rfl) ?_ hHeld ?_; rotate_left; focus (intro w' hSw; obtain ⟨g0, g1⟩ := hmv.out _ hSw; go_simp; (try with_reducible rfl)))
     | refine tn hSG 8 rfl (by kernel_rfl) (fun _ _ _ h => h) (by rfl) hHeld ?_
    (try simp only [zq1, zq2, zq3, Act.put, zq4, zq5, zq6])
    refine tc hSG 9 (v := .bool true) rfl (by kernel_rfl) (fun _ _ _ h => h) (by rfl) ?_ hHeld ?_
    focus (intro wz hSw K hK; obtain ⟨g0, g1⟩ := hmv.out _ hSw; go_simp; go_at_call 45; refine (HBt.out _).mono ?_; rintro e w2 ⟨rfl, hw⟩; have hb2 := belOf hw; exact hK.out _ hb2)
    (try simp only [zq1, zq2, zq3, Act.put, zq4, zq5, zq6])
    first
     | (refine tk hSG 10 (v := ?_) rfl (by kernel_rfl) (fun _ _ _ h => h) (by rfl) ?_ hHeld ?_; rotate_left; focus (intro w' hSw; obtain ⟨g0, g1⟩ := hmv.out _ hSw; go_simp; (try with_reducible rfl)))
     | refine tn hSG 10 rfl (by kernel_rfl) (fun _ _ _ h => h) (by rfl) hHeld ?_
    (try simp only [zq1, zq2, zq3, Act.put, zq4, zq5, zq6])
    refine wpAnyG_done (by kernel_rfl) (fun w5 hgD => ?_) _
    have hg5 : Gr wr w5 := (grDrew wr).tr hgD
    clear hgD hSG hHeld
    have hB6 := Lib.hid (hW.out.tr hg5)
    have hX6 := Lib.hid (grBlk hg5 hX.out)
    clear c0 c1 c2 c3 c4 g0 g1 hg5
    go_upto_region 6 with fail
    go_wp2
    go_roundg gq
    case measure => omega
    case rel => exact ⟨2, by omega, by go_num, hGd, hX6, hB6⟩
  ·obtain ⟨gq, rfl⟩ : ∃ g, gk = g + 1 := ⟨gk - 1, by omega⟩
   obtain ⟨g0, g1⟩ := HL.out 2 ⟨1, 10000⟩ rfl
   have g0 := grCell hW.out g0
   have g1 := grCell hW.out g1
   have HBt := Lib.hid (fun wx => between_any i2 1 10000 wx)
   have hGd : (btw i2 1 10000 && rsB e i0 i1 i2 i3 3) = r := hG.out
   rcases hb : btw i2 1 10000 with _ | _
   ·rw [hb] at HBt hGd
    obtain rfl : false = r := by simpa using hGd
    clear hb hGd hG
    go_upto_region 4 with fail
    refine wp_region_G (S := fun wq => Gr wr wq) (by kernel_rfl) (grDrew _) (fun hHeld => ?_)
    have hSG : Hid (∀ wp wq : World, Gr wr wp → Gr wp wq → Gr wr wq) := Lib.hid (fun _ _ h k => h.tr k)
    have hmv := Lib.hid (fun (wq : World) (hq : Gr wr wq) => And.intro (grCell hq g0) (grCell hq g1))
    first
     | (refine tk hSG 0 (v := ?_) rfl (by kernel_rfl) (fun _ _ _ h => h) (by rfl) ?_ hHeld ?_; rotate_left; focus (intro w' hSw; obtain ⟨g0, g1⟩ := hmv.out _ hSw; go_simp; (try with_reducible rfl)))
     | refine tn hSG 0 rfl (by kernel_rfl) (fun _ _ _ h => h) (by rfl) hHeld ?_
    (try simp only [zq1, zq2, zq3, Act.put, zq4, zq5, zq6])
    first
     | (refine tk hSG 1 (v := ?_) rfl (by kernel_rfl) (fun _ _ _ h => h) (by rfl) ?_ hHeld ?_; rotate_left; focus (intro w' hSw; obtain ⟨g0, g1⟩ := hmv.out _ hSw; go_simp; (try with_reducible rfl)))
     | refine tn hSG 1 rfl (by kernel_rfl) (fun _ _ _ h => h) (by rfl) hHeld ?_
    (try simp only [zq1, zq2, zq3, Act.put, zq4, zq5, zq6])
    refine tk hSG 2 (v := .pointer (some ⟨0, 4, none⟩)) rfl (by kernel_rfl) (fun _ _ _ h => h) (by rfl) ?_ hHeld ?_
    focus (intro w' hSw; obtain ⟨g0, g1⟩ := hmv.out _ hSw; go_simp; (try (intro hq; omega)))
    (try simp only [zq1, zq2, zq3, Act.put, zq4, zq5, zq6])
    first
     | (refine tk hSG 3 (v := ?_) rfl (by kernel_rfl) (fun _ _ _ h => h) (by rfl) ?_ hHeld ?_; rotate_left; focus (intro w' hSw; obtain ⟨g0, g1⟩ := hmv.out _ hSw; go_simp; (try with_reducible rfl)))
     | refine tn hSG 3 rfl (by kernel_rfl) (fun _ _ _ h => h) (by rfl) hHeld ?_
    (try simp only [zq1, zq2, zq3, Act.put, zq4, zq5, zq6])
    first
     | (refine tk hSG 4 (v := ?_) rfl (by kernel_rfl) (fun _ _ _ h => h) (by rfl) ?_ hHeld ?_; rotate_left; focus (intro w' hSw; obtain ⟨g0, g1⟩ := hmv.out _ hSw; go_simp; (try with_reducible rfl)))
     | refine tn hSG 4 rfl (by kernel_rfl) (fun _ _ _ h => h) (by rfl) hHeld ?_
    (try simp only [zq1, zq2, zq3, Act.put, zq4, zq5, zq6])
    first
     | (refine tk hSG 5 (v := ?_) rfl (by kernel_rfl) (fun _ _ _ h => h) (by rfl) ?_ hHeld ?_; rotate_left; focus (intro w' hSw; obtain ⟨g0, g1⟩ := hmv.out _ hSw; go_simp; (try with_reducible rfl)))
     | refine tn hSG 5 rfl (by kernel_rfl) (fun _ _ _ h => h) (by rfl) hHeld ?_
    (try simp only [zq1, zq2, zq3, Act.put, zq4, zq5, zq6])
    refine tk hSG 6 (v := .pointer (some ⟨0, 4, none⟩)) rfl (by kernel_rfl) (fun _ _ _ h => h) (by rfl) ?_ hHeld ?_
    focus (intro w' hSw; obtain ⟨g0, g1⟩ := hmv.out _ hSw; go_simp; (try (intro hq; omega)))
    (try simp only [zq1, zq2, zq3, Act.put, zq4, zq5, zq6])
    first
     | (refine tk hSG 7 (v := ?_) rfl (by kernel_rfl) (fun _ _ _ h => h) (by rfl) ?_ hHeld ?_; rotate_left; focus (intro w' hSw; obtain ⟨g0, g1⟩ := hmv.out _ hSw; go_simp; (try with_reducible rfl)))
     | refine tn hSG 7 rfl (by kernel_rfl) (fun _ _ _ h => h) (by rfl) hHeld ?_
    (try simp only [zq1, zq2, zq3, Act.put, zq4, zq5, zq6])
    first
     | (refine tk hSG 8 (v := ?_) rfl (by kernel_rfl) (fun _ _ _ h => h) (by rfl) ?_ hHeld ?_; rotate_left; focus (intro w' hSw; obtain ⟨g0, g1⟩ := hmv.out _ hSw; go_simp; (try with_reducible rfl)))
     | refine tn hSG 8 rfl (by kernel_rfl) (fun _ _ _ h => h) (by rfl) hHeld ?_
    (try simp only [zq1, zq2, zq3, Act.put, zq4, zq5, zq6])
    refine tc hSG 9 (v := .bool false) rfl (by kernel_rfl) (fun _ _ _ h => h) (by rfl) ?_ hHeld ?_
    focus (intro wz hSw K hK; obtain ⟨g0, g1⟩ := hmv.out _ hSw; go_simp; go_at_call 45; refine (HBt.out _).mono ?_; rintro e w2 ⟨rfl, hw⟩; have hb2 := belOf hw; exact hK.out _ hb2)
    (try simp only [zq1, zq2, zq3, Act.put, zq4, zq5, zq6])
    first
     | (refine tk hSG 10 (v := ?_) rfl (by kernel_rfl) (fun _ _ _ h => h) (by rfl) ?_ hHeld ?_; rotate_left; focus (intro w' hSw; obtain ⟨g0, g1⟩ := hmv.out _ hSw; go_simp; (try with_reducible rfl)))
     | refine tn hSG 10 rfl (by kernel_rfl) (fun _ _ _ h => h) (by rfl) hHeld ?_
    (try simp only [zq1, zq2, zq3, Act.put, zq4, zq5, zq6])
    refine wpAnyG_done (by kernel_rfl) (fun w5 hgD => ?_) _
    have hg5 : Gr wr w5 := (grDrew wr).tr hgD
    clear hgD hSG hHeld
    have hB6 := Lib.hid (hW.out.tr hg5)
    go_wp2
    go_ret
    exact ⟨rfl, hB6.out⟩
   ·rw [hb] at HBt hGd
    have hGd := Lib.hid (show rsB e i0 i1 i2 i3 3 = r by simpa using hGd)
    clear hb hG
    go_upto_region 4 with fail
    refine wp_region_G (S := fun wq => Gr wr wq) (by kernel_rfl) (grDrew _) (fun hHeld => ?_)
    have hSG : Hid (∀ wp wq : World, Gr wr wp → Gr wp wq → Gr wr wq) := Lib.hid (fun _ _ h k => h.tr k)
    have hmv := Lib.hid (fun (wq : World) (hq : Gr wr wq) => And.intro (grCell hq g0) (grCell hq g1))
    first
     | (refine tk hSG 0 (v := ?_) rfl (by kernel_rfl) (fun _ _ _ h => h) (by rfl) ?_ hHeld ?_; rotate_left; focus (intro w' hSw; obtain ⟨g0, g1⟩ := hmv.out _ hSw; go_simp; (try with_reducible rfl)))
     | refine tn hSG 0 rfl (by kernel_rfl) (fun _ _ _ h => h) (by rfl) hHeld ?_
    (try simp only [zq1, zq2, zq3, Act.put, zq4, zq5, zq6])
    first
     | (refine tk hSG 1 (v := ?_) rfl (by kernel_rfl) (fun _ _ _ h => h) (by rfl) ?_ hHeld ?_; rotate_left; focus (intro w' hSw; obtain ⟨g0, g1⟩ := hmv.out _ hSw; go_simp; (try with_reducible rfl)))
     | refine tn hSG 1 rfl (by kernel_rfl) (fun _ _ _ h => h) (by rfl) hHeld ?_
    (try simp only [zq1, zq2, zq3, Act.put, zq4, zq5, zq6])
    refine tk hSG 2 (v := .pointer (some ⟨0, 4, none⟩)) rfl (by kernel_rfl) (fun _ _ _ h => h) (by rfl) ?_ hHeld ?_
    focus (intro w' hSw; obtain ⟨g0, g1⟩ := hmv.out _ hSw; go_simp; (try (intro hq; omega)))
    (try simp only [zq1, zq2, zq3, Act.put, zq4, zq5, zq6])
    first
     | (refine tk hSG 3 (v := ?_) rfl (by kernel_rfl) (fun _ _ _ h => h) (by rfl) ?_ hHeld ?_; rotate_left; focus (intro w' hSw; obtain ⟨g0, g1⟩ := hmv.out _ hSw; go_simp; (try with_reducible rfl)))
     | refine tn hSG 3 rfl (by kernel_rfl) (fun _ _ _ h => h) (by rfl) hHeld ?_
    (try simp only [zq1, zq2, zq3, Act.put, zq4, zq5, zq6])
    first
     | (refine tk hSG 4 (v := ?_) rfl (by kernel_rfl) (fun _ _ _ h => h) (by rfl) ?_ hHeld ?_; rotate_left; focus (intro w' hSw; obtain ⟨g0, g1⟩ := hmv.out _ hSw; go_simp; (try with_reducible rfl)))
     | refine tn hSG 4 rfl (by kernel_rfl) (fun _ _ _ h => h) (by rfl) hHeld ?_
    (try simp only [zq1, zq2, zq3, Act.put, zq4, zq5, zq6])
    first
     | (refine tk hSG 5 (v := ?_) rfl (by kernel_rfl) (fun _ _ _ h => h) (by rfl) ?_ hHeld ?_; rotate_left; focus (intro w' hSw; obtain ⟨g0, g1⟩ := hmv.out _ hSw; go_simp; (try with_reducible rfl)))
     | refine tn hSG 5 rfl (by kernel_rfl) (fun _ _ _ h => h) (by rfl) hHeld ?_
    (try simp only [zq1, zq2, zq3, Act.put, zq4, zq5, zq6])
    refine tk hSG 6 (v := .pointer (some ⟨0, 4, none⟩)) rfl (by kernel_rfl) (fun _ _ _ h => h) (by rfl) ?_ hHeld ?_
    focus (intro w' hSw; obtain ⟨g0, g1⟩ := hmv.out _ hSw; go_simp; (try (intro hq; omega)))
    (try simp only [zq1, zq2, zq3, Act.put, zq4, zq5, zq6])
    first
     | (refine tk hSG 7 (v := ?_) rfl (by kernel_rfl) (fun _ _ _ h => h) (by rfl) ?_ hHeld ?_; rotate_left; focus (intro w' hSw; obtain ⟨g0, g1⟩ := hmv.out _ hSw; go_simp; (try with_reducible rfl)))
     | refine tn hSG 7 rfl (by kernel_rfl) (fun _ _ _ h => h) (by rfl) hHeld ?_
    (try simp only [zq1, zq2, zq3, Act.put, zq4, zq5, zq6])
    first
     | (refine tk hSG 8 (v := ?_) rfl (by kernel_rfl) (fun _ _ _ h => h) (by rfl) ?_ hHeld ?_; rotate_left; focus (intro w' hSw; obtain ⟨g0, g1⟩ := hmv.out _ hSw; go_simp; (try with_reducible rfl)))
     | refine tn hSG 8 rfl (by kernel_rfl) (fun _ _ _ h => h) (by rfl) hHeld ?_
    (try simp only [zq1, zq2, zq3, Act.put, zq4, zq5, zq6])
    refine tc hSG 9 (v := .bool true) rfl (by kernel_rfl) (fun _ _ _ h => h) (by rfl) ?_ hHeld ?_
    focus (intro wz hSw K hK; obtain ⟨g0, g1⟩ := hmv.out _ hSw; go_simp; go_at_call 45; refine (HBt.out _).mono ?_; rintro e w2 ⟨rfl, hw⟩; have hb2 := belOf hw; exact hK.out _ hb2)
    (try simp only [zq1, zq2, zq3, Act.put, zq4, zq5, zq6])
    first
     | (refine tk hSG 10 (v := ?_) rfl (by kernel_rfl) (fun _ _ _ h => h) (by rfl) ?_ hHeld ?_; rotate_left; focus (intro w' hSw; obtain ⟨g0, g1⟩ := hmv.out _ hSw; go_simp; (try with_reducible rfl)))
     | refine tn hSG 10 rfl (by kernel_rfl) (fun _ _ _ h => h) (by rfl) hHeld ?_
    (try simp only [zq1, zq2, zq3, Act.put, zq4, zq5, zq6])
    refine wpAnyG_done (by kernel_rfl) (fun w5 hgD => ?_) _
    have hg5 : Gr wr w5 := (grDrew wr).tr hgD
    clear hgD hSG hHeld
    have hB6 := Lib.hid (hW.out.tr hg5)
    have hX6 := Lib.hid (grBlk hg5 hX.out)
    clear c0 c1 c2 c3 c4 g0 g1 hg5
    go_upto_region 6 with fail
    go_wp2
    go_roundg gq
    case measure => omega
    case rel => exact ⟨3, by omega, by go_num, hGd, hX6, hB6⟩
  ·obtain ⟨gq, rfl⟩ : ∃ g, gk = g + 1 := ⟨gk - 1, by omega⟩
   obtain ⟨g0, g1⟩ := HL.out 3 ⟨0, 4000⟩ rfl
   have g0 := grCell hW.out g0
   have g1 := grCell hW.out g1
   have HBt := Lib.hid (fun wx => between_any i3 0 4000 wx)
   have hGd : (btw i3 0 4000 && rsB e i0 i1 i2 i3 4) = r := hG.out
   rcases hb : btw i3 0 4000 with _ | _
   ·rw [hb] at HBt hGd
    obtain rfl : false = r := by simpa using hGd
    clear hb hGd hG
    go_upto_region 4 with fail
    refine wp_region_G (S := fun wq => Gr wr wq) (by kernel_rfl) (grDrew _) (fun hHeld => ?_)
    have hSG : Hid (∀ wp wq : World, Gr wr wp → Gr wp wq → Gr wr wq) := Lib.hid (fun _ _ h k => h.tr k)
    have hmv := Lib.hid (fun (wq : World) (hq : Gr wr wq) => And.intro (grCell hq g0) (grCell hq g1))
    first
     | (refine tk hSG 0 (v := ?_) rfl (by kernel_rfl) (fun _ _ _ h => h) (by rfl) ?_ hHeld ?_; rotate_left; focus (intro w' hSw; obtain ⟨g0, g1⟩ := hmv.out _ hSw; go_simp; (try with_reducible rfl)))
     | refine tn hSG 0 rfl (by kernel_rfl) (fun _ _ _ h => h) (by rfl) hHeld ?_
    (try simp only [zq1, zq2, zq3, Act.put, zq4, zq5, zq6])
    first
     | (refine tk hSG 1 (v := ?_) rfl (by kernel_rfl) (fun _ _ _ h => h) (by rfl) ?_ hHeld ?_; rotate_left; focus (intro w' hSw; obtain ⟨g0, g1⟩ := hmv.out _ hSw; go_simp; (try with_reducible rfl)))
     | refine tn hSG 1 rfl (by kernel_rfl) (fun _ _ _ h => h) (by rfl) hHeld ?_
    (try simp only [zq1, zq2, zq3, Act.put, zq4, zq5, zq6])
    refine tk hSG 2 (v := .pointer (some ⟨0, 6, none⟩)) rfl (by kernel_rfl) (fun _ _ _ h => h) (by rfl) ?_ hHeld ?_
    focus (intro w' hSw; obtain ⟨g0, g1⟩ := hmv.out _ hSw; go_simp; (try (intro hq; omega)))
    (try simp only [zq1, zq2, zq3, Act.put, zq4, zq5, zq6])
    first
     | (refine tk hSG 3 (v := ?_) rfl (by kernel_rfl) (fun _ _ _ h => h) (by rfl) ?_ hHeld ?_; rotate_left; focus (intro w' hSw; obtain ⟨g0, g1⟩ := hmv.out _ hSw; go_simp; (try with_reducible rfl)))
     | refine tn hSG 3 rfl (by kernel_rfl) (fun _ _ _ h => h) (by rfl) hHeld ?_
    (try simp only [zq1, zq2, zq3, Act.put, zq4, zq5, zq6])
    first
     | (refine tk hSG 4 (v := ?_) rfl (by kernel_rfl) (fun _ _ _ h => h) (by rfl) ?_ hHeld ?_; rotate_left; focus (intro w' hSw; obtain ⟨g0, g1⟩ := hmv.out _ hSw; go_simp; (try with_reducible rfl)))
     | refine tn hSG 4 rfl (by kernel_rfl) (fun _ _ _ h => h) (by rfl) hHeld ?_
    (try simp only [zq1, zq2, zq3, Act.put, zq4, zq5, zq6])
    first
     | (refine tk hSG 5 (v := ?_) rfl (by kernel_rfl) (fun _ _ _ h => h) (by rfl) ?_ hHeld ?_; rotate_left; focus (intro w' hSw; obtain ⟨g0, g1⟩ := hmv.out _ hSw; go_simp; (try with_reducible rfl)))
     | refine tn hSG 5 rfl (by kernel_rfl) (fun _ _ _ h => h) (by rfl) hHeld ?_
    (try simp only [zq1, zq2, zq3, Act.put, zq4, zq5, zq6])
    refine tk hSG 6 (v := .pointer (some ⟨0, 6, none⟩)) rfl (by kernel_rfl) (fun _ _ _ h => h) (by rfl) ?_ hHeld ?_
    focus (intro w' hSw; obtain ⟨g0, g1⟩ := hmv.out _ hSw; go_simp; (try (intro hq; omega)))
    (try simp only [zq1, zq2, zq3, Act.put, zq4, zq5, zq6])
    first
     | (refine tk hSG 7 (v := ?_) rfl (by kernel_rfl) (fun _ _ _ h => h) (by rfl) ?_ hHeld ?_; rotate_left; focus (intro w' hSw; obtain ⟨g0, g1⟩ := hmv.out _ hSw; go_simp; (try with_reducible rfl)))
     | refine tn hSG 7 rfl (by kernel_rfl) (fun _ _ _ h => h) (by rfl) hHeld ?_
    (try simp only [zq1, zq2, zq3, Act.put, zq4, zq5, zq6])
    first
     | (refine tk hSG 8 (v := ?_) rfl (by kernel_rfl) (fun _ _ _ h => h) (by rfl) ?_ hHeld ?_; rotate_left; focus (intro w' hSw; obtain ⟨g0, g1⟩ := hmv.out _ hSw; go_simp; (try with_reducible rfl)))
     | refine tn hSG 8 rfl (by kernel_rfl) (fun _ _ _ h => h) (by rfl) hHeld ?_
    (try simp only [zq1, zq2, zq3, Act.put, zq4, zq5, zq6])
    refine tc hSG 9 (v := .bool false) rfl (by kernel_rfl) (fun _ _ _ h => h) (by rfl) ?_ hHeld ?_
    focus (intro wz hSw K hK; obtain ⟨g0, g1⟩ := hmv.out _ hSw; go_simp; go_at_call 45; refine (HBt.out _).mono ?_; rintro e w2 ⟨rfl, hw⟩; have hb2 := belOf hw; exact hK.out _ hb2)
    (try simp only [zq1, zq2, zq3, Act.put, zq4, zq5, zq6])
    first
     | (refine tk hSG 10 (v := ?_) rfl (by kernel_rfl) (fun _ _ _ h => h) (by rfl) ?_ hHeld ?_; rotate_left; focus (intro w' hSw; obtain ⟨g0, g1⟩ := hmv.out _ hSw; go_simp; (try with_reducible rfl)))
     | refine tn hSG 10 rfl (by kernel_rfl) (fun _ _ _ h => h) (by rfl) hHeld ?_
    (try simp only [zq1, zq2, zq3, Act.put, zq4, zq5, zq6])
    refine wpAnyG_done (by kernel_rfl) (fun w5 hgD => ?_) _
    have hg5 : Gr wr w5 := (grDrew wr).tr hgD
    clear hgD hSG hHeld
    have hB6 := Lib.hid (hW.out.tr hg5)
    go_wp2
    go_ret
    exact ⟨rfl, hB6.out⟩
   ·rw [hb] at HBt hGd
    have hGd := Lib.hid (show rsB e i0 i1 i2 i3 4 = r by simpa using hGd)
    clear hb hG
    go_upto_region 4 with fail
    refine wp_region_G (S := fun wq => Gr wr wq) (by kernel_rfl) (grDrew _) (fun hHeld => ?_)
    have hSG : Hid (∀ wp wq : World, Gr wr wp → Gr wp wq → Gr wr wq) := Lib.hid (fun _ _ h k => h.tr k)
    have hmv := Lib.hid (fun (wq : World) (hq : Gr wr wq) => And.intro (grCell hq g0) (grCell hq g1))
    first
     | (refine tk hSG 0 (v := ?_) rfl (by kernel_rfl) (fun _ _ _ h => h) (by rfl) ?_ hHeld ?_; rotate_left; focus (intro w' hSw; obtain ⟨g0, g1⟩ := hmv.out _ hSw; go_simp; (try with_reducible rfl)))
     | refine tn hSG 0 rfl (by kernel_rfl) (fun _ _ _ h => h) (by rfl) hHeld ?_
    (try simp only [zq1, zq2, zq3, Act.put, zq4, zq5, zq6])
    first
     | (refine tk hSG 1 (v := ?_) rfl (by kernel_rfl) (fun _ _ _ h => h) (by rfl) ?_ hHeld ?_; rotate_left; focus (intro w' hSw; obtain ⟨g0, g1⟩ := hmv.out _ hSw; go_simp; (try with_reducible rfl)))
     | refine tn hSG 1 rfl (by kernel_rfl) (fun _ _ _ h => h) (by rfl) hHeld ?_
    (try simp only [zq1, zq2, zq3, Act.put, zq4, zq5, zq6])
    refine tk hSG 2 (v := .pointer (some ⟨0, 6, none⟩)) rfl (by kernel_rfl) (fun _ _ _ h => h) (by rfl) ?_ hHeld ?_
    focus (intro w' hSw; obtain ⟨g0, g1⟩ := hmv.out _ hSw; go_simp; (try (intro hq; omega)))
    (try simp only [zq1, zq2, zq3, Act.put, zq4, zq5, zq6])
    first
     | (refine tk hSG 3 (v := ?_) rfl (by kernel_rfl) (fun _ _ _ h => h) (by rfl) ?_ hHeld ?_; rotate_left; focus (intro w' hSw; obtain ⟨g0, g1⟩ := hmv.out _ hSw; go_simp; (try with_reducible rfl)))
     | refine tn hSG 3 rfl (by kernel_rfl) (fun _ _ _ h => h) (by rfl) hHeld ?_
    (try simp only [zq1, zq2, zq3, Act.put, zq4, zq5, zq6])
    first
     | (refine tk hSG 4 (v := ?_) rfl (by kernel_rfl) (fun _ _ _ h => h) (by rfl) ?_ hHeld ?_; rotate_left; focus (intro w' hSw; obtain ⟨g0, g1⟩ := hmv.out _ hSw; go_simp; (try with_reducible rfl)))
     | refine tn hSG 4 rfl (by kernel_rfl) (fun _ _ _ h => h) (by rfl) hHeld ?_
    (try simp only [zq1, zq2, zq3, Act.put, zq4, zq5, zq6])
    first
     | (refine tk hSG 5 (v := ?_) rfl (by kernel_rfl) (fun _ _ _ h => h) (by rfl) ?_ hHeld ?_; rotate_left; focus (intro w' hSw; obtain ⟨g0, g1⟩ := hmv.out _ hSw; go_simp; (try with_reducible rfl)))
     | refine tn hSG 5 rfl (by kernel_rfl) (fun _ _ _ h => h) (by rfl) hHeld ?_
    (try simp only [zq1, zq2, zq3, Act.put, zq4, zq5, zq6])
    refine tk hSG 6 (v := .pointer (some ⟨0, 6, none⟩)) rfl (by kernel_rfl) (fun _ _ _ h => h) (by rfl) ?_ hHeld ?_
    focus (intro w' hSw; obtain ⟨g0, g1⟩ := hmv.out _ hSw; go_simp; (try (intro hq; omega)))
    (try simp only [zq1, zq2, zq3, Act.put, zq4, zq5, zq6])
    first
     | (refine tk hSG 7 (v := ?_) rfl (by kernel_rfl) (fun _ _ _ h => h) (by rfl) ?_ hHeld ?_; rotate_left; focus (intro w' hSw; obtain ⟨g0, g1⟩ := hmv.out _ hSw; go_simp; (try with_reducible rfl)))
     | refine tn hSG 7 rfl (by kernel_rfl) (fun _ _ _ h => h) (by rfl) hHeld ?_
    (try simp only [zq1, zq2, zq3, Act.put, zq4, zq5, zq6])
    first
     | (refine tk hSG 8 (v := ?_) rfl (by kernel_rfl) (fun _ _ _ h => h) (by rfl) ?_ hHeld ?_; rotate_left; focus (intro w' hSw; obtain ⟨g0, g1⟩ := hmv.out _ hSw; go_simp; (try with_reducible rfl)))
     | refine tn hSG 8 rfl (by kernel_rfl) (fun _ _ _ h => h) (by rfl) hHeld ?_
    (try simp only [zq1, zq2, zq3, Act.put, zq4, zq5, zq6])
    refine tc hSG 9 (v := .bool true) rfl (by kernel_rfl) (fun _ _ _ h => h) (by rfl) ?_ hHeld ?_
    focus (intro wz hSw K hK; obtain ⟨g0, g1⟩ := hmv.out _ hSw; go_simp; go_at_call 45; refine (HBt.out _).mono ?_; rintro e w2 ⟨rfl, hw⟩; have hb2 := belOf hw; exact hK.out _ hb2)
    (try simp only [zq1, zq2, zq3, Act.put, zq4, zq5, zq6])
    first
     | (refine tk hSG 10 (v := ?_) rfl (by kernel_rfl) (fun _ _ _ h => h) (by rfl) ?_ hHeld ?_; rotate_left; focus (intro w' hSw; obtain ⟨g0, g1⟩ := hmv.out _ hSw; go_simp; (try with_reducible rfl)))
     | refine tn hSG 10 rfl (by kernel_rfl) (fun _ _ _ h => h) (by rfl) hHeld ?_
    (try simp only [zq1, zq2, zq3, Act.put, zq4, zq5, zq6])
    refine wpAnyG_done (by kernel_rfl) (fun w5 hgD => ?_) _
    have hg5 : Gr wr w5 := (grDrew wr).tr hgD
    clear hgD hSG hHeld
    have hB6 := Lib.hid (hW.out.tr hg5)
    have hX6 := Lib.hid (grBlk hg5 hX.out)
    clear c0 c1 c2 c3 c4 g0 g1 hg5
    go_upto_region 6 with fail
    go_wp2
    go_roundg gq
    case measure => omega
    case rel => exact ⟨4, by omega, by go_num, hGd, hX6, hB6⟩
  ·obtain rfl : gk = 0 := by omega
   obtain ⟨q, hq⟩ : ∃ q, btw e 0 4 = q := ⟨_, rfl⟩
   obtain rfl : q = r := hq.symm.trans hG.out
   have HI := Lib.hid (fun wx => isIndex_any e 5 (by decide) wx)
   rw [show (5 : Int) - 1 = 4 from rfl, hq] at HI
   clear hG hq
   go_wp2_with (go_at_call 46; refine (HI.out _).mono ?_; rintro e w2 ⟨rfl, hw⟩; rw [hw]; clear hw)
   go_ret
   exact ⟨rfl, hW.out⟩
theorem mvE_er {st ins : List Int} : ∀ (t : Ex) {e : Int}, mvE st ins t = .error e → e ≠ 0 := by
 have hc : ∀ (r : Except Int Int) (e : Int), (∀ e, r = .error e → e ≠ 0) → chkE r = .error e → e ≠ 0 := by
  intro r e h h1
  unfold chkE at h1
  rcases r with er | n
  ·simp only [Except.error.injEq] at h1; subst h1; exact h _ rfl
  ·simp only at h1
   split at h1
   ·cases h1
   ·simp only [Except.error.injEq] at h1; subst h1; decide
 have hl : ∀ (op n e : Int), leafE st ins op n = .error e → e ≠ 0 := by
  intro op n e h
  unfold leafE at h
  split at h
  ·cases h
  split at h
  ·cases h
  split at h
  ·cases h
  simp only [Except.error.injEq] at h; subst h; decide
 have ho : ∀ (op a b e : Int), opE op a b = .error e → e ≠ 0 := by
  intro op a b e h
  unfold opE at h
  repeat' split at h
  all_goals (cases h; try decide)
 intro t
 induction t using U.Ex.rec (motive_2 := fun ks => ∀ {e : Int}, mvK st ins ks = .error e → e ≠ 0) with
 | mk op n u ks ih =>
  intro e h
  rw [mvE] at h
  rcases hk : mvK st ins ks with er | ns
  ·rw [hk] at h
   simp only [Except.error.injEq] at h
   subst h
   exact ih hk
  ·rw [hk] at h
   simp only at h
   match ns, h with
   | [], h => exact hc _ _ (fun e he => hl _ _ e he) h
   | [a, b], h => exact hc _ _ (fun e he => ho _ _ _ e he) h
   | [a], h => simp only [nodE, Except.error.injEq] at h; subst h; decide
   | a :: b :: c :: l, h => simp only [nodE, Except.error.injEq] at h; subst h; decide
 | nil => rename_i e h; rw [mvK] at h; cases h
 | cons t ts ih1 ih2 =>
  rename_i e h
  rw [mvK] at h
  rcases h1 : mvE st ins t with er | n
  ·rw [h1] at h
   simp only [Except.error.injEq] at h
   subst h
   exact ih1 h1
  rw [h1] at h
  simp only at h
  rcases h2 : mvK st ins ts with er | l
  ·rw [h2] at h
   simp only [Except.error.injEq] at h
   subst h
   exact ih2 h2
  rw [h2] at h
  cases h
mutual
theorem rnS_er {ins : List Int} {lim : List Sp} : ∀ (x : St) {st : List Int} {e : Int}, rnS ins lim st x = .error e → e ≠ 0
 | .mk k vr r a b th el, st, e, h => by
  rw [rnS] at h
  split at h
  ·rcases ha : mvE st ins a with er | n
   ·rw [ha] at h; simp only [Except.error.injEq] at h; subst h; exact mvE_er _ ha
   rw [ha] at h
   simp only at h
   split at h
   ·cases h
   ·simp only [Except.error.injEq] at h; subst h; decide
  ·rcases ha : mvE st ins a with er | y
   ·rw [ha] at h; simp only [Except.error.injEq] at h; subst h; exact mvE_er _ ha
   rw [ha] at h
   simp only at h
   rcases hb : mvE st ins b with er | z
   ·rw [hb] at h; simp only [Except.error.injEq] at h; subst h; exact mvE_er _ hb
   rw [hb] at h
   simp only at h
   split at h
   ·exact rnL_er th h
   ·exact rnL_er el h
theorem rnL_er {ins : List Int} {lim : List Sp} : ∀ (l : List St) {st : List Int} {e : Int}, rnL ins lim st l = .error e → e ≠ 0
 | [], st, e, h => by rw [rnL] at h; cases h
 | x :: xs, st, e, h => by
  rw [rnL] at h
  rcases h1 : rnS ins lim st x with er | u
  ·rw [h1] at h; simp only [Except.error.injEq] at h; subst h; exact rnS_er x h1
  rw [h1] at h
  exact rnL_er xs h
end
def PostR (W : World) (g cap : Nat) (r : Except Int (List Int)) (w1 : World) : Prop :=
 (match r with
  | .ok st' => IntsO 0 w1 st' g cap
  | .error _ => True) ∧ KpL g W w1
def unitL : Except Int (List Int) → Except Int Unit
 | .ok _ => .ok ()
 | .error e => .error e
theorem cloR_any (W0 : World) (st : List Int) (g cap : Nat) (vs : List Vr) (VA : Option Addr) (vm : Nat) (i0 i1 i2 i3 : Int) (mb b0 b1 b2 k lm : Nat) (l : List St) (LA : Option Addr) (W : World) (hg0 : Gr W0 W) (hO : IntsO W0.heap.size W st g cap) (hV : VarsR W0 vs VA) (hM : OpsR W mb) (hL : StsR W0 l LA) (hW : WfL vs.length l) (hsl : st.length = vs.length) (hvl : vs.length ≤ 12) (hlen : l.length ≤ maxLen)
  (h0 : W.heap[b0]? = some (.cells (ruA VA vs.length vm g st.length cap i0 i1 i2 i3 mb) 61 (0, 0))) (h1 : W.cell? ⟨b1, 2 + k, none⟩ = some (.slice LA l.length lm)) (h2 : W.cell? ⟨b2, 0, none⟩ = some (.int .i64 k)) (hk : k < 5) :
  Calls Tryz.prog 29 #[.pointer (some ⟨b0, 0, none⟩), .pointer (some ⟨b1, 0, none⟩), .pointer (some ⟨b2, 0, none⟩)] W (LeftP (unitL (rnL [i0, i1, i2, i3] (limS vs) st l)) (PostR W g cap (rnL [i0, i1, i2, i3] (limS vs) st l))) := by
 have HRn := Lib.hid (fun wx (hgx : Gr W wx) => runs_any vs hvl VA vm i0 i1 i2 i3 l W0 wx st g cap LA lm mb (hg0.tr hgx) (hO.gr hgx) hV (hM.gr hgx) hL hW hsl hlen)
 obtain ⟨r0, r1, r2, r3, r4, r5, r6⟩ := cells7 h0
 generalize rnL [i0, i1, i2, i3] (limS vs) st l = q at *
 clear h0 hO hV hM hL hW hsl hvl hlen hg0
 go_enter Tryz.func29, Tryz.ntmps29
 refine wp_region_X (S := fun wq => Gr W wq) [6] (by kernel_rfl) (grDrew _) (fun hHeld => ?_)
 have hSG : Hid (∀ wp wq : World, Gr W wp → Gr wp wq → Gr W wq) := Lib.hid (fun _ _ h k => h.tr k)
 have hmv := Lib.hid (fun (wq : World) (hq : Gr W wq) => And.intro (grCell hq r0) (And.intro (grCell hq r1) (And.intro (grCell hq r2) (And.intro (grCell hq r3) (And.intro (grCell hq r4) (And.intro (grCell hq r5) (And.intro (grCell hq r6) (And.intro (grCell hq h1) (grCell hq h2)))))))))
 first
  | (refine xk hSG 0 [6] (v := ?_) rfl (by kernel_rfl) (fun _ _ _ h => h) (by rfl) ?_ hHeld ?_; rotate_left; focus (intro w' hSw; obtain ⟨r0, r1, r2, r3, r4, r5, r6, h1, h2⟩ := hmv.out _ hSw; go_simp; (try with_reducible rfl)))
  | refine xn hSG 0 [6] rfl (by kernel_rfl) (fun _ _ _ h => h) (by rfl) hHeld ?_
 (try simp only [zq1, zq2, zq3, Act.put, zq4, zq5, zq6])
 first
  | (refine xk hSG 1 [2, 4, 5, 6] (v := ?_) rfl (by kernel_rfl) (fun _ _ _ h => h) (by rfl) ?_ hHeld ?_; rotate_left; focus (intro w' hSw; obtain ⟨r0, r1, r2, r3, r4, r5, r6, h1, h2⟩ := hmv.out _ hSw; go_simp; (try with_reducible rfl)))
  | refine xn hSG 1 [2, 4, 5, 6] rfl (by kernel_rfl) (fun _ _ _ h => h) (by rfl) hHeld ?_
 (try simp only [zq1, zq2, zq3, Act.put, zq4, zq5, zq6])
 first
  | (refine xk hSG 2 [4, 5, 6] (v := ?_) rfl (by kernel_rfl) (fun _ _ _ h => h) (by rfl) ?_ hHeld ?_; rotate_left; focus (intro w' hSw; obtain ⟨r0, r1, r2, r3, r4, r5, r6, h1, h2⟩ := hmv.out _ hSw; go_simp; (try with_reducible rfl)))
  | refine xn hSG 2 [4, 5, 6] rfl (by kernel_rfl) (fun _ _ _ h => h) (by rfl) hHeld ?_
 (try simp only [zq1, zq2, zq3, Act.put, zq4, zq5, zq6])
 first
  | (refine xk hSG 3 [4, 5, 6] (v := ?_) rfl (by kernel_rfl) (fun _ _ _ h => h) (by rfl) ?_ hHeld ?_; rotate_left; focus (intro w' hSw; obtain ⟨r0, r1, r2, r3, r4, r5, r6, h1, h2⟩ := hmv.out _ hSw; go_simp; (try with_reducible rfl)))
  | refine xn hSG 3 [4, 5, 6] rfl (by kernel_rfl) (fun _ _ _ h => h) (by rfl) hHeld ?_
 (try simp only [zq1, zq2, zq3, Act.put, zq4, zq5, zq6])
 refine xk hSG 4 [5, 6] (v := .pointer (some ⟨b1, 2 + k, none⟩)) rfl (by kernel_rfl) (fun _ _ _ h => h) (by rfl) ?_ hHeld ?_
 focus (intro w' hSw; obtain ⟨r0, r1, r2, r3, r4, r5, r6, h1, h2⟩ := hmv.out _ hSw; go_simp; (try (intro hq; omega)))
 (try simp only [zq1, zq2, zq3, Act.put, zq4, zq5, zq6])
 first
  | (refine xk hSG 5 [6] (v := ?_) rfl (by kernel_rfl) (fun _ _ _ h => h) (by rfl) ?_ hHeld ?_; rotate_left; focus (intro w' hSw; obtain ⟨r0, r1, r2, r3, r4, r5, r6, h1, h2⟩ := hmv.out _ hSw; go_simp; (try with_reducible rfl)))
  | refine xn hSG 5 [6] rfl (by kernel_rfl) (fun _ _ _ h => h) (by rfl) hHeld ?_
 (try simp only [zq1, zq2, zq3, Act.put, zq4, zq5, zq6])
 refine wpAnyX_oneX (i := 6) (by kernel_rfl) (by kernel_rfl) rfl (fun w7 hg K hK => ?_)
 have hg7 := (grDrew W).tr hg
 go_simp
 go_at_call 30
 refine (HRn.out _ hg7).mono ?_
 rcases q with er | s2
 ·rintro e w8 ⟨he, hk8⟩
  simp only at he
  subst he
  have hP := Lib.hid (show PostR W g cap (.error er) w8 from ⟨trivial, (U.Below.kpl hg7).trans hk8⟩)
  go_wp2
  exact ⟨rfl, rfl, hP.out⟩
 ·rintro e w8 ⟨⟨he, ho8⟩, hk8⟩
  subst he
  refine hK.out _ _ ?_
  clear hK K hg
  have hO8 := Lib.hid (ho8.mono (Nat.zero_le _))
  have hk9 := Lib.hid ((U.Below.kpl hg7).trans hk8)
  refine wpAnyX_done (by kernel_rfl) (fun w9 hg => ?_) _
  have hP := Lib.hid (show PostR W g cap (.ok s2) w9 from ⟨hO8.out.gr hg, hk9.out.trans (U.Below.kpl hg)⟩)
  go_wp2
  exact ⟨rfl, .tuple #[], by simp [results, Tryz.results29, go_sem], rfl, hP.out⟩
end M
end Go.Proofs.YtdlebaiamdbneaaGreatDoor
