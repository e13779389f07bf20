/- Package machine: isCall; the reference 08's Call, Ints. Condition: the listed variable holds what the text lays. -/
import Derived.Test.YthgngkajdiclcaaDoorNbH
import Derived.Test.YthgngkajdiclcaaDoorKyH
namespace Go.Proofs.YthgngkajdiclcaaDoor
open Go.RowKit
set_option linter.unusedVariables false
set_option linter.unusedSimpArgs false
namespace N
open K
def BB (b : Bool) (w : World) (e : Ending) (w' : World) : Prop := e = .returned (.bool b) ∧ Below w.heap.size w w'
theorem newBlk (w : World) (o : Obj) (b : Nat) (h : b = w.heap.size) : (w.alloc o).heap[b]? = some o := by subst h; exact heap_alloc_new w o
theorem bDrewN {B : Nat} {w X : World} (h : Below B w X) (n : Nat) : Below B w (X.drewN n) := ⟨h.os, h.tape, h.output, h.size, h.block⟩
def insR : List Sp := [⟨1, 1000⟩, ⟨1, 10000000⟩, ⟨1, 10000⟩, ⟨0, 4000⟩]
/-- what the laid variable gives -/
def LaidI (w : World) : Prop := ∀ (k : Nat) (s : Sp), insR[k]? = some s → w.cell? ⟨0, k * 2, none⟩ = some (.int .i64 s.lo) ∧ w.cell? ⟨0, k * 2 + 1, none⟩ = some (.int .i64 s.hi)
theorem LaidI.gr {w w' : World} (h : LaidI w) (hg : Gr w w') : LaidI w' := fun k s hs => ⟨grCell hg (h k s hs).1, grCell hg (h k s hs).2⟩
/-- a call is valid, from input k on -/
def rsB (e i0 i1 i2 i3 : Int) : Nat → Bool
  | 0 => btw i0 1 1000 && (btw i1 1 10000000 && (btw i2 1 10000 && (btw i3 0 4000 && btw e 0 4)))
  | 1 => btw i1 1 10000000 && (btw i2 1 10000 && (btw i3 0 4000 && btw e 0 4))
  | 2 => btw i2 1 10000 && (btw i3 0 4000 && btw e 0 4)
  | 3 => btw i3 0 4000 && btw e 0 4
  | _ => btw e 0 4
abbrev clA (e i0 i1 i2 i3 : Int) : Array Value := #[.int .i64 e, .int .i64 i0, .int .i64 i1, .int .i64 i2, .int .i64 i3]
theorem ix4 (v0 v1 v2 v3 : Value) (w : World) : (Instr.index 28 (.agg #[v0, v1, v2, v3]) (.int .i64 0)).run Tryd.prog w = .ok v0 w ∧ (Instr.index 28 (.agg #[v0, v1, v2, v3]) (.int .i64 1)).run Tryd.prog w = .ok v1 w ∧ (Instr.index 28 (.agg #[v0, v1, v2, v3]) (.int .i64 2)).run Tryd.prog w = .ok v2 w ∧ (Instr.index 28 (.agg #[v0, v1, v2, v3]) (.int .i64 3)).run Tryd.prog w = .ok v3 w := by
  refine ⟨?_, ?_, ?_, ?_⟩ <;> simp [Instr.index, run_underlying Tryd.underlying28, asIntOf, go_sem]
set_option maxHeartbeats 8000000 in
set_option maxRecDepth 100000 in
theorem isCall_any (e i0 i1 i2 i3 : Int) (w : World) (hL : LaidI w) : Calls Tryd.prog 31 #[.agg (clA e i0 i1 i2 i3)] w (BB (rsB e i0 i1 i2 i3 0) w) := by
  obtain ⟨r, hr⟩ : ∃ r, rsB e i0 i1 i2 i3 0 = r := ⟨_, rfl⟩
  rw [hr]
  have hrH : Hid (rsB e i0 i1 i2 i3 0 = r) := Lib.hid hr
  have HX0 : Hid ((w.alloc (.cells (clA e i0 i1 i2 i3) 30)).heap[w.heap.size]? = some (.cells (clA e i0 i1 i2 i3) 30 (0, 0))) := Lib.hid (newBlk _ _ _ rfl)
  have HB0 := Lib.hid (grAlloc w (.cells (clA e i0 i1 i2 i3) 30))
  have HL := Lib.hid hL
  have hix := fun wx => (ix4 (.int .i64 i0) (.int .i64 i1) (.int .i64 i2) (.int .i64 i3) wx).1
  have hix1 := fun wx => (ix4 (.int .i64 i0) (.int .i64 i1) (.int .i64 i2) (.int .i64 i3) wx).2.1
  have hix2 := fun wx => (ix4 (.int .i64 i0) (.int .i64 i1) (.int .i64 i2) (.int .i64 i3) wx).2.2.1
  have hix3 := fun wx => (ix4 (.int .i64 i0) (.int .i64 i1) (.int .i64 i2) (.int .i64 i3) wx).2.2.2
  clear hL hr
  go_enter Tryd.func31, Tryd.ntmps31
  go_wp2_with fail
  go_loopg [7] (4) (fun gk i wr => ∃ k : Nat, k + gk = 4 ∧ i = .int .i64 k ∧ Hid (rsB e i0 i1 i2 i3 k = r) ∧ Hid (wr.heap[w.heap.size]? = some (.cells (clA e i0 i1 i2 i3) 30 (0, 0))) ∧ Hid (Gr w wr))
  case atStart => exact ⟨0, by omega, rfl, hrH, HX0, HB0⟩
  case round =>
    obtain ⟨k, hk, rfl, hG, hX, hW⟩ := hrel
    clear HX0 HB0
    have h5 : k = 0 ∨ k = 1 ∨ k = 2 ∨ k = 3 ∨ k = 4 := by omega
    obtain ⟨c0, c1, c2, c3, c4⟩ := cells5k hX.out
    rcases h5 with rfl | rfl | rfl | rfl | rfl
    · obtain ⟨gq, rfl⟩ : ∃ g, gk = g + 1 := ⟨gk - 1, by omega⟩
      obtain ⟨g0, g1⟩ := HL.out 0 ⟨1, 1000⟩ rfl
      have g0 := grCell hW.out g0
      have g1 := grCell hW.out g1
      have HBt := Lib.hid (fun wx => between_any i0 1 1000 wx)
      have hGd : (btw i0 1 1000 && rsB e i0 i1 i2 i3 1) = r := hG.out
      rcases hb : btw i0 1 1000 with _ | _
      · rw [hb] at HBt hGd
        obtain rfl : false = r := by simpa using hGd
        clear hb hGd hG
        go_upto_region 4 with fail
        refine wp_region_G (S := fun wq => Gr wr wq) (by kernel_rfl) (grDrew _) (fun hHeld => ?_)
        have hSG : Hid (∀ wp wq : World, Gr wr wp → Gr wp wq → Gr wr wq) := Lib.hid (fun _ _ h k => h.tr k)
        have hmv := Lib.hid (fun (wq : World) (hq : Gr wr wq) => And.intro (grCell hq g0) (grCell hq g1))
        first
         | (refine tk hSG 0 (v := ?_) rfl (by kernel_rfl) (fun _ _ _ h => h) (by rfl) ?_ hHeld ?_; rotate_left; focus (intro w' hSw; obtain ⟨g0, g1⟩ := hmv.out _ hSw; go_simp; (try with_reducible rfl)))
         | refine tn hSG 0 rfl (by kernel_rfl) (fun _ _ _ h => h) (by rfl) hHeld ?_
        (try simp only [zq1, zq2, zq3, Act.put, zq4, zq5, zq6])
        first
         | (refine tk hSG 1 (v := ?_) rfl (by kernel_rfl) (fun _ _ _ h => h) (by rfl) ?_ hHeld ?_; rotate_left; focus (intro w' hSw; obtain ⟨g0, g1⟩ := hmv.out _ hSw; go_simp; (try with_reducible rfl)))
         | refine tn hSG 1 rfl (by kernel_rfl) (fun _ _ _ h => h) (by rfl) hHeld ?_
        (try simp only [zq1, zq2, zq3, Act.put, zq4, zq5, zq6])
        refine tk hSG 2 (v := .pointer (some ⟨0, 0, none⟩)) rfl (by kernel_rfl) (fun _ _ _ h => h) (by rfl) ?_ hHeld ?_
        focus (intro w' hSw; obtain ⟨g0, g1⟩ := hmv.out _ hSw; go_simp; (try (intro hq; omega)))
        (try simp only [zq1, zq2, zq3, Act.put, zq4, zq5, zq6])
        first
         | (refine tk hSG 3 (v := ?_) rfl (by kernel_rfl) (fun _ _ _ h => h) (by rfl) ?_ hHeld ?_; rotate_left; focus (intro w' hSw; obtain ⟨g0, g1⟩ := hmv.out _ hSw; go_simp; (try with_reducible rfl)))
         | refine tn hSG 3 rfl (by kernel_rfl) (fun _ _ _ h => h) (by rfl) hHeld ?_
        (try simp only [zq1, zq2, zq3, Act.put, zq4, zq5, zq6])
        first
         | (refine tk hSG 4 (v := ?_) rfl (by kernel_rfl) (fun _ _ _ h => h) (by rfl) ?_ hHeld ?_; rotate_left; focus (intro w' hSw; obtain ⟨g0, g1⟩ := hmv.out _ hSw; go_simp; (try with_reducible rfl)))
         | refine tn hSG 4 rfl (by kernel_rfl) (fun _ _ _ h => h) (by rfl) hHeld ?_
        (try simp only [zq1, zq2, zq3, Act.put, zq4, zq5, zq6])
        first
         | (refine tk hSG 5 (v := ?_) rfl (by kernel_rfl) (fun _ _ _ h => h) (by rfl) ?_ hHeld ?_; rotate_left; focus (intro w' hSw; obtain ⟨g0, g1⟩ := hmv.out _ hSw; go_simp; (try with_reducible rfl)))
         | refine tn hSG 5 rfl (by kernel_rfl) (fun _ _ _ h => h) (by rfl) hHeld ?_
        (try simp only [zq1, zq2, zq3, Act.put, zq4, zq5, zq6])
        refine tk hSG 6 (v := .pointer (some ⟨0, 0, none⟩)) rfl (by kernel_rfl) (fun _ _ _ h => h) (by rfl) ?_ hHeld ?_
        focus (intro w' hSw; obtain ⟨g0, g1⟩ := hmv.out _ hSw; go_simp; (try (intro hq; omega)))
        (try simp only [zq1, zq2, zq3, Act.put, zq4, zq5, zq6])
        first
         | (refine tk hSG 7 (v := ?_) rfl (by kernel_rfl) (fun _ _ _ h => h) (by rfl) ?_ hHeld ?_; rotate_left; focus (intro w' hSw; obtain ⟨g0, g1⟩ := hmv.out _ hSw; go_simp; (try with_reducible rfl)))
         | refine tn hSG 7 rfl (by kernel_rfl) (fun _ _ _ h => h) (by rfl) hHeld ?_
        (try simp only [zq1, zq2, zq3, Act.put, zq4, zq5, zq6])
        first
         | (refine tk hSG 8 (v := ?_) rfl (by kernel_rfl) (fun _ _ _ h => h) (by rfl) ?_ hHeld ?_; rotate_left; focus (intro w' hSw; obtain ⟨g0, g1⟩ := hmv.out _ hSw; go_simp; (try with_reducible rfl)))
         | refine tn hSG 8 rfl (by kernel_rfl) (fun _ _ _ h => h) (by rfl) hHeld ?_
        (try simp only [zq1, zq2, zq3, Act.put, zq4, zq5, zq6])
        refine tc hSG 9 (v := .bool false) rfl (by kernel_rfl) (fun _ _ _ h => h) (by rfl) ?_ hHeld ?_
        focus (intro wz hSw K hK; obtain ⟨g0, g1⟩ := hmv.out _ hSw; go_simp; go_at_call 44; refine (HBt.out _).mono ?_; rintro e w2 ⟨rfl, hw⟩; have hb2 := belOf hw; exact hK.out _ hb2)
        (try simp only [zq1, zq2, zq3, Act.put, zq4, zq5, zq6])
        first
         | (refine tk hSG 10 (v := ?_) rfl (by kernel_rfl) (fun _ _ _ h => h) (by rfl) ?_ hHeld ?_; rotate_left; focus (intro w' hSw; obtain ⟨g0, g1⟩ := hmv.out _ hSw; go_simp; (try with_reducible rfl)))
         | refine tn hSG 10 rfl (by kernel_rfl) (fun _ _ _ h => h) (by rfl) hHeld ?_
        (try simp only [zq1, zq2, zq3, Act.put, zq4, zq5, zq6])
        refine wpAnyG_done (by kernel_rfl) (fun w5 hgD => ?_) _
        have hg5 : Gr wr w5 := (grDrew wr).tr hgD
        clear hgD hSG hHeld
        have hB6 := Lib.hid (hW.out.tr hg5)
        go_wp2
        go_ret
        exact ⟨rfl, hB6.out⟩
      · rw [hb] at HBt hGd
        have hGd := Lib.hid (show rsB e i0 i1 i2 i3 1 = r by simpa using hGd)
        clear hb hG
        go_upto_region 4 with fail
        refine wp_region_G (S := fun wq => Gr wr wq) (by kernel_rfl) (grDrew _) (fun hHeld => ?_)
        have hSG : Hid (∀ wp wq : World, Gr wr wp → Gr wp wq → Gr wr wq) := Lib.hid (fun _ _ h k => h.tr k)
        have hmv := Lib.hid (fun (wq : World) (hq : Gr wr wq) => And.intro (grCell hq g0) (grCell hq g1))
        first
         | (refine tk hSG 0 (v := ?_) rfl (by kernel_rfl) (fun _ _ _ h => h) (by rfl) ?_ hHeld ?_; rotate_left; focus (intro w' hSw; obtain ⟨g0, g1⟩ := hmv.out _ hSw; go_simp; (try with_reducible rfl)))
         | refine tn hSG 0 rfl (by kernel_rfl) (fun _ _ _ h => h) (by rfl) hHeld ?_
        (try simp only [zq1, zq2, zq3, Act.put, zq4, zq5, zq6])
        first
         | (refine tk hSG 1 (v := ?_) rfl (by kernel_rfl) (fun _ _ _ h => h) (by rfl) ?_ hHeld ?_; rotate_left; focus (intro w' hSw; obtain ⟨g0, g1⟩ := hmv.out _ hSw; go_simp; (try with_reducible rfl)))
         | refine tn hSG 1 rfl (by kernel_rfl) (fun _ _ _ h => h) (by rfl) hHeld ?_
        (try simp only [zq1, zq2, zq3, Act.put, zq4, zq5, zq6])
        refine tk hSG 2 (v := .pointer (some ⟨0, 0, none⟩)) rfl (by kernel_rfl) (fun _ _ _ h => h) (by rfl) ?_ hHeld ?_
        focus (intro w' hSw; obtain ⟨g0, g1⟩ := hmv.out _ hSw; go_simp; (try (intro hq; omega)))
        (try simp only [zq1, zq2, zq3, Act.put, zq4, zq5, zq6])
        first
         | (refine tk hSG 3 (v := ?_) rfl (by kernel_rfl) (fun _ _ _ h => h) (by rfl) ?_ hHeld ?_; rotate_left; focus (intro w' hSw; obtain ⟨g0, g1⟩ := hmv.out _ hSw; go_simp; (try with_reducible rfl)))
         | refine tn hSG 3 rfl (by kernel_rfl) (fun _ _ _ h => h) (by rfl) hHeld ?_
        (try simp only [zq1, zq2, zq3, Act.put, zq4, zq5, zq6])
        first
         | (refine tk hSG 4 (v := ?_) rfl (by kernel_rfl) (fun _ _ _ h => h) (by rfl) ?_ hHeld ?_; rotate_left; focus (intro w' hSw; obtain ⟨g0, g1⟩ := hmv.out _ hSw; go_simp; (try with_reducible rfl)))
         | refine tn hSG 4 rfl (by kernel_rfl) (fun _ _ _ h => h) (by rfl) hHeld ?_
        (try simp only [zq1, zq2, zq3, Act.put, zq4, zq5, zq6])
        first
         | (refine tk hSG 5 (v := ?_) rfl (by kernel_rfl) (fun _ _ _ h => h) (by rfl) ?_ hHeld ?_; rotate_left; focus (intro w' hSw; obtain ⟨g0, g1⟩ := hmv.out _ hSw; go_simp; (try with_reducible rfl)))
         | refine tn hSG 5 rfl (by kernel_rfl) (fun _ _ _ h => h) (by rfl) hHeld ?_
        (try simp only [zq1, zq2, zq3, Act.put, zq4, zq5, zq6])
        refine tk hSG 6 (v := .pointer (some ⟨0, 0, none⟩)) rfl (by kernel_rfl) (fun _ _ _ h => h) (by rfl) ?_ hHeld ?_
        focus (intro w' hSw; obtain ⟨g0, g1⟩ := hmv.out _ hSw; go_simp; (try (intro hq; omega)))
        (try simp only [zq1, zq2, zq3, Act.put, zq4, zq5, zq6])
        first
         | (refine tk hSG 7 (v := ?_) rfl (by kernel_rfl) (fun _ _ _ h => h) (by rfl) ?_ hHeld ?_; rotate_left; focus (intro w' hSw; obtain ⟨g0, g1⟩ := hmv.out _ hSw; go_simp; (try with_reducible rfl)))
         | refine tn hSG 7 rfl (by kernel_rfl) (fun _ _ _ h => h) (by rfl) hHeld ?_
        (try simp only [zq1, zq2, zq3, Act.put, zq4, zq5, zq6])
        first
         | (refine tk hSG 8 (v := ?_) rfl (by kernel_rfl) (fun _ _ _ h => h) (by rfl) ?_ hHeld ?_; rotate_left; focus (intro w' hSw; obtain ⟨g0, g1⟩ := hmv.out _ hSw; go_simp; (try with_reducible rfl)))
         | refine tn hSG 8 rfl (by kernel_rfl) (fun _ _ _ h => h) (by rfl) hHeld ?_
        (try simp only [zq1, zq2, zq3, Act.put, zq4, zq5, zq6])
        refine tc hSG 9 (v := .bool true) rfl (by kernel_rfl) (fun _ _ _ h => h) (by rfl) ?_ hHeld ?_
        focus (intro wz hSw K hK; obtain ⟨g0, g1⟩ := hmv.out _ hSw; go_simp; go_at_call 44; refine (HBt.out _).mono ?_; rintro e w2 ⟨rfl, hw⟩; have hb2 := belOf hw; exact hK.out _ hb2)
        (try simp only [zq1, zq2, zq3, Act.put, zq4, zq5, zq6])
        first
         | (refine tk hSG 10 (v := ?_) rfl (by kernel_rfl) (fun _ _ _ h => h) (by rfl) ?_ hHeld ?_; rotate_left; focus (intro w' hSw; obtain ⟨g0, g1⟩ := hmv.out _ hSw; go_simp; (try with_reducible rfl)))
         | refine tn hSG 10 rfl (by kernel_rfl) (fun _ _ _ h => h) (by rfl) hHeld ?_
        (try simp only [zq1, zq2, zq3, Act.put, zq4, zq5, zq6])
        refine wpAnyG_done (by kernel_rfl) (fun w5 hgD => ?_) _
        have hg5 : Gr wr w5 := (grDrew wr).tr hgD
        clear hgD hSG hHeld
        have hB6 := Lib.hid (hW.out.tr hg5)
        have hX6 := Lib.hid (grBlk hg5 hX.out)
        clear c0 c1 c2 c3 c4 g0 g1 hg5
        go_upto_region 6 with fail
        go_wp2
        go_roundg gq
        case measure => omega
        case rel => exact ⟨1, by omega, by go_num, hGd, hX6, hB6⟩
    · obtain ⟨gq, rfl⟩ : ∃ g, gk = g + 1 := ⟨gk - 1, by omega⟩
      obtain ⟨g0, g1⟩ := HL.out 1 ⟨1, 10000000⟩ rfl
      have g0 := grCell hW.out g0
      have g1 := grCell hW.out g1
      have HBt := Lib.hid (fun wx => between_any i1 1 10000000 wx)
      have hGd : (btw i1 1 10000000 && rsB e i0 i1 i2 i3 2) = r := hG.out
      rcases hb : btw i1 1 10000000 with _ | _
      · rw [hb] at HBt hGd
        obtain rfl : false = r := by simpa using hGd
        clear hb hGd hG
        go_upto_region 4 with fail
        refine wp_region_G (S := fun wq => Gr wr wq) (by kernel_rfl) (grDrew _) (fun hHeld => ?_)
        have hSG : Hid (∀ wp wq : World, Gr wr wp → Gr wp wq → Gr wr wq) := Lib.hid (fun _ _ h k => h.tr k)
        have hmv := Lib.hid (fun (wq : World) (hq : Gr wr wq) => And.intro (grCell hq g0) (grCell hq g1))
        first
         | (refine tk hSG 0 (v := ?_) rfl (by kernel_rfl) (fun _ _ _ h => h) (by rfl) ?_ hHeld ?_; rotate_left; focus (intro w' hSw; obtain ⟨g0, g1⟩ := hmv.out _ hSw; go_simp; (try with_reducible rfl)))
         | refine tn hSG 0 rfl (by kernel_rfl) (fun _ _ _ h => h) (by rfl) hHeld ?_
        (try simp only [zq1, zq2, zq3, Act.put, zq4, zq5, zq6])
        first
         | (refine tk hSG 1 (v := ?_) rfl (by kernel_rfl) (fun _ _ _ h => h) (by rfl) ?_ hHeld ?_; rotate_left; focus (intro w' hSw; obtain ⟨g0, g1⟩ := hmv.out _ hSw; go_simp; (try with_reducible rfl)))
         | refine tn hSG 1 rfl (by kernel_rfl) (fun _ _ _ h => h) (by rfl) hHeld ?_
        (try simp only [zq1, zq2, zq3, Act.put, zq4, zq5, zq6])
        refine tk hSG 2 (v := .pointer (some ⟨0, 2, none⟩)) rfl (by kernel_rfl) (fun _ _ _ h => h) (by rfl) ?_ hHeld ?_
        focus (intro w' hSw; obtain ⟨g0, g1⟩ := hmv.out _ hSw; go_simp; (try (intro hq; omega)))
        (try simp only [zq1, zq2, zq3, Act.put, zq4, zq5, zq6])
        first
         | (refine tk hSG 3 (v := ?_) rfl (by kernel_rfl) (fun _ _ _ h => h) (by rfl) ?_ hHeld ?_; rotate_left; focus (intro w' hSw; obtain ⟨g0, g1⟩ := hmv.out _ hSw; go_simp; (try with_reducible rfl)))
         | refine tn hSG 3 rfl (by kernel_rfl) (fun _ _ _ h => h) (by rfl) hHeld ?_
        (try simp only [zq1, zq2, zq3, Act.put, zq4, zq5, zq6])
        first
         | (refine tk hSG 4 (v := ?_) rfl (by kernel_rfl) (fun _ _ _ h => h) (by rfl) ?_ hHeld ?_; rotate_left; focus (intro w' hSw; obtain ⟨g0, g1⟩ := hmv.out _ hSw; go_simp; (try with_reducible rfl)))
         | refine tn hSG 4 rfl (by kernel_rfl) (fun _ _ _ h => h) (by rfl) hHeld ?_
        (try simp only [zq1, zq2, zq3, Act.put, zq4, zq5, zq6])
        first
         | (refine tk hSG 5 (v := ?_) rfl (by kernel_rfl) (fun _ _ _ h => h) (by rfl) ?_ hHeld ?_; rotate_left; focus (intro w' hSw; obtain ⟨g0, g1⟩ := hmv.out _ hSw; go_simp; (try with_reducible rfl)))
         | refine tn hSG 5 rfl (by kernel_rfl) (fun _ _ _ h => h) (by rfl) hHeld ?_
        (try simp only [zq1, zq2, zq3, Act.put, zq4, zq5, zq6])
        refine tk hSG 6 (v := .pointer (some ⟨0, 2, none⟩)) rfl (by kernel_rfl) (fun _ _ _ h => h) (by rfl) ?_ hHeld ?_
        focus (intro w' hSw; obtain ⟨g0, g1⟩ := hmv.out _ hSw; go_simp; (try (intro hq; omega)))
        (try simp only [zq1, zq2, zq3, Act.put, zq4, zq5, zq6])
        first
         | (refine tk hSG 7 (v := ?_) rfl (by kernel_rfl) (fun _ _ _ h => h) (by rfl) ?_ hHeld ?_; rotate_left; focus (intro w' hSw; obtain ⟨g0, g1⟩ := hmv.out _ hSw; go_simp; (try with_reducible rfl)))
         | refine tn hSG 7 rfl (by kernel_rfl) (fun _ _ _ h => h) (by rfl) hHeld ?_
        (try simp only [zq1, zq2, zq3, Act.put, zq4, zq5, zq6])
        first
         | (refine tk hSG 8 (v := ?_) rfl (by kernel_rfl) (fun _ _ _ h => h) (by rfl) ?_ hHeld ?_; rotate_left; focus (intro w' hSw; obtain ⟨g0, g1⟩ := hmv.out _ hSw; go_simp; (try with_reducible rfl)))
         | refine tn hSG 8 rfl (by kernel_rfl) (fun _ _ _ h => h) (by rfl) hHeld ?_
        (try simp only [zq1, zq2, zq3, Act.put, zq4, zq5, zq6])
        refine tc hSG 9 (v := .bool false) rfl (by kernel_rfl) (fun _ _ _ h => h) (by rfl) ?_ hHeld ?_
        focus (intro wz hSw K hK; obtain ⟨g0, g1⟩ := hmv.out _ hSw; go_simp; go_at_call 44; refine (HBt.out _).mono ?_; rintro e w2 ⟨rfl, hw⟩; have hb2 := belOf hw; exact hK.out _ hb2)
        (try simp only [zq1, zq2, zq3, Act.put, zq4, zq5, zq6])
        first
         | (refine tk hSG 10 (v := ?_) rfl (by kernel_rfl) (fun _ _ _ h => h) (by rfl) ?_ hHeld ?_; rotate_left; focus (intro w' hSw; obtain ⟨g0, g1⟩ := hmv.out _ hSw; go_simp; (try with_reducible rfl)))
         | refine tn hSG 10 rfl (by kernel_rfl) (fun _ _ _ h => h) (by rfl) hHeld ?_
        (try simp only [zq1, zq2, zq3, Act.put, zq4, zq5, zq6])
        refine wpAnyG_done (by kernel_rfl) (fun w5 hgD => ?_) _
        have hg5 : Gr wr w5 := (grDrew wr).tr hgD
        clear hgD hSG hHeld
        have hB6 := Lib.hid (hW.out.tr hg5)
        go_wp2
        go_ret
        exact ⟨rfl, hB6.out⟩
      · rw [hb] at HBt hGd
        have hGd := Lib.hid (show rsB e i0 i1 i2 i3 2 = r by simpa using hGd)
        clear hb hG
        go_upto_region 4 with fail
        refine wp_region_G (S := fun wq => Gr wr wq) (by kernel_rfl) (grDrew _) (fun hHeld => ?_)
        have hSG : Hid (∀ wp wq : World, Gr wr wp → Gr wp wq → Gr wr wq) := Lib.hid (fun _ _ h k => h.tr k)
        have hmv := Lib.hid (fun (wq : World) (hq : Gr wr wq) => And.intro (grCell hq g0) (grCell hq g1))
        first
         | (refine tk hSG 0 (v := ?_) rfl (by kernel_rfl) (fun _ _ _ h => h) (by rfl) ?_ hHeld ?_; rotate_left; focus (intro w' hSw; obtain ⟨g0, g1⟩ := hmv.out _ hSw; go_simp; (try with_reducible rfl)))
         | refine tn hSG 0 rfl (by kernel_rfl) (fun _ _ _ h => h) (by rfl) hHeld ?_
        (try simp only [zq1, zq2, zq3, Act.put, zq4, zq5, zq6])
        first
         | (refine tk hSG 1 (v := ?_) rfl (by kernel_rfl) (fun _ _ _ h => h) (by rfl) ?_ hHeld ?_; rotate_left; focus (intro w' hSw; obtain ⟨g0, g1⟩ := hmv.out _ hSw; go_simp; (try with_reducible rfl)))
         | refine tn hSG 1 rfl (by kernel_rfl) (fun _ _ _ h => h) (by rfl) hHeld ?_
        (try simp only [zq1, zq2, zq3, Act.put, zq4, zq5, zq6])
        refine tk hSG 2 (v := .pointer (some ⟨0, 2, none⟩)) rfl (by kernel_rfl) (fun _ _ _ h => h) (by rfl) ?_ hHeld ?_
        focus (intro w' hSw; obtain ⟨g0, g1⟩ := hmv.out _ hSw; go_simp; (try (intro hq; omega)))
        (try simp only [zq1, zq2, zq3, Act.put, zq4, zq5, zq6])
        first
         | (refine tk hSG 3 (v := ?_) rfl (by kernel_rfl) (fun _ _ _ h => h) (by rfl) ?_ hHeld ?_; rotate_left; focus (intro w' hSw; obtain ⟨g0, g1⟩ := hmv.out _ hSw; go_simp; (try with_reducible rfl)))
         | refine tn hSG 3 rfl (by kernel_rfl) (fun _ _ _ h => h) (by rfl) hHeld ?_
        (try simp only [zq1, zq2, zq3, Act.put, zq4, zq5, zq6])
        first
         | (refine tk hSG 4 (v := ?_) rfl (by kernel_rfl) (fun _ _ _ h => h) (by rfl) ?_ hHeld ?_; rotate_left; focus (intro w' hSw; obtain ⟨g0, g1⟩ := hmv.out _ hSw; go_simp; (try with_reducible rfl)))
         | refine tn hSG 4 rfl (by kernel_rfl) (fun _ _ _ h => h) (by rfl) hHeld ?_
        (try simp only [zq1, zq2, zq3, Act.put, zq4, zq5, zq6])
        first
         | (refine tk hSG 5 (v := ?_) rfl (by kernel_rfl) (fun _ _ _ h => h) (by rfl) ?_ hHeld ?_; rotate_left; focus (intro w' hSw; obtain ⟨g0, g1⟩ := hmv.out _ hSw; go_simp; (try with_reducible rfl)))
         | refine tn hSG 5 rfl (by kernel_rfl) (fun _ _ _ h => h) (by rfl) hHeld ?_
        (try simp only [zq1, zq2, zq3, Act.put, zq4, zq5, zq6])
        refine tk hSG 6 (v := .pointer (some ⟨0, 2, none⟩)) rfl (by kernel_rfl) (fun _ _ _ h => h) (by rfl) ?_ hHeld ?_
        focus (intro w' hSw; obtain ⟨g0, g1⟩ := hmv.out _ hSw; go_simp; (try (intro hq; omega)))
        (try simp only [zq1, zq2, zq3, Act.put, zq4, zq5, zq6])
        first
         | (refine tk hSG 7 (v := ?_) rfl (by kernel_rfl) (fun _ _ _ h => h) (by rfl) ?_ hHeld ?_; rotate_left; focus (intro w' hSw; obtain ⟨g0, g1⟩ := hmv.out _ hSw; go_simp; (try with_reducible rfl)))
         | refine tn hSG 7 rfl (by kernel_rfl) (fun _ _ _ h => h) (by rfl) hHeld ?_
        (try simp only [zq1, zq2, zq3, Act.put, zq4, zq5, zq6])
        first
         | (refine tk hSG 8 (v := ?_) rfl (by kernel_rfl) (fun _ _ _ h => h) (by rfl) ?_ hHeld ?_; rotate_left; focus (intro w' hSw; obtain ⟨g0, g1⟩ := hmv.out _ hSw; go_simp; (try with_reducible rfl)))
         | refine tn hSG 8 rfl (by kernel_rfl) (fun _ _ _ h => h) (by rfl) hHeld ?_
        (try simp only [zq1, zq2, zq3, Act.put, zq4, zq5, zq6])
        refine tc hSG 9 (v := .bool true) rfl (by kernel_rfl) (fun _ _ _ h => h) (by rfl) ?_ hHeld ?_
        focus (intro wz hSw K hK; obtain ⟨g0, g1⟩ := hmv.out _ hSw; go_simp; go_at_call 44; refine (HBt.out _).mono ?_; rintro e w2 ⟨rfl, hw⟩; have hb2 := belOf hw; exact hK.out _ hb2)
        (try simp only [zq1, zq2, zq3, Act.put, zq4, zq5, zq6])
        first
         | (refine tk hSG 10 (v := ?_) rfl (by kernel_rfl) (fun _ _ _ h => h) (by rfl) ?_ hHeld ?_; rotate_left; focus (intro w' hSw; obtain ⟨g0, g1⟩ := hmv.out _ hSw; go_simp; (try with_reducible rfl)))
         | refine tn hSG 10 rfl (by kernel_rfl) (fun _ _ _ h => h) (by rfl) hHeld ?_
        (try simp only [zq1, zq2, zq3, Act.put, zq4, zq5, zq6])
        refine wpAnyG_done (by kernel_rfl) (fun w5 hgD => ?_) _
        have hg5 : Gr wr w5 := (grDrew wr).tr hgD
        clear hgD hSG hHeld
        have hB6 := Lib.hid (hW.out.tr hg5)
        have hX6 := Lib.hid (grBlk hg5 hX.out)
        clear c0 c1 c2 c3 c4 g0 g1 hg5
        go_upto_region 6 with fail
        go_wp2
        go_roundg gq
        case measure => omega
        case rel => exact ⟨2, by omega, by go_num, hGd, hX6, hB6⟩
    · obtain ⟨gq, rfl⟩ : ∃ g, gk = g + 1 := ⟨gk - 1, by omega⟩
      obtain ⟨g0, g1⟩ := HL.out 2 ⟨1, 10000⟩ rfl
      have g0 := grCell hW.out g0
      have g1 := grCell hW.out g1
      have HBt := Lib.hid (fun wx => between_any i2 1 10000 wx)
      have hGd : (btw i2 1 10000 && rsB e i0 i1 i2 i3 3) = r := hG.out
      rcases hb : btw i2 1 10000 with _ | _
      · rw [hb] at HBt hGd
        obtain rfl : false = r := by simpa using hGd
        clear hb hGd hG
        go_upto_region 4 with fail
        refine wp_region_G (S := fun wq => Gr wr wq) (by kernel_rfl) (grDrew _) (fun hHeld => ?_)
        have hSG : Hid (∀ wp wq : World, Gr wr wp → Gr wp wq → Gr wr wq) := Lib.hid (fun _ _ h k => h.tr k)
        have hmv := Lib.hid (fun (wq : World) (hq : Gr wr wq) => And.intro (grCell hq g0) (grCell hq g1))
        first
         | (refine tk hSG 0 (v := ?_) rfl (by kernel_rfl) (fun _ _ _ h => h) (by rfl) ?_ hHeld ?_; rotate_left; focus (intro w' hSw; obtain ⟨g0, g1⟩ := hmv.out _ hSw; go_simp; (try with_reducible rfl)))
         | refine tn hSG 0 rfl (by kernel_rfl) (fun _ _ _ h => h) (by rfl) hHeld ?_
        (try simp only [zq1, zq2, zq3, Act.put, zq4, zq5, zq6])
        first
         | (refine tk hSG 1 (v := ?_) rfl (by kernel_rfl) (fun _ _ _ h => h) (by rfl) ?_ hHeld ?_; rotate_left; focus (intro w' hSw; obtain ⟨g0, g1⟩ := hmv.out _ hSw; go_simp; (try with_reducible rfl)))
         | refine tn hSG 1 rfl (by kernel_rfl) (fun _ _ _ h => h) (by rfl) hHeld ?_
        (try simp only [zq1, zq2, zq3, Act.put, zq4, zq5, zq6])
        refine tk hSG 2 (v := .pointer (some ⟨0, 4, none⟩)) rfl (by kernel_rfl) (fun _ _ _ h => h) (by rfl) ?_ hHeld ?_
        focus (intro w' hSw; obtain ⟨g0, g1⟩ := hmv.out _ hSw; go_simp; (try (intro hq; omega)))
        (try simp only [zq1, zq2, zq3, Act.put, zq4, zq5, zq6])
        first
         | (refine tk hSG 3 (v := ?_) rfl (by kernel_rfl) (fun _ _ _ h => h) (by rfl) ?_ hHeld ?_; rotate_left; focus (intro w' hSw; obtain ⟨g0, g1⟩ := hmv.out _ hSw; go_simp; (try with_reducible rfl)))
         | refine tn hSG 3 rfl (by kernel_rfl) (fun _ _ _ h => h) (by rfl) hHeld ?_
        (try simp only [zq1, zq2, zq3, Act.put, zq4, zq5, zq6])
        first
         | (refine tk hSG 4 (v := ?_) rfl (by kernel_rfl) (fun _ _ _ h => h) (by rfl) ?_ hHeld ?_; rotate_left; focus (intro w' hSw; obtain ⟨g0, g1⟩ := hmv.out _ hSw; go_simp; (try with_reducible rfl)))
         | refine tn hSG 4 rfl (by kernel_rfl) (fun _ _ _ h => h) (by rfl) hHeld ?_
        (try simp only [zq1, zq2, zq3, Act.put, zq4, zq5, zq6])
        first
         | (refine tk hSG 5 (v := ?_) rfl (by kernel_rfl) (fun _ _ _ h => h) (by rfl) ?_ hHeld ?_; rotate_left; focus (intro w' hSw; obtain ⟨g0, g1⟩ := hmv.out _ hSw; go_simp; (try with_reducible rfl)))
         | refine tn hSG 5 rfl (by kernel_rfl) (fun _ _ _ h => h) (by rfl) hHeld ?_
        (try simp only [zq1, zq2, zq3, Act.put, zq4, zq5, zq6])
        refine tk hSG 6 (v := .pointer (some ⟨0, 4, none⟩)) rfl (by kernel_rfl) (fun _ _ _ h => h) (by rfl) ?_ hHeld ?_
        focus (intro w' hSw; obtain ⟨g0, g1⟩ := hmv.out _ hSw; go_simp; (try (intro hq; omega)))
        (try simp only [zq1, zq2, zq3, Act.put, zq4, zq5, zq6])
        first
         | (refine tk hSG 7 (v := ?_) rfl (by kernel_rfl) (fun _ _ _ h => h) (by rfl) ?_ hHeld ?_; rotate_left; focus (intro w' hSw; obtain ⟨g0, g1⟩ := hmv.out _ hSw; go_simp; (try with_reducible rfl)))
         | refine tn hSG 7 rfl (by kernel_rfl) (fun _ _ _ h => h) (by rfl) hHeld ?_
        (try simp only [zq1, zq2, zq3, Act.put, zq4, zq5, zq6])
        first
         | (refine tk hSG 8 (v := ?_) rfl (by kernel_rfl) (fun _ _ _ h => h) (by rfl) ?_ hHeld ?_; rotate_left; focus (intro w' hSw; obtain ⟨g0, g1⟩ := hmv.out _ hSw; go_simp; (try with_reducible rfl)))
         | refine tn hSG 8 rfl (by kernel_rfl) (fun _ _ _ h => h) (by rfl) hHeld ?_
        (try simp only [zq1, zq2, zq3, Act.put, zq4, zq5, zq6])
        refine tc hSG 9 (v := .bool false) rfl (by kernel_rfl) (fun _ _ _ h => h) (by rfl) ?_ hHeld ?_
        focus (intro wz hSw K hK; obtain ⟨g0, g1⟩ := hmv.out _ hSw; go_simp; go_at_call 44; refine (HBt.out _).mono ?_; rintro e w2 ⟨rfl, hw⟩; have hb2 := belOf hw; exact hK.out _ hb2)
        (try simp only [zq1, zq2, zq3, Act.put, zq4, zq5, zq6])
        first
         | (refine tk hSG 10 (v := ?_) rfl (by kernel_rfl) (fun _ _ _ h => h) (by rfl) ?_ hHeld ?_; rotate_left; focus (intro w' hSw; obtain ⟨g0, g1⟩ := hmv.out _ hSw; go_simp; (try with_reducible rfl)))
         | refine tn hSG 10 rfl (by kernel_rfl) (fun _ _ _ h => h) (by rfl) hHeld ?_
        (try simp only [zq1, zq2, zq3, Act.put, zq4, zq5, zq6])
        refine wpAnyG_done (by kernel_rfl) (fun w5 hgD => ?_) _
        have hg5 : Gr wr w5 := (grDrew wr).tr hgD
        clear hgD hSG hHeld
        have hB6 := Lib.hid (hW.out.tr hg5)
        go_wp2
        go_ret
        exact ⟨rfl, hB6.out⟩
      · rw [hb] at HBt hGd
        have hGd := Lib.hid (show rsB e i0 i1 i2 i3 3 = r by simpa using hGd)
        clear hb hG
        go_upto_region 4 with fail
        refine wp_region_G (S := fun wq => Gr wr wq) (by kernel_rfl) (grDrew _) (fun hHeld => ?_)
        have hSG : Hid (∀ wp wq : World, Gr wr wp → Gr wp wq → Gr wr wq) := Lib.hid (fun _ _ h k => h.tr k)
        have hmv := Lib.hid (fun (wq : World) (hq : Gr wr wq) => And.intro (grCell hq g0) (grCell hq g1))
        first
         | (refine tk hSG 0 (v := ?_) rfl (by kernel_rfl) (fun _ _ _ h => h) (by rfl) ?_ hHeld ?_; rotate_left; focus (intro w' hSw; obtain ⟨g0, g1⟩ := hmv.out _ hSw; go_simp; (try with_reducible rfl)))
         | refine tn hSG 0 rfl (by kernel_rfl) (fun _ _ _ h => h) (by rfl) hHeld ?_
        (try simp only [zq1, zq2, zq3, Act.put, zq4, zq5, zq6])
        first
         | (refine tk hSG 1 (v := ?_) rfl (by kernel_rfl) (fun _ _ _ h => h) (by rfl) ?_ hHeld ?_; rotate_left; focus (intro w' hSw; obtain ⟨g0, g1⟩ := hmv.out _ hSw; go_simp; (try with_reducible rfl)))
         | refine tn hSG 1 rfl (by kernel_rfl) (fun _ _ _ h => h) (by rfl) hHeld ?_
        (try simp only [zq1, zq2, zq3, Act.put, zq4, zq5, zq6])
        refine tk hSG 2 (v := .pointer (some ⟨0, 4, none⟩)) rfl (by kernel_rfl) (fun _ _ _ h => h) (by rfl) ?_ hHeld ?_
        focus (intro w' hSw; obtain ⟨g0, g1⟩ := hmv.out _ hSw; go_simp; (try (intro hq; omega)))
        (try simp only [zq1, zq2, zq3, Act.put, zq4, zq5, zq6])
        first
         | (refine tk hSG 3 (v := ?_) rfl (by kernel_rfl) (fun _ _ _ h => h) (by rfl) ?_ hHeld ?_; rotate_left; focus (intro w' hSw; obtain ⟨g0, g1⟩ := hmv.out _ hSw; go_simp; (try with_reducible rfl)))
         | refine tn hSG 3 rfl (by kernel_rfl) (fun _ _ _ h => h) (by rfl) hHeld ?_
        (try simp only [zq1, zq2, zq3, Act.put, zq4, zq5, zq6])
        first
         | (refine tk hSG 4 (v := ?_) rfl (by kernel_rfl) (fun _ _ _ h => h) (by rfl) ?_ hHeld ?_; rotate_left; focus (intro w' hSw; obtain ⟨g0, g1⟩ := hmv.out _ hSw; go_simp; (try with_reducible rfl)))
         | refine tn hSG 4 rfl (by kernel_rfl) (fun _ _ _ h => h) (by rfl) hHeld ?_
        (try simp only [zq1, zq2, zq3, Act.put, zq4, zq5, zq6])
        first
         | (refine tk hSG 5 (v := ?_) rfl (by kernel_rfl) (fun _ _ _ h => h) (by rfl) ?_ hHeld ?_; rotate_left; focus (intro w' hSw; obtain ⟨g0, g1⟩ := hmv.out _ hSw; go_simp; (try with_reducible rfl)))
         | refine tn hSG 5 rfl (by kernel_rfl) (fun _ _ _ h => h) (by rfl) hHeld ?_
        (try simp only [zq1, zq2, zq3, Act.put, zq4, zq5, zq6])
        refine tk hSG 6 (v := .pointer (some ⟨0, 4, none⟩)) rfl (by kernel_rfl) (fun _ _ _ h => h) (by rfl) ?_ hHeld ?_
        focus (intro w' hSw; obtain ⟨g0, g1⟩ := hmv.out _ hSw; go_simp; (try (intro hq; omega)))
        (try simp only [zq1, zq2, zq3, Act.put, zq4, zq5, zq6])
        first
         | (refine tk hSG 7 (v := ?_) rfl (by kernel_rfl) (fun _ _ _ h => h) (by rfl) ?_ hHeld ?_; rotate_left; focus (intro w' hSw; obtain ⟨g0, g1⟩ := hmv.out _ hSw; go_simp; (try with_reducible rfl)))
         | refine tn hSG 7 rfl (by kernel_rfl) (fun _ _ _ h => h) (by rfl) hHeld ?_
        (try simp only [zq1, zq2, zq3, Act.put, zq4, zq5, zq6])
        first
         | (refine tk hSG 8 (v := ?_) rfl (by kernel_rfl) (fun _ _ _ h => h) (by rfl) ?_ hHeld ?_; rotate_left; focus (intro w' hSw; obtain ⟨g0, g1⟩ := hmv.out _ hSw; go_simp; (try with_reducible rfl)))
         | refine tn hSG 8 rfl (by kernel_rfl) (fun _ _ _ h => h) (by rfl) hHeld ?_
        (try simp only [zq1, zq2, zq3, Act.put, zq4, zq5, zq6])
        refine tc hSG 9 (v := .bool true) rfl (by kernel_rfl) (fun _ _ _ h => h) (by rfl) ?_ hHeld ?_
        focus (intro wz hSw K hK; obtain ⟨g0, g1⟩ := hmv.out _ hSw; go_simp; go_at_call 44; refine (HBt.out _).mono ?_; rintro e w2 ⟨rfl, hw⟩; have hb2 := belOf hw; exact hK.out _ hb2)
        (try simp only [zq1, zq2, zq3, Act.put, zq4, zq5, zq6])
        first
         | (refine tk hSG 10 (v := ?_) rfl (by kernel_rfl) (fun _ _ _ h => h) (by rfl) ?_ hHeld ?_; rotate_left; focus (intro w' hSw; obtain ⟨g0, g1⟩ := hmv.out _ hSw; go_simp; (try with_reducible rfl)))
         | refine tn hSG 10 rfl (by kernel_rfl) (fun _ _ _ h => h) (by rfl) hHeld ?_
        (try simp only [zq1, zq2, zq3, Act.put, zq4, zq5, zq6])
        refine wpAnyG_done (by kernel_rfl) (fun w5 hgD => ?_) _
        have hg5 : Gr wr w5 := (grDrew wr).tr hgD
        clear hgD hSG hHeld
        have hB6 := Lib.hid (hW.out.tr hg5)
        have hX6 := Lib.hid (grBlk hg5 hX.out)
        clear c0 c1 c2 c3 c4 g0 g1 hg5
        go_upto_region 6 with fail
        go_wp2
        go_roundg gq
        case measure => omega
        case rel => exact ⟨3, by omega, by go_num, hGd, hX6, hB6⟩
    · obtain ⟨gq, rfl⟩ : ∃ g, gk = g + 1 := ⟨gk - 1, by omega⟩
      obtain ⟨g0, g1⟩ := HL.out 3 ⟨0, 4000⟩ rfl
      have g0 := grCell hW.out g0
      have g1 := grCell hW.out g1
      have HBt := Lib.hid (fun wx => between_any i3 0 4000 wx)
      have hGd : (btw i3 0 4000 && rsB e i0 i1 i2 i3 4) = r := hG.out
      rcases hb : btw i3 0 4000 with _ | _
      · rw [hb] at HBt hGd
        obtain rfl : false = r := by simpa using hGd
        clear hb hGd hG
        go_upto_region 4 with fail
        refine wp_region_G (S := fun wq => Gr wr wq) (by kernel_rfl) (grDrew _) (fun hHeld => ?_)
        have hSG : Hid (∀ wp wq : World, Gr wr wp → Gr wp wq → Gr wr wq) := Lib.hid (fun _ _ h k => h.tr k)
        have hmv := Lib.hid (fun (wq : World) (hq : Gr wr wq) => And.intro (grCell hq g0) (grCell hq g1))
        first
         | (refine tk hSG 0 (v := ?_) rfl (by kernel_rfl) (fun _ _ _ h => h) (by rfl) ?_ hHeld ?_; rotate_left; focus (intro w' hSw; obtain ⟨g0, g1⟩ := hmv.out _ hSw; go_simp; (try with_reducible rfl)))
         | refine tn hSG 0 rfl (by kernel_rfl) (fun _ _ _ h => h) (by rfl) hHeld ?_
        (try simp only [zq1, zq2, zq3, Act.put, zq4, zq5, zq6])
        first
         | (refine tk hSG 1 (v := ?_) rfl (by kernel_rfl) (fun _ _ _ h => h) (by rfl) ?_ hHeld ?_; rotate_left; focus (intro w' hSw; obtain ⟨g0, g1⟩ := hmv.out _ hSw; go_simp; (try with_reducible rfl)))
         | refine tn hSG 1 rfl (by kernel_rfl) (fun _ _ _ h => h) (by rfl) hHeld ?_
        (try simp only [zq1, zq2, zq3, Act.put, zq4, zq5, zq6])
        refine tk hSG 2 (v := .pointer (some ⟨0, 6, none⟩)) rfl (by kernel_rfl) (fun _ _ _ h => h) (by rfl) ?_ hHeld ?_
        focus (intro w' hSw; obtain ⟨g0, g1⟩ := hmv.out _ hSw; go_simp; (try (intro hq; omega)))
        (try simp only [zq1, zq2, zq3, Act.put, zq4, zq5, zq6])
        first
         | (refine tk hSG 3 (v := ?_) rfl (by kernel_rfl) (fun _ _ _ h => h) (by rfl) ?_ hHeld ?_; rotate_left; focus (intro w' hSw; obtain ⟨g0, g1⟩ := hmv.out _ hSw; go_simp; (try with_reducible rfl)))
         | refine tn hSG 3 rfl (by kernel_rfl) (fun _ _ _ h => h) (by rfl) hHeld ?_
        (try simp only [zq1, zq2, zq3, Act.put, zq4, zq5, zq6])
        first
         | (refine tk hSG 4 (v := ?_) rfl (by kernel_rfl) (fun _ _ _ h => h) (by rfl) ?_ hHeld ?_; rotate_left; focus (intro w' hSw; obtain ⟨g0, g1⟩ := hmv.out _ hSw; go_simp; (try with_reducible rfl)))
         | refine tn hSG 4 rfl (by kernel_rfl) (fun _ _ _ h => h) (by rfl) hHeld ?_
        (try simp only [zq1, zq2, zq3, Act.put, zq4, zq5, zq6])
        first
         | (refine tk hSG 5 (v := ?_) rfl (by kernel_rfl) (fun _ _ _ h => h) (by rfl) ?_ hHeld ?_; rotate_left; focus (intro w' hSw; obtain ⟨g0, g1⟩ := hmv.out _ hSw; go_simp; (try with_reducible rfl)))
         | refine tn hSG 5 rfl (by kernel_rfl) (fun _ _ _ h => h) (by rfl) hHeld ?_
        (try simp only [zq1, zq2, zq3, Act.put, zq4, zq5, zq6])
        refine tk hSG 6 (v := .pointer (some ⟨0, 6, none⟩)) rfl (by kernel_rfl) (fun _ _ _ h => h) (by rfl) ?_ hHeld ?_
        focus (intro w' hSw; obtain ⟨g0, g1⟩ := hmv.out _ hSw; go_simp; (try (intro hq; omega)))
        (try simp only [zq1, zq2, zq3, Act.put, zq4, zq5, zq6])
        first
         | (refine tk hSG 7 (v := ?_) rfl (by kernel_rfl) (fun _ _ _ h => h) (by rfl) ?_ hHeld ?_; rotate_left; focus (intro w' hSw; obtain ⟨g0, g1⟩ := hmv.out _ hSw; go_simp; (try with_reducible rfl)))
         | refine tn hSG 7 rfl (by kernel_rfl) (fun _ _ _ h => h) (by rfl) hHeld ?_
        (try simp only [zq1, zq2, zq3, Act.put, zq4, zq5, zq6])
        first
         | (refine tk hSG 8 (v := ?_) rfl (by kernel_rfl) (fun _ _ _ h => h) (by rfl) ?_ hHeld ?_; rotate_left; focus (intro w' hSw; obtain ⟨g0, g1⟩ := hmv.out _ hSw; go_simp; (try with_reducible rfl)))
         | refine tn hSG 8 rfl (by kernel_rfl) (fun _ _ _ h => h) (by rfl) hHeld ?_
        (try simp only [zq1, zq2, zq3, Act.put, zq4, zq5, zq6])
        refine tc hSG 9 (v := .bool false) rfl (by kernel_rfl) (fun _ _ _ h => h) (by rfl) ?_ hHeld ?_
        focus (intro wz hSw K hK; obtain ⟨g0, g1⟩ := hmv.out _ hSw; go_simp; go_at_call 44; refine (HBt.out _).mono ?_; rintro e w2 ⟨rfl, hw⟩; have hb2 := belOf hw; exact hK.out _ hb2)
        (try simp only [zq1, zq2, zq3, Act.put, zq4, zq5, zq6])
        first
         | (refine tk hSG 10 (v := ?_) rfl (by kernel_rfl) (fun _ _ _ h => h) (by rfl) ?_ hHeld ?_; rotate_left; focus (intro w' hSw; obtain ⟨g0, g1⟩ := hmv.out _ hSw; go_simp; (try with_reducible rfl)))
         | refine tn hSG 10 rfl (by kernel_rfl) (fun _ _ _ h => h) (by rfl) hHeld ?_
        (try simp only [zq1, zq2, zq3, Act.put, zq4, zq5, zq6])
        refine wpAnyG_done (by kernel_rfl) (fun w5 hgD => ?_) _
        have hg5 : Gr wr w5 := (grDrew wr).tr hgD
        clear hgD hSG hHeld
        have hB6 := Lib.hid (hW.out.tr hg5)
        go_wp2
        go_ret
        exact ⟨rfl, hB6.out⟩
      · rw [hb] at HBt hGd
        have hGd := Lib.hid (show rsB e i0 i1 i2 i3 4 = r by simpa using hGd)
        clear hb hG
        go_upto_region 4 with fail
        refine wp_region_G (S := fun wq => Gr wr wq) (by kernel_rfl) (grDrew _) (fun hHeld => ?_)
        have hSG : Hid (∀ wp wq : World, Gr wr wp → Gr wp wq → Gr wr wq) := Lib.hid (fun _ _ h k => h.tr k)
        have hmv := Lib.hid (fun (wq : World) (hq : Gr wr wq) => And.intro (grCell hq g0) (grCell hq g1))
        first
         | (refine tk hSG 0 (v := ?_) rfl (by kernel_rfl) (fun _ _ _ h => h) (by rfl) ?_ hHeld ?_; rotate_left; focus (intro w' hSw; obtain ⟨g0, g1⟩ := hmv.out _ hSw; go_simp; (try with_reducible rfl)))
         | refine tn hSG 0 rfl (by kernel_rfl) (fun _ _ _ h => h) (by rfl) hHeld ?_
        (try simp only [zq1, zq2, zq3, Act.put, zq4, zq5, zq6])
        first
         | (refine tk hSG 1 (v := ?_) rfl (by kernel_rfl) (fun _ _ _ h => h) (by rfl) ?_ hHeld ?_; rotate_left; focus (intro w' hSw; obtain ⟨g0, g1⟩ := hmv.out _ hSw; go_simp; (try with_reducible rfl)))
         | refine tn hSG 1 rfl (by kernel_rfl) (fun _ _ _ h => h) (by rfl) hHeld ?_
        (try simp only [zq1, zq2, zq3, Act.put, zq4, zq5, zq6])
        refine tk hSG 2 (v := .pointer (some ⟨0, 6, none⟩)) rfl (by kernel_rfl) (fun _ _ _ h => h) (by rfl) ?_ hHeld ?_
        focus (intro w' hSw; obtain ⟨g0, g1⟩ := hmv.out _ hSw; go_simp; (try (intro hq; omega)))
        (try simp only [zq1, zq2, zq3, Act.put, zq4, zq5, zq6])
        first
         | (refine tk hSG 3 (v := ?_) rfl (by kernel_rfl) (fun _ _ _ h => h) (by rfl) ?_ hHeld ?_; rotate_left; focus (intro w' hSw; obtain ⟨g0, g1⟩ := hmv.out _ hSw; go_simp; (try with_reducible rfl)))
         | refine tn hSG 3 rfl (by kernel_rfl) (fun _ _ _ h => h) (by rfl) hHeld ?_
        (try simp only [zq1, zq2, zq3, Act.put, zq4, zq5, zq6])
        first
         | (refine tk hSG 4 (v := ?_) rfl (by kernel_rfl) (fun _ _ _ h => h) (by rfl) ?_ hHeld ?_; rotate_left; focus (intro w' hSw; obtain ⟨g0, g1⟩ := hmv.out _ hSw; go_simp; (try with_reducible rfl)))
         | refine tn hSG 4 rfl (by kernel_rfl) (fun _ _ _ h => h) (by rfl) hHeld ?_
        (try simp only [zq1, zq2, zq3, Act.put, zq4, zq5, zq6])
        first
         | (refine tk hSG 5 (v := ?_) rfl (by kernel_rfl) (fun _ _ _ h => h) (by rfl) ?_ hHeld ?_; rotate_left; focus (intro w' hSw; obtain ⟨g0, g1⟩ := hmv.out _ hSw; go_simp; (try with_reducible rfl)))
         | refine tn hSG 5 rfl (by kernel_rfl) (fun _ _ _ h => h) (by rfl) hHeld ?_
        (try simp only [zq1, zq2, zq3, Act.put, zq4, zq5, zq6])
        refine tk hSG 6 (v := .pointer (some ⟨0, 6, none⟩)) rfl (by kernel_rfl) (fun _ _ _ h => h) (by rfl) ?_ hHeld ?_
        focus (intro w' hSw; obtain ⟨g0, g1⟩ := hmv.out _ hSw; go_simp; (try (intro hq; omega)))
        (try simp only [zq1, zq2, zq3, Act.put, zq4, zq5, zq6])
        first
         | (refine tk hSG 7 (v := ?_) rfl (by kernel_rfl) (fun _ _ _ h => h) (by rfl) ?_ hHeld ?_; rotate_left; focus (intro w' hSw; obtain ⟨g0, g1⟩ := hmv.out _ hSw; go_simp; (try with_reducible rfl)))
         | refine tn hSG 7 rfl (by kernel_rfl) (fun _ _ _ h => h) (by rfl) hHeld ?_
        (try simp only [zq1, zq2, zq3, Act.put, zq4, zq5, zq6])
        first
         | (refine tk hSG 8 (v := ?_) rfl (by kernel_rfl) (fun _ _ _ h => h) (by rfl) ?_ hHeld ?_; rotate_left; focus (intro w' hSw; obtain ⟨g0, g1⟩ := hmv.out _ hSw; go_simp; (try with_reducible rfl)))
         | refine tn hSG 8 rfl (by kernel_rfl) (fun _ _ _ h => h) (by rfl) hHeld ?_
        (try simp only [zq1, zq2, zq3, Act.put, zq4, zq5, zq6])
        refine tc hSG 9 (v := .bool true) rfl (by kernel_rfl) (fun _ _ _ h => h) (by rfl) ?_ hHeld ?_
        focus (intro wz hSw K hK; obtain ⟨g0, g1⟩ := hmv.out _ hSw; go_simp; go_at_call 44; refine (HBt.out _).mono ?_; rintro e w2 ⟨rfl, hw⟩; have hb2 := belOf hw; exact hK.out _ hb2)
        (try simp only [zq1, zq2, zq3, Act.put, zq4, zq5, zq6])
        first
         | (refine tk hSG 10 (v := ?_) rfl (by kernel_rfl) (fun _ _ _ h => h) (by rfl) ?_ hHeld ?_; rotate_left; focus (intro w' hSw; obtain ⟨g0, g1⟩ := hmv.out _ hSw; go_simp; (try with_reducible rfl)))
         | refine tn hSG 10 rfl (by kernel_rfl) (fun _ _ _ h => h) (by rfl) hHeld ?_
        (try simp only [zq1, zq2, zq3, Act.put, zq4, zq5, zq6])
        refine wpAnyG_done (by kernel_rfl) (fun w5 hgD => ?_) _
        have hg5 : Gr wr w5 := (grDrew wr).tr hgD
        clear hgD hSG hHeld
        have hB6 := Lib.hid (hW.out.tr hg5)
        have hX6 := Lib.hid (grBlk hg5 hX.out)
        clear c0 c1 c2 c3 c4 g0 g1 hg5
        go_upto_region 6 with fail
        go_wp2
        go_roundg gq
        case measure => omega
        case rel => exact ⟨4, by omega, by go_num, hGd, hX6, hB6⟩
    · obtain rfl : gk = 0 := by omega
      obtain ⟨q, hq⟩ : ∃ q, btw e 0 4 = q := ⟨_, rfl⟩
      obtain rfl : q = r := hq.symm.trans hG.out
      have HI := Lib.hid (fun wx => between_any e 0 4 wx)
      rw [hq] at HI
      clear hG hq
      go_wp2_with (go_at_call 44; refine (HI.out _).mono ?_; rintro e w2 ⟨rfl, hw⟩; rw [hw]; clear hw)
      go_ret
      exact ⟨rfl, hW.out⟩
def IntsR (w : World) (l : List Int) (A : Option Addr) : Prop := l = [] ∨ ∃ g o, A = some ⟨g, o, none⟩ ∧ ∀ (i : Nat) (n : Int), l[i]? = some n → w.cell? ⟨g, o + i, none⟩ = some (.int .i64 n)
theorem IntsR.gr {w w' : World} {l : List Int} {A : Option Addr} (h : IntsR w l A) (hg : Gr w w') : IntsR w' l A := by
  rcases h with h | ⟨g, o, hA, h⟩
  · exact .inl h
  · exact .inr ⟨g, o, hA, fun i n hn => grCell hg (h i n hn)⟩
theorem IntsR.addr {w : World} {l : List Int} {A : Option Addr} (h : IntsR w l A) (hl : l ≠ []) : ∃ g o, A = some ⟨g, o, none⟩ ∧ ∀ (i : Nat) (n : Int), l[i]? = some n → w.cell? ⟨g, o + i, none⟩ = some (.int .i64 n) := by
  rcases h with h | h
  · exact absurd h hl
  · exact h
/-- the numbers of two lists, as far as both go -/
def eqB : List Int → List Int → Bool
  | v :: vs, n :: ns => (v == n) && eqB vs ns
  | _, _ => true
def intsB (a b : List Int) : Bool := decide (a.length = b.length) && eqB a b
theorem eqB_drop {a b : List Int} {k : Nat} (h1 : k < a.length) (h2 : k < b.length) : eqB (a.drop k) (b.drop k) = ((a[k] == b[k]) && eqB (a.drop (k + 1)) (b.drop (k + 1))) := by
  rw [List.drop_eq_getElem_cons h1, List.drop_eq_getElem_cons h2, eqB]
theorem eqB_end {a b : List Int} {k : Nat} (h1 : a.length ≤ k) : eqB (a.drop k) (b.drop k) = true := by
  rw [List.drop_eq_nil_of_le h1]
  unfold eqB
  cases b.drop k <;> rfl
set_option maxHeartbeats 4000000 in
set_option maxRecDepth 100000 in
theorem Ints_any (a b : List Int) (A B : Option Addr) (m n : Nat) (w : World) (hA : IntsR w a A) (hB : IntsR w b B) (hal : a.length ≤ 1000000) :
    Calls Tryd.prog 13 #[.slice A a.length m, .slice B b.length n] w (BB (intsB a b) w) := by
  by_cases hl : a.length = b.length
  · have hm : intsB a b = eqB a b := by unfold intsB; simp [hl]
    rw [hm]
    obtain ⟨r, hr⟩ : ∃ r, eqB a b = r := ⟨_, rfl⟩
    rw [hr]
    have hrH : Hid (eqB (a.drop 0) (b.drop 0) = r) := Lib.hid hr
    have HA := Lib.hid hA
    have HB := Lib.hid hB
    have hlb : (((a.length : Nat) : Int) != ((b.length : Nat) : Int)) = false := by simp [hl]
    have hlH := Lib.hid hl
    clear hm hr hA hB hl
    go_enter Tryd.func13, Tryd.ntmps13
    go_wp2_with fail
    go_loopg [5] (a.length) (fun gk i wr => ∃ k : Nat, k + gk = a.length ∧ i = .int .i64 k ∧ Hid (eqB (a.drop k) (b.drop k) = r) ∧ Hid (Below w.heap.size w wr))
    case atStart => exact ⟨0, by omega, rfl, hrH, Lib.hid (Below.refl _ _)⟩
    case round =>
      obtain ⟨k, hk, rfl, hG, hW⟩ := hrel
      by_cases hlt : k < a.length
      · obtain ⟨gq, rfl⟩ : ∃ g, gk = g + 1 := ⟨gk - 1, by omega⟩
        have hls : k < b.length := by have := hlH.out; omega
        obtain ⟨ga, oa, rfl, hat⟩ := HA.out.addr (by intro e; rw [e] at hlt; simp at hlt)
        obtain ⟨gs, os, rfl, has⟩ := HB.out.addr (by intro e; rw [e] at hls; simp at hls)
        have e0 := hat k _ (List.getElem?_eq_getElem hlt)
        have s0 := has k _ (List.getElem?_eq_getElem hls)
        have e0 := grCell hW.out e0
        have s0 := grCell hW.out s0
        have hGd := hG.out
        rw [eqB_drop hlt hls] at hGd
        generalize a[k] = u at *
        generalize b[k] = v at *
        clear hat has hG
        go_upto_region 6 with fail
        by_cases huv : u = v
        · subst huv
          have hGd := Lib.hid (show eqB (a.drop (k + 1)) (b.drop (k + 1)) = r by simpa using hGd)
          have hne : (u != u) = false := by simp
          refine wp_region_G (S := fun wq => Gr wr wq) (by kernel_rfl) (grDrew _) (fun hHeld => ?_)
          have hSG : Hid (∀ wp wq : World, Gr wr wp → Gr wp wq → Gr wr wq) := Lib.hid (fun _ _ h k => h.tr k)
          have hmv := Lib.hid (fun (wq : World) (hq : Gr wr wq) => And.intro (grCell hq s0) (grCell hq e0))
          first
           | (refine tk hSG 0 (v := ?_) rfl (by kernel_rfl) (fun _ _ _ h => h) (by rfl) ?_ hHeld ?_; rotate_left; focus (intro w' hSw; obtain ⟨s0, e0⟩ := hmv.out _ hSw; go_simp; (try with_reducible rfl)))
           | refine tn hSG 0 rfl (by kernel_rfl) (fun _ _ _ h => h) (by rfl) hHeld ?_
          (try simp only [zq1, zq2, zq3, Act.put, zq4, zq5, zq6])
          first
           | (refine tk hSG 1 (v := ?_) rfl (by kernel_rfl) (fun _ _ _ h => h) (by rfl) ?_ hHeld ?_; rotate_left; focus (intro w' hSw; obtain ⟨s0, e0⟩ := hmv.out _ hSw; go_simp; (try with_reducible rfl)))
           | refine tn hSG 1 rfl (by kernel_rfl) (fun _ _ _ h => h) (by rfl) hHeld ?_
          (try simp only [zq1, zq2, zq3, Act.put, zq4, zq5, zq6])
          refine tk hSG 2 (v := .pointer (some ⟨ga, oa + k, none⟩)) rfl (by kernel_rfl) (fun _ _ _ h => h) (by rfl) ?_ hHeld ?_
          focus (intro w' hSw; obtain ⟨s0, e0⟩ := hmv.out _ hSw; go_simp; (try (intro hq; omega)))
          (try simp only [zq1, zq2, zq3, Act.put, zq4, zq5, zq6])
          first
           | (refine tk hSG 3 (v := ?_) rfl (by kernel_rfl) (fun _ _ _ h => h) (by rfl) ?_ hHeld ?_; rotate_left; focus (intro w' hSw; obtain ⟨s0, e0⟩ := hmv.out _ hSw; go_simp; (try with_reducible rfl)))
           | refine tn hSG 3 rfl (by kernel_rfl) (fun _ _ _ h => h) (by rfl) hHeld ?_
          (try simp only [zq1, zq2, zq3, Act.put, zq4, zq5, zq6])
          first
           | (refine tk hSG 4 (v := ?_) rfl (by kernel_rfl) (fun _ _ _ h => h) (by rfl) ?_ hHeld ?_; rotate_left; focus (intro w' hSw; obtain ⟨s0, e0⟩ := hmv.out _ hSw; go_simp; (try with_reducible rfl)))
           | refine tn hSG 4 rfl (by kernel_rfl) (fun _ _ _ h => h) (by rfl) hHeld ?_
          (try simp only [zq1, zq2, zq3, Act.put, zq4, zq5, zq6])
          first
           | (refine tk hSG 5 (v := ?_) rfl (by kernel_rfl) (fun _ _ _ h => h) (by rfl) ?_ hHeld ?_; rotate_left; focus (intro w' hSw; obtain ⟨s0, e0⟩ := hmv.out _ hSw; go_simp; (try with_reducible rfl)))
           | refine tn hSG 5 rfl (by kernel_rfl) (fun _ _ _ h => h) (by rfl) hHeld ?_
          (try simp only [zq1, zq2, zq3, Act.put, zq4, zq5, zq6])
          refine tk hSG 6 (v := .pointer (some ⟨gs, os + k, none⟩)) rfl (by kernel_rfl) (fun _ _ _ h => h) (by rfl) ?_ hHeld ?_
          focus (intro w' hSw; obtain ⟨s0, e0⟩ := hmv.out _ hSw; go_simp; (try (intro hq; omega)))
          (try simp only [zq1, zq2, zq3, Act.put, zq4, zq5, zq6])
          first
           | (refine tk hSG 7 (v := ?_) rfl (by kernel_rfl) (fun _ _ _ h => h) (by rfl) ?_ hHeld ?_; rotate_left; focus (intro w' hSw; obtain ⟨s0, e0⟩ := hmv.out _ hSw; go_simp; (try with_reducible rfl)))
           | refine tn hSG 7 rfl (by kernel_rfl) (fun _ _ _ h => h) (by rfl) hHeld ?_
          (try simp only [zq1, zq2, zq3, Act.put, zq4, zq5, zq6])
          first
           | (refine tk hSG 8 (v := ?_) rfl (by kernel_rfl) (fun _ _ _ h => h) (by rfl) ?_ hHeld ?_; rotate_left; focus (intro w' hSw; obtain ⟨s0, e0⟩ := hmv.out _ hSw; go_simp; (try with_reducible rfl)))
           | refine tn hSG 8 rfl (by kernel_rfl) (fun _ _ _ h => h) (by rfl) hHeld ?_
          (try simp only [zq1, zq2, zq3, Act.put, zq4, zq5, zq6])
          refine wpAnyG_done (by kernel_rfl) (fun w5 hgD => ?_) _
          have hg5 : Gr wr w5 := (grDrew wr).tr hgD
          clear hgD hSG hHeld
          have hB6 := Lib.hid (hW.out.trans (hg5.mono hW.out.size))
          clear e0 s0
          go_upto_region 5 with fail
          go_wp2
          go_roundg gq
          case measure => omega
          case rel => exact ⟨k + 1, by omega, by go_num, hGd, hB6⟩
        · obtain rfl : false = r := by
            have hq : (u == v) = false := by simp [huv]
            rw [hq, Bool.false_and] at hGd
            exact hGd
          have hne : (u != v) = true := by simp [huv]
          clear hGd huv
          refine wp_region_G (S := fun wq => Gr wr wq) (by kernel_rfl) (grDrew _) (fun hHeld => ?_)
          have hSG : Hid (∀ wp wq : World, Gr wr wp → Gr wp wq → Gr wr wq) := Lib.hid (fun _ _ h k => h.tr k)
          have hmv := Lib.hid (fun (wq : World) (hq : Gr wr wq) => And.intro (grCell hq s0) (grCell hq e0))
          first
           | (refine tk hSG 0 (v := ?_) rfl (by kernel_rfl) (fun _ _ _ h => h) (by rfl) ?_ hHeld ?_; rotate_left; focus (intro w' hSw; obtain ⟨s0, e0⟩ := hmv.out _ hSw; go_simp; (try with_reducible rfl)))
           | refine tn hSG 0 rfl (by kernel_rfl) (fun _ _ _ h => h) (by rfl) hHeld ?_
          (try simp only [zq1, zq2, zq3, Act.put, zq4, zq5, zq6])
          first
           | (refine tk hSG 1 (v := ?_) rfl (by kernel_rfl) (fun _ _ _ h => h) (by rfl) ?_ hHeld ?_; rotate_left; focus (intro w' hSw; obtain ⟨s0, e0⟩ := hmv.out _ hSw; go_simp; (try with_reducible rfl)))
           | refine tn hSG 1 rfl (by kernel_rfl) (fun _ _ _ h => h) (by rfl) hHeld ?_
          (try simp only [zq1, zq2, zq3, Act.put, zq4, zq5, zq6])
          refine tk hSG 2 (v := .pointer (some ⟨ga, oa + k, none⟩)) rfl (by kernel_rfl) (fun _ _ _ h => h) (by rfl) ?_ hHeld ?_
          focus (intro w' hSw; obtain ⟨s0, e0⟩ := hmv.out _ hSw; go_simp; (try (intro hq; omega)))
          (try simp only [zq1, zq2, zq3, Act.put, zq4, zq5, zq6])
          first
           | (refine tk hSG 3 (v := ?_) rfl (by kernel_rfl) (fun _ _ _ h => h) (by rfl) ?_ hHeld ?_; rotate_left; focus (intro w' hSw; obtain ⟨s0, e0⟩ := hmv.out _ hSw; go_simp; (try with_reducible rfl)))
           | refine tn hSG 3 rfl (by kernel_rfl) (fun _ _ _ h => h) (by rfl) hHeld ?_
          (try simp only [zq1, zq2, zq3, Act.put, zq4, zq5, zq6])
          first
           | (refine tk hSG 4 (v := ?_) rfl (by kernel_rfl) (fun _ _ _ h => h) (by rfl) ?_ hHeld ?_; rotate_left; focus (intro w' hSw; obtain ⟨s0, e0⟩ := hmv.out _ hSw; go_simp; (try with_reducible rfl)))
           | refine tn hSG 4 rfl (by kernel_rfl) (fun _ _ _ h => h) (by rfl) hHeld ?_
          (try simp only [zq1, zq2, zq3, Act.put, zq4, zq5, zq6])
          first
           | (refine tk hSG 5 (v := ?_) rfl (by kernel_rfl) (fun _ _ _ h => h) (by rfl) ?_ hHeld ?_; rotate_left; focus (intro w' hSw; obtain ⟨s0, e0⟩ := hmv.out _ hSw; go_simp; (try with_reducible rfl)))
           | refine tn hSG 5 rfl (by kernel_rfl) (fun _ _ _ h => h) (by rfl) hHeld ?_
          (try simp only [zq1, zq2, zq3, Act.put, zq4, zq5, zq6])
          refine tk hSG 6 (v := .pointer (some ⟨gs, os + k, none⟩)) rfl (by kernel_rfl) (fun _ _ _ h => h) (by rfl) ?_ hHeld ?_
          focus (intro w' hSw; obtain ⟨s0, e0⟩ := hmv.out _ hSw; go_simp; (try (intro hq; omega)))
          (try simp only [zq1, zq2, zq3, Act.put, zq4, zq5, zq6])
          first
           | (refine tk hSG 7 (v := ?_) rfl (by kernel_rfl) (fun _ _ _ h => h) (by rfl) ?_ hHeld ?_; rotate_left; focus (intro w' hSw; obtain ⟨s0, e0⟩ := hmv.out _ hSw; go_simp; (try with_reducible rfl)))
           | refine tn hSG 7 rfl (by kernel_rfl) (fun _ _ _ h => h) (by rfl) hHeld ?_
          (try simp only [zq1, zq2, zq3, Act.put, zq4, zq5, zq6])
          first
           | (refine tk hSG 8 (v := ?_) rfl (by kernel_rfl) (fun _ _ _ h => h) (by rfl) ?_ hHeld ?_; rotate_left; focus (intro w' hSw; obtain ⟨s0, e0⟩ := hmv.out _ hSw; go_simp; (try with_reducible rfl)))
           | refine tn hSG 8 rfl (by kernel_rfl) (fun _ _ _ h => h) (by rfl) hHeld ?_
          (try simp only [zq1, zq2, zq3, Act.put, zq4, zq5, zq6])
          refine wpAnyG_done (by kernel_rfl) (fun w5 hgD => ?_) _
          have hg5 : Gr wr w5 := (grDrew wr).tr hgD
          clear hgD hSG hHeld
          have hB6 := Lib.hid (hW.out.trans (hg5.mono hW.out.size))
          clear e0 s0
          go_wp2
          go_ret
          exact ⟨rfl, hB6.out⟩
      · obtain rfl : gk = 0 := by omega
        have hkl : decide ((k : Int) < (a.length : Int)) = false := by simp; omega
        obtain rfl : true = r := by have := hG.out; rw [eqB_end (by omega)] at this; exact this
        clear hG
        go_wp2
        go_ret
        exact ⟨rfl, hW.out⟩
  · have hm : intsB a b = false := by unfold intsB; simp [hl]
    rw [hm]
    have hlb : (((a.length : Nat) : Int) != ((b.length : Nat) : Int)) = true := by simp; omega
    clear hm hA hB hl
    go_enter Tryd.func13, Tryd.ntmps13
    go_wp2_with fail
    go_ret
    exact ⟨rfl, Below.refl _ _⟩
end N
end Go.Proofs.YthgngkajdiclcaaDoor
