/- Texts of one proof: KyD. -/
import Derived.Test.YtljknappbnoikaaGreatDoorZe
set_option linter.unusedVariables false
set_option linter.unusedSimpArgs false
set_option maxRecDepth 100000
set_option maxHeartbeats 8000000
namespace Go.Proofs.YtljknappbnoikaaGreatDoor
open Go.RowKit
namespace K
def iA (hs : List Int) : Array Value := (hs.map (Value.int .i64)).toArray
theorem iA_at {w : World} {g : Nat} {hs : List Int} {T : TypeId} (h : w.heap[g]? = some (.cells (iA hs) T (0, 0))) {i : Nat} (hi : i < hs.length) : w.cell? ⟨g, i, none⟩ = some (.int .i64 ((hs[i]?).getD 0)) := by
 rw [cell_of_row _ _ i _ _ (0, 0) h]
 simp [iA, hi]
theorem iA_set {w : World} {g : Nat} {hs : List Int} {T : TypeId} (h : w.heap[g]? = some (.cells (iA hs) T (0, 0))) (i : Nat) (v : Int) : (w.setCell ⟨g, i, none⟩ (.int .i64 v)).heap[g]? = some (.cells (iA (hs.set i v)) T (0, 0)) := by
 rw [heap_setCell_same _ g i _ _ _ h]
 simp [iA, List.map_set]
theorem retb {a b : Bool} (h : a = b) : Ending.returned (.bool a) = .returned (.bool b) := by rw [h]
def ReP (W0 : World) (g : Nat) (r : List Int × Bool) (w : World) (e : Ending) (w' : World) : Prop :=
 e = .returned (.bool r.2) ∧ w'.heap[g]? = some (.cells (iA r.1) 3 (0, 0)) ∧ Gr W0 w' ∧ w.grownBy w' (some g)
theorem reach_any (W0 : World) (hs : List Int) (ln : Nat) (A : Option Addr) (lc : Nat) (vars : Int) (g hc i : Nat) (h : Int) (hi : i < hs.length) (hl : hs.length ≤ 100000) (w : World) (hG : Gr W0 w) (hg : W0.heap.size ≤ g) (hH : w.heap[g]? = some (.cells (iA hs) 3 (0, 0))) :
  Calls Tryz.prog 44 #[.agg (hA ln A lc vars (some ⟨g, 0, none⟩) hs.length hc), .int .i64 i, .int .i64 h] w (ReP W0 g (reach hs i h) w) := by
 have hgl : g < w.heap.size := (Array.getElem?_eq_some_iff.1 hH).1
 obtain ⟨W1, hW1⟩ : ∃ W1, W1 = w.alloc (.cells (hA ln A lc vars (some ⟨g, 0, none⟩) hs.length hc) 54) := ⟨_, rfl⟩
 have HB : Hid (Gr W0 W1) := Lib.hid (by rw [hW1]; exact hG.tr (grAlloc _ _))
 have HK : Hid (w.grownBy W1 (some g)) := Lib.hid (by rw [hW1]; exact gbAlloc (gbRefl _ _))
 have HX : Hid (W1.heap[w.heap.size]? = some (.cells (hA ln A lc vars (some ⟨g, 0, none⟩) hs.length hc) 54 (0, 0))) := Lib.hid (by rw [hW1]; exact nBlk _ _ _ rfl)
 have HH : Hid (W1.heap[g]? = some (.cells (iA hs) 3 (0, 0))) := Lib.hid (by rw [hW1]; exact grBlk (grAlloc _ _) hH)
 obtain ⟨x0, x1, x2⟩ := cells3k HX.out
 have c0 := iA_at HH.out hi
 have d0 := frz HH.out i
 unfold reach
 clear hH hG
 by_cases hu : (hs[i]?).getD 0 = -1
 ·rw [if_pos hu]
  rw [hu] at c0
  obtain ⟨W2, hW2⟩ : ∃ W2, W2 = W1.setCell ⟨g, i, none⟩ (.int .i64 h) := ⟨_, rfl⟩
  have HB2 : Hid (Gr W0 W2) := Lib.hid (by rw [hW2]; exact belK HB.out hg)
  have HK2 : Hid (w.grownBy W2 (some g)) := Lib.hid (by rw [hW2]; exact gbSet HK.out)
  have HX2 : Hid (W2.heap[w.heap.size]? = some (.cells (hA ln A lc vars (some ⟨g, 0, none⟩) hs.length hc) 54 (0, 0))) := Lib.hid (by rw [hW2]; exact (heap_setCell_other _ _ _ _ (show w.heap.size ≠ g by omega)).trans HX.out)
  have HH2 : Hid (W2.heap[g]? = some (.cells (iA (hs.set i h)) 3 (0, 0))) := Lib.hid (by rw [hW2]; exact iA_set HH.out i h)
  have c2 := iA_at HH2.out (i := i) (by simpa using hi)
  have e2 : ((hs.set i h)[i]?).getD 0 = h := by simp [hi]
  rw [e2] at c2
  obtain ⟨z0, z1, z2⟩ := cells3k HX2.out
  clear hu e2
  go_enter Tryz.func44, Tryz.ntmps44
  go_upto_region 1 with fail
  rw [← hW1]
  clear hW1
  go_upto_region 3 with fail
  rw [← hW2]
  clear hW2 x0 x1 x2 c0 d0
  by_cases h64 : h ≤ 64
  ·have t : decide (h ≤ 64) = true := decide_eq_true h64
   go_wp2
   go_ret
   exact ⟨by first | rfl | exact retb t.symm | exact retb (by simp [t, hq]) | exact retb (by simp [t]), HH2.out, HB2.out, HK2.out⟩
  ·have t : decide (h ≤ 64) = false := decide_eq_false h64
   go_wp2
   go_ret
   exact ⟨by first | rfl | exact retb t.symm | exact retb (by simp [t, hq]) | exact retb (by simp [t]), HH2.out, HB2.out, HK2.out⟩
 ·rw [if_neg hu]
  have tu : ((hs[i]?).getD 0 == -1) = false := by simp [hu]
  generalize (hs[i]?).getD 0 = q at *
  clear hu
  go_enter Tryz.func44, Tryz.ntmps44
  go_upto_region 1 with fail
  rw [← hW1]
  clear hW1
  by_cases hq : q = h
  ·have tq : (q == h) = true := by simp [hq]
   by_cases h64 : h ≤ 64
   ·have t : decide (h ≤ 64) = true := decide_eq_true h64
    go_wp2
    go_ret
    exact ⟨by first | rfl | exact retb t.symm | exact retb (by simp [t, hq]) | exact retb (by simp [t]), HH.out, HB.out, HK.out⟩
   ·have t : decide (h ≤ 64) = false := decide_eq_false h64
    go_wp2
    go_ret
    exact ⟨by first | rfl | exact retb t.symm | exact retb (by simp [t, hq]) | exact retb (by simp [t]), HH.out, HB.out, HK.out⟩
  ·have tq : (q == h) = false := by simp [hq]
   go_wp2
   go_ret
   exact ⟨by first | rfl | exact retb (by simp [hq]), HH.out, HB.out, HK.out⟩
end K
end Go.Proofs.YtljknappbnoikaaGreatDoor
