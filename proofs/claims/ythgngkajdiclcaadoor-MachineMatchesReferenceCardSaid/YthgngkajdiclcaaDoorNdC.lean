/- The reference 08's Call, Value. -/
import Derived.Test.YthgngkajdiclcaaDoorNdA
namespace Go.Proofs.YthgngkajdiclcaaDoor
open Go.RowKit
set_option linter.unusedVariables false
set_option linter.unusedSimpArgs false
namespace N
open K
theorem cells4k {w : World} {b : Nat} {v0 v1 v2 v3 : Value} {T : TypeId} (h : w.heap[b]? = some (.cells #[v0, v1, v2, v3] T (0, 0))) :
    (w.cell? ⟨b, 0, none⟩ = some v0 ∧ w.cell? ⟨b, 1, none⟩ = some v1 ∧ w.cell? ⟨b, 2, none⟩ = some v2 ∧ w.cell? ⟨b, 3, none⟩ = some v3) := by
  have e : ∀ j, w.cell? ⟨b, j, none⟩ = (#[v0, v1, v2, v3] : Array Value)[j]? := fun j => cell_of_row _ _ j _ _ (0, 0) h
  exact ⟨e 0, e 1, e 2, e 3⟩
theorem RValue_any (n : Int) (w : World) : Calls Tryd.prog 27 #[.int .i64 n] w (SS (.bool (vN n)) w) := by
  go_enter Tryd.func27, Tryd.ntmps27
  go_wp2
  all_goals
    go_ret
    refine ⟨?_, rfl⟩
    simp [vN, *]
  all_goals omega
abbrev mostC : Array Value := #[.int .i64 1000, .int .i64 10000000, .int .i64 10000, .int .i64 4000]
set_option maxHeartbeats 4000000 in
set_option maxRecDepth 100000 in
theorem RCall_any (e i0 i1 i2 i3 : Int) (w : World) : Calls Tryd.prog 35 #[.agg (clA e i0 i1 i2 i3)] w (BB (rsB e i0 i1 i2 i3 0) w) := by
  obtain ⟨r, hr⟩ : ∃ r, rsB e i0 i1 i2 i3 0 = r := ⟨_, rfl⟩
  rw [hr]
  have hrH : Hid (rsB e i0 i1 i2 i3 0 = r) := Lib.hid hr
  obtain ⟨W2, hW2⟩ : ∃ W2, W2 = (w.alloc (.cells (clA e i0 i1 i2 i3) 30)).alloc (.cells mostC 3) := ⟨_, rfl⟩
  have HB0 : Hid (Gr w W2) := Lib.hid (by rw [hW2]; exact (grAlloc _ _).tr (grAlloc _ _))
  have HC : Hid (W2.heap[w.heap.size]? = some (.cells (clA e i0 i1 i2 i3) 30 (0, 0))) := Lib.hid (by rw [hW2]; exact grBlk (grAlloc _ _) (newBlk _ _ _ rfl))
  have HM : Hid (W2.heap[w.heap.size + 1]? = some (.cells mostC 3 (0, 0))) := Lib.hid (by rw [hW2]; exact newBlk _ _ _ (by simp))
  clear hr
  go_enter Tryd.func35, Tryd.ntmps35
  go_upto_region 2 with fail
  rw [← hW2]
  clear hW2
  go_wp2_with fail
  go_loopg [4] (4) (fun gk i wr => ∃ k : Nat, k + gk = 4 ∧ i = .int .i64 k ∧ Hid (rsB e i0 i1 i2 i3 k = r) ∧ Hid (wr.heap[w.heap.size]? = some (.cells (clA e i0 i1 i2 i3) 30 (0, 0))) ∧ Hid (wr.heap[w.heap.size + 1]? = some (.cells mostC 3 (0, 0))) ∧ Hid (Gr w wr))
  case atStart => exact ⟨0, by omega, rfl, hrH, HC, HM, HB0⟩
  case round =>
    obtain ⟨k, hk, rfl, hG, hX, hY, hW⟩ := hrel
    clear HB0 HC HM hrH
    have h5 : k = 0 ∨ k = 1 ∨ k = 2 ∨ k = 3 ∨ k = 4 := by omega
    obtain ⟨c0, c1, c2, c3, c4⟩ := cells5k hX.out
    obtain ⟨m0, m1, m2, m3⟩ := cells4k hY.out
    rcases h5 with rfl | rfl | rfl | rfl | rfl
    · obtain ⟨gq, rfl⟩ : ∃ g, gk = g + 1 := ⟨gk - 1, by omega⟩
      have hGd : (btw i0 1 1000 && rsB e i0 i1 i2 i3 1) = r := hG.out
      clear hG
      by_cases h1 : 1000 < i0
      · have t1 : decide (i0 > 1000) = true := decide_eq_true h1
        obtain rfl : false = r := by
          rw [show btw i0 1 1000 = false by rw [Bool.eq_false_iff]; intro h; have := btw_iff.1 h; omega] at hGd
          exact hGd
        clear hGd h1
        go_upto_region 5 with fail
        go_quiet (fail)
        go_wp2
        go_ret
        exact ⟨rfl, by first | exact bDrewN hW.out _ | exact hW.out⟩
      · have t1 : decide (i0 > 1000) = false := decide_eq_false h1
        by_cases h2 : i0 < 0
        · have t2 : decide (i0 < 0) = true := decide_eq_true h2
          obtain rfl : false = r := by
            rw [show btw i0 1 1000 = false by rw [Bool.eq_false_iff]; intro h; have := btw_iff.1 h; omega] at hGd
            exact hGd
          clear hGd h1 h2
          go_upto_region 5 with fail
          go_quiet (fail)
          go_wp2
          go_ret
          exact ⟨rfl, by first | exact bDrewN hW.out _ | exact hW.out⟩
        · have t2 : decide (i0 < 0) = false := decide_eq_false h2
          by_cases h3 : i0 = 0
          · have t3 : (i0 == 0) = true := by simp [h3]
            obtain rfl : false = r := by
              rw [show btw i0 1 1000 = false by rw [Bool.eq_false_iff]; intro h; have := btw_iff.1 h; omega] at hGd
              exact hGd
            clear hGd h1 h2
            clear h3
            go_upto_region 5 with fail
            go_quiet (fail)
            go_wp2
            go_ret
            exact ⟨rfl, by first | exact bDrewN hW.out _ | exact hW.out⟩
          · have t3 : (i0 == 0) = false := by simp [h3]
            have hG2 := Lib.hid (by
              rw [show btw i0 1 1000 = true from btw_iff.2 ⟨by omega, by omega⟩, Bool.true_and] at hGd
              exact hGd)
            clear hGd h1 h2 h3
            go_upto_region 5 with fail
            go_quiet (fail)
            go_wp2
            go_roundg gq
            case measure => omega
            case rel => exact ⟨1, by omega, by go_num, hG2, Lib.hid (grBlk (bDrewN (Below.refl _ _) _) hX.out), Lib.hid (grBlk (bDrewN (Below.refl _ _) _) hY.out), Lib.hid (by first | exact bDrewN hW.out _ | exact hW.out)⟩
    · obtain ⟨gq, rfl⟩ : ∃ g, gk = g + 1 := ⟨gk - 1, by omega⟩
      have hGd : (btw i1 1 10000000 && rsB e i0 i1 i2 i3 2) = r := hG.out
      clear hG
      by_cases h1 : 10000000 < i1
      · have t1 : decide (i1 > 10000000) = true := decide_eq_true h1
        obtain rfl : false = r := by
          rw [show btw i1 1 10000000 = false by rw [Bool.eq_false_iff]; intro h; have := btw_iff.1 h; omega] at hGd
          exact hGd
        clear hGd h1
        go_upto_region 5 with fail
        go_quiet (fail)
        go_wp2
        go_ret
        exact ⟨rfl, by first | exact bDrewN hW.out _ | exact hW.out⟩
      · have t1 : decide (i1 > 10000000) = false := decide_eq_false h1
        by_cases h2 : i1 < 0
        · have t2 : decide (i1 < 0) = true := decide_eq_true h2
          obtain rfl : false = r := by
            rw [show btw i1 1 10000000 = false by rw [Bool.eq_false_iff]; intro h; have := btw_iff.1 h; omega] at hGd
            exact hGd
          clear hGd h1 h2
          go_upto_region 5 with fail
          go_quiet (fail)
          go_wp2
          go_ret
          exact ⟨rfl, by first | exact bDrewN hW.out _ | exact hW.out⟩
        · have t2 : decide (i1 < 0) = false := decide_eq_false h2
          by_cases h3 : i1 = 0
          · have t3 : (i1 == 0) = true := by simp [h3]
            obtain rfl : false = r := by
              rw [show btw i1 1 10000000 = false by rw [Bool.eq_false_iff]; intro h; have := btw_iff.1 h; omega] at hGd
              exact hGd
            clear hGd h1 h2
            clear h3
            go_upto_region 5 with fail
            go_quiet (fail)
            go_wp2
            go_ret
            exact ⟨rfl, by first | exact bDrewN hW.out _ | exact hW.out⟩
          · have t3 : (i1 == 0) = false := by simp [h3]
            have hG2 := Lib.hid (by
              rw [show btw i1 1 10000000 = true from btw_iff.2 ⟨by omega, by omega⟩, Bool.true_and] at hGd
              exact hGd)
            clear hGd h1 h2 h3
            go_upto_region 5 with fail
            go_quiet (fail)
            go_wp2
            go_roundg gq
            case measure => omega
            case rel => exact ⟨2, by omega, by go_num, hG2, Lib.hid (grBlk (bDrewN (Below.refl _ _) _) hX.out), Lib.hid (grBlk (bDrewN (Below.refl _ _) _) hY.out), Lib.hid (by first | exact bDrewN hW.out _ | exact hW.out)⟩
    · obtain ⟨gq, rfl⟩ : ∃ g, gk = g + 1 := ⟨gk - 1, by omega⟩
      have hGd : (btw i2 1 10000 && rsB e i0 i1 i2 i3 3) = r := hG.out
      clear hG
      by_cases h1 : 10000 < i2
      · have t1 : decide (i2 > 10000) = true := decide_eq_true h1
        obtain rfl : false = r := by
          rw [show btw i2 1 10000 = false by rw [Bool.eq_false_iff]; intro h; have := btw_iff.1 h; omega] at hGd
          exact hGd
        clear hGd h1
        go_upto_region 5 with fail
        go_quiet (fail)
        go_wp2
        go_ret
        exact ⟨rfl, by first | exact bDrewN hW.out _ | exact hW.out⟩
      · have t1 : decide (i2 > 10000) = false := decide_eq_false h1
        by_cases h2 : i2 < 0
        · have t2 : decide (i2 < 0) = true := decide_eq_true h2
          obtain rfl : false = r := by
            rw [show btw i2 1 10000 = false by rw [Bool.eq_false_iff]; intro h; have := btw_iff.1 h; omega] at hGd
            exact hGd
          clear hGd h1 h2
          go_upto_region 5 with fail
          go_quiet (fail)
          go_wp2
          go_ret
          exact ⟨rfl, by first | exact bDrewN hW.out _ | exact hW.out⟩
        · have t2 : decide (i2 < 0) = false := decide_eq_false h2
          by_cases h3 : i2 = 0
          · have t3 : (i2 == 0) = true := by simp [h3]
            obtain rfl : false = r := by
              rw [show btw i2 1 10000 = false by rw [Bool.eq_false_iff]; intro h; have := btw_iff.1 h; omega] at hGd
              exact hGd
            clear hGd h1 h2
            clear h3
            go_upto_region 5 with fail
            go_quiet (fail)
            go_wp2
            go_ret
            exact ⟨rfl, by first | exact bDrewN hW.out _ | exact hW.out⟩
          · have t3 : (i2 == 0) = false := by simp [h3]
            have hG2 := Lib.hid (by
              rw [show btw i2 1 10000 = true from btw_iff.2 ⟨by omega, by omega⟩, Bool.true_and] at hGd
              exact hGd)
            clear hGd h1 h2 h3
            go_upto_region 5 with fail
            go_quiet (fail)
            go_wp2
            go_roundg gq
            case measure => omega
            case rel => exact ⟨3, by omega, by go_num, hG2, Lib.hid (grBlk (bDrewN (Below.refl _ _) _) hX.out), Lib.hid (grBlk (bDrewN (Below.refl _ _) _) hY.out), Lib.hid (by first | exact bDrewN hW.out _ | exact hW.out)⟩
    · obtain ⟨gq, rfl⟩ : ∃ g, gk = g + 1 := ⟨gk - 1, by omega⟩
      have hGd : (btw i3 0 4000 && rsB e i0 i1 i2 i3 4) = r := hG.out
      clear hG
      by_cases h1 : 4000 < i3
      · have t1 : decide (i3 > 4000) = true := decide_eq_true h1
        obtain rfl : false = r := by
          rw [show btw i3 0 4000 = false by rw [Bool.eq_false_iff]; intro h; have := btw_iff.1 h; omega] at hGd
          exact hGd
        clear hGd h1
        go_upto_region 5 with fail
        go_quiet (fail)
        go_wp2
        go_ret
        exact ⟨rfl, by first | exact bDrewN hW.out _ | exact hW.out⟩
      · have t1 : decide (i3 > 4000) = false := decide_eq_false h1
        by_cases h2 : i3 < 0
        · have t2 : decide (i3 < 0) = true := decide_eq_true h2
          obtain rfl : false = r := by
            rw [show btw i3 0 4000 = false by rw [Bool.eq_false_iff]; intro h; have := btw_iff.1 h; omega] at hGd
            exact hGd
          clear hGd h1 h2
          go_upto_region 5 with fail
          go_quiet (fail)
          go_wp2
          go_ret
          exact ⟨rfl, by first | exact bDrewN hW.out _ | exact hW.out⟩
        · have t2 : decide (i3 < 0) = false := decide_eq_false h2
          by_cases h3 : i3 = 0
          · have t3 : (i3 == 0) = true := by simp [h3]
            have hG2 := Lib.hid (by
              rw [show btw i3 0 4000 = true from btw_iff.2 ⟨by omega, by omega⟩, Bool.true_and] at hGd
              exact hGd)
            clear hGd h1 h2
            clear h3
            go_upto_region 5 with fail
            go_quiet (fail)
            go_wp2
            go_roundg gq
            case measure => omega
            case rel => exact ⟨4, by omega, by go_num, hG2, Lib.hid (grBlk (bDrewN (Below.refl _ _) _) hX.out), Lib.hid (grBlk (bDrewN (Below.refl _ _) _) hY.out), Lib.hid (by first | exact bDrewN hW.out _ | exact hW.out)⟩
          · have t3 : (i3 == 0) = false := by simp [h3]
            have hG2 := Lib.hid (by
              rw [show btw i3 0 4000 = true from btw_iff.2 ⟨by omega, by omega⟩, Bool.true_and] at hGd
              exact hGd)
            clear hGd h1 h2 h3
            go_upto_region 5 with fail
            go_quiet (fail)
            go_wp2
            go_roundg gq
            case measure => omega
            case rel => exact ⟨4, by omega, by go_num, hG2, Lib.hid (grBlk (bDrewN (Below.refl _ _) _) hX.out), Lib.hid (grBlk (bDrewN (Below.refl _ _) _) hY.out), Lib.hid (by first | exact bDrewN hW.out _ | exact hW.out)⟩
    · have hGd : btw e 0 4 = r := hG.out
      clear hG
      by_cases h1 : 0 ≤ e
      · have t1 : decide (e ≥ 0) = true := decide_eq_true h1
        by_cases h2 : e < 5
        · have t2 : decide (e < 5) = true := decide_eq_true h2
          obtain rfl : true = r := by rw [← hGd]; exact (btw_iff.2 ⟨by omega, by omega⟩).symm
          go_wp2
          go_ret
          exact ⟨rfl, hW.out⟩
        · have t2 : decide (e < 5) = false := decide_eq_false h2
          obtain rfl : false = r := by rw [← hGd]; symm; rw [Bool.eq_false_iff]; intro h; have := btw_iff.1 h; omega
          go_wp2
          go_ret
          exact ⟨rfl, hW.out⟩
      · have t1 : decide (e ≥ 0) = false := decide_eq_false h1
        obtain rfl : false = r := by rw [← hGd]; symm; rw [Bool.eq_false_iff]; intro h; have := btw_iff.1 h; omega
        go_wp2
        go_ret
        exact ⟨rfl, hW.out⟩
end N
end Go.Proofs.YthgngkajdiclcaaDoor
