/- The reference 09's instr, Takes. -/
import Derived.Test.YthgngkajdiclcaaDoorKyC
namespace Go.Proofs.YthgngkajdiclcaaDoor
open Go.RowKit
set_option linter.unusedVariables false
set_option linter.unusedSimpArgs false
namespace K
theorem formI_iff {op n r : Int} {i many : Nat} {vars : Int} : formI ⟨op, n, r⟩ i many vars = true ↔ (1 ≤ op ∧ op ≤ 13) ∧ (op = 12 → 1 ≤ r ∧ r ≤ 6) ∧ (op ≠ 12 → r = 0) ∧ (op = 1 → -1000000000000 ≤ n ∧ n ≤ 1000000000000) ∧ (op = 2 ∨ op = 11 → 0 ≤ n ∧ n < vars) ∧ (op = 3 → 0 ≤ n ∧ n < 4) ∧ (op = 12 ∨ op = 13 → (i : Int) < n ∧ n ≤ many) ∧ (4 ≤ op ∧ op ≤ 10 → n = 0) := by
  unfold formI rgN btw2
  simp only [Bool.and_eq_true, decide_eq_true_eq]
  by_cases h1 : op = 1
  · subst h1; simp; omega
  by_cases h2 : op = 2
  · subst h2; simp; omega
  by_cases h11 : op = 11
  · subst h11; simp; omega
  by_cases h3 : op = 3
  · subst h3; simp; omega
  by_cases h12 : op = 12
  · subst h12; simp; omega
  by_cases h13 : op = 13
  · subst h13; simp; omega
  rw [if_neg h1, if_neg (by omega), if_neg h3, if_neg (by omega), if_neg h12]
  simp only
  omega
theorem fF {a b : Bool} (h : ¬ a = true) (hb : b = false) : Ending.returned (.bool b) = .returned (.bool a) := by rw [hb]; cases a <;> simp_all
theorem fT {a b : Bool} (h : a = true) (hb : b = true) : Ending.returned (.bool b) = .returned (.bool a) := by rw [h, hb]
set_option maxHeartbeats 4000000 in
set_option maxRecDepth 100000 in
theorem instr_any (op n r : Int) (i many : Nat) (vars : Int) (w : World) : Calls Tryd.prog 38 #[.agg #[.int .i64 op, .int .i64 n, .int .i64 r], .int .i64 i, .int .i64 many, .int .i64 vars] w (GG (.bool (formI ⟨op, n, r⟩ i many vars)) w) := by
  obtain ⟨W1, hW1⟩ : ∃ W1, W1 = w.alloc (.cells #[.int .i64 op, .int .i64 n, .int .i64 r] 42) := ⟨_, rfl⟩
  have HB := Lib.hid (show Gr w W1 by rw [hW1]; exact grAlloc _ _)
  obtain ⟨x0, x1, x2⟩ := cells3k (show W1.heap[w.heap.size]? = some (.cells #[.int .i64 op, .int .i64 n, .int .i64 r] 42 (0, 0)) by rw [hW1]; exact nBlk _ _ _ rfl)
  have HI := Lib.hid (@formI_iff op n r i many vars)
  generalize formI ⟨op, n, r⟩ i many vars = R at *
  by_cases a1 : op < 1
  · have ta1 : decide (op < 1) = true := decide_eq_true a1
    go_enter Tryd.func38, Tryd.ntmps38
    go_upto_region 1 with fail
    rw [← hW1]
    clear hW1
    have hf := Lib.hid (show ¬ R = true from fun h => by have := HI.out.1 h; omega)
    clear HI a1
    go_wp2
    go_ret
    exact ⟨fF hf.out rfl, HB.out⟩
  have ta1 : decide (op < 1) = false := decide_eq_false a1
  by_cases a2 : 13 < op
  · have ta2 : decide (op > 13) = true := decide_eq_true a2
    go_enter Tryd.func38, Tryd.ntmps38
    go_upto_region 1 with fail
    rw [← hW1]
    clear hW1
    have hf := Lib.hid (show ¬ R = true from fun h => by have := HI.out.1 h; omega)
    clear HI a1 a2
    go_wp2
    go_ret
    exact ⟨fF hf.out rfl, HB.out⟩
  have ta2 : decide (op > 13) = false := decide_eq_false a2
  by_cases h12 : op = 12
  · subst h12
    clear ta1 ta2 a1 a2
    by_cases p1 : (i : Int) < n
    · have tp1 : decide (n > (i : Int)) = true := (by simp; omega)
      by_cases p2 : n ≤ (many : Int)
      · have tp2 : decide (n ≤ (many : Int)) = true := (by simp; omega)
        by_cases p3 : 1 ≤ r
        · have tp3 : decide (r ≥ 1) = true := (by simp; omega)
          by_cases p4 : r ≤ 6
          · have tp4 : decide (r ≤ 6) = true := (by simp; omega)
            go_enter Tryd.func38, Tryd.ntmps38
            go_upto_region 1 with fail
            rw [← hW1]
            clear hW1
            have hf := Lib.hid (show R = true from HI.out.2 (by omega))
            clear HI p1 p2 p3 p4
            go_wp2
            go_ret
            exact ⟨fT hf.out rfl, HB.out⟩
          · have tp4 : decide (r ≤ 6) = false := (by simp; omega)
            go_enter Tryd.func38, Tryd.ntmps38
            go_upto_region 1 with fail
            rw [← hW1]
            clear hW1
            have hf := Lib.hid (show ¬ R = true from fun h => by have := HI.out.1 h; omega)
            clear HI p1 p2 p3 p4
            go_wp2
            go_ret
            exact ⟨fF hf.out rfl, HB.out⟩
        · have tp3 : decide (r ≥ 1) = false := (by simp; omega)
          go_enter Tryd.func38, Tryd.ntmps38
          go_upto_region 1 with fail
          rw [← hW1]
          clear hW1
          have hf := Lib.hid (show ¬ R = true from fun h => by have := HI.out.1 h; omega)
          clear HI p1 p2 p3
          go_wp2
          go_ret
          exact ⟨fF hf.out rfl, HB.out⟩
      · have tp2 : decide (n ≤ (many : Int)) = false := (by simp; omega)
        go_enter Tryd.func38, Tryd.ntmps38
        go_upto_region 1 with fail
        rw [← hW1]
        clear hW1
        have hf := Lib.hid (show ¬ R = true from fun h => by have := HI.out.1 h; omega)
        clear HI p1 p2
        go_wp2
        go_ret
        exact ⟨fF hf.out rfl, HB.out⟩
    · have tp1 : decide (n > (i : Int)) = false := (by simp; omega)
      go_enter Tryd.func38, Tryd.ntmps38
      go_upto_region 1 with fail
      rw [← hW1]
      clear hW1
      have hf := Lib.hid (show ¬ R = true from fun h => by have := HI.out.1 h; omega)
      clear HI p1
      go_wp2
      go_ret
      exact ⟨fF hf.out rfl, HB.out⟩
  have t12 : (op != 12) = true := by simp [h12]
  by_cases hr : r = 0
  · subst hr
    by_cases h1 : op = 1
    · subst h1
      clear ta1 ta2 a1 a2 t12 h12
      by_cases p1 : -1000000000000 ≤ n
      · have tp1 : decide (n ≥ -1000000000000) = true := (by simp; omega)
        by_cases p2 : n ≤ 1000000000000
        · have tp2 : decide (n ≤ 1000000000000) = true := (by simp; omega)
          go_enter Tryd.func38, Tryd.ntmps38
          go_upto_region 1 with fail
          rw [← hW1]
          clear hW1
          have hf := Lib.hid (show R = true from HI.out.2 (by omega))
          clear HI p1 p2
          go_wp2
          go_ret
          exact ⟨fT hf.out rfl, HB.out⟩
        · have tp2 : decide (n ≤ 1000000000000) = false := (by simp; omega)
          go_enter Tryd.func38, Tryd.ntmps38
          go_upto_region 1 with fail
          rw [← hW1]
          clear hW1
          have hf := Lib.hid (show ¬ R = true from fun h => by have := HI.out.1 h; omega)
          clear HI p1 p2
          go_wp2
          go_ret
          exact ⟨fF hf.out rfl, HB.out⟩
      · have tp1 : decide (n ≥ -1000000000000) = false := (by simp; omega)
        go_enter Tryd.func38, Tryd.ntmps38
        go_upto_region 1 with fail
        rw [← hW1]
        clear hW1
        have hf := Lib.hid (show ¬ R = true from fun h => by have := HI.out.1 h; omega)
        clear HI p1
        go_wp2
        go_ret
        exact ⟨fF hf.out rfl, HB.out⟩
    by_cases h2 : op = 2
    · subst h2
      clear ta1 ta2 a1 a2 t12 h12
      by_cases p1 : 0 ≤ n
      · have tp1 : decide (n ≥ 0) = true := (by simp; omega)
        by_cases p2 : n < vars
        · have tp2 : decide (n < vars) = true := (by simp; omega)
          go_enter Tryd.func38, Tryd.ntmps38
          go_upto_region 1 with fail
          rw [← hW1]
          clear hW1
          have hf := Lib.hid (show R = true from HI.out.2 (by omega))
          clear HI p1 p2
          go_wp2
          go_ret
          exact ⟨fT hf.out rfl, HB.out⟩
        · have tp2 : decide (n < vars) = false := (by simp; omega)
          go_enter Tryd.func38, Tryd.ntmps38
          go_upto_region 1 with fail
          rw [← hW1]
          clear hW1
          have hf := Lib.hid (show ¬ R = true from fun h => by have := HI.out.1 h; omega)
          clear HI p1 p2
          go_wp2
          go_ret
          exact ⟨fF hf.out rfl, HB.out⟩
      · have tp1 : decide (n ≥ 0) = false := (by simp; omega)
        go_enter Tryd.func38, Tryd.ntmps38
        go_upto_region 1 with fail
        rw [← hW1]
        clear hW1
        have hf := Lib.hid (show ¬ R = true from fun h => by have := HI.out.1 h; omega)
        clear HI p1
        go_wp2
        go_ret
        exact ⟨fF hf.out rfl, HB.out⟩
    by_cases h11 : op = 11
    · subst h11
      clear ta1 ta2 a1 a2 t12 h12
      by_cases p1 : 0 ≤ n
      · have tp1 : decide (n ≥ 0) = true := (by simp; omega)
        by_cases p2 : n < vars
        · have tp2 : decide (n < vars) = true := (by simp; omega)
          go_enter Tryd.func38, Tryd.ntmps38
          go_upto_region 1 with fail
          rw [← hW1]
          clear hW1
          have hf := Lib.hid (show R = true from HI.out.2 (by omega))
          clear HI p1 p2
          go_wp2
          go_ret
          exact ⟨fT hf.out rfl, HB.out⟩
        · have tp2 : decide (n < vars) = false := (by simp; omega)
          go_enter Tryd.func38, Tryd.ntmps38
          go_upto_region 1 with fail
          rw [← hW1]
          clear hW1
          have hf := Lib.hid (show ¬ R = true from fun h => by have := HI.out.1 h; omega)
          clear HI p1 p2
          go_wp2
          go_ret
          exact ⟨fF hf.out rfl, HB.out⟩
      · have tp1 : decide (n ≥ 0) = false := (by simp; omega)
        go_enter Tryd.func38, Tryd.ntmps38
        go_upto_region 1 with fail
        rw [← hW1]
        clear hW1
        have hf := Lib.hid (show ¬ R = true from fun h => by have := HI.out.1 h; omega)
        clear HI p1
        go_wp2
        go_ret
        exact ⟨fF hf.out rfl, HB.out⟩
    by_cases h3 : op = 3
    · subst h3
      clear ta1 ta2 a1 a2 t12 h12
      by_cases p1 : 0 ≤ n
      · have tp1 : decide (n ≥ 0) = true := (by simp; omega)
        by_cases p2 : n < 4
        · have tp2 : decide (n < 4) = true := (by simp; omega)
          go_enter Tryd.func38, Tryd.ntmps38
          go_upto_region 1 with fail
          rw [← hW1]
          clear hW1
          have hf := Lib.hid (show R = true from HI.out.2 (by omega))
          clear HI p1 p2
          go_wp2
          go_ret
          exact ⟨fT hf.out rfl, HB.out⟩
        · have tp2 : decide (n < 4) = false := (by simp; omega)
          go_enter Tryd.func38, Tryd.ntmps38
          go_upto_region 1 with fail
          rw [← hW1]
          clear hW1
          have hf := Lib.hid (show ¬ R = true from fun h => by have := HI.out.1 h; omega)
          clear HI p1 p2
          go_wp2
          go_ret
          exact ⟨fF hf.out rfl, HB.out⟩
      · have tp1 : decide (n ≥ 0) = false := (by simp; omega)
        go_enter Tryd.func38, Tryd.ntmps38
        go_upto_region 1 with fail
        rw [← hW1]
        clear hW1
        have hf := Lib.hid (show ¬ R = true from fun h => by have := HI.out.1 h; omega)
        clear HI p1
        go_wp2
        go_ret
        exact ⟨fF hf.out rfl, HB.out⟩
    by_cases h13 : op = 13
    · subst h13
      clear ta1 ta2 a1 a2 t12 h12
      by_cases p1 : (i : Int) < n
      · have tp1 : decide (n > (i : Int)) = true := (by simp; omega)
        by_cases p2 : n ≤ (many : Int)
        · have tp2 : decide (n ≤ (many : Int)) = true := (by simp; omega)
          go_enter Tryd.func38, Tryd.ntmps38
          go_upto_region 1 with fail
          rw [← hW1]
          clear hW1
          have hf := Lib.hid (show R = true from HI.out.2 (by omega))
          clear HI p1 p2
          go_wp2
          go_ret
          exact ⟨fT hf.out rfl, HB.out⟩
        · have tp2 : decide (n ≤ (many : Int)) = false := (by simp; omega)
          go_enter Tryd.func38, Tryd.ntmps38
          go_upto_region 1 with fail
          rw [← hW1]
          clear hW1
          have hf := Lib.hid (show ¬ R = true from fun h => by have := HI.out.1 h; omega)
          clear HI p1 p2
          go_wp2
          go_ret
          exact ⟨fF hf.out rfl, HB.out⟩
      · have tp1 : decide (n > (i : Int)) = false := (by simp; omega)
        go_enter Tryd.func38, Tryd.ntmps38
        go_upto_region 1 with fail
        rw [← hW1]
        clear hW1
        have hf := Lib.hid (show ¬ R = true from fun h => by have := HI.out.1 h; omega)
        clear HI p1
        go_wp2
        go_ret
        exact ⟨fF hf.out rfl, HB.out⟩
    have g1 : (op == 1) = false := by simp [h1]
    have g2 : (op == 2) = false := by simp [h2]
    have g11 : (op == 11) = false := by simp [h11]
    have g3 : (op == 3) = false := by simp [h3]
    have g12 : (op == 12) = false := by simp [h12]
    have g13 : (op == 13) = false := by simp [h13]
    by_cases p1 : n = 0
    · subst p1
      go_enter Tryd.func38, Tryd.ntmps38
      go_upto_region 1 with fail
      rw [← hW1]
      clear hW1
      have hf := Lib.hid (show R = true from HI.out.2 (by omega))
      clear HI h1 h2 h3 h11 h12 h13 a1 a2
      go_wp2
      go_ret
      exact ⟨fT hf.out rfl, HB.out⟩
    · have tp1 : (n == 0) = false := by simp [p1]
      go_enter Tryd.func38, Tryd.ntmps38
      go_upto_region 1 with fail
      rw [← hW1]
      clear hW1
      have hf := Lib.hid (show ¬ R = true from fun h => by have := HI.out.1 h; omega)
      clear HI p1 h1 h2 h3 h11 h12 h13 a1 a2
      go_wp2
      go_ret
      exact ⟨fF hf.out rfl, HB.out⟩
  · have thr : (r != 0) = true := by simp [hr]
    go_enter Tryd.func38, Tryd.ntmps38
    go_upto_region 1 with fail
    rw [← hW1]
    clear hW1
    have hf := Lib.hid (show ¬ R = true from fun h => by have := HI.out.1 h; omega)
    clear HI hr h12 a1 a2
    go_wp2
    go_ret
    exact ⟨fF hf.out rfl, HB.out⟩
set_option maxHeartbeats 1000000 in
theorem Takes_any (op : Int) (h : 1 ≤ op ∧ op ≤ 13) (w : World) : Calls Tryd.prog 39 #[.int .i64 op] w (SS (.tuple #[.int .i64 (tko op), .int .i64 (pt op)]) w) := by
  have hc : op = 1 ∨ op = 2 ∨ op = 3 ∨ op = 4 ∨ op = 5 ∨ op = 6 ∨ op = 7 ∨ op = 8 ∨ op = 9 ∨ op = 10 ∨ op = 11 ∨ op = 12 ∨ op = 13 := by omega
  rcases hc with rfl | rfl | rfl | rfl | rfl | rfl | rfl | rfl | rfl | rfl | rfl | rfl | rfl
  all_goals
    clear h
    go_enter Tryd.func39, Tryd.ntmps39
    go_wp2
    go_ret2
    exact ⟨rfl, rfl⟩
end K
end Go.Proofs.YthgngkajdiclcaaDoor
