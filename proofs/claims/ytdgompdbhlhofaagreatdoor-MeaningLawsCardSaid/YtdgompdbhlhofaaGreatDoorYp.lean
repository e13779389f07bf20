/- Texts of one proof: MxU. -/
import Derived.Test.YtdgompdbhlhofaaGreatDoorYn
namespace Go.Proofs.YtdgompdbhlhofaaGreatDoor
open Go.RowKit
set_option linter.unusedVariables false
set_option linter.unusedSimpArgs false
namespace M
open I
open U (Ex newBlk blkLt)
theorem o_val {a b op r : Int} (ha : vN a = true) (hb : vN b = true) (h : opE op a b = .ok r) : evalE [a, b] [0, 0, 0, 0] (x2 op) = (if vN r = true then (r, 0) else (0, 3)) := by
  rw [x2_val ha hb, h, chkE]
  split <;> rfl
def lop : List Int := [4, 6, 9, 10]
theorem lop_or : ∀ (k : Nat) (n : Int), lop[k]? = some n → n = 4 ∨ n = 6 ∨ n = 9 ∨ n = 10
  | 0, n, h => by simp [lop] at h; omega
  | 1, n, h => by simp [lop] at h; omega
  | 2, n, h => by simp [lop] at h; omega
  | 3, n, h => by simp [lop] at h; omega
  | k + 4, n, h => by simp [lop] at h
theorem lop_cells {w : World} {b : Nat} {T : TypeId} (h : w.heap[b]? = some (.cells #[.int .i64 4, .int .i64 6, .int .i64 9, .int .i64 10] T (0, 0))) (k : Nat) (n : Int) (hn : lop[k]? = some n) : w.cell? ⟨b, k, none⟩ = some (.int .i64 n) := by
  obtain ⟨⟨e0, e1, e2, e3⟩, -⟩ := C.cells4C h
  match k, hn with
  | 0, hn => cases hn; exact e0
  | 1, hn => cases hn; exact e1
  | 2, hn => cases hn; exact e2
  | 3, hn => cases hn; exact e3
  | k + 4, hn => simp [lop] at hn
set_option maxHeartbeats 16000000 in
set_option maxRecDepth 100000 in
theorem laws_any (a b : Int) (w : World) (hL : LaidM w) : Calls Tryz.prog 4 #[.int .i64 a, .int .i64 b] w (BB true w) := by
  have HH := Lib.hid (head_any w hL)
  clear hL
  go_enter Tryz.func4, Tryz.ntmps4
  go_wp2_with (go_at_call 5; refine HH.out.mono ?_; rintro e w1 ⟨rfl, hb⟩; have HB := Lib.hid (Gr.tr hb (grAlloc w1 (.cells #[.int .i64 4, .int .i64 6, .int .i64 9, .int .i64 10] 3))); have HS := Lib.hid (newBlk w1 (.cells #[.int .i64 4, .int .i64 6, .int .i64 9, .int .i64 10] 3) _ rfl); clear hb HH)
  go_loopg [29] (4) (fun gk i wr => ∃ k : Nat, k + gk = 4 ∧ i = .int .i64 k ∧ Hid (wr.heap[w1.heap.size]? = some (.cells #[.int .i64 4, .int .i64 6, .int .i64 9, .int .i64 10] 3 (0, 0))) ∧ Hid (Gr w wr))
  case atStart => exact ⟨0, rfl, rfl, HS, HB⟩
  case round =>
    obtain ⟨k, hk, rfl, hS, hW⟩ := hrel
    clear HS HB
    by_cases hlt : k < 4
    · obtain ⟨gq, rfl⟩ : ∃ g, gk = g + 1 := ⟨gk - 1, by omega⟩
      have hlk : lop[k]? = some lop[k] := List.getElem?_eq_getElem (h := show k < lop.length from hlt)
      have e0 := lop_cells hS.out k _ hlk
      have hor := lop_or k _ hlk
      generalize lop[k] = op at *
      have HV1 := Lib.hid (fun wx => lval_any op a b wx)
      have HV2 := Lib.hid (fun wx => lval_any op b a wx)
      rw [law_sym hor] at HV1
      generalize (evalE [b, a] [0, 0, 0, 0] (x2 op)).1 = x at *
      generalize (evalE [b, a] [0, 0, 0, 0] (x2 op)).2 = e at *
      have hx : (x != x) = false := by simp
      have he : (e != e) = false := by simp
      clear hlk hor
      go_upto_region 6 with (go_at_call 6; refine (HV1.out _).mono ?_; rintro ee w3 ⟨rfl, hb⟩; have hS := Lib.hid (grBlk hb hS.out); have hW := Lib.hid (Gr.tr hW.out hb); clear hb e0)
      go_wp2_with (go_at_call 6; refine (HV2.out _).mono ?_; rintro ee w4 ⟨rfl, hb⟩; have hS := Lib.hid (grBlk hb hS.out); have hW := Lib.hid (Gr.tr hW.out hb); clear hb)
      go_roundg gq
      case measure => omega
      case rel => exact ⟨k + 1, by omega, by go_num, hS, hW⟩
    · obtain rfl : gk = 0 := by omega
      have hk4 : k = 4 := by omega
      subst hk4
      clear hk hlt hS
      by_cases c0 : a < -1000000000000
      · skip
        have t0 : decide (a < -1000000000000) = true := by simp only [decide_eq_true_eq]; omega
        have HV := Lib.hid (fun wx => lval_any 9 a b wx)
        rw [x2_out (by rw [vN_iff, vN_iff]; omega)] at HV
        clear c0
        go_wp2_with (go_at_call 6; refine (HV.out _).mono ?_; rintro ee w3 ⟨rfl, hb⟩; have hW := Lib.hid (Gr.tr hW.out hb); clear hb)
        go_ret
        exact ⟨rfl, hW.out⟩
      by_cases c1 : 1000000000000 < a
      · skip
        have t0 : decide (a < -1000000000000) = false := by simp only [decide_eq_false_iff_not]; omega
        have t1 : decide (1000000000000 < a) = true := by simp only [decide_eq_true_eq]; omega
        have HV := Lib.hid (fun wx => lval_any 9 a b wx)
        rw [x2_out (by rw [vN_iff, vN_iff]; omega)] at HV
        clear c0 c1
        go_wp2_with (go_at_call 6; refine (HV.out _).mono ?_; rintro ee w3 ⟨rfl, hb⟩; have hW := Lib.hid (Gr.tr hW.out hb); clear hb)
        go_ret
        exact ⟨rfl, hW.out⟩
      by_cases c2 : b < -1000000000000
      · skip
        have t0 : decide (a < -1000000000000) = false := by simp only [decide_eq_false_iff_not]; omega
        have t1 : decide (1000000000000 < a) = false := by simp only [decide_eq_false_iff_not]; omega
        have t2 : decide (b < -1000000000000) = true := by simp only [decide_eq_true_eq]; omega
        have HV := Lib.hid (fun wx => lval_any 9 a b wx)
        rw [x2_out (by rw [vN_iff, vN_iff]; omega)] at HV
        clear c0 c1 c2
        go_wp2_with (go_at_call 6; refine (HV.out _).mono ?_; rintro ee w3 ⟨rfl, hb⟩; have hW := Lib.hid (Gr.tr hW.out hb); clear hb)
        go_ret
        exact ⟨rfl, hW.out⟩
      by_cases c3 : 1000000000000 < b
      · skip
        have t0 : decide (a < -1000000000000) = false := by simp only [decide_eq_false_iff_not]; omega
        have t1 : decide (1000000000000 < a) = false := by simp only [decide_eq_false_iff_not]; omega
        have t2 : decide (b < -1000000000000) = false := by simp only [decide_eq_false_iff_not]; omega
        have t3 : decide (1000000000000 < b) = true := by simp only [decide_eq_true_eq]; omega
        have HV := Lib.hid (fun wx => lval_any 9 a b wx)
        rw [x2_out (by rw [vN_iff, vN_iff]; omega)] at HV
        clear c0 c1 c2 c3
        go_wp2_with (go_at_call 6; refine (HV.out _).mono ?_; rintro ee w3 ⟨rfl, hb⟩; have hW := Lib.hid (Gr.tr hW.out hb); clear hb)
        go_ret
        exact ⟨rfl, hW.out⟩
      have ha : vN a = true := vN_iff.2 ⟨by omega, by omega⟩
      have hb : vN b = true := vN_iff.2 ⟨by omega, by omega⟩
      have V4 := Lib.hid (fun wx => lval_any 4 a b wx)
      have V5 := Lib.hid (fun wx => lval_any 5 a b wx)
      have V9 := Lib.hid (fun wx => lval_any 9 a b wx)
      have V0 := Lib.hid (fun wx => lval_any 10 a b wx)
      rw [o_val (r := a + b) ha hb (by unfold opE; simp)] at V4
      rw [o_val (r := a - b) ha hb (by unfold opE; simp)] at V5
      rw [o_val (r := min a b) ha hb (by unfold opE; simp), if_pos (vN_iff.2 ⟨by omega, by omega⟩)] at V9
      rw [o_val (r := max a b) ha hb (by unfold opE; simp), if_pos (vN_iff.2 ⟨by omega, by omega⟩)] at V0
      obtain ⟨sm, hsm⟩ : ∃ sm, IntKind.i64.wrap (a + b) = sm := ⟨_, rfl⟩
      have hsv : a + b = sm := by rw [← hsm]; exact (wr64 (by omega) (by omega)).symm
      obtain ⟨df, hdf⟩ : ∃ df, IntKind.i64.wrap (a - b) = df := ⟨_, rfl⟩
      have hdv : a - b = df := by rw [← hdf]; exact (wr64 (by omega) (by omega)).symm
      obtain ⟨z, hz⟩ : ∃ z, IntKind.i64.wrap (df + b) = z := ⟨_, rfl⟩
      have hzv : df + b = z := by rw [← hz]; exact (wr64 (by omega) (by omega)).symm
      have hza : (z == a) = true := by simp; omega
      have hmm : min a b + max a b = a + b := by omega
      have hml : min a b ≤ max a b := by omega
      have hmr : -1000000000000 ≤ min a b ∧ max a b ≤ 1000000000000 := ⟨by omega, by omega⟩
      generalize min a b = m at *
      generalize max a b = n at *
      obtain ⟨q, hq⟩ : ∃ q, IntKind.i64.wrap (m + n) = q := ⟨_, rfl⟩
      have hqv : m + n = q := by rw [← hq]; exact (wr64 (by omega) (by omega)).symm
      have hqs : (q == sm) = true := by simp; omega
      have hle : decide (m ≤ n) = true := by simp only [decide_eq_true_eq]; exact hml
      have hss : (sm == sm) = true := by simp
      rw [hsv] at V4
      rw [hdv] at V5
      have t0 : decide (a < -1000000000000) = false := by simp only [decide_eq_false_iff_not]; omega
      have t1 : decide (1000000000000 < a) = false := by simp only [decide_eq_false_iff_not]; omega
      have t2 : decide (b < -1000000000000) = false := by simp only [decide_eq_false_iff_not]; omega
      have t3 : decide (1000000000000 < b) = false := by simp only [decide_eq_false_iff_not]; omega
      clear c0 c1 c2 c3 ha hb hsv hdv hzv hmm hml hmr hqv
      by_cases vs : sm < -1000000000000
      · skip
        have x0 : decide (-1000000000000 ≤ sm) = false := by simp only [decide_eq_false_iff_not]; omega
        rw [if_neg (by rw [vN_iff]; omega)] at V4
        by_cases vd : df < -1000000000000
        · skip
          have y0 : decide (-1000000000000 ≤ df) = false := by simp only [decide_eq_false_iff_not]; omega
          rw [if_neg (by rw [vN_iff]; omega)] at V5
          clear vs vd
          go_wp2_with (first
            | (go_at_call_of 6 (Value.int .i64 4); refine (V4.out _).mono ?_; rintro ee w4 ⟨rfl, hb⟩; have hW := Lib.hid (Gr.tr hW.out hb); clear hb)
            | (go_at_call_of 6 (Value.int .i64 5); refine (V5.out _).mono ?_; rintro ee w5 ⟨rfl, hb⟩; have hW := Lib.hid (Gr.tr hW.out hb); clear hb)
            | (go_at_call_of 6 (Value.int .i64 9); refine (V9.out _).mono ?_; rintro ee w6 ⟨rfl, hb⟩; have hW := Lib.hid (Gr.tr hW.out hb); clear hb)
            | (go_at_call_of 6 (Value.int .i64 10); refine (V0.out _).mono ?_; rintro ee w7 ⟨rfl, hb⟩; have hW := Lib.hid (Gr.tr hW.out hb); clear hb))
          go_ret
          exact ⟨rfl, hW.out⟩
        by_cases ud : 1000000000000 < df
        · skip
          have y0 : decide (-1000000000000 ≤ df) = true := by simp only [decide_eq_true_eq]; omega
          have y1 : decide (df ≤ 1000000000000) = false := by simp only [decide_eq_false_iff_not]; omega
          rw [if_neg (by rw [vN_iff]; omega)] at V5
          clear vs vd ud
          go_wp2_with (first
            | (go_at_call_of 6 (Value.int .i64 4); refine (V4.out _).mono ?_; rintro ee w4 ⟨rfl, hb⟩; have hW := Lib.hid (Gr.tr hW.out hb); clear hb)
            | (go_at_call_of 6 (Value.int .i64 5); refine (V5.out _).mono ?_; rintro ee w5 ⟨rfl, hb⟩; have hW := Lib.hid (Gr.tr hW.out hb); clear hb)
            | (go_at_call_of 6 (Value.int .i64 9); refine (V9.out _).mono ?_; rintro ee w6 ⟨rfl, hb⟩; have hW := Lib.hid (Gr.tr hW.out hb); clear hb)
            | (go_at_call_of 6 (Value.int .i64 10); refine (V0.out _).mono ?_; rintro ee w7 ⟨rfl, hb⟩; have hW := Lib.hid (Gr.tr hW.out hb); clear hb))
          go_ret
          exact ⟨rfl, hW.out⟩
        have y0 : decide (-1000000000000 ≤ df) = true := by simp only [decide_eq_true_eq]; omega
        have y1 : decide (df ≤ 1000000000000) = true := by simp only [decide_eq_true_eq]; omega
        rw [if_pos (vN_iff.2 ⟨by omega, by omega⟩)] at V5
        clear vs vd ud
        go_wp2_with (first
          | (go_at_call_of 6 (Value.int .i64 4); refine (V4.out _).mono ?_; rintro ee w4 ⟨rfl, hb⟩; have hW := Lib.hid (Gr.tr hW.out hb); clear hb)
          | (go_at_call_of 6 (Value.int .i64 5); refine (V5.out _).mono ?_; rintro ee w5 ⟨rfl, hb⟩; have hW := Lib.hid (Gr.tr hW.out hb); clear hb)
          | (go_at_call_of 6 (Value.int .i64 9); refine (V9.out _).mono ?_; rintro ee w6 ⟨rfl, hb⟩; have hW := Lib.hid (Gr.tr hW.out hb); clear hb)
          | (go_at_call_of 6 (Value.int .i64 10); refine (V0.out _).mono ?_; rintro ee w7 ⟨rfl, hb⟩; have hW := Lib.hid (Gr.tr hW.out hb); clear hb))
        go_ret
        exact ⟨rfl, hW.out⟩
      by_cases us : 1000000000000 < sm
      · skip
        have x0 : decide (-1000000000000 ≤ sm) = true := by simp only [decide_eq_true_eq]; omega
        have x1 : decide (sm ≤ 1000000000000) = false := by simp only [decide_eq_false_iff_not]; omega
        rw [if_neg (by rw [vN_iff]; omega)] at V4
        by_cases vd : df < -1000000000000
        · skip
          have y0 : decide (-1000000000000 ≤ df) = false := by simp only [decide_eq_false_iff_not]; omega
          rw [if_neg (by rw [vN_iff]; omega)] at V5
          clear vs us vd
          go_wp2_with (first
            | (go_at_call_of 6 (Value.int .i64 4); refine (V4.out _).mono ?_; rintro ee w4 ⟨rfl, hb⟩; have hW := Lib.hid (Gr.tr hW.out hb); clear hb)
            | (go_at_call_of 6 (Value.int .i64 5); refine (V5.out _).mono ?_; rintro ee w5 ⟨rfl, hb⟩; have hW := Lib.hid (Gr.tr hW.out hb); clear hb)
            | (go_at_call_of 6 (Value.int .i64 9); refine (V9.out _).mono ?_; rintro ee w6 ⟨rfl, hb⟩; have hW := Lib.hid (Gr.tr hW.out hb); clear hb)
            | (go_at_call_of 6 (Value.int .i64 10); refine (V0.out _).mono ?_; rintro ee w7 ⟨rfl, hb⟩; have hW := Lib.hid (Gr.tr hW.out hb); clear hb))
          go_ret
          exact ⟨rfl, hW.out⟩
        by_cases ud : 1000000000000 < df
        · skip
          have y0 : decide (-1000000000000 ≤ df) = true := by simp only [decide_eq_true_eq]; omega
          have y1 : decide (df ≤ 1000000000000) = false := by simp only [decide_eq_false_iff_not]; omega
          rw [if_neg (by rw [vN_iff]; omega)] at V5
          clear vs us vd ud
          go_wp2_with (first
            | (go_at_call_of 6 (Value.int .i64 4); refine (V4.out _).mono ?_; rintro ee w4 ⟨rfl, hb⟩; have hW := Lib.hid (Gr.tr hW.out hb); clear hb)
            | (go_at_call_of 6 (Value.int .i64 5); refine (V5.out _).mono ?_; rintro ee w5 ⟨rfl, hb⟩; have hW := Lib.hid (Gr.tr hW.out hb); clear hb)
            | (go_at_call_of 6 (Value.int .i64 9); refine (V9.out _).mono ?_; rintro ee w6 ⟨rfl, hb⟩; have hW := Lib.hid (Gr.tr hW.out hb); clear hb)
            | (go_at_call_of 6 (Value.int .i64 10); refine (V0.out _).mono ?_; rintro ee w7 ⟨rfl, hb⟩; have hW := Lib.hid (Gr.tr hW.out hb); clear hb))
          go_ret
          exact ⟨rfl, hW.out⟩
        have y0 : decide (-1000000000000 ≤ df) = true := by simp only [decide_eq_true_eq]; omega
        have y1 : decide (df ≤ 1000000000000) = true := by simp only [decide_eq_true_eq]; omega
        rw [if_pos (vN_iff.2 ⟨by omega, by omega⟩)] at V5
        clear vs us vd ud
        go_wp2_with (first
          | (go_at_call_of 6 (Value.int .i64 4); refine (V4.out _).mono ?_; rintro ee w4 ⟨rfl, hb⟩; have hW := Lib.hid (Gr.tr hW.out hb); clear hb)
          | (go_at_call_of 6 (Value.int .i64 5); refine (V5.out _).mono ?_; rintro ee w5 ⟨rfl, hb⟩; have hW := Lib.hid (Gr.tr hW.out hb); clear hb)
          | (go_at_call_of 6 (Value.int .i64 9); refine (V9.out _).mono ?_; rintro ee w6 ⟨rfl, hb⟩; have hW := Lib.hid (Gr.tr hW.out hb); clear hb)
          | (go_at_call_of 6 (Value.int .i64 10); refine (V0.out _).mono ?_; rintro ee w7 ⟨rfl, hb⟩; have hW := Lib.hid (Gr.tr hW.out hb); clear hb))
        go_ret
        exact ⟨rfl, hW.out⟩
      have x0 : decide (-1000000000000 ≤ sm) = true := by simp only [decide_eq_true_eq]; omega
      have x1 : decide (sm ≤ 1000000000000) = true := by simp only [decide_eq_true_eq]; omega
      rw [if_pos (vN_iff.2 ⟨by omega, by omega⟩)] at V4
      by_cases vd : df < -1000000000000
      · skip
        have y0 : decide (-1000000000000 ≤ df) = false := by simp only [decide_eq_false_iff_not]; omega
        rw [if_neg (by rw [vN_iff]; omega)] at V5
        clear vs us vd
        go_wp2_with (first
          | (go_at_call_of 6 (Value.int .i64 4); refine (V4.out _).mono ?_; rintro ee w4 ⟨rfl, hb⟩; have hW := Lib.hid (Gr.tr hW.out hb); clear hb)
          | (go_at_call_of 6 (Value.int .i64 5); refine (V5.out _).mono ?_; rintro ee w5 ⟨rfl, hb⟩; have hW := Lib.hid (Gr.tr hW.out hb); clear hb)
          | (go_at_call_of 6 (Value.int .i64 9); refine (V9.out _).mono ?_; rintro ee w6 ⟨rfl, hb⟩; have hW := Lib.hid (Gr.tr hW.out hb); clear hb)
          | (go_at_call_of 6 (Value.int .i64 10); refine (V0.out _).mono ?_; rintro ee w7 ⟨rfl, hb⟩; have hW := Lib.hid (Gr.tr hW.out hb); clear hb))
        go_ret
        exact ⟨rfl, hW.out⟩
      by_cases ud : 1000000000000 < df
      · skip
        have y0 : decide (-1000000000000 ≤ df) = true := by simp only [decide_eq_true_eq]; omega
        have y1 : decide (df ≤ 1000000000000) = false := by simp only [decide_eq_false_iff_not]; omega
        rw [if_neg (by rw [vN_iff]; omega)] at V5
        clear vs us vd ud
        go_wp2_with (first
          | (go_at_call_of 6 (Value.int .i64 4); refine (V4.out _).mono ?_; rintro ee w4 ⟨rfl, hb⟩; have hW := Lib.hid (Gr.tr hW.out hb); clear hb)
          | (go_at_call_of 6 (Value.int .i64 5); refine (V5.out _).mono ?_; rintro ee w5 ⟨rfl, hb⟩; have hW := Lib.hid (Gr.tr hW.out hb); clear hb)
          | (go_at_call_of 6 (Value.int .i64 9); refine (V9.out _).mono ?_; rintro ee w6 ⟨rfl, hb⟩; have hW := Lib.hid (Gr.tr hW.out hb); clear hb)
          | (go_at_call_of 6 (Value.int .i64 10); refine (V0.out _).mono ?_; rintro ee w7 ⟨rfl, hb⟩; have hW := Lib.hid (Gr.tr hW.out hb); clear hb))
        go_ret
        exact ⟨rfl, hW.out⟩
      have y0 : decide (-1000000000000 ≤ df) = true := by simp only [decide_eq_true_eq]; omega
      have y1 : decide (df ≤ 1000000000000) = true := by simp only [decide_eq_true_eq]; omega
      rw [if_pos (vN_iff.2 ⟨by omega, by omega⟩)] at V5
      clear vs us vd ud
      go_wp2_with (first
        | (go_at_call_of 6 (Value.int .i64 4); refine (V4.out _).mono ?_; rintro ee w4 ⟨rfl, hb⟩; have hW := Lib.hid (Gr.tr hW.out hb); clear hb)
        | (go_at_call_of 6 (Value.int .i64 5); refine (V5.out _).mono ?_; rintro ee w5 ⟨rfl, hb⟩; have hW := Lib.hid (Gr.tr hW.out hb); clear hb)
        | (go_at_call_of 6 (Value.int .i64 9); refine (V9.out _).mono ?_; rintro ee w6 ⟨rfl, hb⟩; have hW := Lib.hid (Gr.tr hW.out hb); clear hb)
        | (go_at_call_of 6 (Value.int .i64 10); refine (V0.out _).mono ?_; rintro ee w7 ⟨rfl, hb⟩; have hW := Lib.hid (Gr.tr hW.out hb); clear hb))
      go_ret
      exact ⟨rfl, hW.out⟩
end M
end Go.Proofs.YtdgompdbhlhofaaGreatDoor
