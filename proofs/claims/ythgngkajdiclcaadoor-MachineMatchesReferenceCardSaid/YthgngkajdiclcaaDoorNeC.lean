/- The reference 09's Verify, Short; the reference 10's State, Fits. -/
import Derived.Test.YthgngkajdiclcaaDoorNeB
import Derived.Test.YthgngkajdiclcaaDoorNdF
import Derived.Test.YthgngkajdiclcaaDoorNdC
namespace Go.Proofs.YthgngkajdiclcaaDoor
open Go.RowKit
set_option linter.unusedVariables false
set_option linter.unusedSimpArgs false
namespace N
open K
def shortB (hs : List Hd) (most : Int) : Bool := hs.all (fun h => decide ((h.l.length : Int) ≤ most))
set_option maxHeartbeats 4000000 in
set_option maxRecDepth 100000 in
theorem RVerify_any (h0 h1 h2 h3 h4 : Hd) (vars : Int) (w : World) (hR : ∀ h ∈ [h0, h1, h2, h3, h4], InsR w h.l h.A) (hlen : ∀ h ∈ [h0, h1, h2, h3, h4], h.l.length ≤ 100000) :
    Calls Tryd.prog 16 #[.agg (cdA h0 h1 h2 h3 h4), .int .i64 vars] w (GG (.bool (verC [h0, h1, h2, h3, h4] vars)) w) := by
  obtain ⟨R, hRR⟩ : ∃ R, verC [h0, h1, h2, h3, h4] vars = R := ⟨_, rfl⟩
  rw [hRR]
  obtain ⟨W1, hW1⟩ : ∃ W1, W1 = w.alloc (.cells (cdA h0 h1 h2 h3 h4) 26) := ⟨_, rfl⟩
  have HG1 := Lib.hid (show Gr w W1 by rw [hW1]; exact grAlloc _ _)
  have HC1 := Lib.hid (show W1.heap[w.heap.size]? = some (.cells (cdA h0 h1 h2 h3 h4) 26 (0, 0)) by rw [hW1]; exact nBlk _ _ _ rfl)
  unfold verC at hRR
  obtain ⟨hsL, hhs⟩ : ∃ hsL, hsL = [h0, h1, h2, h3, h4] := ⟨_, rfl⟩
  have hcd := Lib.hid (fun (wx : World) (hX : wx.heap[w.heap.size]? = some (.cells (cdA h0 h1 h2 h3 h4) 26 (0, 0))) (k : Nat) (x : Hd) (hk : hsL[k]? = some x) => cdAt hX (k := k) (x := x) (by rw [← hhs]; exact hk))
  have hll := Lib.hid (show hsL.length = 5 by rw [hhs]; rfl)
  rw [← hhs] at hR hlen hRR
  clear hhs
  have HR := Lib.hid hR
  have HL := Lib.hid hlen
  clear hR hlen
  by_cases p0 : vars < 0
  · have t0 : decide (vars < 0) = true := decide_eq_true p0
    obtain rfl : false = R := by rw [← hRR]; simp [btw2]; omega
    clear hRR p0
    go_enter Tryd.func16, Tryd.ntmps16
    go_upto_region 1 with fail
    rw [← hW1]
    clear hW1
    go_wp2
    go_ret
    exact ⟨rfl, HG1.out⟩
  have t0 : decide (vars < 0) = false := decide_eq_false p0
  by_cases p1 : 12 < vars
  · have t1 : decide (vars > 12) = true := decide_eq_true p1
    obtain rfl : false = R := by rw [← hRR]; simp [btw2]; omega
    clear hRR p1
    go_enter Tryd.func16, Tryd.ntmps16
    go_upto_region 1 with fail
    rw [← hW1]
    clear hW1
    go_wp2
    go_ret
    exact ⟨rfl, HG1.out⟩
  have t1 : decide (vars > 12) = false := decide_eq_false p1
  have hRH := Lib.hid (show verAll (hsL.drop 0) vars = R by rw [← hRR, show btw2 vars (0, 12) = true by simp [btw2]; omega]; rfl)
  clear hRR p0 p1
  go_enter Tryd.func16, Tryd.ntmps16
  go_upto_region 1 with fail
  rw [← hW1]
  clear hW1
  go_wp2
  go_loopg [5] (5) (fun gk a5 wr => ∃ k : Nat, k + gk = 5 ∧ a5 = .int .i64 k ∧ Hid (verAll (hsL.drop k) vars = R) ∧ Hid (wr.heap[w.heap.size]? = some (.cells (cdA h0 h1 h2 h3 h4) 26 (0, 0))) ∧ Hid (Gr w wr))
  case atStart => exact ⟨0, by omega, rfl, hRH, HC1, HG1⟩
  case round =>
    obtain ⟨k, hk, rfl, hG, hC, hB⟩ := hrel
    by_cases hlt : k < 5
    · obtain ⟨gq, rfl⟩ : ∃ g, gk = g + 1 := ⟨gk - 1, by omega⟩
      have hkl : k < hsL.length := by rw [hll.out]; exact hlt
      have hke : hsL[k]? = some hsL[k] := List.getElem?_eq_getElem hkl
      have hmem : hsL[k] ∈ hsL := List.getElem_mem hkl
      have ck := hcd.out _ hC.out k _ hke
      have hG1 := hG.out
      rw [List.drop_eq_getElem_cons hkl] at hG1
      have hG1 : (verH (hsL[k]).l vars && verAll (hsL.drop (k + 1)) vars) = R := hG1
      have HH := Lib.hid (RHandler_any (hsL[k]).l (hsL[k]).A (hsL[k]).c vars wr ((HR.out _ hmem).gr hB.out) (HL.out _ hmem))
      clear hG hke hmem
      generalize hsL[k] = x at *
      clear hkl
      obtain ⟨l, A, c⟩ := x
      have ck : wr.cell? ⟨w.heap.size, k, none⟩ = some (.slice A l.length c) := ck
      simp only at hG1 HH
      rcases hv : verH l vars with _ | _
      · rw [hv] at HH hG1
        obtain rfl : false = R := by simpa using hG1
        clear hG1 hv
        go_wp2_with (go_at_call 28; refine HH.out.mono ?_; rintro e w3 ⟨rfl, hg3⟩; have HG3 := Lib.hid (Gr.tr hB.out hg3); clear hg3)
        go_ret
        exact ⟨rfl, HG3.out⟩
      · rw [hv] at HH hG1
        have hGn := Lib.hid (show verAll (hsL.drop (k + 1)) vars = R by simpa using hG1)
        clear hG1 hv
        go_wp2_with (go_at_call 28; refine HH.out.mono ?_; rintro e w3 ⟨rfl, hg3⟩; have HG3 := Lib.hid (Gr.tr hB.out hg3); have HC3 := Lib.hid (grBlk hg3 hC.out); clear hg3 ck)
        go_roundg gq
        case measure => omega
        case rel => exact ⟨k + 1, by omega, by go_num, hGn, HC3, HG3⟩
    · have hk5 : k = 5 := by omega
      have hGe := hG.out
      rw [List.drop_eq_nil_of_le (by rw [hll.out]; omega)] at hGe
      obtain rfl : true = R := hGe
      have hkl2 : decide ((k : Int) < 5) = false := by simp; omega
      clear hG
      go_wp2
      go_ret
      exact ⟨rfl, hB.out⟩
set_option maxHeartbeats 4000000 in
set_option maxRecDepth 100000 in
theorem Short_any (h0 h1 h2 h3 h4 : Hd) (most : Int) (w : World) :
    Calls Tryd.prog 8 #[.agg (cdA h0 h1 h2 h3 h4), .int .i64 most] w (GG (.bool (shortB [h0, h1, h2, h3, h4] most)) w) := by
  obtain ⟨R, hRR⟩ : ∃ R, shortB [h0, h1, h2, h3, h4] most = R := ⟨_, rfl⟩
  rw [hRR]
  obtain ⟨W1, hW1⟩ : ∃ W1, W1 = w.alloc (.cells (cdA h0 h1 h2 h3 h4) 26) := ⟨_, rfl⟩
  have HG1 := Lib.hid (show Gr w W1 by rw [hW1]; exact grAlloc _ _)
  have HC1 := Lib.hid (show W1.heap[w.heap.size]? = some (.cells (cdA h0 h1 h2 h3 h4) 26 (0, 0)) by rw [hW1]; exact nBlk _ _ _ rfl)
  obtain ⟨hsL, hhs⟩ : ∃ hsL, hsL = [h0, h1, h2, h3, h4] := ⟨_, rfl⟩
  have hcd := Lib.hid (fun (wx : World) (hX : wx.heap[w.heap.size]? = some (.cells (cdA h0 h1 h2 h3 h4) 26 (0, 0))) (k : Nat) (x : Hd) (hk : hsL[k]? = some x) => cdAt hX (k := k) (x := x) (by rw [← hhs]; exact hk))
  have hll := Lib.hid (show hsL.length = 5 by rw [hhs]; rfl)
  rw [← hhs] at hRR
  clear hhs
  have hRH := Lib.hid (show shortB (hsL.drop 0) most = R from hRR)
  clear hRR
  go_enter Tryd.func8, Tryd.ntmps8
  go_upto_region 1 with fail
  rw [← hW1]
  clear hW1
  go_wp2
  go_loopg [5] (5) (fun gk a5 wr => ∃ k : Nat, k + gk = 5 ∧ a5 = .int .i64 k ∧ Hid (shortB (hsL.drop k) most = R) ∧ Hid (wr.heap[w.heap.size]? = some (.cells (cdA h0 h1 h2 h3 h4) 26 (0, 0))) ∧ Hid (Gr w wr))
  case atStart => exact ⟨0, by omega, rfl, hRH, HC1, HG1⟩
  case round =>
    obtain ⟨k, hk, rfl, hG, hC, hB⟩ := hrel
    by_cases hlt : k < 5
    · obtain ⟨gq, rfl⟩ : ∃ g, gk = g + 1 := ⟨gk - 1, by omega⟩
      have hkl : k < hsL.length := by rw [hll.out]; exact hlt
      have hke : hsL[k]? = some hsL[k] := List.getElem?_eq_getElem hkl
      have ck := hcd.out _ hC.out k _ hke
      have hG1 := hG.out
      rw [List.drop_eq_getElem_cons hkl] at hG1
      have hG1 : (decide (((hsL[k]).l.length : Int) ≤ most) && shortB (hsL.drop (k + 1)) most) = R := hG1
      clear hG hke
      generalize hsL[k] = x at *
      clear hkl
      obtain ⟨l, A, c⟩ := x
      have ck : wr.cell? ⟨w.heap.size, k, none⟩ = some (.slice A l.length c) := ck
      simp only at hG1
      by_cases hv : (l.length : Int) ≤ most
      · have tv : decide ((l.length : Int) > most) = false := by simp; omega
        have hGn := Lib.hid (show shortB (hsL.drop (k + 1)) most = R by simpa [hv] using hG1)
        clear hG1 hv
        go_wp2
        go_roundg gq
        case measure => omega
        case rel => exact ⟨k + 1, by omega, by go_num, hGn, hC, hB⟩
      · have tv : decide ((l.length : Int) > most) = true := by simp; omega
        obtain rfl : false = R := by simpa [hv] using hG1
        clear hG1 hv
        go_wp2
        go_ret
        exact ⟨rfl, hB.out⟩
    · have hk5 : k = 5 := by omega
      have hGe := hG.out
      rw [List.drop_eq_nil_of_le (by rw [hll.out]; omega)] at hGe
      obtain rfl : true = R := hGe
      have hkl2 : decide ((k : Int) < 5) = false := by simp; omega
      clear hG
      go_wp2
      go_ret
      exact ⟨rfl, hB.out⟩
end N
end Go.Proofs.YthgngkajdiclcaaDoor
