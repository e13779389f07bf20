/- The reference implementation of layer 13: Few, Same. -/
import Derived.Test.YtbjhdfakocfapaaMsX
namespace Go.Proofs.Ytbjhdfakocfapaa
open Go.RowKit
set_option linter.unusedVariables false
set_option linter.unusedSimpArgs false
def rowB (r : List Int) : Bool := decide (r.length ≤ 50)
def fewB (n : Net) : Bool := (n.f.take 50).all rowB && (decide (n.c.length ≤ 50) && (decide (n.f.length ≤ 50) && decide (n.l.length ≤ 50)))
theorem few_of {n : Net} (h : fewB n = true) : n.c.length ≤ 50 ∧ n.f.length ≤ 50 ∧ n.l.length ≤ 50 ∧ ∀ r ∈ n.f, r.length ≤ 50 := by
  simp only [fewB, Bool.and_eq_true, decide_eq_true_eq, List.all_eq_true] at h
  refine ⟨h.2.1, h.2.2.1, h.2.2.2, fun r hr => ?_⟩
  have := h.1 r (by rw [List.take_of_length_le h.2.2.1]; exact hr)
  simpa [rowB] using this
set_option maxHeartbeats 4000000 in
set_option maxRecDepth 100000 in
theorem RFew_any (n : Net) (a : NetA) (w : World) (hn : NetR w n a) :
    Calls Try.prog 11 #[nv n a] w (VV (.bool (fewB n)) w) := by
  obtain ⟨W1, hW1⟩ : ∃ W1, W1 = w.alloc (netB n a) := ⟨_, rfl⟩
  have G1 : Gr w W1 := by rw [hW1]; exact grAlloc _ _
  have A1 : W1.heap[w.heap.size]? = some (netB n a) := by rw [hW1]; exact newBlk _ _ _ rfl
  obtain ⟨a0, a1, a2⟩ := cells3 A1
  have HN := Lib.hid (hn.gr G1)
  have HG := Lib.hid G1
  clear A1 hn G1
  go_enter Try.func11, Try.ntmps11
  go_upto_region 1 with fail
  rw [← hW1]
  clear hW1
  go_wp2
  go_loop [3] (fun i => ∃ k : Nat, k ≤ n.f.length ∧ k ≤ 50 ∧ i = .int .i64 k ∧ Hid (((n.f.take 50).drop k).all rowB = (n.f.take 50).all rowB)) (fun i => 50 - (intOf i).toNat)
  case atStart => exact ⟨0, Nat.zero_le _, by omega, rfl, rfl⟩
  case round =>
    obtain ⟨k, hk, hk5, rfl, hI⟩ := hrel
    by_cases hlt : k < n.f.length
    · by_cases hlt5 : k < 50
      · obtain ⟨g, o, hA, hcs⟩ := HN.out.2.1.addr (by omega)
        obtain ⟨B, m, hc, hr⟩ := hcs k _ (List.getElem?_eq_getElem hlt)
        have h1 := hI.out
        rw [all_drop (show k < (n.f.take 50).length by rw [List.length_take]; omega), List.getElem_take] at h1
        rw [hA] at a1
        clear hcs hI hA hr
        generalize n.f[k] = y at *
        have hq : IntKind.i64.wrap ((k : Int) + 1) = (k : Int) + 1 := IntWalk.i64_in _ (by omega)
        have d5 : decide ((k : Int) < 50) = true := by simp; omega
        by_cases hy : 50 < y.length
        · have h3 := Lib.hid (show fewB n = false by rw [fewB, ← h1, rowB, decide_eq_false (show ¬ y.length ≤ 50 by omega)]; rfl)
          have t : decide ((50 : Int) < y.length) = true := by simp; omega
          clear h1
          go_wp2
          go_ret
          exact ⟨ret_b (by rw [h3.out]), HG.out⟩
        · have h3 := Lib.hid (show ((n.f.take 50).drop (k + 1)).all rowB = (n.f.take 50).all rowB by rw [← h1, rowB, decide_eq_true (show y.length ≤ 50 by omega)]; rfl)
          have t : decide ((50 : Int) < y.length) = false := by simp; omega
          clear h1
          go_wp2
          go_round
          case rel => exact ⟨k + 1, by omega, by omega, by go_num, h3⟩
          case measure => simp [intOf]; omega
      · have d5 : decide ((k : Int) < 50) = false := by simp; omega
        have h3 := Lib.hid (show fewB n = (decide (n.c.length ≤ 50) && (decide (n.f.length ≤ 50) && decide (n.l.length ≤ 50))) by
          rw [fewB, ← hI.out, all_end (by rw [List.length_take]; omega)]; rfl)
        have c2 : ¬ n.f.length ≤ 50 := by omega
        clear hI
        have t2 : decide ((n.f.length : Int) ≤ 50) = false := by simp; omega
        rw [decide_eq_false c2] at h3
        by_cases c1 : n.c.length ≤ 50
        · have t1 : decide ((n.c.length : Int) ≤ 50) = true := by simp; omega
          go_wp2
          go_ret
          exact ⟨ret_b (by rw [h3.out]; simp), HG.out⟩
        · have t1 : decide ((n.c.length : Int) ≤ 50) = false := by simp; omega
          go_wp2
          go_ret
          exact ⟨ret_b (by rw [h3.out]; simp), HG.out⟩
    · have h3 := Lib.hid (show fewB n = (decide (n.c.length ≤ 50) && (decide (n.f.length ≤ 50) && decide (n.l.length ≤ 50))) by
        rw [fewB, ← hI.out, all_end (by rw [List.length_take]; omega)]; rfl)
      clear hI
      by_cases c1 : n.c.length ≤ 50
      · have t1 : decide ((n.c.length : Int) ≤ 50) = true := by simp; omega
        by_cases c2 : n.f.length ≤ 50
        · have t2 : decide ((n.f.length : Int) ≤ 50) = true := by simp; omega
          by_cases c3 : n.l.length ≤ 50
          · have t3 : decide ((n.l.length : Int) ≤ 50) = true := by simp; omega
            go_wp2
            go_ret
            exact ⟨ret_b (by rw [h3.out]; simp [c1, c2, c3]), HG.out⟩
          · have t3 : decide ((n.l.length : Int) ≤ 50) = false := by simp; omega
            go_wp2
            go_ret
            exact ⟨ret_b (by rw [h3.out]; simp [c1, c2, c3]), HG.out⟩
        · exact absurd (show n.f.length ≤ 50 by omega) c2
      · have t1 : decide ((n.c.length : Int) ≤ 50) = false := by simp; omega
        go_wp2
        go_ret
        exact ⟨ret_b (by rw [h3.out]; simp [c1]), HG.out⟩
/-- two lists of ratios are equal -/
def sameB (xs ys : List Q) : Bool := decide (xs = ys)
set_option maxHeartbeats 4000000 in
set_option maxRecDepth 100000 in
theorem RSame_any (xs ys : List Q) (XA YA : Option Addr) (xm ym : Nat) (w : World) (hx : QsR w xs XA) (hy : QsR w ys YA) (hm : xs.length ≤ maxLen) :
    Calls Try.prog 14 #[.slice XA xs.length xm, .slice YA ys.length ym] w (VV (.bool (sameB xs ys)) w) := by
  have hml : maxLen = 9223372036854775807 := rfl
  have HX := Lib.hid hx
  have HY := Lib.hid hy
  clear hx hy
  by_cases hne : xs.length = ys.length
  rotate_left
  · have e : sameB xs ys = false := by unfold sameB; exact decide_eq_false (fun h => hne (by rw [h]))
    rw [e]
    have t : ((xs.length : Int) != (ys.length : Int)) = true := by simp; omega
    clear e HX HY hne
    go_enter Try.func14, Try.ntmps14
    go_wp2
    go_ret
    exact ⟨rfl, Below.refl _ _⟩
  have HE := Lib.hid hne
  have t : ((xs.length : Int) != (ys.length : Int)) = false := by simp; omega
  clear hne
  go_enter Try.func14, Try.ntmps14
  go_wp2
  go_loopg [5] (xs.length) (fun gk s wr => ∃ k : Nat, k + gk = xs.length ∧ s = .int .i64 k ∧ Hid (∀ i, i < k → rat xs i = rat ys i) ∧ Hid (Gr w wr))
  case atStart => exact ⟨0, by omega, rfl, fun i hi => absurd hi (by omega), Below.refl _ _⟩
  case round =>
    obtain ⟨k, hk, rfl, hI, hW⟩ := hrel
    by_cases hlt : k < xs.length
    · obtain ⟨g9, rfl⟩ : ∃ g, gk = g + 1 := ⟨gk - 1, by omega⟩
      obtain ⟨g, o, rfl, hcs⟩ := (HX.out.gr hW.out).addr (by omega)
      obtain ⟨p0, p1⟩ := hcs k _ (rat_get hlt)
      have hly : k < ys.length := by have := HE.out; omega
      obtain ⟨g2, o2, rfl, hcs2⟩ := (HY.out.gr hW.out).addr (by omega)
      obtain ⟨q0, q1⟩ := hcs2 k _ (rat_get hly)
      have hq : IntKind.i64.wrap ((k : Int) + 1) = (k : Int) + 1 := IntWalk.i64_in _ (by omega)
      obtain ⟨x, hxk⟩ : ∃ x, rat xs k = x := ⟨_, rfl⟩
      obtain ⟨y, hyk⟩ : ∃ y, rat ys k = y := ⟨_, rfl⟩
      rw [hxk] at p0 p1
      rw [hyk] at q0 q1
      have hqe : ∀ wx, (Op.equalIn 10000 35 (.agg #[.int .i64 x.n, .int .i64 x.d]) (.agg #[.int .i64 y.n, .int .i64 y.d])).run Try.prog wx = .ok (qEq x y) wx := run_q_eq x y
      have HK := Lib.hid (And.intro hxk hyk)
      obtain ⟨b, hb⟩ : ∃ b, qEq x y = b := ⟨_, rfl⟩
      have HB := Lib.hid hb
      rw [hb] at hqe
      clear hcs hcs2 hxk hyk hb
      cases b with
      | true =>
        have e : rat xs k = rat ys k := by rw [HK.out.1, HK.out.2]; exact qEq_iff.1 HB.out
        have h3 := Lib.hid (show ∀ i, i < k + 1 → rat xs i = rat ys i from fun i hi => by
          rcases Nat.lt_or_ge i k with h | h
          · exact hI.out i h
          · obtain rfl : i = k := by omega
            exact e)
        clear hI e
        go_upto_region 6 with fail
        refine wp_region_G (S := fun wq => Gr wr wq) (by kernel_rfl) (grDrew _) (fun hHeld => ?_)
        have hSG : Hid (∀ wp wq : World, Gr wr wp → Gr wp wq → Gr wr wq) := Lib.hid (fun _ _ h k => h.tr k)
        have hmv := Lib.hid (fun (wq : World) (hq : Gr wr wq) => And.intro (grCell hq p0) (And.intro (grCell hq p1) (And.intro (grCell hq q0) (grCell hq q1))))
        first
         | (refine tk hSG 0 (v := ?_) rfl (by kernel_rfl) (fun _ _ _ h => h) (by rfl) ?_ hHeld ?_; rotate_left; focus (intro w' hSw; obtain ⟨p0, p1, q0, q1⟩ := hmv.out _ hSw; go_simp; (try with_reducible rfl)))
         | refine tn hSG 0 rfl (by kernel_rfl) (fun _ _ _ h => h) (by rfl) hHeld ?_
        (try simp only [zq1, zq2, zq3, Act.put, zq4, zq5, zq6])
        first
         | (refine tk hSG 1 (v := ?_) rfl (by kernel_rfl) (fun _ _ _ h => h) (by rfl) ?_ hHeld ?_; rotate_left; focus (intro w' hSw; obtain ⟨p0, p1, q0, q1⟩ := hmv.out _ hSw; go_simp; (try with_reducible rfl)))
         | refine tn hSG 1 rfl (by kernel_rfl) (fun _ _ _ h => h) (by rfl) hHeld ?_
        (try simp only [zq1, zq2, zq3, Act.put, zq4, zq5, zq6])
        first
         | (refine tk hSG 2 (v := ?_) rfl (by kernel_rfl) (fun _ _ _ h => h) (by rfl) ?_ hHeld ?_; rotate_left; focus (intro w' hSw; obtain ⟨p0, p1, q0, q1⟩ := hmv.out _ hSw; go_simp; (try with_reducible rfl)))
         | refine tn hSG 2 rfl (by kernel_rfl) (fun _ _ _ h => h) (by rfl) hHeld ?_
        (try simp only [zq1, zq2, zq3, Act.put, zq4, zq5, zq6])
        first
         | (refine tk hSG 3 (v := ?_) rfl (by kernel_rfl) (fun _ _ _ h => h) (by rfl) ?_ hHeld ?_; rotate_left; focus (intro w' hSw; obtain ⟨p0, p1, q0, q1⟩ := hmv.out _ hSw; go_simp; (try with_reducible rfl)))
         | refine tn hSG 3 rfl (by kernel_rfl) (fun _ _ _ h => h) (by rfl) hHeld ?_
        (try simp only [zq1, zq2, zq3, Act.put, zq4, zq5, zq6])
        first
         | (refine tk hSG 4 (v := ?_) rfl (by kernel_rfl) (fun _ _ _ h => h) (by rfl) ?_ hHeld ?_; rotate_left; focus (intro w' hSw; obtain ⟨p0, p1, q0, q1⟩ := hmv.out _ hSw; go_simp; (try with_reducible rfl)))
         | refine tn hSG 4 rfl (by kernel_rfl) (fun _ _ _ h => h) (by rfl) hHeld ?_
        (try simp only [zq1, zq2, zq3, Act.put, zq4, zq5, zq6])
        first
         | (refine tk hSG 5 (v := ?_) rfl (by kernel_rfl) (fun _ _ _ h => h) (by rfl) ?_ hHeld ?_; rotate_left; focus (intro w' hSw; obtain ⟨p0, p1, q0, q1⟩ := hmv.out _ hSw; go_simp; (try with_reducible rfl)))
         | refine tn hSG 5 rfl (by kernel_rfl) (fun _ _ _ h => h) (by rfl) hHeld ?_
        (try simp only [zq1, zq2, zq3, Act.put, zq4, zq5, zq6])
        first
         | (refine tk hSG 6 (v := ?_) rfl (by kernel_rfl) (fun _ _ _ h => h) (by rfl) ?_ hHeld ?_; rotate_left; focus (intro w' hSw; obtain ⟨p0, p1, q0, q1⟩ := hmv.out _ hSw; go_simp; (try with_reducible rfl)))
         | refine tn hSG 6 rfl (by kernel_rfl) (fun _ _ _ h => h) (by rfl) hHeld ?_
        (try simp only [zq1, zq2, zq3, Act.put, zq4, zq5, zq6])
        first
         | (refine tk hSG 7 (v := ?_) rfl (by kernel_rfl) (fun _ _ _ h => h) (by rfl) ?_ hHeld ?_; rotate_left; focus (intro w' hSw; obtain ⟨p0, p1, q0, q1⟩ := hmv.out _ hSw; go_simp; (try with_reducible rfl)))
         | refine tn hSG 7 rfl (by kernel_rfl) (fun _ _ _ h => h) (by rfl) hHeld ?_
        (try simp only [zq1, zq2, zq3, Act.put, zq4, zq5, zq6])
        first
         | (refine tk hSG 8 (v := ?_) rfl (by kernel_rfl) (fun _ _ _ h => h) (by rfl) ?_ hHeld ?_; rotate_left; focus (intro w' hSw; obtain ⟨p0, p1, q0, q1⟩ := hmv.out _ hSw; go_simp; (try with_reducible rfl)))
         | refine tn hSG 8 rfl (by kernel_rfl) (fun _ _ _ h => h) (by rfl) hHeld ?_
        (try simp only [zq1, zq2, zq3, Act.put, zq4, zq5, zq6])
        refine wpAnyG_done (by kernel_rfl) (fun w9 hgD => ?_) _
        have hg9 : Gr wr w9 := (grDrew wr).tr hgD
        clear hgD hSG hHeld
        clear p0 p1 q0 q1 hmv
        have hg9 := Lib.hid hg9
        go_wp2
        go_roundg g9
        case rel => exact ⟨k + 1, by omega, by go_num, h3, Lib.hid (Gr.tr hW.out hg9.out)⟩
        case measure => omega
      | false =>
        have h3 := Lib.hid (show sameB xs ys = false by
          unfold sameB
          refine decide_eq_false (fun h => ?_)
          have h9 : x = y := by rw [← HK.out.1, ← HK.out.2, h]
          have := HB.out
          rw [h9, qEq_rfl] at this
          cases this)
        clear hI
        go_upto_region 6 with fail
        refine wp_region_G (S := fun wq => Gr wr wq) (by kernel_rfl) (grDrew _) (fun hHeld => ?_)
        have hSG : Hid (∀ wp wq : World, Gr wr wp → Gr wp wq → Gr wr wq) := Lib.hid (fun _ _ h k => h.tr k)
        have hmv := Lib.hid (fun (wq : World) (hq : Gr wr wq) => And.intro (grCell hq p0) (And.intro (grCell hq p1) (And.intro (grCell hq q0) (grCell hq q1))))
        first
         | (refine tk hSG 0 (v := ?_) rfl (by kernel_rfl) (fun _ _ _ h => h) (by rfl) ?_ hHeld ?_; rotate_left; focus (intro w' hSw; obtain ⟨p0, p1, q0, q1⟩ := hmv.out _ hSw; go_simp; (try with_reducible rfl)))
         | refine tn hSG 0 rfl (by kernel_rfl) (fun _ _ _ h => h) (by rfl) hHeld ?_
        (try simp only [zq1, zq2, zq3, Act.put, zq4, zq5, zq6])
        first
         | (refine tk hSG 1 (v := ?_) rfl (by kernel_rfl) (fun _ _ _ h => h) (by rfl) ?_ hHeld ?_; rotate_left; focus (intro w' hSw; obtain ⟨p0, p1, q0, q1⟩ := hmv.out _ hSw; go_simp; (try with_reducible rfl)))
         | refine tn hSG 1 rfl (by kernel_rfl) (fun _ _ _ h => h) (by rfl) hHeld ?_
        (try simp only [zq1, zq2, zq3, Act.put, zq4, zq5, zq6])
        first
         | (refine tk hSG 2 (v := ?_) rfl (by kernel_rfl) (fun _ _ _ h => h) (by rfl) ?_ hHeld ?_; rotate_left; focus (intro w' hSw; obtain ⟨p0, p1, q0, q1⟩ := hmv.out _ hSw; go_simp; (try with_reducible rfl)))
         | refine tn hSG 2 rfl (by kernel_rfl) (fun _ _ _ h => h) (by rfl) hHeld ?_
        (try simp only [zq1, zq2, zq3, Act.put, zq4, zq5, zq6])
        first
         | (refine tk hSG 3 (v := ?_) rfl (by kernel_rfl) (fun _ _ _ h => h) (by rfl) ?_ hHeld ?_; rotate_left; focus (intro w' hSw; obtain ⟨p0, p1, q0, q1⟩ := hmv.out _ hSw; go_simp; (try with_reducible rfl)))
         | refine tn hSG 3 rfl (by kernel_rfl) (fun _ _ _ h => h) (by rfl) hHeld ?_
        (try simp only [zq1, zq2, zq3, Act.put, zq4, zq5, zq6])
        first
         | (refine tk hSG 4 (v := ?_) rfl (by kernel_rfl) (fun _ _ _ h => h) (by rfl) ?_ hHeld ?_; rotate_left; focus (intro w' hSw; obtain ⟨p0, p1, q0, q1⟩ := hmv.out _ hSw; go_simp; (try with_reducible rfl)))
         | refine tn hSG 4 rfl (by kernel_rfl) (fun _ _ _ h => h) (by rfl) hHeld ?_
        (try simp only [zq1, zq2, zq3, Act.put, zq4, zq5, zq6])
        first
         | (refine tk hSG 5 (v := ?_) rfl (by kernel_rfl) (fun _ _ _ h => h) (by rfl) ?_ hHeld ?_; rotate_left; focus (intro w' hSw; obtain ⟨p0, p1, q0, q1⟩ := hmv.out _ hSw; go_simp; (try with_reducible rfl)))
         | refine tn hSG 5 rfl (by kernel_rfl) (fun _ _ _ h => h) (by rfl) hHeld ?_
        (try simp only [zq1, zq2, zq3, Act.put, zq4, zq5, zq6])
        first
         | (refine tk hSG 6 (v := ?_) rfl (by kernel_rfl) (fun _ _ _ h => h) (by rfl) ?_ hHeld ?_; rotate_left; focus (intro w' hSw; obtain ⟨p0, p1, q0, q1⟩ := hmv.out _ hSw; go_simp; (try with_reducible rfl)))
         | refine tn hSG 6 rfl (by kernel_rfl) (fun _ _ _ h => h) (by rfl) hHeld ?_
        (try simp only [zq1, zq2, zq3, Act.put, zq4, zq5, zq6])
        first
         | (refine tk hSG 7 (v := ?_) rfl (by kernel_rfl) (fun _ _ _ h => h) (by rfl) ?_ hHeld ?_; rotate_left; focus (intro w' hSw; obtain ⟨p0, p1, q0, q1⟩ := hmv.out _ hSw; go_simp; (try with_reducible rfl)))
         | refine tn hSG 7 rfl (by kernel_rfl) (fun _ _ _ h => h) (by rfl) hHeld ?_
        (try simp only [zq1, zq2, zq3, Act.put, zq4, zq5, zq6])
        first
         | (refine tk hSG 8 (v := ?_) rfl (by kernel_rfl) (fun _ _ _ h => h) (by rfl) ?_ hHeld ?_; rotate_left; focus (intro w' hSw; obtain ⟨p0, p1, q0, q1⟩ := hmv.out _ hSw; go_simp; (try with_reducible rfl)))
         | refine tn hSG 8 rfl (by kernel_rfl) (fun _ _ _ h => h) (by rfl) hHeld ?_
        (try simp only [zq1, zq2, zq3, Act.put, zq4, zq5, zq6])
        refine wpAnyG_done (by kernel_rfl) (fun w9 hgD => ?_) _
        have hg9 : Gr wr w9 := (grDrew wr).tr hgD
        clear hgD hSG hHeld
        clear p0 p1 q0 q1 hmv
        have hg9 := Lib.hid hg9
        go_wp2
        go_ret
        exact ⟨ret_b (by rw [h3.out]), Gr.tr hW.out hg9.out⟩
    · have h3 := Lib.hid (show sameB xs ys = true by
        unfold sameB
        refine decide_eq_true (List.ext_getElem HE.out (fun i h1 h2 => ?_))
        have := hI.out i (by omega)
        simpa [rat, h1, h2] using this)
      go_wp2
      go_ret
      exact ⟨ret_b (by rw [h3.out]), hW.out⟩
end Go.Proofs.Ytbjhdfakocfapaa
