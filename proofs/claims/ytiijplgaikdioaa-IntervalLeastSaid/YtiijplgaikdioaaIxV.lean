/- Law package 06: IntervalLeast. -/
import Derived.Test.YtiijplgaikdioaaIxL
import Derived.Test.YtiijplgaikdioaaIxN
import Derived.Test.YtiijplgaikdioaaIxQ
namespace Go.Proofs.Ytiijplgaikdioaa
open Go.RowKit
set_option linter.unusedVariables false
set_option linter.unusedSimpArgs false
def hits (l : List Int) (v : Int) (b : Bool) : Prop := ∀ r, r ∈ l → r = v → b = true
theorem hits_nil (v : Int) (b : Bool) : hits [] v b := fun r h => by cases h
theorem hits_snoc {l : List Int} {v : Int} {b : Bool} (r : Int) (h : hits l v b) : hits (l ++ [r]) v (b || decide (r = v)) := by
  intro x hx e
  rcases List.mem_append.1 hx with hx | hx
  · rw [h x hx e]; rfl
  · rw [List.mem_singleton] at hx
    subst hx
    rw [decide_eq_true e, Bool.or_true]
theorem hits_end {p q r s v : Int} {b : Bool} (h : hits [p, q, r, s] v b) (k : v = p ∨ v = q ∨ v = r ∨ v = s) : b = true := by
  rcases k with k | k | k | k
  · exact h p (by simp) k.symm
  · exact h q (by simp) k.symm
  · exact h r (by simp) k.symm
  · exact h s (by simp) k.symm
def Bun0 (a b : Sp) (z : Bool) : Prop := ∃ (s : Sp) (e : Int), Hid (∀ w, Calls Try.prog 11 #[sv a, sv b] w (VV (.tuple #[sv s, .int .i64 e]) w)) ∧ (e = 3 ∨ e = 14 ∨ (e = 0 ∧ ∃ r0 r1 r2 r3 : Int, (s.lo = r0 ∨ s.lo = r1 ∨ s.lo = r2 ∨ s.lo = r3) ∧ (s.hi = r0 ∨ s.hi = r1 ∨ s.hi = r2 ∨ s.hi = r3) ∧ IntKind.i64.wrap (a.lo + b.lo) = r0 ∧ IntKind.i64.wrap (a.lo + b.hi) = r1 ∧ IntKind.i64.wrap (a.hi + b.lo) = r2 ∧ IntKind.i64.wrap (a.hi + b.hi) = r3))
def Bun1 (a b : Sp) (z : Bool) : Prop := ∃ (s : Sp) (e : Int), Hid (∀ w, Calls Try.prog 13 #[sv a, sv b] w (VV (.tuple #[sv s, .int .i64 e]) w)) ∧ (e = 3 ∨ e = 14 ∨ (e = 0 ∧ ∃ r0 r1 r2 r3 : Int, (s.lo = r0 ∨ s.lo = r1 ∨ s.lo = r2 ∨ s.lo = r3) ∧ (s.hi = r0 ∨ s.hi = r1 ∨ s.hi = r2 ∨ s.hi = r3) ∧ IntKind.i64.wrap (a.lo - b.lo) = r0 ∧ IntKind.i64.wrap (a.lo - b.hi) = r1 ∧ IntKind.i64.wrap (a.hi - b.lo) = r2 ∧ IntKind.i64.wrap (a.hi - b.hi) = r3))
def Bun2 (a b : Sp) (z : Bool) : Prop := ∃ (s : Sp) (e : Int), Hid (∀ w, Calls Try.prog 15 #[sv a, sv b] w (VV (.tuple #[sv s, .int .i64 e]) w)) ∧ (e = 3 ∨ e = 14 ∨ (e = 0 ∧ ∃ r0 r1 r2 r3 : Int, (s.lo = r0 ∨ s.lo = r1 ∨ s.lo = r2 ∨ s.lo = r3) ∧ (s.hi = r0 ∨ s.hi = r1 ∨ s.hi = r2 ∨ s.hi = r3) ∧ IntKind.i64.wrap (a.lo * b.lo) = r0 ∧ IntKind.i64.wrap (a.lo * b.hi) = r1 ∧ IntKind.i64.wrap (a.hi * b.lo) = r2 ∧ IntKind.i64.wrap (a.hi * b.hi) = r3))
def Bun3 (a b : Sp) (z : Bool) : Prop := ∃ (s : Sp) (e : Int), Hid (∀ w, Calls Try.prog 17 #[sv a, sv b] w (VV (.tuple #[sv s, .int .i64 e]) w)) ∧ (e = 3 ∨ e = 14 ∨ (e = 0 ∧ ∃ r0 r1 r2 r3 : Int, (s.lo = r0 ∨ s.lo = r1 ∨ s.lo = r2 ∨ s.lo = r3) ∧ (s.hi = r0 ∨ s.hi = r1 ∨ s.hi = r2 ∨ s.hi = r3) ∧ z = false ∧ Hid (∀ w, Calls Try.prog 31 #[.int .i64 a.lo, .int .i64 b.lo] w (SS (.int .i64 r0) w)) ∧ Hid (∀ w, Calls Try.prog 31 #[.int .i64 a.lo, .int .i64 b.hi] w (SS (.int .i64 r1) w)) ∧ Hid (∀ w, Calls Try.prog 31 #[.int .i64 a.hi, .int .i64 b.lo] w (SS (.int .i64 r2) w)) ∧ Hid (∀ w, Calls Try.prog 31 #[.int .i64 a.hi, .int .i64 b.hi] w (SS (.int .i64 r3) w))))
def Bun4 (a b : Sp) (z : Bool) : Prop := ∃ (s : Sp) (e : Int), Hid (∀ w, Calls Try.prog 19 #[sv a, sv b] w (VV (.tuple #[sv s, .int .i64 e]) w)) ∧ (e = 3 ∨ e = 14 ∨ (e = 0 ∧ ∃ r0 r1 r2 r3 n0 n1 q0 q1 q2 q3 : Int, (s.lo = r0 ∨ s.lo = r1 ∨ s.lo = r2 ∨ s.lo = r3) ∧ (s.hi = r0 ∨ s.hi = r1 ∨ s.hi = r2 ∨ s.hi = r3) ∧ z = false ∧ IntKind.i64.wrap (-a.lo) = n0 ∧ IntKind.i64.wrap (-a.hi) = n1 ∧ Hid (∀ w, Calls Try.prog 31 #[.int .i64 n0, .int .i64 b.lo] w (SS (.int .i64 q0) w)) ∧ Hid (∀ w, Calls Try.prog 31 #[.int .i64 n0, .int .i64 b.hi] w (SS (.int .i64 q1) w)) ∧ Hid (∀ w, Calls Try.prog 31 #[.int .i64 n1, .int .i64 b.lo] w (SS (.int .i64 q2) w)) ∧ Hid (∀ w, Calls Try.prog 31 #[.int .i64 n1, .int .i64 b.hi] w (SS (.int .i64 q3) w)) ∧ IntKind.i64.wrap (-q0) = r0 ∧ IntKind.i64.wrap (-q1) = r1 ∧ IntKind.i64.wrap (-q2) = r2 ∧ IntKind.i64.wrap (-q3) = r3))
set_option maxHeartbeats 8000000 in
set_option maxRecDepth 100000 in
theorem least_bad (a b : Sp)  (h : (vB a && vB b) = false) (w : World) : Calls Try.prog 5 #[sv a, sv b] w (BB true w) := by
  have hVa := Lib.hid (RValid_any a)
  have hVb := Lib.hid (RValid_any b)
  rcases ha : vB a with _ | _
  · rw [ha] at hVa
    clear ha h hVb
    go_enter Try.func5, Try.ntmps5
    have HW := Lib.hid (Below.refl w.heap.size w)
    go_upto_region 2 with (go_at_call 10; refine (head_any _).mono ?_; rintro e wn ⟨rfl, hbn⟩; obtain ⟨HA, HB⟩ := two2 hbn; have HA := Lib.hid HA; have HB := Lib.hid HB; replace HW := Lib.hid (bCall (by (repeat with_reducible first | exact HW.out | apply bDrew | apply bAlloc)) hbn); clear hbn)
    have A0 := (cells2 HA.out).1.1
    have A1 := (cells2 HA.out).1.2
    have A2 := (cells2 HA.out).2.1
    have A3 := (cells2 HA.out).2.2
    have Al := blkLt HA.out
    have B0 := (cells2 HB.out).1.1
    have B1 := (cells2 HB.out).1.2
    have B2 := (cells2 HB.out).2.1
    have B3 := (cells2 HB.out).2.2
    have Bl := blkLt HB.out
    go_wp2_with (go_at_call_of 28 (Value.agg #[.int .i64 a.lo, .int .i64 a.hi]); refine (hVa.out _).mono ?_; rintro e wn ⟨rfl, hbn⟩; replace HW := Lib.hid (bCall (by (repeat with_reducible first | exact HW.out | apply bDrew | apply bAlloc)) hbn); replace HA := Lib.hid (moveX (by (repeat with_reducible first | exact Below.refl _ _ | apply bDrew | apply bAlloc)) hbn HA.out); replace HB := Lib.hid (moveX (by (repeat with_reducible first | exact Below.refl _ _ | apply bDrew | apply bAlloc)) hbn HB.out); replace A0 := (cells2 HA.out).1.1; replace A1 := (cells2 HA.out).1.2; replace A2 := (cells2 HA.out).2.1; replace A3 := (cells2 HA.out).2.2; replace Al := blkLt HA.out; replace B0 := (cells2 HB.out).1.1; replace B1 := (cells2 HB.out).1.2; replace B2 := (cells2 HB.out).2.1; replace B3 := (cells2 HB.out).2.2; replace Bl := blkLt HB.out; clear hbn)
    go_ret
    exact ⟨rfl, HW.out⟩
  · rw [ha] at hVa h
    have hb : vB b = false := by simpa using h
    rw [hb] at hVb
    clear ha h hb
    go_enter Try.func5, Try.ntmps5
    have HW := Lib.hid (Below.refl w.heap.size w)
    go_upto_region 2 with (go_at_call 10; refine (head_any _).mono ?_; rintro e wn ⟨rfl, hbn⟩; obtain ⟨HA, HB⟩ := two2 hbn; have HA := Lib.hid HA; have HB := Lib.hid HB; replace HW := Lib.hid (bCall (by (repeat with_reducible first | exact HW.out | apply bDrew | apply bAlloc)) hbn); clear hbn)
    have A0 := (cells2 HA.out).1.1
    have A1 := (cells2 HA.out).1.2
    have A2 := (cells2 HA.out).2.1
    have A3 := (cells2 HA.out).2.2
    have Al := blkLt HA.out
    have B0 := (cells2 HB.out).1.1
    have B1 := (cells2 HB.out).1.2
    have B2 := (cells2 HB.out).2.1
    have B3 := (cells2 HB.out).2.2
    have Bl := blkLt HB.out
    go_wp2_with (first
      | (go_at_call_of 28 (Value.agg #[.int .i64 a.lo, .int .i64 a.hi]); refine (hVa.out _).mono ?_; rintro e wn ⟨rfl, hbn⟩; replace HW := Lib.hid (bCall (by (repeat with_reducible first | exact HW.out | apply bDrew | apply bAlloc)) hbn); replace HA := Lib.hid (moveX (by (repeat with_reducible first | exact Below.refl _ _ | apply bDrew | apply bAlloc)) hbn HA.out); replace HB := Lib.hid (moveX (by (repeat with_reducible first | exact Below.refl _ _ | apply bDrew | apply bAlloc)) hbn HB.out); replace A0 := (cells2 HA.out).1.1; replace A1 := (cells2 HA.out).1.2; replace A2 := (cells2 HA.out).2.1; replace A3 := (cells2 HA.out).2.2; replace Al := blkLt HA.out; replace B0 := (cells2 HB.out).1.1; replace B1 := (cells2 HB.out).1.2; replace B2 := (cells2 HB.out).2.1; replace B3 := (cells2 HB.out).2.2; replace Bl := blkLt HB.out; clear hbn)
      | (go_at_call_of 28 (Value.agg #[.int .i64 b.lo, .int .i64 b.hi]); refine (hVb.out _).mono ?_; rintro e wn ⟨rfl, hbn⟩; replace HW := Lib.hid (bCall (by (repeat with_reducible first | exact HW.out | apply bDrew | apply bAlloc)) hbn); replace HA := Lib.hid (moveX (by (repeat with_reducible first | exact Below.refl _ _ | apply bDrew | apply bAlloc)) hbn HA.out); replace HB := Lib.hid (moveX (by (repeat with_reducible first | exact Below.refl _ _ | apply bDrew | apply bAlloc)) hbn HB.out); replace A0 := (cells2 HA.out).1.1; replace A1 := (cells2 HA.out).1.2; replace A2 := (cells2 HA.out).2.1; replace A3 := (cells2 HA.out).2.2; replace Al := blkLt HA.out; replace B0 := (cells2 HB.out).1.1; replace B1 := (cells2 HB.out).1.2; replace B2 := (cells2 HB.out).2.1; replace B3 := (cells2 HB.out).2.2; replace Bl := blkLt HB.out; clear hbn))
    go_ret
    exact ⟨rfl, HW.out⟩
set_option maxHeartbeats 16000000 in
set_option maxRecDepth 100000 in
theorem least_ok (a b : Sp) (hVa : Hid (∀ w, Calls Try.prog 28 #[sv a] w (BB true w))) (hVb : Hid (∀ w, Calls Try.prog 28 #[sv b] w (BB true w))) (H0 : Hid (Bun0 a b (zB b))) (H1 : Hid (Bun1 a b (zB b))) (H2 : Hid (Bun2 a b (zB b))) (H3 : Hid (Bun3 a b (zB b))) (H4 : Hid (Bun4 a b (zB b))) (w : World) : Calls Try.prog 5 #[sv a, sv b] w (BB true w) := by
  go_enter Try.func5, Try.ntmps5
  have HW := Lib.hid (Below.refl w.heap.size w)
  go_upto_region 2 with (go_at_call 10; refine (head_any _).mono ?_; rintro e wn ⟨rfl, hbn⟩; obtain ⟨HA, HB⟩ := two2 hbn; have HA := Lib.hid HA; have HB := Lib.hid HB; replace HW := Lib.hid (bCall (by (repeat with_reducible first | exact HW.out | apply bDrew | apply bAlloc)) hbn); clear hbn)
  have A0 := (cells2 HA.out).1.1
  have A1 := (cells2 HA.out).1.2
  have A2 := (cells2 HA.out).2.1
  have A3 := (cells2 HA.out).2.2
  have Al := blkLt HA.out
  have B0 := (cells2 HB.out).1.1
  have B1 := (cells2 HB.out).1.2
  have B2 := (cells2 HB.out).2.1
  have B3 := (cells2 HB.out).2.2
  have Bl := blkLt HB.out
  go_upto_region 4 with (first
      | (go_at_call_of 28 (Value.agg #[.int .i64 a.lo, .int .i64 a.hi]); refine (hVa.out _).mono ?_; rintro e wn ⟨rfl, hbn⟩; replace HW := Lib.hid (bCall (by (repeat with_reducible first | exact HW.out | apply bDrew | apply bAlloc)) hbn); replace HA := Lib.hid (moveX (by (repeat with_reducible first | exact Below.refl _ _ | apply bDrew | apply bAlloc)) hbn HA.out); replace HB := Lib.hid (moveX (by (repeat with_reducible first | exact Below.refl _ _ | apply bDrew | apply bAlloc)) hbn HB.out); replace A0 := (cells2 HA.out).1.1; replace A1 := (cells2 HA.out).1.2; replace A2 := (cells2 HA.out).2.1; replace A3 := (cells2 HA.out).2.2; replace Al := blkLt HA.out; replace B0 := (cells2 HB.out).1.1; replace B1 := (cells2 HB.out).1.2; replace B2 := (cells2 HB.out).2.1; replace B3 := (cells2 HB.out).2.2; replace Bl := blkLt HB.out; clear hbn)
      | (go_at_call_of 28 (Value.agg #[.int .i64 b.lo, .int .i64 b.hi]); refine (hVb.out _).mono ?_; rintro e wn ⟨rfl, hbn⟩; replace HW := Lib.hid (bCall (by (repeat with_reducible first | exact HW.out | apply bDrew | apply bAlloc)) hbn); replace HA := Lib.hid (moveX (by (repeat with_reducible first | exact Below.refl _ _ | apply bDrew | apply bAlloc)) hbn HA.out); replace HB := Lib.hid (moveX (by (repeat with_reducible first | exact Below.refl _ _ | apply bDrew | apply bAlloc)) hbn HB.out); replace A0 := (cells2 HA.out).1.1; replace A1 := (cells2 HA.out).1.2; replace A2 := (cells2 HA.out).2.1; replace A3 := (cells2 HA.out).2.2; replace Al := blkLt HA.out; replace B0 := (cells2 HB.out).1.1; replace B1 := (cells2 HB.out).1.2; replace B2 := (cells2 HB.out).2.1; replace B3 := (cells2 HB.out).2.2; replace Bl := blkLt HB.out; clear hbn))
  clear hVa hVb A0 A1 A2 A3 Al B0 B1 B2 B3 Bl
  go_cut [6] (fun s1 wx => s1 = .bool (zB b) ∧ Hid (wx.heap[w.heap.size]? = some (.cells #[.int .i64 (a.lo), .int .i64 (a.hi)] 23 (0, 0))) ∧ Hid (wx.heap[w.heap.size + 1]? = some (.cells #[.int .i64 (b.lo), .int .i64 (b.hi)] 23 (0, 0))) ∧ Hid (Below w.heap.size w wx))
  case first => as_aux_lemma =>
    clear H0 H1 H2 H3 H4
    have B0 := (cells2 HB.out).1.1
    have B1 := (cells2 HB.out).1.2
    have B2 := (cells2 HB.out).2.1
    have B3 := (cells2 HB.out).2.2
    have Bl := blkLt HB.out
    by_cases h1 : b.lo ≤ 0 <;> by_cases h2 : 0 ≤ b.hi
    all_goals
      go_wp2_with fail
      go_meet
      exact ⟨by simp [zB, h1, h2], HA, HB, HW⟩
  case rest => as_aux_lemma =>
    clear HW HA HB
    obtain ⟨rfl, HA, HB, HW⟩ := hcut
    generalize zB b = z at *
    go_wp2_with fail
    go_loopg [5, 35] 5 (fun gk up i wr => ∃ (k : Nat), k + gk = 5 ∧ i = .int .i64 k ∧ up = .bool true ∧ Hid (wr.heap[w.heap.size]? = some (.cells #[.int .i64 (a.lo), .int .i64 (a.hi)] 23 (0, 0))) ∧ Hid (wr.heap[w.heap.size + 1]? = some (.cells #[.int .i64 (b.lo), .int .i64 (b.hi)] 23 (0, 0))) ∧ Hid (Below w.heap.size w wr))
    case atStart => exact ⟨0, rfl, rfl, rfl, HA, HB, HW⟩
    case round =>
      clear HA HB HW
      obtain ⟨k, hk, rfl, rfl, HA, HB, HW⟩ := hrel
      match k, hk with
      | 0, hk => as_aux_lemma =>
        obtain rfl : gk = 5 := by omega
        obtain ⟨s, e, hC, hE⟩ := H0.out
        clear H0 H1 H2 H3 H4
        have A0 := (cells2 HA.out).1.1
        have A1 := (cells2 HA.out).1.2
        have A2 := (cells2 HA.out).2.1
        have A3 := (cells2 HA.out).2.2
        have Al := blkLt HA.out
        have B0 := (cells2 HB.out).1.1
        have B1 := (cells2 HB.out).1.2
        have B2 := (cells2 HB.out).2.1
        have B3 := (cells2 HB.out).2.2
        have Bl := blkLt HB.out
        go_upto_region 20 with (go_at_call_of 11 (Value.agg #[.int .i64 a.lo, .int .i64 a.hi]); refine (hC.out _).mono ?_; rintro e wn ⟨rfl, hbn⟩; (try clear u0 u1 u2 u3 ul); (first | (with_reducible have hU := Lib.hid (newU (o := (.cells #[.int .i64 0, .int .i64 0] 23 (0, 0))) hbn)) | (with_reducible have hU := Lib.hid (newUd (o := (.cells #[.int .i64 0, .int .i64 0] 23 (0, 0))) hbn)) | (have hU := Lib.hid (moveX (by (repeat with_reducible first | exact Below.refl _ _ | apply bDrew | apply bAlloc)) hbn hU.out)) | skip); (first | (have u0 := (cells2 hU.out).1.1; have u1 := (cells2 hU.out).1.2; have u2 := (cells2 hU.out).2.1; have u3 := (cells2 hU.out).2.2; have ul := blkLt hU.out) | skip); have Az := Al; have Bz := Bl; replace HW := Lib.hid (bCall (by (repeat with_reducible first | exact HW.out | apply bDrew | apply bAlloc)) hbn); replace HA := Lib.hid (moveX (by (repeat with_reducible first | exact Below.refl _ _ | apply bDrew | apply bAlloc)) hbn HA.out); replace HB := Lib.hid (moveX (by (repeat with_reducible first | exact Below.refl _ _ | apply bDrew | apply bAlloc)) hbn HB.out); replace A0 := (cells2 HA.out).1.1; replace A1 := (cells2 HA.out).1.2; replace A2 := (cells2 HA.out).2.1; replace A3 := (cells2 HA.out).2.2; replace Al := blkLt HA.out; replace B0 := (cells2 HB.out).1.1; replace B1 := (cells2 HB.out).1.2; replace B2 := (cells2 HB.out).2.1; replace B3 := (cells2 HB.out).2.2; replace Bl := blkLt HB.out; clear hbn)
        clear hC
        replace HA := Lib.hid (setK (x := .int .i64 s.lo) (y := .int .i64 s.hi) HA.out (show w.heap.size ≠ _ from Nat.ne_of_lt Az))
        replace HB := Lib.hid (setK (x := .int .i64 s.lo) (y := .int .i64 s.hi) HB.out (show w.heap.size + 1 ≠ _ from Nat.ne_of_lt Bz))
        replace HW := Lib.hid (below2 (v0 := .int .i64 s.lo) (v1 := .int .i64 s.hi) HW.out (Nat.le_of_lt Az))
        rcases hE with rfl | rfl | ⟨rfl, hE⟩
        · go_wp2_with fail
          go_roundg 4
          case measure => omega
          case rel => exact ⟨1, by omega, by go_num, rfl, HA, HB, HW⟩
        · go_wp2_with fail
          go_roundg 4
          case measure => omega
          case rel => exact ⟨1, by omega, by go_num, rfl, HA, HB, HW⟩
        · obtain ⟨r0, r1, r2, r3, hlo, hhi, y0, y1, y2, y3⟩ := hE
          have hlo := Lib.hid hlo
          have hhi := Lib.hid hhi
          go_cut [8, 35, 85] from 35 to 160 (fun s1 s0 s2 wx => ∃ bS : Nat, s0 = .int .i64 0 ∧ s1 = .pointer (some ⟨bS, 0, none⟩) ∧ s2 = .bool false ∧ Hid (wx.heap[w.heap.size]? = some (.cells #[.int .i64 (a.lo), .int .i64 (a.hi)] 23 (0, 0))) ∧ Hid (wx.heap[w.heap.size + 1]? = some (.cells #[.int .i64 (b.lo), .int .i64 (b.hi)] 23 (0, 0))) ∧ Hid (wx.heap[bS]? = some (.cells #[.int .i64 (s.lo), .int .i64 (s.hi)] 23 (0, 0))) ∧ Hid (Below w.heap.size w wx))
          case first => as_aux_lemma =>
            go_wp2_with fail
            go_meet
            exact ⟨_, rfl, rfl, rfl, HA, HB, Lib.hid (res2 hU.out).1, HW⟩
          case rest => as_aux_lemma =>
            clear HW HA HB
            obtain ⟨bS, rfl, rfl, rfl, HA, HB, HS, HW⟩ := hcut
            have A0 := (cells2 HA.out).1.1
            have A1 := (cells2 HA.out).1.2
            have A2 := (cells2 HA.out).2.1
            have A3 := (cells2 HA.out).2.2
            have Al := blkLt HA.out
            go_upto_region 23 with fail
            go_cut [35, 95, 96, 97] from 35 to 160 (fun s0 s1 s2 s3 wx => ∃ bP : Nat, s0 = .int .i64 0 ∧ s1 = .slice (some ⟨bP, 0, none⟩) 2 2 ∧ s2 = .int .i64 2 ∧ s3 = .int .i64 0 ∧ Hid (∃ T, wx.heap[bP]? = some (.cells #[.int .i64 a.lo, .int .i64 a.hi] T (0, 0))) ∧ Hid (wx.heap[w.heap.size]? = some (.cells #[.int .i64 (a.lo), .int .i64 (a.hi)] 23 (0, 0))) ∧ Hid (wx.heap[w.heap.size + 1]? = some (.cells #[.int .i64 (b.lo), .int .i64 (b.hi)] 23 (0, 0))) ∧ Hid (wx.heap[bS]? = some (.cells #[.int .i64 (s.lo), .int .i64 (s.hi)] 23 (0, 0))) ∧ Hid (Below w.heap.size w wx))
            case first => as_aux_lemma =>
              go_wp2_with fail
              go_meet
              exact ⟨_, rfl, rfl, rfl, rfl, Lib.hid ⟨_, newBlk _ _ _ rfl⟩, Lib.hid (mvAlloc HA.out), Lib.hid (mvAlloc HB.out), Lib.hid (mvAlloc HS.out), Lib.hid (bAlloc HW.out)⟩
            case rest => as_aux_lemma =>
              clear HW HA HB HS
              obtain ⟨bP, rfl, rfl, rfl, rfl, HP, HA, HB, HS, HW⟩ := hcut
              go_wp2_with fail
              go_loopg [10, 11, 97] 2 (fun gk lo hi i wr => ∃ (p : Nat) (lb hb : Bool), p + gk = 2 ∧ i = .int .i64 p ∧ lo = .bool lb ∧ hi = .bool hb ∧ Hid (hits ([r0, r1, r2, r3].take (2 * p)) s.lo lb) ∧ Hid (hits ([r0, r1, r2, r3].take (2 * p)) s.hi hb) ∧ Hid (∃ T, wr.heap[bP]? = some (.cells #[.int .i64 a.lo, .int .i64 a.hi] T (0, 0))) ∧ Hid (wr.heap[w.heap.size]? = some (.cells #[.int .i64 (a.lo), .int .i64 (a.hi)] 23 (0, 0))) ∧ Hid (wr.heap[w.heap.size + 1]? = some (.cells #[.int .i64 (b.lo), .int .i64 (b.hi)] 23 (0, 0))) ∧ Hid (wr.heap[bS]? = some (.cells #[.int .i64 (s.lo), .int .i64 (s.hi)] 23 (0, 0))) ∧ Hid (Below w.heap.size w wr))
              case atStart => exact ⟨0, false, false, rfl, rfl, rfl, rfl, Lib.hid (hits_nil _ _), Lib.hid (hits_nil _ _), HP, HA, HB, HS, HW⟩
              case round =>
                clear HP HA HB HS HW
                obtain ⟨p, lb, hb, hp, rfl, rfl, rfl, hl, hh, HP, HA, HB, HS, HW⟩ := hrel
                match p, hp with
                | 0, hp =>
                  obtain rfl : gk = 2 := by omega
                  obtain ⟨TP, hP'⟩ := HP.out
                  have P0 := (cells2 hP').1.1
                  have P1 := (cells2 hP').1.2
                  have Pl := blkLt hP'
                  clear hP'
                  have B0 := (cells2 HB.out).1.1
                  have B1 := (cells2 HB.out).1.2
                  have B2 := (cells2 HB.out).2.1
                  have B3 := (cells2 HB.out).2.2
                  have Bl := blkLt HB.out
                  go_upto_region 26 with fail
                  go_cut [97, 105, 106, 107] from 97 to 152 (fun s0 s1 s2 s3 wx => ∃ bQ : Nat, s0 = .int .i64 0 ∧ s1 = .slice (some ⟨bQ, 0, none⟩) 2 2 ∧ s2 = .int .i64 2 ∧ s3 = .int .i64 0 ∧ Hid (∃ T, wx.heap[bQ]? = some (.cells #[.int .i64 b.lo, .int .i64 b.hi] T (0, 0))) ∧ Hid (∃ T, wx.heap[bP]? = some (.cells #[.int .i64 a.lo, .int .i64 a.hi] T (0, 0))) ∧ Hid (wx.heap[w.heap.size]? = some (.cells #[.int .i64 (a.lo), .int .i64 (a.hi)] 23 (0, 0))) ∧ Hid (wx.heap[w.heap.size + 1]? = some (.cells #[.int .i64 (b.lo), .int .i64 (b.hi)] 23 (0, 0))) ∧ Hid (wx.heap[bS]? = some (.cells #[.int .i64 (s.lo), .int .i64 (s.hi)] 23 (0, 0))) ∧ Hid (Below w.heap.size w wx))
                  case first => as_aux_lemma =>
                    go_wp2_with fail
                    go_meet
                    exact ⟨_, rfl, rfl, rfl, rfl, Lib.hid ⟨_, newBlk _ _ _ rfl⟩, Lib.hid (HP.out.imp fun _ h => mvAlloc h), Lib.hid (mvAlloc HA.out), Lib.hid (mvAlloc HB.out), Lib.hid (mvAlloc HS.out), Lib.hid (bAlloc HW.out)⟩
                  case rest => as_aux_lemma =>
                    clear HW HP HA HB HS
                    obtain ⟨bQ, rfl, rfl, rfl, rfl, HQ, HP, HA, HB, HS, HW⟩ := hcut
                    go_wp2_with fail
                    go_loopg [10, 11, 107] 2 (fun gk lo hi i wr => ∃ (q : Nat) (lb hb : Bool), q + gk = 2 ∧ i = .int .i64 q ∧ lo = .bool lb ∧ hi = .bool hb ∧ Hid (hits ([r0, r1, r2, r3].take (0 + q)) s.lo lb) ∧ Hid (hits ([r0, r1, r2, r3].take (0 + q)) s.hi hb) ∧ Hid (∃ T, wr.heap[bQ]? = some (.cells #[.int .i64 b.lo, .int .i64 b.hi] T (0, 0))) ∧ Hid (∃ T, wr.heap[bP]? = some (.cells #[.int .i64 a.lo, .int .i64 a.hi] T (0, 0))) ∧ Hid (wr.heap[w.heap.size]? = some (.cells #[.int .i64 (a.lo), .int .i64 (a.hi)] 23 (0, 0))) ∧ Hid (wr.heap[w.heap.size + 1]? = some (.cells #[.int .i64 (b.lo), .int .i64 (b.hi)] 23 (0, 0))) ∧ Hid (wr.heap[bS]? = some (.cells #[.int .i64 (s.lo), .int .i64 (s.hi)] 23 (0, 0))) ∧ Hid (Below w.heap.size w wr))
                    case atStart => exact ⟨0, _, _, rfl, rfl, rfl, rfl, hl, hh, HQ, HP, HA, HB, HS, HW⟩
                    case round =>
                      clear HQ HP HA HB HS HW hl hh
                      obtain ⟨q, lb, hb, hq, rfl, rfl, rfl, hl, hh, HQ, HP, HA, HB, HS, HW⟩ := hrel
                      match q, hq with
                      | 0, hq =>
                        obtain rfl : gk = 2 := by omega
                        obtain ⟨TQ, hQ'⟩ := HQ.out
                        have Q0 := (cells2 hQ').1.1
                        have Q1 := (cells2 hQ').1.2
                        have Ql := blkLt hQ'
                        clear hQ'
                        have S0 := (cells2 HS.out).1.1
                        have S1 := (cells2 HS.out).1.2
                        have S2 := (cells2 HS.out).2.1
                        have S3 := (cells2 HS.out).2.2
                        have Sl := blkLt HS.out
                        have hl2 := Lib.hid (hits_snoc (l := []) r0 hl.out)
                        have hh2 := Lib.hid (hits_snoc (l := []) r0 hh.out)
                        clear hl hh
                        cases lb <;> cases hb <;>
                          (go_upto_region 40 with fail; go_quiet (fail); go_wp2_with fail; go_roundg 1; (case measure => omega); (case rel => exact ⟨1, _, _, by omega, by go_num, rfl, rfl, hl2, hh2, HQ, HP, HA, HB, HS, Lib.hid (bDrewN HW.out _)⟩))
                      | 1, hq =>
                        obtain rfl : gk = 1 := by omega
                        obtain ⟨TQ, hQ'⟩ := HQ.out
                        have Q0 := (cells2 hQ').1.1
                        have Q1 := (cells2 hQ').1.2
                        have Ql := blkLt hQ'
                        clear hQ'
                        have S0 := (cells2 HS.out).1.1
                        have S1 := (cells2 HS.out).1.2
                        have S2 := (cells2 HS.out).2.1
                        have S3 := (cells2 HS.out).2.2
                        have Sl := blkLt HS.out
                        have hl2 := Lib.hid (hits_snoc (l := [r0]) r1 hl.out)
                        have hh2 := Lib.hid (hits_snoc (l := [r0]) r1 hh.out)
                        clear hl hh
                        cases lb <;> cases hb <;>
                          (go_upto_region 40 with fail; go_quiet (fail); go_wp2_with fail; go_roundg 0; (case measure => omega); (case rel => exact ⟨2, _, _, by omega, by go_num, rfl, rfl, hl2, hh2, HQ, HP, HA, HB, HS, Lib.hid (bDrewN HW.out _)⟩))
                      | 2, hq =>
                        obtain rfl : gk = 0 := by omega
                        go_wp2_with fail
                        go_roundg 1
                        case measure => omega
                        case rel => exact ⟨1, _, _, by omega, by go_num, rfl, rfl, hl, hh, HP, HA, HB, HS, HW⟩
                      | q + 3, hq => omega
                | 1, hp =>
                  obtain rfl : gk = 1 := by omega
                  obtain ⟨TP, hP'⟩ := HP.out
                  have P0 := (cells2 hP').1.1
                  have P1 := (cells2 hP').1.2
                  have Pl := blkLt hP'
                  clear hP'
                  have B0 := (cells2 HB.out).1.1
                  have B1 := (cells2 HB.out).1.2
                  have B2 := (cells2 HB.out).2.1
                  have B3 := (cells2 HB.out).2.2
                  have Bl := blkLt HB.out
                  go_upto_region 26 with fail
                  go_cut [97, 105, 106, 107] from 97 to 152 (fun s0 s1 s2 s3 wx => ∃ bQ : Nat, s0 = .int .i64 1 ∧ s1 = .slice (some ⟨bQ, 0, none⟩) 2 2 ∧ s2 = .int .i64 2 ∧ s3 = .int .i64 0 ∧ Hid (∃ T, wx.heap[bQ]? = some (.cells #[.int .i64 b.lo, .int .i64 b.hi] T (0, 0))) ∧ Hid (∃ T, wx.heap[bP]? = some (.cells #[.int .i64 a.lo, .int .i64 a.hi] T (0, 0))) ∧ Hid (wx.heap[w.heap.size]? = some (.cells #[.int .i64 (a.lo), .int .i64 (a.hi)] 23 (0, 0))) ∧ Hid (wx.heap[w.heap.size + 1]? = some (.cells #[.int .i64 (b.lo), .int .i64 (b.hi)] 23 (0, 0))) ∧ Hid (wx.heap[bS]? = some (.cells #[.int .i64 (s.lo), .int .i64 (s.hi)] 23 (0, 0))) ∧ Hid (Below w.heap.size w wx))
                  case first => as_aux_lemma =>
                    go_wp2_with fail
                    go_meet
                    exact ⟨_, rfl, rfl, rfl, rfl, Lib.hid ⟨_, newBlk _ _ _ rfl⟩, Lib.hid (HP.out.imp fun _ h => mvAlloc h), Lib.hid (mvAlloc HA.out), Lib.hid (mvAlloc HB.out), Lib.hid (mvAlloc HS.out), Lib.hid (bAlloc HW.out)⟩
                  case rest => as_aux_lemma =>
                    clear HW HP HA HB HS
                    obtain ⟨bQ, rfl, rfl, rfl, rfl, HQ, HP, HA, HB, HS, HW⟩ := hcut
                    go_wp2_with fail
                    go_loopg [10, 11, 107] 2 (fun gk lo hi i wr => ∃ (q : Nat) (lb hb : Bool), q + gk = 2 ∧ i = .int .i64 q ∧ lo = .bool lb ∧ hi = .bool hb ∧ Hid (hits ([r0, r1, r2, r3].take (2 + q)) s.lo lb) ∧ Hid (hits ([r0, r1, r2, r3].take (2 + q)) s.hi hb) ∧ Hid (∃ T, wr.heap[bQ]? = some (.cells #[.int .i64 b.lo, .int .i64 b.hi] T (0, 0))) ∧ Hid (∃ T, wr.heap[bP]? = some (.cells #[.int .i64 a.lo, .int .i64 a.hi] T (0, 0))) ∧ Hid (wr.heap[w.heap.size]? = some (.cells #[.int .i64 (a.lo), .int .i64 (a.hi)] 23 (0, 0))) ∧ Hid (wr.heap[w.heap.size + 1]? = some (.cells #[.int .i64 (b.lo), .int .i64 (b.hi)] 23 (0, 0))) ∧ Hid (wr.heap[bS]? = some (.cells #[.int .i64 (s.lo), .int .i64 (s.hi)] 23 (0, 0))) ∧ Hid (Below w.heap.size w wr))
                    case atStart => exact ⟨0, _, _, rfl, rfl, rfl, rfl, hl, hh, HQ, HP, HA, HB, HS, HW⟩
                    case round =>
                      clear HQ HP HA HB HS HW hl hh
                      obtain ⟨q, lb, hb, hq, rfl, rfl, rfl, hl, hh, HQ, HP, HA, HB, HS, HW⟩ := hrel
                      match q, hq with
                      | 0, hq =>
                        obtain rfl : gk = 2 := by omega
                        obtain ⟨TQ, hQ'⟩ := HQ.out
                        have Q0 := (cells2 hQ').1.1
                        have Q1 := (cells2 hQ').1.2
                        have Ql := blkLt hQ'
                        clear hQ'
                        have S0 := (cells2 HS.out).1.1
                        have S1 := (cells2 HS.out).1.2
                        have S2 := (cells2 HS.out).2.1
                        have S3 := (cells2 HS.out).2.2
                        have Sl := blkLt HS.out
                        have hl2 := Lib.hid (hits_snoc (l := [r0, r1]) r2 hl.out)
                        have hh2 := Lib.hid (hits_snoc (l := [r0, r1]) r2 hh.out)
                        clear hl hh
                        cases lb <;> cases hb <;>
                          (go_upto_region 40 with fail; go_quiet (fail); go_wp2_with fail; go_roundg 1; (case measure => omega); (case rel => exact ⟨1, _, _, by omega, by go_num, rfl, rfl, hl2, hh2, HQ, HP, HA, HB, HS, Lib.hid (bDrewN HW.out _)⟩))
                      | 1, hq =>
                        obtain rfl : gk = 1 := by omega
                        obtain ⟨TQ, hQ'⟩ := HQ.out
                        have Q0 := (cells2 hQ').1.1
                        have Q1 := (cells2 hQ').1.2
                        have Ql := blkLt hQ'
                        clear hQ'
                        have S0 := (cells2 HS.out).1.1
                        have S1 := (cells2 HS.out).1.2
                        have S2 := (cells2 HS.out).2.1
                        have S3 := (cells2 HS.out).2.2
                        have Sl := blkLt HS.out
                        have hl2 := Lib.hid (hits_snoc (l := [r0, r1, r2]) r3 hl.out)
                        have hh2 := Lib.hid (hits_snoc (l := [r0, r1, r2]) r3 hh.out)
                        clear hl hh
                        cases lb <;> cases hb <;>
                          (go_upto_region 40 with fail; go_quiet (fail); go_wp2_with fail; go_roundg 0; (case measure => omega); (case rel => exact ⟨2, _, _, by omega, by go_num, rfl, rfl, hl2, hh2, HQ, HP, HA, HB, HS, Lib.hid (bDrewN HW.out _)⟩))
                      | 2, hq =>
                        obtain rfl : gk = 0 := by omega
                        go_wp2_with fail
                        go_roundg 0
                        case measure => omega
                        case rel => exact ⟨2, _, _, by omega, by go_num, rfl, rfl, hl, hh, HP, HA, HB, HS, HW⟩
                      | q + 3, hq => omega
                | 2, hp =>
                  obtain rfl : gk = 0 := by omega
                  obtain rfl : lb = true := hits_end hl.out hlo.out
                  obtain rfl : hb = true := hits_end hh.out hhi.out
                  go_wp2_with fail
                  go_roundg 4
                  case measure => omega
                  case rel => exact ⟨1, by omega, by go_num, rfl, HA, HB, HW⟩
                | p + 3, hp => omega
      | 1, hk => as_aux_lemma =>
        obtain rfl : gk = 4 := by omega
        obtain ⟨s, e, hC, hE⟩ := H1.out
        clear H0 H1 H2 H3 H4
        have A0 := (cells2 HA.out).1.1
        have A1 := (cells2 HA.out).1.2
        have A2 := (cells2 HA.out).2.1
        have A3 := (cells2 HA.out).2.2
        have Al := blkLt HA.out
        have B0 := (cells2 HB.out).1.1
        have B1 := (cells2 HB.out).1.2
        have B2 := (cells2 HB.out).2.1
        have B3 := (cells2 HB.out).2.2
        have Bl := blkLt HB.out
        go_upto_region 20 with (go_at_call_of 13 (Value.agg #[.int .i64 a.lo, .int .i64 a.hi]); refine (hC.out _).mono ?_; rintro e wn ⟨rfl, hbn⟩; (try clear u0 u1 u2 u3 ul); (first | (with_reducible have hU := Lib.hid (newU (o := (.cells #[.int .i64 0, .int .i64 0] 23 (0, 0))) hbn)) | (with_reducible have hU := Lib.hid (newUd (o := (.cells #[.int .i64 0, .int .i64 0] 23 (0, 0))) hbn)) | (have hU := Lib.hid (moveX (by (repeat with_reducible first | exact Below.refl _ _ | apply bDrew | apply bAlloc)) hbn hU.out)) | skip); (first | (have u0 := (cells2 hU.out).1.1; have u1 := (cells2 hU.out).1.2; have u2 := (cells2 hU.out).2.1; have u3 := (cells2 hU.out).2.2; have ul := blkLt hU.out) | skip); have Az := Al; have Bz := Bl; replace HW := Lib.hid (bCall (by (repeat with_reducible first | exact HW.out | apply bDrew | apply bAlloc)) hbn); replace HA := Lib.hid (moveX (by (repeat with_reducible first | exact Below.refl _ _ | apply bDrew | apply bAlloc)) hbn HA.out); replace HB := Lib.hid (moveX (by (repeat with_reducible first | exact Below.refl _ _ | apply bDrew | apply bAlloc)) hbn HB.out); replace A0 := (cells2 HA.out).1.1; replace A1 := (cells2 HA.out).1.2; replace A2 := (cells2 HA.out).2.1; replace A3 := (cells2 HA.out).2.2; replace Al := blkLt HA.out; replace B0 := (cells2 HB.out).1.1; replace B1 := (cells2 HB.out).1.2; replace B2 := (cells2 HB.out).2.1; replace B3 := (cells2 HB.out).2.2; replace Bl := blkLt HB.out; clear hbn)
        clear hC
        replace HA := Lib.hid (setK (x := .int .i64 s.lo) (y := .int .i64 s.hi) HA.out (show w.heap.size ≠ _ from Nat.ne_of_lt Az))
        replace HB := Lib.hid (setK (x := .int .i64 s.lo) (y := .int .i64 s.hi) HB.out (show w.heap.size + 1 ≠ _ from Nat.ne_of_lt Bz))
        replace HW := Lib.hid (below2 (v0 := .int .i64 s.lo) (v1 := .int .i64 s.hi) HW.out (Nat.le_of_lt Az))
        rcases hE with rfl | rfl | ⟨rfl, hE⟩
        · go_wp2_with fail
          go_roundg 3
          case measure => omega
          case rel => exact ⟨2, by omega, by go_num, rfl, HA, HB, HW⟩
        · go_wp2_with fail
          go_roundg 3
          case measure => omega
          case rel => exact ⟨2, by omega, by go_num, rfl, HA, HB, HW⟩
        · obtain ⟨r0, r1, r2, r3, hlo, hhi, y0, y1, y2, y3⟩ := hE
          have hlo := Lib.hid hlo
          have hhi := Lib.hid hhi
          go_cut [8, 35, 85] from 35 to 160 (fun s1 s0 s2 wx => ∃ bS : Nat, s0 = .int .i64 1 ∧ s1 = .pointer (some ⟨bS, 0, none⟩) ∧ s2 = .bool false ∧ Hid (wx.heap[w.heap.size]? = some (.cells #[.int .i64 (a.lo), .int .i64 (a.hi)] 23 (0, 0))) ∧ Hid (wx.heap[w.heap.size + 1]? = some (.cells #[.int .i64 (b.lo), .int .i64 (b.hi)] 23 (0, 0))) ∧ Hid (wx.heap[bS]? = some (.cells #[.int .i64 (s.lo), .int .i64 (s.hi)] 23 (0, 0))) ∧ Hid (Below w.heap.size w wx))
          case first => as_aux_lemma =>
            go_wp2_with fail
            go_meet
            exact ⟨_, rfl, rfl, rfl, HA, HB, Lib.hid (res2 hU.out).1, HW⟩
          case rest => as_aux_lemma =>
            clear HW HA HB
            obtain ⟨bS, rfl, rfl, rfl, HA, HB, HS, HW⟩ := hcut
            have A0 := (cells2 HA.out).1.1
            have A1 := (cells2 HA.out).1.2
            have A2 := (cells2 HA.out).2.1
            have A3 := (cells2 HA.out).2.2
            have Al := blkLt HA.out
            go_upto_region 23 with fail
            go_cut [35, 95, 96, 97] from 35 to 160 (fun s0 s1 s2 s3 wx => ∃ bP : Nat, s0 = .int .i64 1 ∧ s1 = .slice (some ⟨bP, 0, none⟩) 2 2 ∧ s2 = .int .i64 2 ∧ s3 = .int .i64 0 ∧ Hid (∃ T, wx.heap[bP]? = some (.cells #[.int .i64 a.lo, .int .i64 a.hi] T (0, 0))) ∧ Hid (wx.heap[w.heap.size]? = some (.cells #[.int .i64 (a.lo), .int .i64 (a.hi)] 23 (0, 0))) ∧ Hid (wx.heap[w.heap.size + 1]? = some (.cells #[.int .i64 (b.lo), .int .i64 (b.hi)] 23 (0, 0))) ∧ Hid (wx.heap[bS]? = some (.cells #[.int .i64 (s.lo), .int .i64 (s.hi)] 23 (0, 0))) ∧ Hid (Below w.heap.size w wx))
            case first => as_aux_lemma =>
              go_wp2_with fail
              go_meet
              exact ⟨_, rfl, rfl, rfl, rfl, Lib.hid ⟨_, newBlk _ _ _ rfl⟩, Lib.hid (mvAlloc HA.out), Lib.hid (mvAlloc HB.out), Lib.hid (mvAlloc HS.out), Lib.hid (bAlloc HW.out)⟩
            case rest => as_aux_lemma =>
              clear HW HA HB HS
              obtain ⟨bP, rfl, rfl, rfl, rfl, HP, HA, HB, HS, HW⟩ := hcut
              go_wp2_with fail
              go_loopg [10, 11, 97] 2 (fun gk lo hi i wr => ∃ (p : Nat) (lb hb : Bool), p + gk = 2 ∧ i = .int .i64 p ∧ lo = .bool lb ∧ hi = .bool hb ∧ Hid (hits ([r0, r1, r2, r3].take (2 * p)) s.lo lb) ∧ Hid (hits ([r0, r1, r2, r3].take (2 * p)) s.hi hb) ∧ Hid (∃ T, wr.heap[bP]? = some (.cells #[.int .i64 a.lo, .int .i64 a.hi] T (0, 0))) ∧ Hid (wr.heap[w.heap.size]? = some (.cells #[.int .i64 (a.lo), .int .i64 (a.hi)] 23 (0, 0))) ∧ Hid (wr.heap[w.heap.size + 1]? = some (.cells #[.int .i64 (b.lo), .int .i64 (b.hi)] 23 (0, 0))) ∧ Hid (wr.heap[bS]? = some (.cells #[.int .i64 (s.lo), .int .i64 (s.hi)] 23 (0, 0))) ∧ Hid (Below w.heap.size w wr))
              case atStart => exact ⟨0, false, false, rfl, rfl, rfl, rfl, Lib.hid (hits_nil _ _), Lib.hid (hits_nil _ _), HP, HA, HB, HS, HW⟩
              case round =>
                clear HP HA HB HS HW
                obtain ⟨p, lb, hb, hp, rfl, rfl, rfl, hl, hh, HP, HA, HB, HS, HW⟩ := hrel
                match p, hp with
                | 0, hp =>
                  obtain rfl : gk = 2 := by omega
                  obtain ⟨TP, hP'⟩ := HP.out
                  have P0 := (cells2 hP').1.1
                  have P1 := (cells2 hP').1.2
                  have Pl := blkLt hP'
                  clear hP'
                  have B0 := (cells2 HB.out).1.1
                  have B1 := (cells2 HB.out).1.2
                  have B2 := (cells2 HB.out).2.1
                  have B3 := (cells2 HB.out).2.2
                  have Bl := blkLt HB.out
                  go_upto_region 26 with fail
                  go_cut [97, 105, 106, 107] from 97 to 152 (fun s0 s1 s2 s3 wx => ∃ bQ : Nat, s0 = .int .i64 0 ∧ s1 = .slice (some ⟨bQ, 0, none⟩) 2 2 ∧ s2 = .int .i64 2 ∧ s3 = .int .i64 0 ∧ Hid (∃ T, wx.heap[bQ]? = some (.cells #[.int .i64 b.lo, .int .i64 b.hi] T (0, 0))) ∧ Hid (∃ T, wx.heap[bP]? = some (.cells #[.int .i64 a.lo, .int .i64 a.hi] T (0, 0))) ∧ Hid (wx.heap[w.heap.size]? = some (.cells #[.int .i64 (a.lo), .int .i64 (a.hi)] 23 (0, 0))) ∧ Hid (wx.heap[w.heap.size + 1]? = some (.cells #[.int .i64 (b.lo), .int .i64 (b.hi)] 23 (0, 0))) ∧ Hid (wx.heap[bS]? = some (.cells #[.int .i64 (s.lo), .int .i64 (s.hi)] 23 (0, 0))) ∧ Hid (Below w.heap.size w wx))
                  case first => as_aux_lemma =>
                    go_wp2_with fail
                    go_meet
                    exact ⟨_, rfl, rfl, rfl, rfl, Lib.hid ⟨_, newBlk _ _ _ rfl⟩, Lib.hid (HP.out.imp fun _ h => mvAlloc h), Lib.hid (mvAlloc HA.out), Lib.hid (mvAlloc HB.out), Lib.hid (mvAlloc HS.out), Lib.hid (bAlloc HW.out)⟩
                  case rest => as_aux_lemma =>
                    clear HW HP HA HB HS
                    obtain ⟨bQ, rfl, rfl, rfl, rfl, HQ, HP, HA, HB, HS, HW⟩ := hcut
                    go_wp2_with fail
                    go_loopg [10, 11, 107] 2 (fun gk lo hi i wr => ∃ (q : Nat) (lb hb : Bool), q + gk = 2 ∧ i = .int .i64 q ∧ lo = .bool lb ∧ hi = .bool hb ∧ Hid (hits ([r0, r1, r2, r3].take (0 + q)) s.lo lb) ∧ Hid (hits ([r0, r1, r2, r3].take (0 + q)) s.hi hb) ∧ Hid (∃ T, wr.heap[bQ]? = some (.cells #[.int .i64 b.lo, .int .i64 b.hi] T (0, 0))) ∧ Hid (∃ T, wr.heap[bP]? = some (.cells #[.int .i64 a.lo, .int .i64 a.hi] T (0, 0))) ∧ Hid (wr.heap[w.heap.size]? = some (.cells #[.int .i64 (a.lo), .int .i64 (a.hi)] 23 (0, 0))) ∧ Hid (wr.heap[w.heap.size + 1]? = some (.cells #[.int .i64 (b.lo), .int .i64 (b.hi)] 23 (0, 0))) ∧ Hid (wr.heap[bS]? = some (.cells #[.int .i64 (s.lo), .int .i64 (s.hi)] 23 (0, 0))) ∧ Hid (Below w.heap.size w wr))
                    case atStart => exact ⟨0, _, _, rfl, rfl, rfl, rfl, hl, hh, HQ, HP, HA, HB, HS, HW⟩
                    case round =>
                      clear HQ HP HA HB HS HW hl hh
                      obtain ⟨q, lb, hb, hq, rfl, rfl, rfl, hl, hh, HQ, HP, HA, HB, HS, HW⟩ := hrel
                      match q, hq with
                      | 0, hq =>
                        obtain rfl : gk = 2 := by omega
                        obtain ⟨TQ, hQ'⟩ := HQ.out
                        have Q0 := (cells2 hQ').1.1
                        have Q1 := (cells2 hQ').1.2
                        have Ql := blkLt hQ'
                        clear hQ'
                        have S0 := (cells2 HS.out).1.1
                        have S1 := (cells2 HS.out).1.2
                        have S2 := (cells2 HS.out).2.1
                        have S3 := (cells2 HS.out).2.2
                        have Sl := blkLt HS.out
                        have hl2 := Lib.hid (hits_snoc (l := []) r0 hl.out)
                        have hh2 := Lib.hid (hits_snoc (l := []) r0 hh.out)
                        clear hl hh
                        cases lb <;> cases hb <;>
                          (go_upto_region 40 with fail; go_quiet (fail); go_wp2_with fail; go_roundg 1; (case measure => omega); (case rel => exact ⟨1, _, _, by omega, by go_num, rfl, rfl, hl2, hh2, HQ, HP, HA, HB, HS, Lib.hid (bDrewN HW.out _)⟩))
                      | 1, hq =>
                        obtain rfl : gk = 1 := by omega
                        obtain ⟨TQ, hQ'⟩ := HQ.out
                        have Q0 := (cells2 hQ').1.1
                        have Q1 := (cells2 hQ').1.2
                        have Ql := blkLt hQ'
                        clear hQ'
                        have S0 := (cells2 HS.out).1.1
                        have S1 := (cells2 HS.out).1.2
                        have S2 := (cells2 HS.out).2.1
                        have S3 := (cells2 HS.out).2.2
                        have Sl := blkLt HS.out
                        have hl2 := Lib.hid (hits_snoc (l := [r0]) r1 hl.out)
                        have hh2 := Lib.hid (hits_snoc (l := [r0]) r1 hh.out)
                        clear hl hh
                        cases lb <;> cases hb <;>
                          (go_upto_region 40 with fail; go_quiet (fail); go_wp2_with fail; go_roundg 0; (case measure => omega); (case rel => exact ⟨2, _, _, by omega, by go_num, rfl, rfl, hl2, hh2, HQ, HP, HA, HB, HS, Lib.hid (bDrewN HW.out _)⟩))
                      | 2, hq =>
                        obtain rfl : gk = 0 := by omega
                        go_wp2_with fail
                        go_roundg 1
                        case measure => omega
                        case rel => exact ⟨1, _, _, by omega, by go_num, rfl, rfl, hl, hh, HP, HA, HB, HS, HW⟩
                      | q + 3, hq => omega
                | 1, hp =>
                  obtain rfl : gk = 1 := by omega
                  obtain ⟨TP, hP'⟩ := HP.out
                  have P0 := (cells2 hP').1.1
                  have P1 := (cells2 hP').1.2
                  have Pl := blkLt hP'
                  clear hP'
                  have B0 := (cells2 HB.out).1.1
                  have B1 := (cells2 HB.out).1.2
                  have B2 := (cells2 HB.out).2.1
                  have B3 := (cells2 HB.out).2.2
                  have Bl := blkLt HB.out
                  go_upto_region 26 with fail
                  go_cut [97, 105, 106, 107] from 97 to 152 (fun s0 s1 s2 s3 wx => ∃ bQ : Nat, s0 = .int .i64 1 ∧ s1 = .slice (some ⟨bQ, 0, none⟩) 2 2 ∧ s2 = .int .i64 2 ∧ s3 = .int .i64 0 ∧ Hid (∃ T, wx.heap[bQ]? = some (.cells #[.int .i64 b.lo, .int .i64 b.hi] T (0, 0))) ∧ Hid (∃ T, wx.heap[bP]? = some (.cells #[.int .i64 a.lo, .int .i64 a.hi] T (0, 0))) ∧ Hid (wx.heap[w.heap.size]? = some (.cells #[.int .i64 (a.lo), .int .i64 (a.hi)] 23 (0, 0))) ∧ Hid (wx.heap[w.heap.size + 1]? = some (.cells #[.int .i64 (b.lo), .int .i64 (b.hi)] 23 (0, 0))) ∧ Hid (wx.heap[bS]? = some (.cells #[.int .i64 (s.lo), .int .i64 (s.hi)] 23 (0, 0))) ∧ Hid (Below w.heap.size w wx))
                  case first => as_aux_lemma =>
                    go_wp2_with fail
                    go_meet
                    exact ⟨_, rfl, rfl, rfl, rfl, Lib.hid ⟨_, newBlk _ _ _ rfl⟩, Lib.hid (HP.out.imp fun _ h => mvAlloc h), Lib.hid (mvAlloc HA.out), Lib.hid (mvAlloc HB.out), Lib.hid (mvAlloc HS.out), Lib.hid (bAlloc HW.out)⟩
                  case rest => as_aux_lemma =>
                    clear HW HP HA HB HS
                    obtain ⟨bQ, rfl, rfl, rfl, rfl, HQ, HP, HA, HB, HS, HW⟩ := hcut
                    go_wp2_with fail
                    go_loopg [10, 11, 107] 2 (fun gk lo hi i wr => ∃ (q : Nat) (lb hb : Bool), q + gk = 2 ∧ i = .int .i64 q ∧ lo = .bool lb ∧ hi = .bool hb ∧ Hid (hits ([r0, r1, r2, r3].take (2 + q)) s.lo lb) ∧ Hid (hits ([r0, r1, r2, r3].take (2 + q)) s.hi hb) ∧ Hid (∃ T, wr.heap[bQ]? = some (.cells #[.int .i64 b.lo, .int .i64 b.hi] T (0, 0))) ∧ Hid (∃ T, wr.heap[bP]? = some (.cells #[.int .i64 a.lo, .int .i64 a.hi] T (0, 0))) ∧ Hid (wr.heap[w.heap.size]? = some (.cells #[.int .i64 (a.lo), .int .i64 (a.hi)] 23 (0, 0))) ∧ Hid (wr.heap[w.heap.size + 1]? = some (.cells #[.int .i64 (b.lo), .int .i64 (b.hi)] 23 (0, 0))) ∧ Hid (wr.heap[bS]? = some (.cells #[.int .i64 (s.lo), .int .i64 (s.hi)] 23 (0, 0))) ∧ Hid (Below w.heap.size w wr))
                    case atStart => exact ⟨0, _, _, rfl, rfl, rfl, rfl, hl, hh, HQ, HP, HA, HB, HS, HW⟩
                    case round =>
                      clear HQ HP HA HB HS HW hl hh
                      obtain ⟨q, lb, hb, hq, rfl, rfl, rfl, hl, hh, HQ, HP, HA, HB, HS, HW⟩ := hrel
                      match q, hq with
                      | 0, hq =>
                        obtain rfl : gk = 2 := by omega
                        obtain ⟨TQ, hQ'⟩ := HQ.out
                        have Q0 := (cells2 hQ').1.1
                        have Q1 := (cells2 hQ').1.2
                        have Ql := blkLt hQ'
                        clear hQ'
                        have S0 := (cells2 HS.out).1.1
                        have S1 := (cells2 HS.out).1.2
                        have S2 := (cells2 HS.out).2.1
                        have S3 := (cells2 HS.out).2.2
                        have Sl := blkLt HS.out
                        have hl2 := Lib.hid (hits_snoc (l := [r0, r1]) r2 hl.out)
                        have hh2 := Lib.hid (hits_snoc (l := [r0, r1]) r2 hh.out)
                        clear hl hh
                        cases lb <;> cases hb <;>
                          (go_upto_region 40 with fail; go_quiet (fail); go_wp2_with fail; go_roundg 1; (case measure => omega); (case rel => exact ⟨1, _, _, by omega, by go_num, rfl, rfl, hl2, hh2, HQ, HP, HA, HB, HS, Lib.hid (bDrewN HW.out _)⟩))
                      | 1, hq =>
                        obtain rfl : gk = 1 := by omega
                        obtain ⟨TQ, hQ'⟩ := HQ.out
                        have Q0 := (cells2 hQ').1.1
                        have Q1 := (cells2 hQ').1.2
                        have Ql := blkLt hQ'
                        clear hQ'
                        have S0 := (cells2 HS.out).1.1
                        have S1 := (cells2 HS.out).1.2
                        have S2 := (cells2 HS.out).2.1
                        have S3 := (cells2 HS.out).2.2
                        have Sl := blkLt HS.out
                        have hl2 := Lib.hid (hits_snoc (l := [r0, r1, r2]) r3 hl.out)
                        have hh2 := Lib.hid (hits_snoc (l := [r0, r1, r2]) r3 hh.out)
                        clear hl hh
                        cases lb <;> cases hb <;>
                          (go_upto_region 40 with fail; go_quiet (fail); go_wp2_with fail; go_roundg 0; (case measure => omega); (case rel => exact ⟨2, _, _, by omega, by go_num, rfl, rfl, hl2, hh2, HQ, HP, HA, HB, HS, Lib.hid (bDrewN HW.out _)⟩))
                      | 2, hq =>
                        obtain rfl : gk = 0 := by omega
                        go_wp2_with fail
                        go_roundg 0
                        case measure => omega
                        case rel => exact ⟨2, _, _, by omega, by go_num, rfl, rfl, hl, hh, HP, HA, HB, HS, HW⟩
                      | q + 3, hq => omega
                | 2, hp =>
                  obtain rfl : gk = 0 := by omega
                  obtain rfl : lb = true := hits_end hl.out hlo.out
                  obtain rfl : hb = true := hits_end hh.out hhi.out
                  go_wp2_with fail
                  go_roundg 3
                  case measure => omega
                  case rel => exact ⟨2, by omega, by go_num, rfl, HA, HB, HW⟩
                | p + 3, hp => omega
      | 2, hk => as_aux_lemma =>
        obtain rfl : gk = 3 := by omega
        obtain ⟨s, e, hC, hE⟩ := H2.out
        clear H0 H1 H2 H3 H4
        have A0 := (cells2 HA.out).1.1
        have A1 := (cells2 HA.out).1.2
        have A2 := (cells2 HA.out).2.1
        have A3 := (cells2 HA.out).2.2
        have Al := blkLt HA.out
        have B0 := (cells2 HB.out).1.1
        have B1 := (cells2 HB.out).1.2
        have B2 := (cells2 HB.out).2.1
        have B3 := (cells2 HB.out).2.2
        have Bl := blkLt HB.out
        go_upto_region 20 with (go_at_call_of 15 (Value.agg #[.int .i64 a.lo, .int .i64 a.hi]); refine (hC.out _).mono ?_; rintro e wn ⟨rfl, hbn⟩; (try clear u0 u1 u2 u3 ul); (first | (with_reducible have hU := Lib.hid (newU (o := (.cells #[.int .i64 0, .int .i64 0] 23 (0, 0))) hbn)) | (with_reducible have hU := Lib.hid (newUd (o := (.cells #[.int .i64 0, .int .i64 0] 23 (0, 0))) hbn)) | (have hU := Lib.hid (moveX (by (repeat with_reducible first | exact Below.refl _ _ | apply bDrew | apply bAlloc)) hbn hU.out)) | skip); (first | (have u0 := (cells2 hU.out).1.1; have u1 := (cells2 hU.out).1.2; have u2 := (cells2 hU.out).2.1; have u3 := (cells2 hU.out).2.2; have ul := blkLt hU.out) | skip); have Az := Al; have Bz := Bl; replace HW := Lib.hid (bCall (by (repeat with_reducible first | exact HW.out | apply bDrew | apply bAlloc)) hbn); replace HA := Lib.hid (moveX (by (repeat with_reducible first | exact Below.refl _ _ | apply bDrew | apply bAlloc)) hbn HA.out); replace HB := Lib.hid (moveX (by (repeat with_reducible first | exact Below.refl _ _ | apply bDrew | apply bAlloc)) hbn HB.out); replace A0 := (cells2 HA.out).1.1; replace A1 := (cells2 HA.out).1.2; replace A2 := (cells2 HA.out).2.1; replace A3 := (cells2 HA.out).2.2; replace Al := blkLt HA.out; replace B0 := (cells2 HB.out).1.1; replace B1 := (cells2 HB.out).1.2; replace B2 := (cells2 HB.out).2.1; replace B3 := (cells2 HB.out).2.2; replace Bl := blkLt HB.out; clear hbn)
        clear hC
        replace HA := Lib.hid (setK (x := .int .i64 s.lo) (y := .int .i64 s.hi) HA.out (show w.heap.size ≠ _ from Nat.ne_of_lt Az))
        replace HB := Lib.hid (setK (x := .int .i64 s.lo) (y := .int .i64 s.hi) HB.out (show w.heap.size + 1 ≠ _ from Nat.ne_of_lt Bz))
        replace HW := Lib.hid (below2 (v0 := .int .i64 s.lo) (v1 := .int .i64 s.hi) HW.out (Nat.le_of_lt Az))
        rcases hE with rfl | rfl | ⟨rfl, hE⟩
        · go_wp2_with fail
          go_roundg 2
          case measure => omega
          case rel => exact ⟨3, by omega, by go_num, rfl, HA, HB, HW⟩
        · go_wp2_with fail
          go_roundg 2
          case measure => omega
          case rel => exact ⟨3, by omega, by go_num, rfl, HA, HB, HW⟩
        · obtain ⟨r0, r1, r2, r3, hlo, hhi, y0, y1, y2, y3⟩ := hE
          have hlo := Lib.hid hlo
          have hhi := Lib.hid hhi
          go_cut [8, 35, 85] from 35 to 160 (fun s1 s0 s2 wx => ∃ bS : Nat, s0 = .int .i64 2 ∧ s1 = .pointer (some ⟨bS, 0, none⟩) ∧ s2 = .bool false ∧ Hid (wx.heap[w.heap.size]? = some (.cells #[.int .i64 (a.lo), .int .i64 (a.hi)] 23 (0, 0))) ∧ Hid (wx.heap[w.heap.size + 1]? = some (.cells #[.int .i64 (b.lo), .int .i64 (b.hi)] 23 (0, 0))) ∧ Hid (wx.heap[bS]? = some (.cells #[.int .i64 (s.lo), .int .i64 (s.hi)] 23 (0, 0))) ∧ Hid (Below w.heap.size w wx))
          case first => as_aux_lemma =>
            go_wp2_with fail
            go_meet
            exact ⟨_, rfl, rfl, rfl, HA, HB, Lib.hid (res2 hU.out).1, HW⟩
          case rest => as_aux_lemma =>
            clear HW HA HB
            obtain ⟨bS, rfl, rfl, rfl, HA, HB, HS, HW⟩ := hcut
            have A0 := (cells2 HA.out).1.1
            have A1 := (cells2 HA.out).1.2
            have A2 := (cells2 HA.out).2.1
            have A3 := (cells2 HA.out).2.2
            have Al := blkLt HA.out
            go_upto_region 23 with fail
            go_cut [35, 95, 96, 97] from 35 to 160 (fun s0 s1 s2 s3 wx => ∃ bP : Nat, s0 = .int .i64 2 ∧ s1 = .slice (some ⟨bP, 0, none⟩) 2 2 ∧ s2 = .int .i64 2 ∧ s3 = .int .i64 0 ∧ Hid (∃ T, wx.heap[bP]? = some (.cells #[.int .i64 a.lo, .int .i64 a.hi] T (0, 0))) ∧ Hid (wx.heap[w.heap.size]? = some (.cells #[.int .i64 (a.lo), .int .i64 (a.hi)] 23 (0, 0))) ∧ Hid (wx.heap[w.heap.size + 1]? = some (.cells #[.int .i64 (b.lo), .int .i64 (b.hi)] 23 (0, 0))) ∧ Hid (wx.heap[bS]? = some (.cells #[.int .i64 (s.lo), .int .i64 (s.hi)] 23 (0, 0))) ∧ Hid (Below w.heap.size w wx))
            case first => as_aux_lemma =>
              go_wp2_with fail
              go_meet
              exact ⟨_, rfl, rfl, rfl, rfl, Lib.hid ⟨_, newBlk _ _ _ rfl⟩, Lib.hid (mvAlloc HA.out), Lib.hid (mvAlloc HB.out), Lib.hid (mvAlloc HS.out), Lib.hid (bAlloc HW.out)⟩
            case rest => as_aux_lemma =>
              clear HW HA HB HS
              obtain ⟨bP, rfl, rfl, rfl, rfl, HP, HA, HB, HS, HW⟩ := hcut
              go_wp2_with fail
              go_loopg [10, 11, 97] 2 (fun gk lo hi i wr => ∃ (p : Nat) (lb hb : Bool), p + gk = 2 ∧ i = .int .i64 p ∧ lo = .bool lb ∧ hi = .bool hb ∧ Hid (hits ([r0, r1, r2, r3].take (2 * p)) s.lo lb) ∧ Hid (hits ([r0, r1, r2, r3].take (2 * p)) s.hi hb) ∧ Hid (∃ T, wr.heap[bP]? = some (.cells #[.int .i64 a.lo, .int .i64 a.hi] T (0, 0))) ∧ Hid (wr.heap[w.heap.size]? = some (.cells #[.int .i64 (a.lo), .int .i64 (a.hi)] 23 (0, 0))) ∧ Hid (wr.heap[w.heap.size + 1]? = some (.cells #[.int .i64 (b.lo), .int .i64 (b.hi)] 23 (0, 0))) ∧ Hid (wr.heap[bS]? = some (.cells #[.int .i64 (s.lo), .int .i64 (s.hi)] 23 (0, 0))) ∧ Hid (Below w.heap.size w wr))
              case atStart => exact ⟨0, false, false, rfl, rfl, rfl, rfl, Lib.hid (hits_nil _ _), Lib.hid (hits_nil _ _), HP, HA, HB, HS, HW⟩
              case round =>
                clear HP HA HB HS HW
                obtain ⟨p, lb, hb, hp, rfl, rfl, rfl, hl, hh, HP, HA, HB, HS, HW⟩ := hrel
                match p, hp with
                | 0, hp =>
                  obtain rfl : gk = 2 := by omega
                  obtain ⟨TP, hP'⟩ := HP.out
                  have P0 := (cells2 hP').1.1
                  have P1 := (cells2 hP').1.2
                  have Pl := blkLt hP'
                  clear hP'
                  have B0 := (cells2 HB.out).1.1
                  have B1 := (cells2 HB.out).1.2
                  have B2 := (cells2 HB.out).2.1
                  have B3 := (cells2 HB.out).2.2
                  have Bl := blkLt HB.out
                  go_upto_region 26 with fail
                  go_cut [97, 105, 106, 107] from 97 to 152 (fun s0 s1 s2 s3 wx => ∃ bQ : Nat, s0 = .int .i64 0 ∧ s1 = .slice (some ⟨bQ, 0, none⟩) 2 2 ∧ s2 = .int .i64 2 ∧ s3 = .int .i64 0 ∧ Hid (∃ T, wx.heap[bQ]? = some (.cells #[.int .i64 b.lo, .int .i64 b.hi] T (0, 0))) ∧ Hid (∃ T, wx.heap[bP]? = some (.cells #[.int .i64 a.lo, .int .i64 a.hi] T (0, 0))) ∧ Hid (wx.heap[w.heap.size]? = some (.cells #[.int .i64 (a.lo), .int .i64 (a.hi)] 23 (0, 0))) ∧ Hid (wx.heap[w.heap.size + 1]? = some (.cells #[.int .i64 (b.lo), .int .i64 (b.hi)] 23 (0, 0))) ∧ Hid (wx.heap[bS]? = some (.cells #[.int .i64 (s.lo), .int .i64 (s.hi)] 23 (0, 0))) ∧ Hid (Below w.heap.size w wx))
                  case first => as_aux_lemma =>
                    go_wp2_with fail
                    go_meet
                    exact ⟨_, rfl, rfl, rfl, rfl, Lib.hid ⟨_, newBlk _ _ _ rfl⟩, Lib.hid (HP.out.imp fun _ h => mvAlloc h), Lib.hid (mvAlloc HA.out), Lib.hid (mvAlloc HB.out), Lib.hid (mvAlloc HS.out), Lib.hid (bAlloc HW.out)⟩
                  case rest => as_aux_lemma =>
                    clear HW HP HA HB HS
                    obtain ⟨bQ, rfl, rfl, rfl, rfl, HQ, HP, HA, HB, HS, HW⟩ := hcut
                    go_wp2_with fail
                    go_loopg [10, 11, 107] 2 (fun gk lo hi i wr => ∃ (q : Nat) (lb hb : Bool), q + gk = 2 ∧ i = .int .i64 q ∧ lo = .bool lb ∧ hi = .bool hb ∧ Hid (hits ([r0, r1, r2, r3].take (0 + q)) s.lo lb) ∧ Hid (hits ([r0, r1, r2, r3].take (0 + q)) s.hi hb) ∧ Hid (∃ T, wr.heap[bQ]? = some (.cells #[.int .i64 b.lo, .int .i64 b.hi] T (0, 0))) ∧ Hid (∃ T, wr.heap[bP]? = some (.cells #[.int .i64 a.lo, .int .i64 a.hi] T (0, 0))) ∧ Hid (wr.heap[w.heap.size]? = some (.cells #[.int .i64 (a.lo), .int .i64 (a.hi)] 23 (0, 0))) ∧ Hid (wr.heap[w.heap.size + 1]? = some (.cells #[.int .i64 (b.lo), .int .i64 (b.hi)] 23 (0, 0))) ∧ Hid (wr.heap[bS]? = some (.cells #[.int .i64 (s.lo), .int .i64 (s.hi)] 23 (0, 0))) ∧ Hid (Below w.heap.size w wr))
                    case atStart => exact ⟨0, _, _, rfl, rfl, rfl, rfl, hl, hh, HQ, HP, HA, HB, HS, HW⟩
                    case round =>
                      clear HQ HP HA HB HS HW hl hh
                      obtain ⟨q, lb, hb, hq, rfl, rfl, rfl, hl, hh, HQ, HP, HA, HB, HS, HW⟩ := hrel
                      match q, hq with
                      | 0, hq =>
                        obtain rfl : gk = 2 := by omega
                        obtain ⟨TQ, hQ'⟩ := HQ.out
                        have Q0 := (cells2 hQ').1.1
                        have Q1 := (cells2 hQ').1.2
                        have Ql := blkLt hQ'
                        clear hQ'
                        have S0 := (cells2 HS.out).1.1
                        have S1 := (cells2 HS.out).1.2
                        have S2 := (cells2 HS.out).2.1
                        have S3 := (cells2 HS.out).2.2
                        have Sl := blkLt HS.out
                        have hl2 := Lib.hid (hits_snoc (l := []) r0 hl.out)
                        have hh2 := Lib.hid (hits_snoc (l := []) r0 hh.out)
                        clear hl hh
                        cases lb <;> cases hb <;>
                          (go_upto_region 40 with fail; go_quiet (fail); go_wp2_with fail; go_roundg 1; (case measure => omega); (case rel => exact ⟨1, _, _, by omega, by go_num, rfl, rfl, hl2, hh2, HQ, HP, HA, HB, HS, Lib.hid (bDrewN HW.out _)⟩))
                      | 1, hq =>
                        obtain rfl : gk = 1 := by omega
                        obtain ⟨TQ, hQ'⟩ := HQ.out
                        have Q0 := (cells2 hQ').1.1
                        have Q1 := (cells2 hQ').1.2
                        have Ql := blkLt hQ'
                        clear hQ'
                        have S0 := (cells2 HS.out).1.1
                        have S1 := (cells2 HS.out).1.2
                        have S2 := (cells2 HS.out).2.1
                        have S3 := (cells2 HS.out).2.2
                        have Sl := blkLt HS.out
                        have hl2 := Lib.hid (hits_snoc (l := [r0]) r1 hl.out)
                        have hh2 := Lib.hid (hits_snoc (l := [r0]) r1 hh.out)
                        clear hl hh
                        cases lb <;> cases hb <;>
                          (go_upto_region 40 with fail; go_quiet (fail); go_wp2_with fail; go_roundg 0; (case measure => omega); (case rel => exact ⟨2, _, _, by omega, by go_num, rfl, rfl, hl2, hh2, HQ, HP, HA, HB, HS, Lib.hid (bDrewN HW.out _)⟩))
                      | 2, hq =>
                        obtain rfl : gk = 0 := by omega
                        go_wp2_with fail
                        go_roundg 1
                        case measure => omega
                        case rel => exact ⟨1, _, _, by omega, by go_num, rfl, rfl, hl, hh, HP, HA, HB, HS, HW⟩
                      | q + 3, hq => omega
                | 1, hp =>
                  obtain rfl : gk = 1 := by omega
                  obtain ⟨TP, hP'⟩ := HP.out
                  have P0 := (cells2 hP').1.1
                  have P1 := (cells2 hP').1.2
                  have Pl := blkLt hP'
                  clear hP'
                  have B0 := (cells2 HB.out).1.1
                  have B1 := (cells2 HB.out).1.2
                  have B2 := (cells2 HB.out).2.1
                  have B3 := (cells2 HB.out).2.2
                  have Bl := blkLt HB.out
                  go_upto_region 26 with fail
                  go_cut [97, 105, 106, 107] from 97 to 152 (fun s0 s1 s2 s3 wx => ∃ bQ : Nat, s0 = .int .i64 1 ∧ s1 = .slice (some ⟨bQ, 0, none⟩) 2 2 ∧ s2 = .int .i64 2 ∧ s3 = .int .i64 0 ∧ Hid (∃ T, wx.heap[bQ]? = some (.cells #[.int .i64 b.lo, .int .i64 b.hi] T (0, 0))) ∧ Hid (∃ T, wx.heap[bP]? = some (.cells #[.int .i64 a.lo, .int .i64 a.hi] T (0, 0))) ∧ Hid (wx.heap[w.heap.size]? = some (.cells #[.int .i64 (a.lo), .int .i64 (a.hi)] 23 (0, 0))) ∧ Hid (wx.heap[w.heap.size + 1]? = some (.cells #[.int .i64 (b.lo), .int .i64 (b.hi)] 23 (0, 0))) ∧ Hid (wx.heap[bS]? = some (.cells #[.int .i64 (s.lo), .int .i64 (s.hi)] 23 (0, 0))) ∧ Hid (Below w.heap.size w wx))
                  case first => as_aux_lemma =>
                    go_wp2_with fail
                    go_meet
                    exact ⟨_, rfl, rfl, rfl, rfl, Lib.hid ⟨_, newBlk _ _ _ rfl⟩, Lib.hid (HP.out.imp fun _ h => mvAlloc h), Lib.hid (mvAlloc HA.out), Lib.hid (mvAlloc HB.out), Lib.hid (mvAlloc HS.out), Lib.hid (bAlloc HW.out)⟩
                  case rest => as_aux_lemma =>
                    clear HW HP HA HB HS
                    obtain ⟨bQ, rfl, rfl, rfl, rfl, HQ, HP, HA, HB, HS, HW⟩ := hcut
                    go_wp2_with fail
                    go_loopg [10, 11, 107] 2 (fun gk lo hi i wr => ∃ (q : Nat) (lb hb : Bool), q + gk = 2 ∧ i = .int .i64 q ∧ lo = .bool lb ∧ hi = .bool hb ∧ Hid (hits ([r0, r1, r2, r3].take (2 + q)) s.lo lb) ∧ Hid (hits ([r0, r1, r2, r3].take (2 + q)) s.hi hb) ∧ Hid (∃ T, wr.heap[bQ]? = some (.cells #[.int .i64 b.lo, .int .i64 b.hi] T (0, 0))) ∧ Hid (∃ T, wr.heap[bP]? = some (.cells #[.int .i64 a.lo, .int .i64 a.hi] T (0, 0))) ∧ Hid (wr.heap[w.heap.size]? = some (.cells #[.int .i64 (a.lo), .int .i64 (a.hi)] 23 (0, 0))) ∧ Hid (wr.heap[w.heap.size + 1]? = some (.cells #[.int .i64 (b.lo), .int .i64 (b.hi)] 23 (0, 0))) ∧ Hid (wr.heap[bS]? = some (.cells #[.int .i64 (s.lo), .int .i64 (s.hi)] 23 (0, 0))) ∧ Hid (Below w.heap.size w wr))
                    case atStart => exact ⟨0, _, _, rfl, rfl, rfl, rfl, hl, hh, HQ, HP, HA, HB, HS, HW⟩
                    case round =>
                      clear HQ HP HA HB HS HW hl hh
                      obtain ⟨q, lb, hb, hq, rfl, rfl, rfl, hl, hh, HQ, HP, HA, HB, HS, HW⟩ := hrel
                      match q, hq with
                      | 0, hq =>
                        obtain rfl : gk = 2 := by omega
                        obtain ⟨TQ, hQ'⟩ := HQ.out
                        have Q0 := (cells2 hQ').1.1
                        have Q1 := (cells2 hQ').1.2
                        have Ql := blkLt hQ'
                        clear hQ'
                        have S0 := (cells2 HS.out).1.1
                        have S1 := (cells2 HS.out).1.2
                        have S2 := (cells2 HS.out).2.1
                        have S3 := (cells2 HS.out).2.2
                        have Sl := blkLt HS.out
                        have hl2 := Lib.hid (hits_snoc (l := [r0, r1]) r2 hl.out)
                        have hh2 := Lib.hid (hits_snoc (l := [r0, r1]) r2 hh.out)
                        clear hl hh
                        cases lb <;> cases hb <;>
                          (go_upto_region 40 with fail; go_quiet (fail); go_wp2_with fail; go_roundg 1; (case measure => omega); (case rel => exact ⟨1, _, _, by omega, by go_num, rfl, rfl, hl2, hh2, HQ, HP, HA, HB, HS, Lib.hid (bDrewN HW.out _)⟩))
                      | 1, hq =>
                        obtain rfl : gk = 1 := by omega
                        obtain ⟨TQ, hQ'⟩ := HQ.out
                        have Q0 := (cells2 hQ').1.1
                        have Q1 := (cells2 hQ').1.2
                        have Ql := blkLt hQ'
                        clear hQ'
                        have S0 := (cells2 HS.out).1.1
                        have S1 := (cells2 HS.out).1.2
                        have S2 := (cells2 HS.out).2.1
                        have S3 := (cells2 HS.out).2.2
                        have Sl := blkLt HS.out
                        have hl2 := Lib.hid (hits_snoc (l := [r0, r1, r2]) r3 hl.out)
                        have hh2 := Lib.hid (hits_snoc (l := [r0, r1, r2]) r3 hh.out)
                        clear hl hh
                        cases lb <;> cases hb <;>
                          (go_upto_region 40 with fail; go_quiet (fail); go_wp2_with fail; go_roundg 0; (case measure => omega); (case rel => exact ⟨2, _, _, by omega, by go_num, rfl, rfl, hl2, hh2, HQ, HP, HA, HB, HS, Lib.hid (bDrewN HW.out _)⟩))
                      | 2, hq =>
                        obtain rfl : gk = 0 := by omega
                        go_wp2_with fail
                        go_roundg 0
                        case measure => omega
                        case rel => exact ⟨2, _, _, by omega, by go_num, rfl, rfl, hl, hh, HP, HA, HB, HS, HW⟩
                      | q + 3, hq => omega
                | 2, hp =>
                  obtain rfl : gk = 0 := by omega
                  obtain rfl : lb = true := hits_end hl.out hlo.out
                  obtain rfl : hb = true := hits_end hh.out hhi.out
                  go_wp2_with fail
                  go_roundg 2
                  case measure => omega
                  case rel => exact ⟨3, by omega, by go_num, rfl, HA, HB, HW⟩
                | p + 3, hp => omega
      | 3, hk => as_aux_lemma =>
        obtain rfl : gk = 2 := by omega
        obtain ⟨s, e, hC, hE⟩ := H3.out
        clear H0 H1 H2 H3 H4
        have A0 := (cells2 HA.out).1.1
        have A1 := (cells2 HA.out).1.2
        have A2 := (cells2 HA.out).2.1
        have A3 := (cells2 HA.out).2.2
        have Al := blkLt HA.out
        have B0 := (cells2 HB.out).1.1
        have B1 := (cells2 HB.out).1.2
        have B2 := (cells2 HB.out).2.1
        have B3 := (cells2 HB.out).2.2
        have Bl := blkLt HB.out
        go_upto_region 20 with (go_at_call_of 17 (Value.agg #[.int .i64 a.lo, .int .i64 a.hi]); refine (hC.out _).mono ?_; rintro e wn ⟨rfl, hbn⟩; (try clear u0 u1 u2 u3 ul); (first | (with_reducible have hU := Lib.hid (newU (o := (.cells #[.int .i64 0, .int .i64 0] 23 (0, 0))) hbn)) | (with_reducible have hU := Lib.hid (newUd (o := (.cells #[.int .i64 0, .int .i64 0] 23 (0, 0))) hbn)) | (have hU := Lib.hid (moveX (by (repeat with_reducible first | exact Below.refl _ _ | apply bDrew | apply bAlloc)) hbn hU.out)) | skip); (first | (have u0 := (cells2 hU.out).1.1; have u1 := (cells2 hU.out).1.2; have u2 := (cells2 hU.out).2.1; have u3 := (cells2 hU.out).2.2; have ul := blkLt hU.out) | skip); have Az := Al; have Bz := Bl; replace HW := Lib.hid (bCall (by (repeat with_reducible first | exact HW.out | apply bDrew | apply bAlloc)) hbn); replace HA := Lib.hid (moveX (by (repeat with_reducible first | exact Below.refl _ _ | apply bDrew | apply bAlloc)) hbn HA.out); replace HB := Lib.hid (moveX (by (repeat with_reducible first | exact Below.refl _ _ | apply bDrew | apply bAlloc)) hbn HB.out); replace A0 := (cells2 HA.out).1.1; replace A1 := (cells2 HA.out).1.2; replace A2 := (cells2 HA.out).2.1; replace A3 := (cells2 HA.out).2.2; replace Al := blkLt HA.out; replace B0 := (cells2 HB.out).1.1; replace B1 := (cells2 HB.out).1.2; replace B2 := (cells2 HB.out).2.1; replace B3 := (cells2 HB.out).2.2; replace Bl := blkLt HB.out; clear hbn)
        clear hC
        replace HA := Lib.hid (setK (x := .int .i64 s.lo) (y := .int .i64 s.hi) HA.out (show w.heap.size ≠ _ from Nat.ne_of_lt Az))
        replace HB := Lib.hid (setK (x := .int .i64 s.lo) (y := .int .i64 s.hi) HB.out (show w.heap.size + 1 ≠ _ from Nat.ne_of_lt Bz))
        replace HW := Lib.hid (below2 (v0 := .int .i64 s.lo) (v1 := .int .i64 s.hi) HW.out (Nat.le_of_lt Az))
        rcases hE with rfl | rfl | ⟨rfl, hE⟩
        · go_wp2_with fail
          go_roundg 1
          case measure => omega
          case rel => exact ⟨4, by omega, by go_num, rfl, HA, HB, HW⟩
        · go_wp2_with fail
          go_roundg 1
          case measure => omega
          case rel => exact ⟨4, by omega, by go_num, rfl, HA, HB, HW⟩
        · obtain ⟨r0, r1, r2, r3, hlo, hhi, hz, h0, h1, h2, h3⟩ := hE
          subst hz
          have hlo := Lib.hid hlo
          have hhi := Lib.hid hhi
          go_cut [8, 35, 85] from 35 to 160 (fun s1 s0 s2 wx => ∃ bS : Nat, s0 = .int .i64 3 ∧ s1 = .pointer (some ⟨bS, 0, none⟩) ∧ s2 = .bool false ∧ Hid (wx.heap[w.heap.size]? = some (.cells #[.int .i64 (a.lo), .int .i64 (a.hi)] 23 (0, 0))) ∧ Hid (wx.heap[w.heap.size + 1]? = some (.cells #[.int .i64 (b.lo), .int .i64 (b.hi)] 23 (0, 0))) ∧ Hid (wx.heap[bS]? = some (.cells #[.int .i64 (s.lo), .int .i64 (s.hi)] 23 (0, 0))) ∧ Hid (Below w.heap.size w wx))
          case first => as_aux_lemma =>
            go_wp2_with fail
            go_meet
            exact ⟨_, rfl, rfl, rfl, HA, HB, Lib.hid (res2 hU.out).1, HW⟩
          case rest => as_aux_lemma =>
            clear HW HA HB
            obtain ⟨bS, rfl, rfl, rfl, HA, HB, HS, HW⟩ := hcut
            have A0 := (cells2 HA.out).1.1
            have A1 := (cells2 HA.out).1.2
            have A2 := (cells2 HA.out).2.1
            have A3 := (cells2 HA.out).2.2
            have Al := blkLt HA.out
            go_upto_region 23 with fail
            go_cut [35, 95, 96, 97] from 35 to 160 (fun s0 s1 s2 s3 wx => ∃ bP : Nat, s0 = .int .i64 3 ∧ s1 = .slice (some ⟨bP, 0, none⟩) 2 2 ∧ s2 = .int .i64 2 ∧ s3 = .int .i64 0 ∧ Hid (∃ T, wx.heap[bP]? = some (.cells #[.int .i64 a.lo, .int .i64 a.hi] T (0, 0))) ∧ Hid (wx.heap[w.heap.size]? = some (.cells #[.int .i64 (a.lo), .int .i64 (a.hi)] 23 (0, 0))) ∧ Hid (wx.heap[w.heap.size + 1]? = some (.cells #[.int .i64 (b.lo), .int .i64 (b.hi)] 23 (0, 0))) ∧ Hid (wx.heap[bS]? = some (.cells #[.int .i64 (s.lo), .int .i64 (s.hi)] 23 (0, 0))) ∧ Hid (Below w.heap.size w wx))
            case first => as_aux_lemma =>
              go_wp2_with fail
              go_meet
              exact ⟨_, rfl, rfl, rfl, rfl, Lib.hid ⟨_, newBlk _ _ _ rfl⟩, Lib.hid (mvAlloc HA.out), Lib.hid (mvAlloc HB.out), Lib.hid (mvAlloc HS.out), Lib.hid (bAlloc HW.out)⟩
            case rest => as_aux_lemma =>
              clear HW HA HB HS
              obtain ⟨bP, rfl, rfl, rfl, rfl, HP, HA, HB, HS, HW⟩ := hcut
              go_wp2_with fail
              go_loopg [10, 11, 97] 2 (fun gk lo hi i wr => ∃ (p : Nat) (lb hb : Bool), p + gk = 2 ∧ i = .int .i64 p ∧ lo = .bool lb ∧ hi = .bool hb ∧ Hid (hits ([r0, r1, r2, r3].take (2 * p)) s.lo lb) ∧ Hid (hits ([r0, r1, r2, r3].take (2 * p)) s.hi hb) ∧ Hid (∃ T, wr.heap[bP]? = some (.cells #[.int .i64 a.lo, .int .i64 a.hi] T (0, 0))) ∧ Hid (wr.heap[w.heap.size]? = some (.cells #[.int .i64 (a.lo), .int .i64 (a.hi)] 23 (0, 0))) ∧ Hid (wr.heap[w.heap.size + 1]? = some (.cells #[.int .i64 (b.lo), .int .i64 (b.hi)] 23 (0, 0))) ∧ Hid (wr.heap[bS]? = some (.cells #[.int .i64 (s.lo), .int .i64 (s.hi)] 23 (0, 0))) ∧ Hid (Below w.heap.size w wr))
              case atStart => exact ⟨0, false, false, rfl, rfl, rfl, rfl, Lib.hid (hits_nil _ _), Lib.hid (hits_nil _ _), HP, HA, HB, HS, HW⟩
              case round =>
                clear HP HA HB HS HW
                obtain ⟨p, lb, hb, hp, rfl, rfl, rfl, hl, hh, HP, HA, HB, HS, HW⟩ := hrel
                match p, hp with
                | 0, hp =>
                  obtain rfl : gk = 2 := by omega
                  obtain ⟨TP, hP'⟩ := HP.out
                  have P0 := (cells2 hP').1.1
                  have P1 := (cells2 hP').1.2
                  have Pl := blkLt hP'
                  clear hP'
                  have B0 := (cells2 HB.out).1.1
                  have B1 := (cells2 HB.out).1.2
                  have B2 := (cells2 HB.out).2.1
                  have B3 := (cells2 HB.out).2.2
                  have Bl := blkLt HB.out
                  go_upto_region 26 with fail
                  go_cut [97, 105, 106, 107] from 97 to 152 (fun s0 s1 s2 s3 wx => ∃ bQ : Nat, s0 = .int .i64 0 ∧ s1 = .slice (some ⟨bQ, 0, none⟩) 2 2 ∧ s2 = .int .i64 2 ∧ s3 = .int .i64 0 ∧ Hid (∃ T, wx.heap[bQ]? = some (.cells #[.int .i64 b.lo, .int .i64 b.hi] T (0, 0))) ∧ Hid (∃ T, wx.heap[bP]? = some (.cells #[.int .i64 a.lo, .int .i64 a.hi] T (0, 0))) ∧ Hid (wx.heap[w.heap.size]? = some (.cells #[.int .i64 (a.lo), .int .i64 (a.hi)] 23 (0, 0))) ∧ Hid (wx.heap[w.heap.size + 1]? = some (.cells #[.int .i64 (b.lo), .int .i64 (b.hi)] 23 (0, 0))) ∧ Hid (wx.heap[bS]? = some (.cells #[.int .i64 (s.lo), .int .i64 (s.hi)] 23 (0, 0))) ∧ Hid (Below w.heap.size w wx))
                  case first => as_aux_lemma =>
                    go_wp2_with fail
                    go_meet
                    exact ⟨_, rfl, rfl, rfl, rfl, Lib.hid ⟨_, newBlk _ _ _ rfl⟩, Lib.hid (HP.out.imp fun _ h => mvAlloc h), Lib.hid (mvAlloc HA.out), Lib.hid (mvAlloc HB.out), Lib.hid (mvAlloc HS.out), Lib.hid (bAlloc HW.out)⟩
                  case rest => as_aux_lemma =>
                    clear HW HP HA HB HS
                    obtain ⟨bQ, rfl, rfl, rfl, rfl, HQ, HP, HA, HB, HS, HW⟩ := hcut
                    go_wp2_with fail
                    go_loopg [10, 11, 107] 2 (fun gk lo hi i wr => ∃ (q : Nat) (lb hb : Bool), q + gk = 2 ∧ i = .int .i64 q ∧ lo = .bool lb ∧ hi = .bool hb ∧ Hid (hits ([r0, r1, r2, r3].take (0 + q)) s.lo lb) ∧ Hid (hits ([r0, r1, r2, r3].take (0 + q)) s.hi hb) ∧ Hid (∃ T, wr.heap[bQ]? = some (.cells #[.int .i64 b.lo, .int .i64 b.hi] T (0, 0))) ∧ Hid (∃ T, wr.heap[bP]? = some (.cells #[.int .i64 a.lo, .int .i64 a.hi] T (0, 0))) ∧ Hid (wr.heap[w.heap.size]? = some (.cells #[.int .i64 (a.lo), .int .i64 (a.hi)] 23 (0, 0))) ∧ Hid (wr.heap[w.heap.size + 1]? = some (.cells #[.int .i64 (b.lo), .int .i64 (b.hi)] 23 (0, 0))) ∧ Hid (wr.heap[bS]? = some (.cells #[.int .i64 (s.lo), .int .i64 (s.hi)] 23 (0, 0))) ∧ Hid (Below w.heap.size w wr))
                    case atStart => exact ⟨0, _, _, rfl, rfl, rfl, rfl, hl, hh, HQ, HP, HA, HB, HS, HW⟩
                    case round =>
                      clear HQ HP HA HB HS HW hl hh
                      obtain ⟨q, lb, hb, hq, rfl, rfl, rfl, hl, hh, HQ, HP, HA, HB, HS, HW⟩ := hrel
                      match q, hq with
                      | 0, hq =>
                        obtain rfl : gk = 2 := by omega
                        obtain ⟨TQ, hQ'⟩ := HQ.out
                        have Q0 := (cells2 hQ').1.1
                        have Q1 := (cells2 hQ').1.2
                        have Ql := blkLt hQ'
                        clear hQ'
                        have S0 := (cells2 HS.out).1.1
                        have S1 := (cells2 HS.out).1.2
                        have S2 := (cells2 HS.out).2.1
                        have S3 := (cells2 HS.out).2.2
                        have Sl := blkLt HS.out
                        have hl2 := Lib.hid (hits_snoc (l := []) r0 hl.out)
                        have hh2 := Lib.hid (hits_snoc (l := []) r0 hh.out)
                        clear hl hh
                        cases lb <;> cases hb <;>
                          (go_upto_region 40 with (go_at_call 31; refine (h0.out _).mono ?_; rintro e2 wn ⟨rfl, rfl⟩); go_quiet (fail); go_wp2_with fail; go_roundg 1; (case measure => omega); (case rel => exact ⟨1, _, _, by omega, by go_num, rfl, rfl, hl2, hh2, HQ, HP, HA, HB, HS, Lib.hid (bDrewN HW.out _)⟩))
                      | 1, hq =>
                        obtain rfl : gk = 1 := by omega
                        obtain ⟨TQ, hQ'⟩ := HQ.out
                        have Q0 := (cells2 hQ').1.1
                        have Q1 := (cells2 hQ').1.2
                        have Ql := blkLt hQ'
                        clear hQ'
                        have S0 := (cells2 HS.out).1.1
                        have S1 := (cells2 HS.out).1.2
                        have S2 := (cells2 HS.out).2.1
                        have S3 := (cells2 HS.out).2.2
                        have Sl := blkLt HS.out
                        have hl2 := Lib.hid (hits_snoc (l := [r0]) r1 hl.out)
                        have hh2 := Lib.hid (hits_snoc (l := [r0]) r1 hh.out)
                        clear hl hh
                        cases lb <;> cases hb <;>
                          (go_upto_region 40 with (go_at_call 31; refine (h1.out _).mono ?_; rintro e2 wn ⟨rfl, rfl⟩); go_quiet (fail); go_wp2_with fail; go_roundg 0; (case measure => omega); (case rel => exact ⟨2, _, _, by omega, by go_num, rfl, rfl, hl2, hh2, HQ, HP, HA, HB, HS, Lib.hid (bDrewN HW.out _)⟩))
                      | 2, hq =>
                        obtain rfl : gk = 0 := by omega
                        go_wp2_with fail
                        go_roundg 1
                        case measure => omega
                        case rel => exact ⟨1, _, _, by omega, by go_num, rfl, rfl, hl, hh, HP, HA, HB, HS, HW⟩
                      | q + 3, hq => omega
                | 1, hp =>
                  obtain rfl : gk = 1 := by omega
                  obtain ⟨TP, hP'⟩ := HP.out
                  have P0 := (cells2 hP').1.1
                  have P1 := (cells2 hP').1.2
                  have Pl := blkLt hP'
                  clear hP'
                  have B0 := (cells2 HB.out).1.1
                  have B1 := (cells2 HB.out).1.2
                  have B2 := (cells2 HB.out).2.1
                  have B3 := (cells2 HB.out).2.2
                  have Bl := blkLt HB.out
                  go_upto_region 26 with fail
                  go_cut [97, 105, 106, 107] from 97 to 152 (fun s0 s1 s2 s3 wx => ∃ bQ : Nat, s0 = .int .i64 1 ∧ s1 = .slice (some ⟨bQ, 0, none⟩) 2 2 ∧ s2 = .int .i64 2 ∧ s3 = .int .i64 0 ∧ Hid (∃ T, wx.heap[bQ]? = some (.cells #[.int .i64 b.lo, .int .i64 b.hi] T (0, 0))) ∧ Hid (∃ T, wx.heap[bP]? = some (.cells #[.int .i64 a.lo, .int .i64 a.hi] T (0, 0))) ∧ Hid (wx.heap[w.heap.size]? = some (.cells #[.int .i64 (a.lo), .int .i64 (a.hi)] 23 (0, 0))) ∧ Hid (wx.heap[w.heap.size + 1]? = some (.cells #[.int .i64 (b.lo), .int .i64 (b.hi)] 23 (0, 0))) ∧ Hid (wx.heap[bS]? = some (.cells #[.int .i64 (s.lo), .int .i64 (s.hi)] 23 (0, 0))) ∧ Hid (Below w.heap.size w wx))
                  case first => as_aux_lemma =>
                    go_wp2_with fail
                    go_meet
                    exact ⟨_, rfl, rfl, rfl, rfl, Lib.hid ⟨_, newBlk _ _ _ rfl⟩, Lib.hid (HP.out.imp fun _ h => mvAlloc h), Lib.hid (mvAlloc HA.out), Lib.hid (mvAlloc HB.out), Lib.hid (mvAlloc HS.out), Lib.hid (bAlloc HW.out)⟩
                  case rest => as_aux_lemma =>
                    clear HW HP HA HB HS
                    obtain ⟨bQ, rfl, rfl, rfl, rfl, HQ, HP, HA, HB, HS, HW⟩ := hcut
                    go_wp2_with fail
                    go_loopg [10, 11, 107] 2 (fun gk lo hi i wr => ∃ (q : Nat) (lb hb : Bool), q + gk = 2 ∧ i = .int .i64 q ∧ lo = .bool lb ∧ hi = .bool hb ∧ Hid (hits ([r0, r1, r2, r3].take (2 + q)) s.lo lb) ∧ Hid (hits ([r0, r1, r2, r3].take (2 + q)) s.hi hb) ∧ Hid (∃ T, wr.heap[bQ]? = some (.cells #[.int .i64 b.lo, .int .i64 b.hi] T (0, 0))) ∧ Hid (∃ T, wr.heap[bP]? = some (.cells #[.int .i64 a.lo, .int .i64 a.hi] T (0, 0))) ∧ Hid (wr.heap[w.heap.size]? = some (.cells #[.int .i64 (a.lo), .int .i64 (a.hi)] 23 (0, 0))) ∧ Hid (wr.heap[w.heap.size + 1]? = some (.cells #[.int .i64 (b.lo), .int .i64 (b.hi)] 23 (0, 0))) ∧ Hid (wr.heap[bS]? = some (.cells #[.int .i64 (s.lo), .int .i64 (s.hi)] 23 (0, 0))) ∧ Hid (Below w.heap.size w wr))
                    case atStart => exact ⟨0, _, _, rfl, rfl, rfl, rfl, hl, hh, HQ, HP, HA, HB, HS, HW⟩
                    case round =>
                      clear HQ HP HA HB HS HW hl hh
                      obtain ⟨q, lb, hb, hq, rfl, rfl, rfl, hl, hh, HQ, HP, HA, HB, HS, HW⟩ := hrel
                      match q, hq with
                      | 0, hq =>
                        obtain rfl : gk = 2 := by omega
                        obtain ⟨TQ, hQ'⟩ := HQ.out
                        have Q0 := (cells2 hQ').1.1
                        have Q1 := (cells2 hQ').1.2
                        have Ql := blkLt hQ'
                        clear hQ'
                        have S0 := (cells2 HS.out).1.1
                        have S1 := (cells2 HS.out).1.2
                        have S2 := (cells2 HS.out).2.1
                        have S3 := (cells2 HS.out).2.2
                        have Sl := blkLt HS.out
                        have hl2 := Lib.hid (hits_snoc (l := [r0, r1]) r2 hl.out)
                        have hh2 := Lib.hid (hits_snoc (l := [r0, r1]) r2 hh.out)
                        clear hl hh
                        cases lb <;> cases hb <;>
                          (go_upto_region 40 with (go_at_call 31; refine (h2.out _).mono ?_; rintro e2 wn ⟨rfl, rfl⟩); go_quiet (fail); go_wp2_with fail; go_roundg 1; (case measure => omega); (case rel => exact ⟨1, _, _, by omega, by go_num, rfl, rfl, hl2, hh2, HQ, HP, HA, HB, HS, Lib.hid (bDrewN HW.out _)⟩))
                      | 1, hq =>
                        obtain rfl : gk = 1 := by omega
                        obtain ⟨TQ, hQ'⟩ := HQ.out
                        have Q0 := (cells2 hQ').1.1
                        have Q1 := (cells2 hQ').1.2
                        have Ql := blkLt hQ'
                        clear hQ'
                        have S0 := (cells2 HS.out).1.1
                        have S1 := (cells2 HS.out).1.2
                        have S2 := (cells2 HS.out).2.1
                        have S3 := (cells2 HS.out).2.2
                        have Sl := blkLt HS.out
                        have hl2 := Lib.hid (hits_snoc (l := [r0, r1, r2]) r3 hl.out)
                        have hh2 := Lib.hid (hits_snoc (l := [r0, r1, r2]) r3 hh.out)
                        clear hl hh
                        cases lb <;> cases hb <;>
                          (go_upto_region 40 with (go_at_call 31; refine (h3.out _).mono ?_; rintro e2 wn ⟨rfl, rfl⟩); go_quiet (fail); go_wp2_with fail; go_roundg 0; (case measure => omega); (case rel => exact ⟨2, _, _, by omega, by go_num, rfl, rfl, hl2, hh2, HQ, HP, HA, HB, HS, Lib.hid (bDrewN HW.out _)⟩))
                      | 2, hq =>
                        obtain rfl : gk = 0 := by omega
                        go_wp2_with fail
                        go_roundg 0
                        case measure => omega
                        case rel => exact ⟨2, _, _, by omega, by go_num, rfl, rfl, hl, hh, HP, HA, HB, HS, HW⟩
                      | q + 3, hq => omega
                | 2, hp =>
                  obtain rfl : gk = 0 := by omega
                  obtain rfl : lb = true := hits_end hl.out hlo.out
                  obtain rfl : hb = true := hits_end hh.out hhi.out
                  go_wp2_with fail
                  go_roundg 1
                  case measure => omega
                  case rel => exact ⟨4, by omega, by go_num, rfl, HA, HB, HW⟩
                | p + 3, hp => omega
      | 4, hk => as_aux_lemma =>
        obtain rfl : gk = 1 := by omega
        obtain ⟨s, e, hC, hE⟩ := H4.out
        clear H0 H1 H2 H3 H4
        have A0 := (cells2 HA.out).1.1
        have A1 := (cells2 HA.out).1.2
        have A2 := (cells2 HA.out).2.1
        have A3 := (cells2 HA.out).2.2
        have Al := blkLt HA.out
        have B0 := (cells2 HB.out).1.1
        have B1 := (cells2 HB.out).1.2
        have B2 := (cells2 HB.out).2.1
        have B3 := (cells2 HB.out).2.2
        have Bl := blkLt HB.out
        go_upto_region 20 with (go_at_call_of 19 (Value.agg #[.int .i64 a.lo, .int .i64 a.hi]); refine (hC.out _).mono ?_; rintro e wn ⟨rfl, hbn⟩; (try clear u0 u1 u2 u3 ul); (first | (with_reducible have hU := Lib.hid (newU (o := (.cells #[.int .i64 0, .int .i64 0] 23 (0, 0))) hbn)) | (with_reducible have hU := Lib.hid (newUd (o := (.cells #[.int .i64 0, .int .i64 0] 23 (0, 0))) hbn)) | (have hU := Lib.hid (moveX (by (repeat with_reducible first | exact Below.refl _ _ | apply bDrew | apply bAlloc)) hbn hU.out)) | skip); (first | (have u0 := (cells2 hU.out).1.1; have u1 := (cells2 hU.out).1.2; have u2 := (cells2 hU.out).2.1; have u3 := (cells2 hU.out).2.2; have ul := blkLt hU.out) | skip); have Az := Al; have Bz := Bl; replace HW := Lib.hid (bCall (by (repeat with_reducible first | exact HW.out | apply bDrew | apply bAlloc)) hbn); replace HA := Lib.hid (moveX (by (repeat with_reducible first | exact Below.refl _ _ | apply bDrew | apply bAlloc)) hbn HA.out); replace HB := Lib.hid (moveX (by (repeat with_reducible first | exact Below.refl _ _ | apply bDrew | apply bAlloc)) hbn HB.out); replace A0 := (cells2 HA.out).1.1; replace A1 := (cells2 HA.out).1.2; replace A2 := (cells2 HA.out).2.1; replace A3 := (cells2 HA.out).2.2; replace Al := blkLt HA.out; replace B0 := (cells2 HB.out).1.1; replace B1 := (cells2 HB.out).1.2; replace B2 := (cells2 HB.out).2.1; replace B3 := (cells2 HB.out).2.2; replace Bl := blkLt HB.out; clear hbn)
        clear hC
        replace HA := Lib.hid (setK (x := .int .i64 s.lo) (y := .int .i64 s.hi) HA.out (show w.heap.size ≠ _ from Nat.ne_of_lt Az))
        replace HB := Lib.hid (setK (x := .int .i64 s.lo) (y := .int .i64 s.hi) HB.out (show w.heap.size + 1 ≠ _ from Nat.ne_of_lt Bz))
        replace HW := Lib.hid (below2 (v0 := .int .i64 s.lo) (v1 := .int .i64 s.hi) HW.out (Nat.le_of_lt Az))
        rcases hE with rfl | rfl | ⟨rfl, hE⟩
        · go_wp2_with fail
          go_roundg 0
          case measure => omega
          case rel => exact ⟨5, by omega, by go_num, rfl, HA, HB, HW⟩
        · go_wp2_with fail
          go_roundg 0
          case measure => omega
          case rel => exact ⟨5, by omega, by go_num, rfl, HA, HB, HW⟩
        · obtain ⟨r0, r1, r2, r3, n0, n1, q0, q1, q2, q3, hlo, hhi, hz, m0, m1, h0, h1, h2, h3, y0, y1, y2, y3⟩ := hE
          subst hz
          have hlo := Lib.hid hlo
          have hhi := Lib.hid hhi
          go_cut [8, 35, 85] from 35 to 160 (fun s1 s0 s2 wx => ∃ bS : Nat, s0 = .int .i64 4 ∧ s1 = .pointer (some ⟨bS, 0, none⟩) ∧ s2 = .bool false ∧ Hid (wx.heap[w.heap.size]? = some (.cells #[.int .i64 (a.lo), .int .i64 (a.hi)] 23 (0, 0))) ∧ Hid (wx.heap[w.heap.size + 1]? = some (.cells #[.int .i64 (b.lo), .int .i64 (b.hi)] 23 (0, 0))) ∧ Hid (wx.heap[bS]? = some (.cells #[.int .i64 (s.lo), .int .i64 (s.hi)] 23 (0, 0))) ∧ Hid (Below w.heap.size w wx))
          case first => as_aux_lemma =>
            go_wp2_with fail
            go_meet
            exact ⟨_, rfl, rfl, rfl, HA, HB, Lib.hid (res2 hU.out).1, HW⟩
          case rest => as_aux_lemma =>
            clear HW HA HB
            obtain ⟨bS, rfl, rfl, rfl, HA, HB, HS, HW⟩ := hcut
            have A0 := (cells2 HA.out).1.1
            have A1 := (cells2 HA.out).1.2
            have A2 := (cells2 HA.out).2.1
            have A3 := (cells2 HA.out).2.2
            have Al := blkLt HA.out
            go_upto_region 23 with fail
            go_cut [35, 95, 96, 97] from 35 to 160 (fun s0 s1 s2 s3 wx => ∃ bP : Nat, s0 = .int .i64 4 ∧ s1 = .slice (some ⟨bP, 0, none⟩) 2 2 ∧ s2 = .int .i64 2 ∧ s3 = .int .i64 0 ∧ Hid (∃ T, wx.heap[bP]? = some (.cells #[.int .i64 a.lo, .int .i64 a.hi] T (0, 0))) ∧ Hid (wx.heap[w.heap.size]? = some (.cells #[.int .i64 (a.lo), .int .i64 (a.hi)] 23 (0, 0))) ∧ Hid (wx.heap[w.heap.size + 1]? = some (.cells #[.int .i64 (b.lo), .int .i64 (b.hi)] 23 (0, 0))) ∧ Hid (wx.heap[bS]? = some (.cells #[.int .i64 (s.lo), .int .i64 (s.hi)] 23 (0, 0))) ∧ Hid (Below w.heap.size w wx))
            case first => as_aux_lemma =>
              go_wp2_with fail
              go_meet
              exact ⟨_, rfl, rfl, rfl, rfl, Lib.hid ⟨_, newBlk _ _ _ rfl⟩, Lib.hid (mvAlloc HA.out), Lib.hid (mvAlloc HB.out), Lib.hid (mvAlloc HS.out), Lib.hid (bAlloc HW.out)⟩
            case rest => as_aux_lemma =>
              clear HW HA HB HS
              obtain ⟨bP, rfl, rfl, rfl, rfl, HP, HA, HB, HS, HW⟩ := hcut
              go_wp2_with fail
              go_loopg [10, 11, 97] 2 (fun gk lo hi i wr => ∃ (p : Nat) (lb hb : Bool), p + gk = 2 ∧ i = .int .i64 p ∧ lo = .bool lb ∧ hi = .bool hb ∧ Hid (hits ([r0, r1, r2, r3].take (2 * p)) s.lo lb) ∧ Hid (hits ([r0, r1, r2, r3].take (2 * p)) s.hi hb) ∧ Hid (∃ T, wr.heap[bP]? = some (.cells #[.int .i64 a.lo, .int .i64 a.hi] T (0, 0))) ∧ Hid (wr.heap[w.heap.size]? = some (.cells #[.int .i64 (a.lo), .int .i64 (a.hi)] 23 (0, 0))) ∧ Hid (wr.heap[w.heap.size + 1]? = some (.cells #[.int .i64 (b.lo), .int .i64 (b.hi)] 23 (0, 0))) ∧ Hid (wr.heap[bS]? = some (.cells #[.int .i64 (s.lo), .int .i64 (s.hi)] 23 (0, 0))) ∧ Hid (Below w.heap.size w wr))
              case atStart => exact ⟨0, false, false, rfl, rfl, rfl, rfl, Lib.hid (hits_nil _ _), Lib.hid (hits_nil _ _), HP, HA, HB, HS, HW⟩
              case round =>
                clear HP HA HB HS HW
                obtain ⟨p, lb, hb, hp, rfl, rfl, rfl, hl, hh, HP, HA, HB, HS, HW⟩ := hrel
                match p, hp with
                | 0, hp =>
                  obtain rfl : gk = 2 := by omega
                  obtain ⟨TP, hP'⟩ := HP.out
                  have P0 := (cells2 hP').1.1
                  have P1 := (cells2 hP').1.2
                  have Pl := blkLt hP'
                  clear hP'
                  have B0 := (cells2 HB.out).1.1
                  have B1 := (cells2 HB.out).1.2
                  have B2 := (cells2 HB.out).2.1
                  have B3 := (cells2 HB.out).2.2
                  have Bl := blkLt HB.out
                  go_upto_region 26 with fail
                  go_cut [97, 105, 106, 107] from 97 to 152 (fun s0 s1 s2 s3 wx => ∃ bQ : Nat, s0 = .int .i64 0 ∧ s1 = .slice (some ⟨bQ, 0, none⟩) 2 2 ∧ s2 = .int .i64 2 ∧ s3 = .int .i64 0 ∧ Hid (∃ T, wx.heap[bQ]? = some (.cells #[.int .i64 b.lo, .int .i64 b.hi] T (0, 0))) ∧ Hid (∃ T, wx.heap[bP]? = some (.cells #[.int .i64 a.lo, .int .i64 a.hi] T (0, 0))) ∧ Hid (wx.heap[w.heap.size]? = some (.cells #[.int .i64 (a.lo), .int .i64 (a.hi)] 23 (0, 0))) ∧ Hid (wx.heap[w.heap.size + 1]? = some (.cells #[.int .i64 (b.lo), .int .i64 (b.hi)] 23 (0, 0))) ∧ Hid (wx.heap[bS]? = some (.cells #[.int .i64 (s.lo), .int .i64 (s.hi)] 23 (0, 0))) ∧ Hid (Below w.heap.size w wx))
                  case first => as_aux_lemma =>
                    go_wp2_with fail
                    go_meet
                    exact ⟨_, rfl, rfl, rfl, rfl, Lib.hid ⟨_, newBlk _ _ _ rfl⟩, Lib.hid (HP.out.imp fun _ h => mvAlloc h), Lib.hid (mvAlloc HA.out), Lib.hid (mvAlloc HB.out), Lib.hid (mvAlloc HS.out), Lib.hid (bAlloc HW.out)⟩
                  case rest => as_aux_lemma =>
                    clear HW HP HA HB HS
                    obtain ⟨bQ, rfl, rfl, rfl, rfl, HQ, HP, HA, HB, HS, HW⟩ := hcut
                    go_wp2_with fail
                    go_loopg [10, 11, 107] 2 (fun gk lo hi i wr => ∃ (q : Nat) (lb hb : Bool), q + gk = 2 ∧ i = .int .i64 q ∧ lo = .bool lb ∧ hi = .bool hb ∧ Hid (hits ([r0, r1, r2, r3].take (0 + q)) s.lo lb) ∧ Hid (hits ([r0, r1, r2, r3].take (0 + q)) s.hi hb) ∧ Hid (∃ T, wr.heap[bQ]? = some (.cells #[.int .i64 b.lo, .int .i64 b.hi] T (0, 0))) ∧ Hid (∃ T, wr.heap[bP]? = some (.cells #[.int .i64 a.lo, .int .i64 a.hi] T (0, 0))) ∧ Hid (wr.heap[w.heap.size]? = some (.cells #[.int .i64 (a.lo), .int .i64 (a.hi)] 23 (0, 0))) ∧ Hid (wr.heap[w.heap.size + 1]? = some (.cells #[.int .i64 (b.lo), .int .i64 (b.hi)] 23 (0, 0))) ∧ Hid (wr.heap[bS]? = some (.cells #[.int .i64 (s.lo), .int .i64 (s.hi)] 23 (0, 0))) ∧ Hid (Below w.heap.size w wr))
                    case atStart => exact ⟨0, _, _, rfl, rfl, rfl, rfl, hl, hh, HQ, HP, HA, HB, HS, HW⟩
                    case round =>
                      clear HQ HP HA HB HS HW hl hh
                      obtain ⟨q, lb, hb, hq, rfl, rfl, rfl, hl, hh, HQ, HP, HA, HB, HS, HW⟩ := hrel
                      match q, hq with
                      | 0, hq =>
                        obtain rfl : gk = 2 := by omega
                        obtain ⟨TQ, hQ'⟩ := HQ.out
                        have Q0 := (cells2 hQ').1.1
                        have Q1 := (cells2 hQ').1.2
                        have Ql := blkLt hQ'
                        clear hQ'
                        have S0 := (cells2 HS.out).1.1
                        have S1 := (cells2 HS.out).1.2
                        have S2 := (cells2 HS.out).2.1
                        have S3 := (cells2 HS.out).2.2
                        have Sl := blkLt HS.out
                        have hl2 := Lib.hid (hits_snoc (l := []) r0 hl.out)
                        have hh2 := Lib.hid (hits_snoc (l := []) r0 hh.out)
                        clear hl hh
                        cases lb <;> cases hb <;>
                          (go_upto_region 40 with (go_at_call 31; refine (h0.out _).mono ?_; rintro e2 wn ⟨rfl, rfl⟩); go_quiet (fail); go_wp2_with fail; go_roundg 1; (case measure => omega); (case rel => exact ⟨1, _, _, by omega, by go_num, rfl, rfl, hl2, hh2, HQ, HP, HA, HB, HS, Lib.hid (bDrewN HW.out _)⟩))
                      | 1, hq =>
                        obtain rfl : gk = 1 := by omega
                        obtain ⟨TQ, hQ'⟩ := HQ.out
                        have Q0 := (cells2 hQ').1.1
                        have Q1 := (cells2 hQ').1.2
                        have Ql := blkLt hQ'
                        clear hQ'
                        have S0 := (cells2 HS.out).1.1
                        have S1 := (cells2 HS.out).1.2
                        have S2 := (cells2 HS.out).2.1
                        have S3 := (cells2 HS.out).2.2
                        have Sl := blkLt HS.out
                        have hl2 := Lib.hid (hits_snoc (l := [r0]) r1 hl.out)
                        have hh2 := Lib.hid (hits_snoc (l := [r0]) r1 hh.out)
                        clear hl hh
                        cases lb <;> cases hb <;>
                          (go_upto_region 40 with (go_at_call 31; refine (h1.out _).mono ?_; rintro e2 wn ⟨rfl, rfl⟩); go_quiet (fail); go_wp2_with fail; go_roundg 0; (case measure => omega); (case rel => exact ⟨2, _, _, by omega, by go_num, rfl, rfl, hl2, hh2, HQ, HP, HA, HB, HS, Lib.hid (bDrewN HW.out _)⟩))
                      | 2, hq =>
                        obtain rfl : gk = 0 := by omega
                        go_wp2_with fail
                        go_roundg 1
                        case measure => omega
                        case rel => exact ⟨1, _, _, by omega, by go_num, rfl, rfl, hl, hh, HP, HA, HB, HS, HW⟩
                      | q + 3, hq => omega
                | 1, hp =>
                  obtain rfl : gk = 1 := by omega
                  obtain ⟨TP, hP'⟩ := HP.out
                  have P0 := (cells2 hP').1.1
                  have P1 := (cells2 hP').1.2
                  have Pl := blkLt hP'
                  clear hP'
                  have B0 := (cells2 HB.out).1.1
                  have B1 := (cells2 HB.out).1.2
                  have B2 := (cells2 HB.out).2.1
                  have B3 := (cells2 HB.out).2.2
                  have Bl := blkLt HB.out
                  go_upto_region 26 with fail
                  go_cut [97, 105, 106, 107] from 97 to 152 (fun s0 s1 s2 s3 wx => ∃ bQ : Nat, s0 = .int .i64 1 ∧ s1 = .slice (some ⟨bQ, 0, none⟩) 2 2 ∧ s2 = .int .i64 2 ∧ s3 = .int .i64 0 ∧ Hid (∃ T, wx.heap[bQ]? = some (.cells #[.int .i64 b.lo, .int .i64 b.hi] T (0, 0))) ∧ Hid (∃ T, wx.heap[bP]? = some (.cells #[.int .i64 a.lo, .int .i64 a.hi] T (0, 0))) ∧ Hid (wx.heap[w.heap.size]? = some (.cells #[.int .i64 (a.lo), .int .i64 (a.hi)] 23 (0, 0))) ∧ Hid (wx.heap[w.heap.size + 1]? = some (.cells #[.int .i64 (b.lo), .int .i64 (b.hi)] 23 (0, 0))) ∧ Hid (wx.heap[bS]? = some (.cells #[.int .i64 (s.lo), .int .i64 (s.hi)] 23 (0, 0))) ∧ Hid (Below w.heap.size w wx))
                  case first => as_aux_lemma =>
                    go_wp2_with fail
                    go_meet
                    exact ⟨_, rfl, rfl, rfl, rfl, Lib.hid ⟨_, newBlk _ _ _ rfl⟩, Lib.hid (HP.out.imp fun _ h => mvAlloc h), Lib.hid (mvAlloc HA.out), Lib.hid (mvAlloc HB.out), Lib.hid (mvAlloc HS.out), Lib.hid (bAlloc HW.out)⟩
                  case rest => as_aux_lemma =>
                    clear HW HP HA HB HS
                    obtain ⟨bQ, rfl, rfl, rfl, rfl, HQ, HP, HA, HB, HS, HW⟩ := hcut
                    go_wp2_with fail
                    go_loopg [10, 11, 107] 2 (fun gk lo hi i wr => ∃ (q : Nat) (lb hb : Bool), q + gk = 2 ∧ i = .int .i64 q ∧ lo = .bool lb ∧ hi = .bool hb ∧ Hid (hits ([r0, r1, r2, r3].take (2 + q)) s.lo lb) ∧ Hid (hits ([r0, r1, r2, r3].take (2 + q)) s.hi hb) ∧ Hid (∃ T, wr.heap[bQ]? = some (.cells #[.int .i64 b.lo, .int .i64 b.hi] T (0, 0))) ∧ Hid (∃ T, wr.heap[bP]? = some (.cells #[.int .i64 a.lo, .int .i64 a.hi] T (0, 0))) ∧ Hid (wr.heap[w.heap.size]? = some (.cells #[.int .i64 (a.lo), .int .i64 (a.hi)] 23 (0, 0))) ∧ Hid (wr.heap[w.heap.size + 1]? = some (.cells #[.int .i64 (b.lo), .int .i64 (b.hi)] 23 (0, 0))) ∧ Hid (wr.heap[bS]? = some (.cells #[.int .i64 (s.lo), .int .i64 (s.hi)] 23 (0, 0))) ∧ Hid (Below w.heap.size w wr))
                    case atStart => exact ⟨0, _, _, rfl, rfl, rfl, rfl, hl, hh, HQ, HP, HA, HB, HS, HW⟩
                    case round =>
                      clear HQ HP HA HB HS HW hl hh
                      obtain ⟨q, lb, hb, hq, rfl, rfl, rfl, hl, hh, HQ, HP, HA, HB, HS, HW⟩ := hrel
                      match q, hq with
                      | 0, hq =>
                        obtain rfl : gk = 2 := by omega
                        obtain ⟨TQ, hQ'⟩ := HQ.out
                        have Q0 := (cells2 hQ').1.1
                        have Q1 := (cells2 hQ').1.2
                        have Ql := blkLt hQ'
                        clear hQ'
                        have S0 := (cells2 HS.out).1.1
                        have S1 := (cells2 HS.out).1.2
                        have S2 := (cells2 HS.out).2.1
                        have S3 := (cells2 HS.out).2.2
                        have Sl := blkLt HS.out
                        have hl2 := Lib.hid (hits_snoc (l := [r0, r1]) r2 hl.out)
                        have hh2 := Lib.hid (hits_snoc (l := [r0, r1]) r2 hh.out)
                        clear hl hh
                        cases lb <;> cases hb <;>
                          (go_upto_region 40 with (go_at_call 31; refine (h2.out _).mono ?_; rintro e2 wn ⟨rfl, rfl⟩); go_quiet (fail); go_wp2_with fail; go_roundg 1; (case measure => omega); (case rel => exact ⟨1, _, _, by omega, by go_num, rfl, rfl, hl2, hh2, HQ, HP, HA, HB, HS, Lib.hid (bDrewN HW.out _)⟩))
                      | 1, hq =>
                        obtain rfl : gk = 1 := by omega
                        obtain ⟨TQ, hQ'⟩ := HQ.out
                        have Q0 := (cells2 hQ').1.1
                        have Q1 := (cells2 hQ').1.2
                        have Ql := blkLt hQ'
                        clear hQ'
                        have S0 := (cells2 HS.out).1.1
                        have S1 := (cells2 HS.out).1.2
                        have S2 := (cells2 HS.out).2.1
                        have S3 := (cells2 HS.out).2.2
                        have Sl := blkLt HS.out
                        have hl2 := Lib.hid (hits_snoc (l := [r0, r1, r2]) r3 hl.out)
                        have hh2 := Lib.hid (hits_snoc (l := [r0, r1, r2]) r3 hh.out)
                        clear hl hh
                        cases lb <;> cases hb <;>
                          (go_upto_region 40 with (go_at_call 31; refine (h3.out _).mono ?_; rintro e2 wn ⟨rfl, rfl⟩); go_quiet (fail); go_wp2_with fail; go_roundg 0; (case measure => omega); (case rel => exact ⟨2, _, _, by omega, by go_num, rfl, rfl, hl2, hh2, HQ, HP, HA, HB, HS, Lib.hid (bDrewN HW.out _)⟩))
                      | 2, hq =>
                        obtain rfl : gk = 0 := by omega
                        go_wp2_with fail
                        go_roundg 0
                        case measure => omega
                        case rel => exact ⟨2, _, _, by omega, by go_num, rfl, rfl, hl, hh, HP, HA, HB, HS, HW⟩
                      | q + 3, hq => omega
                | 2, hp =>
                  obtain rfl : gk = 0 := by omega
                  obtain rfl : lb = true := hits_end hl.out hlo.out
                  obtain rfl : hb = true := hits_end hh.out hhi.out
                  go_wp2_with fail
                  go_roundg 0
                  case measure => omega
                  case rel => exact ⟨5, by omega, by go_num, rfl, HA, HB, HW⟩
                | p + 3, hp => omega
      | 5, hk =>
        obtain rfl : gk = 0 := by omega
        go_wp2_with fail
        go_ret
        exact ⟨rfl, HW.out⟩
      | k + 6, hk => omega
theorem er3 {f : Int → Int → Int} {a b : Sp} (ha : vB a = true) (hb : vB b = true) : (combM f a b).2 = 3 ∨ (combM f a b).2 = 0 := by
  rw [combM_v ha hb]
  split
  · exact .inr rfl
  · exact .inl rfl
theorem bun0 {a b : Sp} (ha : vB a = true) (hb : vB b = true) : Bun0 a b (zB b) := by
  have Ha := vB_iff.1 ha
  have Hb := vB_iff.1 hb
  refine ⟨(addM a b).1, (addM a b).2, Add_any a b, ?_⟩
  rcases er3 (f := addF) ha hb with h | h
  · exact .inl h
  · have h1 : addM a b = (ends4 addF a b, 0) := (combM_ok ha hb h).1
    rw [h1]
    exact .inr (.inr ⟨rfl, _, _, _, _, arM_lo _ _ _ _, arM_hi _ _ _ _, IntWalk.i64_in _ (by omega), IntWalk.i64_in _ (by omega), IntWalk.i64_in _ (by omega), IntWalk.i64_in _ (by omega)⟩)
theorem bun1 {a b : Sp} (ha : vB a = true) (hb : vB b = true) : Bun1 a b (zB b) := by
  have Ha := vB_iff.1 ha
  have Hb := vB_iff.1 hb
  refine ⟨(subM a b).1, (subM a b).2, Sub_any a b, ?_⟩
  rcases er3 (f := subF) ha hb with h | h
  · exact .inl h
  · have h1 : subM a b = (ends4 subF a b, 0) := (combM_ok ha hb h).1
    rw [h1]
    exact .inr (.inr ⟨rfl, _, _, _, _, arM_lo _ _ _ _, arM_hi _ _ _ _, IntWalk.i64_in _ (by omega), IntWalk.i64_in _ (by omega), IntWalk.i64_in _ (by omega), IntWalk.i64_in _ (by omega)⟩)
theorem bun2 {a b : Sp} (ha : vB a = true) (hb : vB b = true) : Bun2 a b (zB b) := by
  have Ha := vB_iff.1 ha
  have Hb := vB_iff.1 hb
  refine ⟨(mulM a b).1, (mulM a b).2, Mul_any a b, ?_⟩
  rcases er3 (f := mulF) ha hb with h | h
  · exact .inl h
  · have h1 : mulM a b = (ends4 mulF a b, 0) := (combM_ok ha hb h).1
    have hv := (combM_ok (f := mulF) ha hb h).2
    have k : ∀ x y, InS x a → InS y b → IntKind.i64.wrap (x * y) = x * y := fun x y hx hy => IntWalk.i64_in _ (by have := mul_bd ha hb hx hy h; omega)
    have al : InS a.lo a := by unfold InS; omega
    have ah : InS a.hi a := by unfold InS; omega
    have bl : InS b.lo b := by unfold InS; omega
    have bh : InS b.hi b := by unfold InS; omega
    rw [h1, mul_ends hv]
    exact .inr (.inr ⟨rfl, _, _, _, _, arM_lo _ _ _ _, arM_hi _ _ _ _, k _ _ al bl, k _ _ al bh, k _ _ ah bl, k _ _ ah bh⟩)
theorem bun3 {a b : Sp} (ha : vB a = true) (hb : vB b = true) : Bun3 a b (zB b) := by
  refine ⟨(dvM a b).1, (dvM a b).2, Div_any a b, ?_⟩
  rcases hz : zB b with _ | _
  · rw [dv_ch ha hb hz]
    have Hb := vB_iff.1 hb
    have k : ∀ x y, (x = a.lo ∨ x = a.hi) → (y = b.lo ∨ y = b.hi) → ∀ w, Calls Try.prog 31 #[.int .i64 x, .int .i64 y] w (SS (.int .i64 (divF x y)) w) := fun x y hx hy => floorL x y (fitOf ha hx) (fitOf hb hy) (nz hz Hb.2.1 hy)
    exact .inr (.inr ⟨rfl, _, _, _, _, arM_lo _ _ _ _, arM_hi _ _ _ _, rfl, k _ _ (.inl rfl) (.inl rfl), k _ _ (.inl rfl) (.inr rfl), k _ _ (.inr rfl) (.inl rfl), k _ _ (.inr rfl) (.inr rfl)⟩)
  · rw [show dvM a b = (⟨0, 0⟩, 14) from div_z ha hb hz]; exact .inr (.inl rfl)
theorem bun4 {a b : Sp} (ha : vB a = true) (hb : vB b = true) : Bun4 a b (zB b) := by
  refine ⟨(upM a b).1, (upM a b).2, Up_any a b, ?_⟩
  rcases hz : zB b with _ | _
  · rw [up_ch ha hb hz]
    have Ha := vB_iff.1 ha
    have Hb := vB_iff.1 hb
    have k : ∀ x y, (x = a.lo ∨ x = a.hi) → (y = b.lo ∨ y = b.hi) → ∀ w, Calls Try.prog 31 #[.int .i64 (-x), .int .i64 y] w (SS (.int .i64 (divF (-x) y)) w) := fun x y hx hy => floorL (-x) y (by have := fitOf ha hx; unfold Fit at *; rcases hx with rfl | rfl <;> omega) (fitOf hb hy) (nz hz Hb.2.1 hy)
    have j : ∀ x y, (x = a.lo ∨ x = a.hi) → (y = b.lo ∨ y = b.hi) → IntKind.i64.wrap (-(divF (-x) y)) = upF x y := fun x y hx hy => by
      have := divF_bd (x := -x) (y := y) (by rcases hx with rfl | rfl <;> omega) (nz hz Hb.2.1 hy)
      exact IntWalk.i64_in _ (by omega)
    exact .inr (.inr ⟨rfl, _, _, _, _, _, _, _, _, _, _, arM_lo _ _ _ _, arM_hi _ _ _ _, rfl, IntWalk.i64_in _ (by omega), IntWalk.i64_in _ (by omega), k _ _ (.inl rfl) (.inl rfl), k _ _ (.inl rfl) (.inr rfl), k _ _ (.inr rfl) (.inl rfl), k _ _ (.inr rfl) (.inr rfl), j _ _ (.inl rfl) (.inl rfl), j _ _ (.inl rfl) (.inr rfl), j _ _ (.inr rfl) (.inl rfl), j _ _ (.inr rfl) (.inr rfl)⟩)
  · rw [show upM a b = (⟨0, 0⟩, 14) from div_z ha hb hz]; exact .inr (.inl rfl)
theorem least_any (a b : Sp) (w : World) : Calls Try.prog 5 #[sv a, sv b] w (BB true w) := by
  rcases h : (vB a && vB b) with _ | _
  · exact least_bad a b h w
  · simp only [Bool.and_eq_true] at h
    obtain ⟨ha, hb⟩ := h
    exact least_ok a b (fun w => by have := RValid_any a w; rw [ha] at this; exact this) (fun w => by have := RValid_any b w; rw [hb] at this; exact this) (bun0 ha hb) (bun1 ha hb) (bun2 ha hb) (bun3 ha hb) (bun4 ha hb) w
end Go.Proofs.Ytiijplgaikdioaa
