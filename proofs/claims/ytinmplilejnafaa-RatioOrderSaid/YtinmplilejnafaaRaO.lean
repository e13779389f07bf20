/- Law package 12: RatioOrder. -/
import Derived.Test.YtinmplilejnafaaRaG
namespace Go.Proofs.Ytinmplilejnafaa
open Go.RowKit
set_option linter.unusedVariables false
set_option linter.unusedSimpArgs false
set_option maxHeartbeats 8000000 in
set_option maxRecDepth 100000 in
theorem order_bad0 (a b c : Q) (hVa : Hid (∀ w, Calls Try.prog 24 #[qv a] w (BB false w))) (w : World) : Calls Try.prog 7 #[qv a, qv b, qv c] w (BB true w) := by
  go_enter Try.func7, Try.ntmps7
  have HW := Lib.hid (Below.refl w.heap.size w)
  go_upto_region 2 with (go_at_call 10; refine (head_any _).mono ?_; rintro e wn ⟨rfl, hbn⟩; obtain ⟨HA, HB, HC⟩ := three2 hbn; have HA := Lib.hid HA; have HB := Lib.hid HB; have HC := Lib.hid HC; replace HW := Lib.hid (bCall (by (repeat with_reducible first | exact HW.out | apply bDrew | apply bAlloc)) hbn); clear hbn)
  have A0 := (cells2 HA.out).1.1
  have A1 := (cells2 HA.out).1.2
  have A2 := (cells2 HA.out).2.1
  have A3 := (cells2 HA.out).2.2
  have Al := blkLt HA.out
  have B0 := (cells2 HB.out).1.1
  have B1 := (cells2 HB.out).1.2
  have B2 := (cells2 HB.out).2.1
  have B3 := (cells2 HB.out).2.2
  have Bl := blkLt HB.out
  have C0 := (cells2 HC.out).1.1
  have C1 := (cells2 HC.out).1.2
  have C2 := (cells2 HC.out).2.1
  have C3 := (cells2 HC.out).2.2
  have Cl := blkLt HC.out
  go_wp2_with (first
    | (go_at_call_of 24 (Value.agg #[Value.int IntKind.i64 a.n, Value.int IntKind.i64 a.d]); refine (hVa.out _).mono ?_; rintro e wn ⟨rfl, hbn⟩; replace HW := Lib.hid (bCall (by (repeat with_reducible first | exact HW.out | apply bDrew | apply bAlloc)) hbn); replace HA := Lib.hid (moveX (by (repeat with_reducible first | exact Below.refl _ _ | apply bDrew | apply bAlloc)) hbn HA.out); replace HB := Lib.hid (moveX (by (repeat with_reducible first | exact Below.refl _ _ | apply bDrew | apply bAlloc)) hbn HB.out); replace HC := Lib.hid (moveX (by (repeat with_reducible first | exact Below.refl _ _ | apply bDrew | apply bAlloc)) hbn HC.out); replace A0 := (cells2 HA.out).1.1; replace A1 := (cells2 HA.out).1.2; replace A2 := (cells2 HA.out).2.1; replace A3 := (cells2 HA.out).2.2; replace Al := blkLt HA.out; replace B0 := (cells2 HB.out).1.1; replace B1 := (cells2 HB.out).1.2; replace B2 := (cells2 HB.out).2.1; replace B3 := (cells2 HB.out).2.2; replace Bl := blkLt HB.out; replace C0 := (cells2 HC.out).1.1; replace C1 := (cells2 HC.out).1.2; replace C2 := (cells2 HC.out).2.1; replace C3 := (cells2 HC.out).2.2; replace Cl := blkLt HC.out; clear hbn))
  go_ret
  exact ⟨rfl, HW.out⟩
set_option maxHeartbeats 8000000 in
set_option maxRecDepth 100000 in
theorem order_bad1 (a b c : Q) (hVa : Hid (∀ w, Calls Try.prog 24 #[qv a] w (BB true w))) (hVb : Hid (∀ w, Calls Try.prog 24 #[qv b] w (BB false w))) (w : World) : Calls Try.prog 7 #[qv a, qv b, qv c] w (BB true w) := by
  go_enter Try.func7, Try.ntmps7
  have HW := Lib.hid (Below.refl w.heap.size w)
  go_upto_region 2 with (go_at_call 10; refine (head_any _).mono ?_; rintro e wn ⟨rfl, hbn⟩; obtain ⟨HA, HB, HC⟩ := three2 hbn; have HA := Lib.hid HA; have HB := Lib.hid HB; have HC := Lib.hid HC; replace HW := Lib.hid (bCall (by (repeat with_reducible first | exact HW.out | apply bDrew | apply bAlloc)) hbn); clear hbn)
  have A0 := (cells2 HA.out).1.1
  have A1 := (cells2 HA.out).1.2
  have A2 := (cells2 HA.out).2.1
  have A3 := (cells2 HA.out).2.2
  have Al := blkLt HA.out
  have B0 := (cells2 HB.out).1.1
  have B1 := (cells2 HB.out).1.2
  have B2 := (cells2 HB.out).2.1
  have B3 := (cells2 HB.out).2.2
  have Bl := blkLt HB.out
  have C0 := (cells2 HC.out).1.1
  have C1 := (cells2 HC.out).1.2
  have C2 := (cells2 HC.out).2.1
  have C3 := (cells2 HC.out).2.2
  have Cl := blkLt HC.out
  go_wp2_with (first
    | (go_at_call_of 24 (Value.agg #[Value.int IntKind.i64 a.n, Value.int IntKind.i64 a.d]); refine (hVa.out _).mono ?_; rintro e wn ⟨rfl, hbn⟩; replace HW := Lib.hid (bCall (by (repeat with_reducible first | exact HW.out | apply bDrew | apply bAlloc)) hbn); replace HA := Lib.hid (moveX (by (repeat with_reducible first | exact Below.refl _ _ | apply bDrew | apply bAlloc)) hbn HA.out); replace HB := Lib.hid (moveX (by (repeat with_reducible first | exact Below.refl _ _ | apply bDrew | apply bAlloc)) hbn HB.out); replace HC := Lib.hid (moveX (by (repeat with_reducible first | exact Below.refl _ _ | apply bDrew | apply bAlloc)) hbn HC.out); replace A0 := (cells2 HA.out).1.1; replace A1 := (cells2 HA.out).1.2; replace A2 := (cells2 HA.out).2.1; replace A3 := (cells2 HA.out).2.2; replace Al := blkLt HA.out; replace B0 := (cells2 HB.out).1.1; replace B1 := (cells2 HB.out).1.2; replace B2 := (cells2 HB.out).2.1; replace B3 := (cells2 HB.out).2.2; replace Bl := blkLt HB.out; replace C0 := (cells2 HC.out).1.1; replace C1 := (cells2 HC.out).1.2; replace C2 := (cells2 HC.out).2.1; replace C3 := (cells2 HC.out).2.2; replace Cl := blkLt HC.out; clear hbn)
    | (go_at_call_of 24 (Value.agg #[Value.int IntKind.i64 b.n, Value.int IntKind.i64 b.d]); refine (hVb.out _).mono ?_; rintro e wn ⟨rfl, hbn⟩; replace HW := Lib.hid (bCall (by (repeat with_reducible first | exact HW.out | apply bDrew | apply bAlloc)) hbn); replace HA := Lib.hid (moveX (by (repeat with_reducible first | exact Below.refl _ _ | apply bDrew | apply bAlloc)) hbn HA.out); replace HB := Lib.hid (moveX (by (repeat with_reducible first | exact Below.refl _ _ | apply bDrew | apply bAlloc)) hbn HB.out); replace HC := Lib.hid (moveX (by (repeat with_reducible first | exact Below.refl _ _ | apply bDrew | apply bAlloc)) hbn HC.out); replace A0 := (cells2 HA.out).1.1; replace A1 := (cells2 HA.out).1.2; replace A2 := (cells2 HA.out).2.1; replace A3 := (cells2 HA.out).2.2; replace Al := blkLt HA.out; replace B0 := (cells2 HB.out).1.1; replace B1 := (cells2 HB.out).1.2; replace B2 := (cells2 HB.out).2.1; replace B3 := (cells2 HB.out).2.2; replace Bl := blkLt HB.out; replace C0 := (cells2 HC.out).1.1; replace C1 := (cells2 HC.out).1.2; replace C2 := (cells2 HC.out).2.1; replace C3 := (cells2 HC.out).2.2; replace Cl := blkLt HC.out; clear hbn))
  go_ret
  exact ⟨rfl, HW.out⟩
set_option maxHeartbeats 8000000 in
set_option maxRecDepth 100000 in
theorem order_bad2 (a b c : Q) (hVa : Hid (∀ w, Calls Try.prog 24 #[qv a] w (BB true w))) (hVb : Hid (∀ w, Calls Try.prog 24 #[qv b] w (BB true w))) (hVc : Hid (∀ w, Calls Try.prog 24 #[qv c] w (BB false w))) (w : World) : Calls Try.prog 7 #[qv a, qv b, qv c] w (BB true w) := by
  go_enter Try.func7, Try.ntmps7
  have HW := Lib.hid (Below.refl w.heap.size w)
  go_upto_region 2 with (go_at_call 10; refine (head_any _).mono ?_; rintro e wn ⟨rfl, hbn⟩; obtain ⟨HA, HB, HC⟩ := three2 hbn; have HA := Lib.hid HA; have HB := Lib.hid HB; have HC := Lib.hid HC; replace HW := Lib.hid (bCall (by (repeat with_reducible first | exact HW.out | apply bDrew | apply bAlloc)) hbn); clear hbn)
  have A0 := (cells2 HA.out).1.1
  have A1 := (cells2 HA.out).1.2
  have A2 := (cells2 HA.out).2.1
  have A3 := (cells2 HA.out).2.2
  have Al := blkLt HA.out
  have B0 := (cells2 HB.out).1.1
  have B1 := (cells2 HB.out).1.2
  have B2 := (cells2 HB.out).2.1
  have B3 := (cells2 HB.out).2.2
  have Bl := blkLt HB.out
  have C0 := (cells2 HC.out).1.1
  have C1 := (cells2 HC.out).1.2
  have C2 := (cells2 HC.out).2.1
  have C3 := (cells2 HC.out).2.2
  have Cl := blkLt HC.out
  go_wp2_with (first
    | (go_at_call_of 24 (Value.agg #[Value.int IntKind.i64 a.n, Value.int IntKind.i64 a.d]); refine (hVa.out _).mono ?_; rintro e wn ⟨rfl, hbn⟩; replace HW := Lib.hid (bCall (by (repeat with_reducible first | exact HW.out | apply bDrew | apply bAlloc)) hbn); replace HA := Lib.hid (moveX (by (repeat with_reducible first | exact Below.refl _ _ | apply bDrew | apply bAlloc)) hbn HA.out); replace HB := Lib.hid (moveX (by (repeat with_reducible first | exact Below.refl _ _ | apply bDrew | apply bAlloc)) hbn HB.out); replace HC := Lib.hid (moveX (by (repeat with_reducible first | exact Below.refl _ _ | apply bDrew | apply bAlloc)) hbn HC.out); replace A0 := (cells2 HA.out).1.1; replace A1 := (cells2 HA.out).1.2; replace A2 := (cells2 HA.out).2.1; replace A3 := (cells2 HA.out).2.2; replace Al := blkLt HA.out; replace B0 := (cells2 HB.out).1.1; replace B1 := (cells2 HB.out).1.2; replace B2 := (cells2 HB.out).2.1; replace B3 := (cells2 HB.out).2.2; replace Bl := blkLt HB.out; replace C0 := (cells2 HC.out).1.1; replace C1 := (cells2 HC.out).1.2; replace C2 := (cells2 HC.out).2.1; replace C3 := (cells2 HC.out).2.2; replace Cl := blkLt HC.out; clear hbn)
    | (go_at_call_of 24 (Value.agg #[Value.int IntKind.i64 b.n, Value.int IntKind.i64 b.d]); refine (hVb.out _).mono ?_; rintro e wn ⟨rfl, hbn⟩; replace HW := Lib.hid (bCall (by (repeat with_reducible first | exact HW.out | apply bDrew | apply bAlloc)) hbn); replace HA := Lib.hid (moveX (by (repeat with_reducible first | exact Below.refl _ _ | apply bDrew | apply bAlloc)) hbn HA.out); replace HB := Lib.hid (moveX (by (repeat with_reducible first | exact Below.refl _ _ | apply bDrew | apply bAlloc)) hbn HB.out); replace HC := Lib.hid (moveX (by (repeat with_reducible first | exact Below.refl _ _ | apply bDrew | apply bAlloc)) hbn HC.out); replace A0 := (cells2 HA.out).1.1; replace A1 := (cells2 HA.out).1.2; replace A2 := (cells2 HA.out).2.1; replace A3 := (cells2 HA.out).2.2; replace Al := blkLt HA.out; replace B0 := (cells2 HB.out).1.1; replace B1 := (cells2 HB.out).1.2; replace B2 := (cells2 HB.out).2.1; replace B3 := (cells2 HB.out).2.2; replace Bl := blkLt HB.out; replace C0 := (cells2 HC.out).1.1; replace C1 := (cells2 HC.out).1.2; replace C2 := (cells2 HC.out).2.1; replace C3 := (cells2 HC.out).2.2; replace Cl := blkLt HC.out; clear hbn)
    | (go_at_call_of 24 (Value.agg #[Value.int IntKind.i64 c.n, Value.int IntKind.i64 c.d]); refine (hVc.out _).mono ?_; rintro e wn ⟨rfl, hbn⟩; replace HW := Lib.hid (bCall (by (repeat with_reducible first | exact HW.out | apply bDrew | apply bAlloc)) hbn); replace HA := Lib.hid (moveX (by (repeat with_reducible first | exact Below.refl _ _ | apply bDrew | apply bAlloc)) hbn HA.out); replace HB := Lib.hid (moveX (by (repeat with_reducible first | exact Below.refl _ _ | apply bDrew | apply bAlloc)) hbn HB.out); replace HC := Lib.hid (moveX (by (repeat with_reducible first | exact Below.refl _ _ | apply bDrew | apply bAlloc)) hbn HC.out); replace A0 := (cells2 HA.out).1.1; replace A1 := (cells2 HA.out).1.2; replace A2 := (cells2 HA.out).2.1; replace A3 := (cells2 HA.out).2.2; replace Al := blkLt HA.out; replace B0 := (cells2 HB.out).1.1; replace B1 := (cells2 HB.out).1.2; replace B2 := (cells2 HB.out).2.1; replace B3 := (cells2 HB.out).2.2; replace Bl := blkLt HB.out; replace C0 := (cells2 HC.out).1.1; replace C1 := (cells2 HC.out).1.2; replace C2 := (cells2 HC.out).2.1; replace C3 := (cells2 HC.out).2.2; replace Cl := blkLt HC.out; clear hbn))
  go_ret
  exact ⟨rfl, HW.out⟩
set_option maxHeartbeats 8000000 in
set_option maxRecDepth 100000 in
theorem order_go (a b c s t : Q) (m n u v dn dd i j k q x : Int) (r : Bool)
    (hVa : Hid (∀ w, Calls Try.prog 24 #[qv a] w (BB true w)))
    (hVb : Hid (∀ w, Calls Try.prog 24 #[qv b] w (BB true w)))
    (hVc : Hid (∀ w, Calls Try.prog 24 #[qv c] w (BB true w)))
    (hC1 : Hid (∀ w, Calls Try.prog 21 #[qv a, qv b] w (VV (.tuple #[.int .i64 m, .int .i64 0]) w)))
    (hC2 : Hid (∀ w, Calls Try.prog 21 #[qv b, qv a] w (VV (.tuple #[.int .i64 n, .int .i64 0]) w)))
    (hC3 : Hid (∀ w, Calls Try.prog 21 #[qv b, qv c] w (VV (.tuple #[.int .i64 u, .int .i64 0]) w)))
    (hC4 : Hid (∀ w, Calls Try.prog 21 #[qv a, qv c] w (VV (.tuple #[.int .i64 v, .int .i64 0]) w)))
    (hSu : Hid (∀ w, Calls Try.prog 15 #[qv a, qv b] w (VV (.tuple #[qv ⟨dn, dd⟩, .int .i64 i]) w)))
    (hA1 : Hid (∀ w, Calls Try.prog 13 #[qv a, qv c] w (VV (.tuple #[qv s, .int .i64 j]) w)))
    (hA2 : Hid (∀ w, Calls Try.prog 13 #[qv b, qv c] w (VV (.tuple #[qv t, .int .i64 k]) w)))
    (hC5 : Hid (∀ w, Calls Try.prog 21 #[qv s, qv t] w (VV (.tuple #[.int .i64 q, .int .i64 x]) w)))
    (qn : IntKind.i64.wrap (-n) = m)
    (hr : Hid ((m = -1 ∧ r = false) ∨ (m = 0 ∧ r = true) ∨ (m = 1 ∧ r = false)))
    (hz : Hid (∀ w, (Op.equalIn 10000 23 (.agg #[.int .i64 a.n, .int .i64 a.d]) (.agg #[.int .i64 b.n, .int .i64 b.d])).run Try.prog w = .ok r w))
    (htr : Hid (0 < m ∨ 0 < u ∨ (u ≤ 0 ∧ v ≤ 0)))
    (hd : Hid (i = 0 → (0 < dn ∧ m = 1) ∨ (dn = 0 ∧ m = 0) ∨ (dn < 0 ∧ m = -1)))
    (he : Hid (j = 0 → k = 0 → x = 0 ∧ q = m)) (w : World) : Calls Try.prog 7 #[qv a, qv b, qv c] w (BB true w) := by
  go_enter Try.func7, Try.ntmps7
  have HW := Lib.hid (Below.refl w.heap.size w)
  go_upto_region 2 with (go_at_call 10; refine (head_any _).mono ?_; rintro e wn ⟨rfl, hbn⟩; obtain ⟨HA, HB, HC⟩ := three2 hbn; have HA := Lib.hid HA; have HB := Lib.hid HB; have HC := Lib.hid HC; replace HW := Lib.hid (bCall (by (repeat with_reducible first | exact HW.out | apply bDrew | apply bAlloc)) hbn); clear hbn)
  have A0 := (cells2 HA.out).1.1
  have A1 := (cells2 HA.out).1.2
  have A2 := (cells2 HA.out).2.1
  have A3 := (cells2 HA.out).2.2
  have Al := blkLt HA.out
  have B0 := (cells2 HB.out).1.1
  have B1 := (cells2 HB.out).1.2
  have B2 := (cells2 HB.out).2.1
  have B3 := (cells2 HB.out).2.2
  have Bl := blkLt HB.out
  have C0 := (cells2 HC.out).1.1
  have C1 := (cells2 HC.out).1.2
  have C2 := (cells2 HC.out).2.1
  have C3 := (cells2 HC.out).2.2
  have Cl := blkLt HC.out
  go_upto_region 4 with (first
      | (go_at_call_of 24 (Value.agg #[Value.int IntKind.i64 a.n, Value.int IntKind.i64 a.d]); refine (hVa.out _).mono ?_; rintro e wn ⟨rfl, hbn⟩; replace HW := Lib.hid (bCall (by (repeat with_reducible first | exact HW.out | apply bDrew | apply bAlloc)) hbn); replace HA := Lib.hid (moveX (by (repeat with_reducible first | exact Below.refl _ _ | apply bDrew | apply bAlloc)) hbn HA.out); replace HB := Lib.hid (moveX (by (repeat with_reducible first | exact Below.refl _ _ | apply bDrew | apply bAlloc)) hbn HB.out); replace HC := Lib.hid (moveX (by (repeat with_reducible first | exact Below.refl _ _ | apply bDrew | apply bAlloc)) hbn HC.out); replace A0 := (cells2 HA.out).1.1; replace A1 := (cells2 HA.out).1.2; replace A2 := (cells2 HA.out).2.1; replace A3 := (cells2 HA.out).2.2; replace Al := blkLt HA.out; replace B0 := (cells2 HB.out).1.1; replace B1 := (cells2 HB.out).1.2; replace B2 := (cells2 HB.out).2.1; replace B3 := (cells2 HB.out).2.2; replace Bl := blkLt HB.out; replace C0 := (cells2 HC.out).1.1; replace C1 := (cells2 HC.out).1.2; replace C2 := (cells2 HC.out).2.1; replace C3 := (cells2 HC.out).2.2; replace Cl := blkLt HC.out; clear hbn)
      | (go_at_call_of 24 (Value.agg #[Value.int IntKind.i64 b.n, Value.int IntKind.i64 b.d]); refine (hVb.out _).mono ?_; rintro e wn ⟨rfl, hbn⟩; replace HW := Lib.hid (bCall (by (repeat with_reducible first | exact HW.out | apply bDrew | apply bAlloc)) hbn); replace HA := Lib.hid (moveX (by (repeat with_reducible first | exact Below.refl _ _ | apply bDrew | apply bAlloc)) hbn HA.out); replace HB := Lib.hid (moveX (by (repeat with_reducible first | exact Below.refl _ _ | apply bDrew | apply bAlloc)) hbn HB.out); replace HC := Lib.hid (moveX (by (repeat with_reducible first | exact Below.refl _ _ | apply bDrew | apply bAlloc)) hbn HC.out); replace A0 := (cells2 HA.out).1.1; replace A1 := (cells2 HA.out).1.2; replace A2 := (cells2 HA.out).2.1; replace A3 := (cells2 HA.out).2.2; replace Al := blkLt HA.out; replace B0 := (cells2 HB.out).1.1; replace B1 := (cells2 HB.out).1.2; replace B2 := (cells2 HB.out).2.1; replace B3 := (cells2 HB.out).2.2; replace Bl := blkLt HB.out; replace C0 := (cells2 HC.out).1.1; replace C1 := (cells2 HC.out).1.2; replace C2 := (cells2 HC.out).2.1; replace C3 := (cells2 HC.out).2.2; replace Cl := blkLt HC.out; clear hbn)
      | (go_at_call_of 24 (Value.agg #[Value.int IntKind.i64 c.n, Value.int IntKind.i64 c.d]); refine (hVc.out _).mono ?_; rintro e wn ⟨rfl, hbn⟩; replace HW := Lib.hid (bCall (by (repeat with_reducible first | exact HW.out | apply bDrew | apply bAlloc)) hbn); replace HA := Lib.hid (moveX (by (repeat with_reducible first | exact Below.refl _ _ | apply bDrew | apply bAlloc)) hbn HA.out); replace HB := Lib.hid (moveX (by (repeat with_reducible first | exact Below.refl _ _ | apply bDrew | apply bAlloc)) hbn HB.out); replace HC := Lib.hid (moveX (by (repeat with_reducible first | exact Below.refl _ _ | apply bDrew | apply bAlloc)) hbn HC.out); replace A0 := (cells2 HA.out).1.1; replace A1 := (cells2 HA.out).1.2; replace A2 := (cells2 HA.out).2.1; replace A3 := (cells2 HA.out).2.2; replace Al := blkLt HA.out; replace B0 := (cells2 HB.out).1.1; replace B1 := (cells2 HB.out).1.2; replace B2 := (cells2 HB.out).2.1; replace B3 := (cells2 HB.out).2.2; replace Bl := blkLt HB.out; replace C0 := (cells2 HC.out).1.1; replace C1 := (cells2 HC.out).1.2; replace C2 := (cells2 HC.out).2.1; replace C3 := (cells2 HC.out).2.2; replace Cl := blkLt HC.out; clear hbn))
  clear hVa hVb hVc A0 A1 A2 A3 Al B0 B1 B2 B3 Bl C0 C1 C2 C3 Cl
  go_cut [8, 9] (fun s1 s2 wx => s1 = .int .i64 m ∧ s2 = .int .i64 0 ∧ Hid (wx.heap[w.heap.size]? = some (.cells #[.int .i64 (a.n), .int .i64 (a.d)] 23 (0, 0))) ∧ Hid (wx.heap[w.heap.size + 1]? = some (.cells #[.int .i64 (b.n), .int .i64 (b.d)] 23 (0, 0))) ∧ Hid (wx.heap[w.heap.size + 1 + 1]? = some (.cells #[.int .i64 (c.n), .int .i64 (c.d)] 23 (0, 0))) ∧ Hid (Below w.heap.size w wx))
  case first => as_aux_lemma =>
    have A0 := (cells2 HA.out).1.1
    have A1 := (cells2 HA.out).1.2
    have A2 := (cells2 HA.out).2.1
    have A3 := (cells2 HA.out).2.2
    have Al := blkLt HA.out
    have B0 := (cells2 HB.out).1.1
    have B1 := (cells2 HB.out).1.2
    have B2 := (cells2 HB.out).2.1
    have B3 := (cells2 HB.out).2.2
    have Bl := blkLt HB.out
    have C0 := (cells2 HC.out).1.1
    have C1 := (cells2 HC.out).1.2
    have C2 := (cells2 HC.out).2.1
    have C3 := (cells2 HC.out).2.2
    have Cl := blkLt HC.out
    go_wp2_with (go_at_call 21; refine (hC1.out _).mono ?_; rintro e wn ⟨rfl, hbn⟩; replace HW := Lib.hid (bCall (by (repeat with_reducible first | exact HW.out | apply bDrew | apply bAlloc)) hbn); replace HA := Lib.hid (moveX (by (repeat with_reducible first | exact Below.refl _ _ | apply bDrew | apply bAlloc)) hbn HA.out); replace HB := Lib.hid (moveX (by (repeat with_reducible first | exact Below.refl _ _ | apply bDrew | apply bAlloc)) hbn HB.out); replace HC := Lib.hid (moveX (by (repeat with_reducible first | exact Below.refl _ _ | apply bDrew | apply bAlloc)) hbn HC.out); replace A0 := (cells2 HA.out).1.1; replace A1 := (cells2 HA.out).1.2; replace A2 := (cells2 HA.out).2.1; replace A3 := (cells2 HA.out).2.2; replace Al := blkLt HA.out; replace B0 := (cells2 HB.out).1.1; replace B1 := (cells2 HB.out).1.2; replace B2 := (cells2 HB.out).2.1; replace B3 := (cells2 HB.out).2.2; replace Bl := blkLt HB.out; replace C0 := (cells2 HC.out).1.1; replace C1 := (cells2 HC.out).1.2; replace C2 := (cells2 HC.out).2.1; replace C3 := (cells2 HC.out).2.2; replace Cl := blkLt HC.out; clear hbn)
    go_meet
    exact ⟨rfl, rfl, HA, HB, HC, HW⟩
  case rest => as_aux_lemma =>
    clear HW HA HB HC
    obtain ⟨rfl, rfl, HA, HB, HC, HW⟩ := hcut
    go_upto_region 5 with fail
    go_cut [10, 11] (fun s1 s2 wx => s1 = .int .i64 n ∧ s2 = .int .i64 0 ∧ Hid (wx.heap[w.heap.size]? = some (.cells #[.int .i64 (a.n), .int .i64 (a.d)] 23 (0, 0))) ∧ Hid (wx.heap[w.heap.size + 1]? = some (.cells #[.int .i64 (b.n), .int .i64 (b.d)] 23 (0, 0))) ∧ Hid (wx.heap[w.heap.size + 1 + 1]? = some (.cells #[.int .i64 (c.n), .int .i64 (c.d)] 23 (0, 0))) ∧ Hid (Below w.heap.size w wx))
    case first => as_aux_lemma =>
      have A0 := (cells2 HA.out).1.1
      have A1 := (cells2 HA.out).1.2
      have A2 := (cells2 HA.out).2.1
      have A3 := (cells2 HA.out).2.2
      have Al := blkLt HA.out
      have B0 := (cells2 HB.out).1.1
      have B1 := (cells2 HB.out).1.2
      have B2 := (cells2 HB.out).2.1
      have B3 := (cells2 HB.out).2.2
      have Bl := blkLt HB.out
      have C0 := (cells2 HC.out).1.1
      have C1 := (cells2 HC.out).1.2
      have C2 := (cells2 HC.out).2.1
      have C3 := (cells2 HC.out).2.2
      have Cl := blkLt HC.out
      go_wp2_with (go_at_call 21; refine (hC2.out _).mono ?_; rintro e wn ⟨rfl, hbn⟩; replace HW := Lib.hid (bCall (by (repeat with_reducible first | exact HW.out | apply bDrew | apply bAlloc)) hbn); replace HA := Lib.hid (moveX (by (repeat with_reducible first | exact Below.refl _ _ | apply bDrew | apply bAlloc)) hbn HA.out); replace HB := Lib.hid (moveX (by (repeat with_reducible first | exact Below.refl _ _ | apply bDrew | apply bAlloc)) hbn HB.out); replace HC := Lib.hid (moveX (by (repeat with_reducible first | exact Below.refl _ _ | apply bDrew | apply bAlloc)) hbn HC.out); replace A0 := (cells2 HA.out).1.1; replace A1 := (cells2 HA.out).1.2; replace A2 := (cells2 HA.out).2.1; replace A3 := (cells2 HA.out).2.2; replace Al := blkLt HA.out; replace B0 := (cells2 HB.out).1.1; replace B1 := (cells2 HB.out).1.2; replace B2 := (cells2 HB.out).2.1; replace B3 := (cells2 HB.out).2.2; replace Bl := blkLt HB.out; replace C0 := (cells2 HC.out).1.1; replace C1 := (cells2 HC.out).1.2; replace C2 := (cells2 HC.out).2.1; replace C3 := (cells2 HC.out).2.2; replace Cl := blkLt HC.out; clear hbn)
      go_meet
      exact ⟨rfl, rfl, HA, HB, HC, HW⟩
    case rest => as_aux_lemma =>
      clear HW HA HB HC
      obtain ⟨rfl, rfl, HA, HB, HC, HW⟩ := hcut
      go_upto_region 6 with fail
      go_cut [12, 13] (fun s1 s2 wx => s1 = .int .i64 u ∧ s2 = .int .i64 0 ∧ Hid (wx.heap[w.heap.size]? = some (.cells #[.int .i64 (a.n), .int .i64 (a.d)] 23 (0, 0))) ∧ Hid (wx.heap[w.heap.size + 1]? = some (.cells #[.int .i64 (b.n), .int .i64 (b.d)] 23 (0, 0))) ∧ Hid (wx.heap[w.heap.size + 1 + 1]? = some (.cells #[.int .i64 (c.n), .int .i64 (c.d)] 23 (0, 0))) ∧ Hid (Below w.heap.size w wx))
      case first => as_aux_lemma =>
        have A0 := (cells2 HA.out).1.1
        have A1 := (cells2 HA.out).1.2
        have A2 := (cells2 HA.out).2.1
        have A3 := (cells2 HA.out).2.2
        have Al := blkLt HA.out
        have B0 := (cells2 HB.out).1.1
        have B1 := (cells2 HB.out).1.2
        have B2 := (cells2 HB.out).2.1
        have B3 := (cells2 HB.out).2.2
        have Bl := blkLt HB.out
        have C0 := (cells2 HC.out).1.1
        have C1 := (cells2 HC.out).1.2
        have C2 := (cells2 HC.out).2.1
        have C3 := (cells2 HC.out).2.2
        have Cl := blkLt HC.out
        go_wp2_with (go_at_call 21; refine (hC3.out _).mono ?_; rintro e wn ⟨rfl, hbn⟩; replace HW := Lib.hid (bCall (by (repeat with_reducible first | exact HW.out | apply bDrew | apply bAlloc)) hbn); replace HA := Lib.hid (moveX (by (repeat with_reducible first | exact Below.refl _ _ | apply bDrew | apply bAlloc)) hbn HA.out); replace HB := Lib.hid (moveX (by (repeat with_reducible first | exact Below.refl _ _ | apply bDrew | apply bAlloc)) hbn HB.out); replace HC := Lib.hid (moveX (by (repeat with_reducible first | exact Below.refl _ _ | apply bDrew | apply bAlloc)) hbn HC.out); replace A0 := (cells2 HA.out).1.1; replace A1 := (cells2 HA.out).1.2; replace A2 := (cells2 HA.out).2.1; replace A3 := (cells2 HA.out).2.2; replace Al := blkLt HA.out; replace B0 := (cells2 HB.out).1.1; replace B1 := (cells2 HB.out).1.2; replace B2 := (cells2 HB.out).2.1; replace B3 := (cells2 HB.out).2.2; replace Bl := blkLt HB.out; replace C0 := (cells2 HC.out).1.1; replace C1 := (cells2 HC.out).1.2; replace C2 := (cells2 HC.out).2.1; replace C3 := (cells2 HC.out).2.2; replace Cl := blkLt HC.out; clear hbn)
        go_meet
        exact ⟨rfl, rfl, HA, HB, HC, HW⟩
      case rest => as_aux_lemma =>
        clear HW HA HB HC
        obtain ⟨rfl, rfl, HA, HB, HC, HW⟩ := hcut
        go_upto_region 7 with fail
        go_cut [14, 15] (fun s1 s2 wx => s1 = .int .i64 v ∧ s2 = .int .i64 0 ∧ Hid (wx.heap[w.heap.size]? = some (.cells #[.int .i64 (a.n), .int .i64 (a.d)] 23 (0, 0))) ∧ Hid (wx.heap[w.heap.size + 1]? = some (.cells #[.int .i64 (b.n), .int .i64 (b.d)] 23 (0, 0))) ∧ Hid (wx.heap[w.heap.size + 1 + 1]? = some (.cells #[.int .i64 (c.n), .int .i64 (c.d)] 23 (0, 0))) ∧ Hid (Below w.heap.size w wx))
        case first => as_aux_lemma =>
          have A0 := (cells2 HA.out).1.1
          have A1 := (cells2 HA.out).1.2
          have A2 := (cells2 HA.out).2.1
          have A3 := (cells2 HA.out).2.2
          have Al := blkLt HA.out
          have B0 := (cells2 HB.out).1.1
          have B1 := (cells2 HB.out).1.2
          have B2 := (cells2 HB.out).2.1
          have B3 := (cells2 HB.out).2.2
          have Bl := blkLt HB.out
          have C0 := (cells2 HC.out).1.1
          have C1 := (cells2 HC.out).1.2
          have C2 := (cells2 HC.out).2.1
          have C3 := (cells2 HC.out).2.2
          have Cl := blkLt HC.out
          go_wp2_with (go_at_call 21; refine (hC4.out _).mono ?_; rintro e wn ⟨rfl, hbn⟩; replace HW := Lib.hid (bCall (by (repeat with_reducible first | exact HW.out | apply bDrew | apply bAlloc)) hbn); replace HA := Lib.hid (moveX (by (repeat with_reducible first | exact Below.refl _ _ | apply bDrew | apply bAlloc)) hbn HA.out); replace HB := Lib.hid (moveX (by (repeat with_reducible first | exact Below.refl _ _ | apply bDrew | apply bAlloc)) hbn HB.out); replace HC := Lib.hid (moveX (by (repeat with_reducible first | exact Below.refl _ _ | apply bDrew | apply bAlloc)) hbn HC.out); replace A0 := (cells2 HA.out).1.1; replace A1 := (cells2 HA.out).1.2; replace A2 := (cells2 HA.out).2.1; replace A3 := (cells2 HA.out).2.2; replace Al := blkLt HA.out; replace B0 := (cells2 HB.out).1.1; replace B1 := (cells2 HB.out).1.2; replace B2 := (cells2 HB.out).2.1; replace B3 := (cells2 HB.out).2.2; replace Bl := blkLt HB.out; replace C0 := (cells2 HC.out).1.1; replace C1 := (cells2 HC.out).1.2; replace C2 := (cells2 HC.out).2.1; replace C3 := (cells2 HC.out).2.2; replace Cl := blkLt HC.out; clear hbn)
          go_meet
          exact ⟨rfl, rfl, HA, HB, HC, HW⟩
        case rest => as_aux_lemma =>
          clear HW HA HB HC
          obtain ⟨rfl, rfl, HA, HB, HC, HW⟩ := hcut
          clear hC1 hC2 hC3 hC4
          go_upto_region 8 with fail
          go_cut [7] (fun s1 wx => s1 = .bool true ∧ Hid (wx.heap[w.heap.size]? = some (.cells #[.int .i64 (a.n), .int .i64 (a.d)] 23 (0, 0))) ∧ Hid (wx.heap[w.heap.size + 1]? = some (.cells #[.int .i64 (b.n), .int .i64 (b.d)] 23 (0, 0))) ∧ Hid (wx.heap[w.heap.size + 1 + 1]? = some (.cells #[.int .i64 (c.n), .int .i64 (c.d)] 23 (0, 0))) ∧ Hid (Below w.heap.size w wx))
          case first => as_aux_lemma =>
            clear hSu hA1 hA2 hC5 hd he
            have A0 := (cells2 HA.out).1.1
            have A1 := (cells2 HA.out).1.2
            have A2 := (cells2 HA.out).2.1
            have A3 := (cells2 HA.out).2.2
            have Al := blkLt HA.out
            have B0 := (cells2 HB.out).1.1
            have B1 := (cells2 HB.out).1.2
            have B2 := (cells2 HB.out).2.1
            have B3 := (cells2 HB.out).2.2
            have Bl := blkLt HB.out
            have z := hz.out
            rcases hr.out with ⟨rfl, rfl⟩ | ⟨rfl, rfl⟩ | ⟨rfl, rfl⟩
            · rcases htr.out with ht | ht | ⟨hu, hv⟩
              · omega
              · clear hr hz htr
                go_wp2_with fail
                go_meet
                exact ⟨rfl, HA, HB, HC, HW⟩
              · clear hr hz htr
                go_wp2_with fail
                go_meet
                exact ⟨rfl, HA, HB, HC, HW⟩
            · rcases htr.out with ht | ht | ⟨hu, hv⟩
              · omega
              · clear hr hz htr
                go_wp2_with fail
                go_meet
                exact ⟨rfl, HA, HB, HC, HW⟩
              · clear hr hz htr
                go_wp2_with fail
                go_meet
                exact ⟨rfl, HA, HB, HC, HW⟩
            · clear hr hz htr
              go_wp2_with fail
              go_meet
              exact ⟨rfl, HA, HB, HC, HW⟩
          case rest => as_aux_lemma =>
            clear HW HA HB HC
            obtain ⟨rfl, HA, HB, HC, HW⟩ := hcut
            clear htr hz hr qn
            go_upto_region 9 with fail
            go_cut [16, 17] (fun s1 s2 wx => ∃ bD : Nat, s1 = .pointer (some ⟨bD, 0, none⟩) ∧ s2 = .int .i64 i ∧ Hid (wx.heap[w.heap.size]? = some (.cells #[.int .i64 (a.n), .int .i64 (a.d)] 23 (0, 0))) ∧ Hid (wx.heap[w.heap.size + 1]? = some (.cells #[.int .i64 (b.n), .int .i64 (b.d)] 23 (0, 0))) ∧ Hid (wx.heap[w.heap.size + 1 + 1]? = some (.cells #[.int .i64 (c.n), .int .i64 (c.d)] 23 (0, 0))) ∧ Hid (wx.heap[bD]? = some (.cells #[.int .i64 (dn), .int .i64 (dd)] 23 (0, 0))) ∧ Hid (Below w.heap.size w wx))
            case first => as_aux_lemma =>
              have A0 := (cells2 HA.out).1.1
              have A1 := (cells2 HA.out).1.2
              have A2 := (cells2 HA.out).2.1
              have A3 := (cells2 HA.out).2.2
              have Al := blkLt HA.out
              have B0 := (cells2 HB.out).1.1
              have B1 := (cells2 HB.out).1.2
              have B2 := (cells2 HB.out).2.1
              have B3 := (cells2 HB.out).2.2
              have Bl := blkLt HB.out
              have C0 := (cells2 HC.out).1.1
              have C1 := (cells2 HC.out).1.2
              have C2 := (cells2 HC.out).2.1
              have C3 := (cells2 HC.out).2.2
              have Cl := blkLt HC.out
              go_wp2_with (go_at_call 15; refine (hSu.out _).mono ?_; rintro e wn ⟨rfl, hbn⟩; replace HW := Lib.hid (bCall (by (repeat with_reducible first | exact HW.out | apply bDrew | apply bAlloc)) hbn); replace HA := Lib.hid (moveX (by (repeat with_reducible first | exact Below.refl _ _ | apply bDrew | apply bAlloc)) hbn HA.out); replace HB := Lib.hid (moveX (by (repeat with_reducible first | exact Below.refl _ _ | apply bDrew | apply bAlloc)) hbn HB.out); replace HC := Lib.hid (moveX (by (repeat with_reducible first | exact Below.refl _ _ | apply bDrew | apply bAlloc)) hbn HC.out); replace A0 := (cells2 HA.out).1.1; replace A1 := (cells2 HA.out).1.2; replace A2 := (cells2 HA.out).2.1; replace A3 := (cells2 HA.out).2.2; replace Al := blkLt HA.out; replace B0 := (cells2 HB.out).1.1; replace B1 := (cells2 HB.out).1.2; replace B2 := (cells2 HB.out).2.1; replace B3 := (cells2 HB.out).2.2; replace Bl := blkLt HB.out; replace C0 := (cells2 HC.out).1.1; replace C1 := (cells2 HC.out).1.2; replace C2 := (cells2 HC.out).2.1; replace C3 := (cells2 HC.out).2.2; replace Cl := blkLt HC.out; clear hbn)
              go_meet
              exact ⟨_, rfl, rfl, Lib.hid (mvAlloc HA.out), Lib.hid (mvAlloc HB.out), Lib.hid (mvAlloc HC.out), Lib.hid (newBlk _ _ _ rfl), Lib.hid (bAlloc HW.out)⟩
            case rest => as_aux_lemma =>
              clear HW HA HB HC
              obtain ⟨bD, rfl, rfl, HA, HB, HC, HD, HW⟩ := hcut
              clear hSu
              go_upto_if 121 with fail
              go_cut [7] (fun s1 wx => s1 = .bool true ∧ Hid (wx.heap[w.heap.size]? = some (.cells #[.int .i64 (a.n), .int .i64 (a.d)] 23 (0, 0))) ∧ Hid (wx.heap[w.heap.size + 1]? = some (.cells #[.int .i64 (b.n), .int .i64 (b.d)] 23 (0, 0))) ∧ Hid (wx.heap[w.heap.size + 1 + 1]? = some (.cells #[.int .i64 (c.n), .int .i64 (c.d)] 23 (0, 0))) ∧ Hid (Below w.heap.size w wx))
              case first => as_aux_lemma =>
                clear hA1 hA2 hC5 he
                by_cases hi : i = 0
                · have hdd := hd.out hi
                  clear hd
                  subst hi
                  have D0 := (cells2 HD.out).1.1
                  have D1 := (cells2 HD.out).1.2
                  have D2 := (cells2 HD.out).2.1
                  have D3 := (cells2 HD.out).2.2
                  have Dl := blkLt HD.out
                  rcases hdd with ⟨hp, rfl⟩ | ⟨rfl, rfl⟩ | ⟨hp, rfl⟩
                  · have t1 : decide (dn < 0) = false := by simp; omega
                    go_wp2_with fail
                    go_meet
                    exact ⟨rfl, HA, HB, HC, HW⟩
                  · skip
                    go_wp2_with fail
                    go_meet
                    exact ⟨rfl, HA, HB, HC, HW⟩
                  · have t1 : decide (0 < dn) = false := by simp; omega
                    go_wp2_with fail
                    go_meet
                    exact ⟨rfl, HA, HB, HC, HW⟩
                · clear hd
                  go_wp2_with fail
                  go_meet
                  exact ⟨rfl, HA, HB, HC, HW⟩
              case rest => as_aux_lemma =>
                clear HW HA HB HC HD
                obtain ⟨rfl, HA, HB, HC, HW⟩ := hcut
                clear hd
                go_upto_region 12 with fail
                go_cut [18, 19] (fun s1 s2 wx => ∃ bS : Nat, s1 = .pointer (some ⟨bS, 0, none⟩) ∧ s2 = .int .i64 j ∧ Hid (wx.heap[w.heap.size]? = some (.cells #[.int .i64 (a.n), .int .i64 (a.d)] 23 (0, 0))) ∧ Hid (wx.heap[w.heap.size + 1]? = some (.cells #[.int .i64 (b.n), .int .i64 (b.d)] 23 (0, 0))) ∧ Hid (wx.heap[w.heap.size + 1 + 1]? = some (.cells #[.int .i64 (c.n), .int .i64 (c.d)] 23 (0, 0))) ∧ Hid (wx.heap[bS]? = some (.cells #[.int .i64 (s.n), .int .i64 (s.d)] 23 (0, 0))) ∧ Hid (Below w.heap.size w wx))
                case first => as_aux_lemma =>
                  have A0 := (cells2 HA.out).1.1
                  have A1 := (cells2 HA.out).1.2
                  have A2 := (cells2 HA.out).2.1
                  have A3 := (cells2 HA.out).2.2
                  have Al := blkLt HA.out
                  have B0 := (cells2 HB.out).1.1
                  have B1 := (cells2 HB.out).1.2
                  have B2 := (cells2 HB.out).2.1
                  have B3 := (cells2 HB.out).2.2
                  have Bl := blkLt HB.out
                  have C0 := (cells2 HC.out).1.1
                  have C1 := (cells2 HC.out).1.2
                  have C2 := (cells2 HC.out).2.1
                  have C3 := (cells2 HC.out).2.2
                  have Cl := blkLt HC.out
                  go_wp2_with (go_at_call 13; refine (hA1.out _).mono ?_; rintro e wn ⟨rfl, hbn⟩; replace HW := Lib.hid (bCall (by (repeat with_reducible first | exact HW.out | apply bDrew | apply bAlloc)) hbn); replace HA := Lib.hid (moveX (by (repeat with_reducible first | exact Below.refl _ _ | apply bDrew | apply bAlloc)) hbn HA.out); replace HB := Lib.hid (moveX (by (repeat with_reducible first | exact Below.refl _ _ | apply bDrew | apply bAlloc)) hbn HB.out); replace HC := Lib.hid (moveX (by (repeat with_reducible first | exact Below.refl _ _ | apply bDrew | apply bAlloc)) hbn HC.out); replace A0 := (cells2 HA.out).1.1; replace A1 := (cells2 HA.out).1.2; replace A2 := (cells2 HA.out).2.1; replace A3 := (cells2 HA.out).2.2; replace Al := blkLt HA.out; replace B0 := (cells2 HB.out).1.1; replace B1 := (cells2 HB.out).1.2; replace B2 := (cells2 HB.out).2.1; replace B3 := (cells2 HB.out).2.2; replace Bl := blkLt HB.out; replace C0 := (cells2 HC.out).1.1; replace C1 := (cells2 HC.out).1.2; replace C2 := (cells2 HC.out).2.1; replace C3 := (cells2 HC.out).2.2; replace Cl := blkLt HC.out; clear hbn)
                  go_meet
                  exact ⟨_, rfl, rfl, Lib.hid (mvAlloc HA.out), Lib.hid (mvAlloc HB.out), Lib.hid (mvAlloc HC.out), Lib.hid (newBlk _ _ _ rfl), Lib.hid (bAlloc HW.out)⟩
                case rest => as_aux_lemma =>
                  clear HW HA HB HC
                  obtain ⟨bS, rfl, rfl, HA, HB, HC, HS, HW⟩ := hcut
                  clear hA1
                  go_upto_region 13 with fail
                  go_cut [20, 21] (fun s1 s2 wx => ∃ bT : Nat, s1 = .pointer (some ⟨bT, 0, none⟩) ∧ s2 = .int .i64 k ∧ Hid (wx.heap[w.heap.size]? = some (.cells #[.int .i64 (a.n), .int .i64 (a.d)] 23 (0, 0))) ∧ Hid (wx.heap[w.heap.size + 1]? = some (.cells #[.int .i64 (b.n), .int .i64 (b.d)] 23 (0, 0))) ∧ Hid (wx.heap[w.heap.size + 1 + 1]? = some (.cells #[.int .i64 (c.n), .int .i64 (c.d)] 23 (0, 0))) ∧ Hid (wx.heap[bS]? = some (.cells #[.int .i64 (s.n), .int .i64 (s.d)] 23 (0, 0))) ∧ Hid (wx.heap[bT]? = some (.cells #[.int .i64 (t.n), .int .i64 (t.d)] 23 (0, 0))) ∧ Hid (Below w.heap.size w wx))
                  case first => as_aux_lemma =>
                    have A0 := (cells2 HA.out).1.1
                    have A1 := (cells2 HA.out).1.2
                    have A2 := (cells2 HA.out).2.1
                    have A3 := (cells2 HA.out).2.2
                    have Al := blkLt HA.out
                    have B0 := (cells2 HB.out).1.1
                    have B1 := (cells2 HB.out).1.2
                    have B2 := (cells2 HB.out).2.1
                    have B3 := (cells2 HB.out).2.2
                    have Bl := blkLt HB.out
                    have C0 := (cells2 HC.out).1.1
                    have C1 := (cells2 HC.out).1.2
                    have C2 := (cells2 HC.out).2.1
                    have C3 := (cells2 HC.out).2.2
                    have Cl := blkLt HC.out
                    have S0 := (cells2 HS.out).1.1
                    have S1 := (cells2 HS.out).1.2
                    have S2 := (cells2 HS.out).2.1
                    have S3 := (cells2 HS.out).2.2
                    have Sl := blkLt HS.out
                    go_wp2_with (go_at_call 13; refine (hA2.out _).mono ?_; rintro e wn ⟨rfl, hbn⟩; replace HW := Lib.hid (bCall (by (repeat with_reducible first | exact HW.out | apply bDrew | apply bAlloc)) hbn); replace HA := Lib.hid (moveX (by (repeat with_reducible first | exact Below.refl _ _ | apply bDrew | apply bAlloc)) hbn HA.out); replace HB := Lib.hid (moveX (by (repeat with_reducible first | exact Below.refl _ _ | apply bDrew | apply bAlloc)) hbn HB.out); replace HC := Lib.hid (moveX (by (repeat with_reducible first | exact Below.refl _ _ | apply bDrew | apply bAlloc)) hbn HC.out); replace HS := Lib.hid (moveX (by (repeat with_reducible first | exact Below.refl _ _ | apply bDrew | apply bAlloc)) hbn HS.out); replace A0 := (cells2 HA.out).1.1; replace A1 := (cells2 HA.out).1.2; replace A2 := (cells2 HA.out).2.1; replace A3 := (cells2 HA.out).2.2; replace Al := blkLt HA.out; replace B0 := (cells2 HB.out).1.1; replace B1 := (cells2 HB.out).1.2; replace B2 := (cells2 HB.out).2.1; replace B3 := (cells2 HB.out).2.2; replace Bl := blkLt HB.out; replace C0 := (cells2 HC.out).1.1; replace C1 := (cells2 HC.out).1.2; replace C2 := (cells2 HC.out).2.1; replace C3 := (cells2 HC.out).2.2; replace Cl := blkLt HC.out; replace S0 := (cells2 HS.out).1.1; replace S1 := (cells2 HS.out).1.2; replace S2 := (cells2 HS.out).2.1; replace S3 := (cells2 HS.out).2.2; replace Sl := blkLt HS.out; clear hbn)
                    go_meet
                    exact ⟨_, rfl, rfl, Lib.hid (mvAlloc HA.out), Lib.hid (mvAlloc HB.out), Lib.hid (mvAlloc HC.out), Lib.hid (mvAlloc HS.out), Lib.hid (newBlk _ _ _ rfl), Lib.hid (bAlloc HW.out)⟩
                  case rest => as_aux_lemma =>
                    clear HW HA HB HC HS
                    obtain ⟨bT, rfl, rfl, HA, HB, HC, HS, HT, HW⟩ := hcut
                    clear hA2
                    go_upto_region 14 with fail
                    go_cut [22, 23] (fun s1 s2 wx => s1 = .int .i64 q ∧ s2 = .int .i64 x ∧ Hid (wx.heap[w.heap.size]? = some (.cells #[.int .i64 (a.n), .int .i64 (a.d)] 23 (0, 0))) ∧ Hid (wx.heap[w.heap.size + 1]? = some (.cells #[.int .i64 (b.n), .int .i64 (b.d)] 23 (0, 0))) ∧ Hid (wx.heap[w.heap.size + 1 + 1]? = some (.cells #[.int .i64 (c.n), .int .i64 (c.d)] 23 (0, 0))) ∧ Hid (wx.heap[bS]? = some (.cells #[.int .i64 (s.n), .int .i64 (s.d)] 23 (0, 0))) ∧ Hid (wx.heap[bT]? = some (.cells #[.int .i64 (t.n), .int .i64 (t.d)] 23 (0, 0))) ∧ Hid (Below w.heap.size w wx))
                    case first => as_aux_lemma =>
                      have A0 := (cells2 HA.out).1.1
                      have A1 := (cells2 HA.out).1.2
                      have A2 := (cells2 HA.out).2.1
                      have A3 := (cells2 HA.out).2.2
                      have Al := blkLt HA.out
                      have B0 := (cells2 HB.out).1.1
                      have B1 := (cells2 HB.out).1.2
                      have B2 := (cells2 HB.out).2.1
                      have B3 := (cells2 HB.out).2.2
                      have Bl := blkLt HB.out
                      have C0 := (cells2 HC.out).1.1
                      have C1 := (cells2 HC.out).1.2
                      have C2 := (cells2 HC.out).2.1
                      have C3 := (cells2 HC.out).2.2
                      have Cl := blkLt HC.out
                      have S0 := (cells2 HS.out).1.1
                      have S1 := (cells2 HS.out).1.2
                      have S2 := (cells2 HS.out).2.1
                      have S3 := (cells2 HS.out).2.2
                      have Sl := blkLt HS.out
                      have T0 := (cells2 HT.out).1.1
                      have T1 := (cells2 HT.out).1.2
                      have T2 := (cells2 HT.out).2.1
                      have T3 := (cells2 HT.out).2.2
                      have Tl := blkLt HT.out
                      go_wp2_with (go_at_call 21; refine (hC5.out _).mono ?_; rintro e wn ⟨rfl, hbn⟩; replace HW := Lib.hid (bCall (by (repeat with_reducible first | exact HW.out | apply bDrew | apply bAlloc)) hbn); replace HA := Lib.hid (moveX (by (repeat with_reducible first | exact Below.refl _ _ | apply bDrew | apply bAlloc)) hbn HA.out); replace HB := Lib.hid (moveX (by (repeat with_reducible first | exact Below.refl _ _ | apply bDrew | apply bAlloc)) hbn HB.out); replace HC := Lib.hid (moveX (by (repeat with_reducible first | exact Below.refl _ _ | apply bDrew | apply bAlloc)) hbn HC.out); replace HS := Lib.hid (moveX (by (repeat with_reducible first | exact Below.refl _ _ | apply bDrew | apply bAlloc)) hbn HS.out); replace HT := Lib.hid (moveX (by (repeat with_reducible first | exact Below.refl _ _ | apply bDrew | apply bAlloc)) hbn HT.out); replace A0 := (cells2 HA.out).1.1; replace A1 := (cells2 HA.out).1.2; replace A2 := (cells2 HA.out).2.1; replace A3 := (cells2 HA.out).2.2; replace Al := blkLt HA.out; replace B0 := (cells2 HB.out).1.1; replace B1 := (cells2 HB.out).1.2; replace B2 := (cells2 HB.out).2.1; replace B3 := (cells2 HB.out).2.2; replace Bl := blkLt HB.out; replace C0 := (cells2 HC.out).1.1; replace C1 := (cells2 HC.out).1.2; replace C2 := (cells2 HC.out).2.1; replace C3 := (cells2 HC.out).2.2; replace Cl := blkLt HC.out; replace S0 := (cells2 HS.out).1.1; replace S1 := (cells2 HS.out).1.2; replace S2 := (cells2 HS.out).2.1; replace S3 := (cells2 HS.out).2.2; replace Sl := blkLt HS.out; replace T0 := (cells2 HT.out).1.1; replace T1 := (cells2 HT.out).1.2; replace T2 := (cells2 HT.out).2.1; replace T3 := (cells2 HT.out).2.2; replace Tl := blkLt HT.out; clear hbn)
                      go_meet
                      exact ⟨rfl, rfl, HA, HB, HC, HS, HT, HW⟩
                    case rest => as_aux_lemma =>
                      clear HW HA HB HC HS HT
                      obtain ⟨rfl, rfl, HA, HB, HC, HS, HT, HW⟩ := hcut
                      clear hC5
                      go_upto_region 15 with fail
                      by_cases hj : j = 0
                      · by_cases hk : k = 0
                        · obtain ⟨hx, hq⟩ := he.out hj hk
                          clear he
                          subst hj hk hx hq
                          go_wp2_with fail
                          go_ret
                          exact ⟨rfl, HW.out⟩
                        · clear he
                          subst hj
                          go_wp2_with fail
                          go_ret
                          exact ⟨rfl, HW.out⟩
                      · clear he
                        go_wp2_with fail
                        all_goals
                          go_ret
                          exact ⟨rfl, HW.out⟩
theorem order_any (a b c : Q) (w : World) : Calls Try.prog 7 #[qv a, qv b, qv c] w (BB true w) := by
  have V : ∀ (q : Q) (r : Bool), qB q = r → Hid (∀ w, Calls Try.prog 24 #[qv q] w (BB r w)) := fun q r h => Lib.hid (fun w => h ▸ RValid_any q w)
  rcases ha : qB a with _ | _
  · exact order_bad0 a b c (V a _ ha) w
  rcases hb : qB b with _ | _
  · exact order_bad1 a b c (V a _ ha) (V b _ hb) w
  rcases hc : qB c with _ | _
  · exact order_bad2 a b c (V a _ ha) (V b _ hb) (V c _ hc) w
  have E : ∀ p q : Q, qB p = true → qB q = true → ∀ w, Calls Try.prog 21 #[qv p, qv q] w (VV (.tuple #[.int .i64 (sgM (p.n * q.d) (q.n * p.d)), .int .i64 0]) w) := fun p q hp hq w => by
    have h := Cmp_any p q w
    rw [cmp_v hp hq] at h
    exact h
  have g1 := sg_rg (a.n * b.d) (b.n * a.d)
  have g2 := sg_neg (b.n * a.d) (a.n * b.d)
  have g3 := cmp_tr ha hb hc
  have g4 := cmp_eq ha hb
  refine order_go a b c (addM a c).1 (addM b c).1 (sgM (a.n * b.d) (b.n * a.d)) (sgM (b.n * a.d) (a.n * b.d)) (sgM (b.n * c.d) (c.n * b.d)) (sgM (a.n * c.d) (c.n * a.d)) (subM a b).1.n (subM a b).1.d (subM a b).2 (addM a c).2 (addM b c).2 (cmpM (addM a c).1 (addM b c).1).1 (cmpM (addM a c).1 (addM b c).1).2 (qEq a b)
    (V a _ ha) (V b _ hb) (V c _ hc) (Lib.hid (E a b ha hb)) (Lib.hid (E b a hb ha)) (Lib.hid (E b c hb hc)) (Lib.hid (E a c ha hc)) (Lib.hid (Sub_any a b)) (Lib.hid (Add_any a c)) (Lib.hid (Add_any b c)) (Lib.hid (Cmp_any _ _)) ?_ (Lib.hid ?_) (Lib.hid (run_q_eq a b)) (Lib.hid ?_) (Lib.hid fun hi => ?_) (Lib.hid fun hj hk => ?_) w
  · rw [g2, Int.neg_neg]; exact IntWalk.i64_in _ (by omega)
  · by_cases h0 : sgM (a.n * b.d) (b.n * a.d) = 0
    · exact .inr (.inl ⟨h0, qEq_iff.2 (g4.1 h0)⟩)
    · have hne : qEq a b = false := by rw [← Bool.not_eq_true]; intro h; exact h0 (g4.2 (qEq_iff.1 h))
      rcases Int.lt_trichotomy (sgM (a.n * b.d) (b.n * a.d)) 0 with h | h | h
      · exact .inl ⟨by omega, hne⟩
      · exact absurd h h0
      · exact .inr (.inr ⟨by omega, hne⟩)
  · omega
  · have h := sub_sg (pair_eta hi)
    omega
  · have h := add_cmp (pair_eta hj) (pair_eta hk)
    rw [h]; exact ⟨rfl, rfl⟩
end Go.Proofs.Ytinmplilejnafaa
