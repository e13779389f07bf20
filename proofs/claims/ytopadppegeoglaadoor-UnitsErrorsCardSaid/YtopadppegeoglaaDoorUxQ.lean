/- The law UnitsErrors returns true, whatever the arguments; condition: the listed package-level variables hold what the text lays. -/
import Derived.Test.YtopadppegeoglaaDoorUxO
import Derived.Test.YtopadppegeoglaaDoorUxP
namespace Go.Proofs.YtopadppegeoglaaDoor
open Go.RowKit
set_option linter.unusedVariables false
set_option linter.unusedSimpArgs false

set_option maxHeartbeats 4000000 in
set_option maxRecDepth 100000 in
theorem UErrors_any (vs : List Vr) (VA : Option Addr) (vm : Nat) (a b : Ex) (A B : Option Addr) (c d : Nat) (op : Int) (w : World) (hL : LaidW w) (hV : VarsR w vs VA) (hA : KidsE w a.kids A) (hB : KidsE w b.kids B) (hla : a.kids.length ≤ maxLen) (hlb : b.kids.length ≤ maxLen) :
    Calls Tryd.prog 5 #[.slice VA vs.length vm, ev a A c, ev b B d, .int .i64 op] w (BB true w) := by
  obtain ⟨W2, hW2⟩ : ∃ W2, W2 = (w.alloc (.cells (eArr a A c) 29)).alloc (.cells (eArr b B d) 29) := ⟨_, rfl⟩
  have hb0 : Below w.heap.size w W2 := by rw [hW2]; exact bAlloc (bAlloc (Below.refl _ _))
  have HA0 : Hid (W2.heap[w.heap.size]? = some (.cells (eArr a A c) 29 (0, 0))) := Lib.hid (by rw [hW2]; exact (Below.heap_alloc _ _ _ (by simp)).trans (newBlk _ _ _ rfl))
  have HB0 : Hid (W2.heap[w.heap.size + 1]? = some (.cells (eArr b B d) 29 (0, 0))) := Lib.hid (by rw [hW2]; exact newBlk _ _ _ (by simp))
  have HLc := Lib.hid (hL.below hb0)
  have HVc := hV.below hb0
  have HKa := Lib.hid (hA.below hb0)
  have HKb := Lib.hid (hB.below hb0)
  have HW := Lib.hid hb0
  have HU := fun wx (h : Below W2.heap.size W2 wx) => usable_any VA vs.length vm a b A B c d wx (HKa.out.below h) (HKb.out.below h)
  have HI1 := fun wx (h : Below W2.heap.size W2 wx) => Infer_any vs VA A vm c a wx (HLc.out.below h) (HVc.below h) (HKa.out.below h)
  have HI2 := fun wx A1 (hK : KidsE wx [a, b] A1) (h : Below W2.heap.size W2 wx) => Infer_any vs VA A1 vm 0 (.mk op 0 0 [a, b]) wx (HLc.out.below h) (HVc.below h) hK
  have HI3 := fun wx A1 (hK : KidsE wx [b, a] A1) (h : Below W2.heap.size W2 wx) => Infer_any vs VA A1 vm 0 (.mk op 0 0 [b, a]) wx (HLc.out.below h) (HVc.below h) hK
  have hmath : usableM vs.length a b = true → _ := fun h => errors_units (vs.map (·.u)) a b op (usable_size h)
  generalize inferM (vs.map (·.u)) a = r1 at *
  generalize inferM (vs.map (·.u)) (.mk op 0 0 [a, b]) = r2 at *
  generalize inferM (vs.map (·.u)) (.mk op 0 0 [b, a]) = r3 at *
  obtain ⟨p1, e1⟩ := r1
  obtain ⟨p2, e2⟩ := r2
  obtain ⟨p3, e3⟩ := r3
  simp only at HI1 HI2 HI3 hmath
  have HI1 := Lib.hid HI1
  have HI2 := Lib.hid HI2
  have HI3 := Lib.hid HI3
  generalize vs.length = vn at *
  have HB := Lib.hid (Below.refl W2.heap.size W2)
  obtain ⟨⟨a0, a1, a2, a3⟩, -⟩ := cells4 HA0.out
  obtain ⟨⟨b0, b1, b2, b3⟩, -⟩ := cells4 HB0.out
  have al := blkLt HA0.out
  have bl := blkLt HB0.out
  clear hL hV hA hB hb0 HVc
  cases hu : usableM vn a b with
  | false =>
    rw [hu] at HU
    have HU := Lib.hid HU
    clear hu hmath
    go_enter Tryd.func5, Tryd.ntmps5
    go_upto_region 1 with fail
    change Code.wp _ _ _ _ ((w.alloc (.cells (eArr a A c) 29)).alloc (.cells (eArr b B d) 29))
    rw [← hW2]
    clear hW2
    go_wp2_with (first
      | (go_at_call 9; refine (head_any _ ?_).mono ?_; (exact HLc.out.below (by (repeat with_reducible first | exact HB.out | apply bDrew | apply bAlloc))); rintro e wn ⟨rfl, hbn⟩; have HB := Lib.hid (bCall (by (repeat with_reducible first | exact HB.out | apply bDrew | apply bAlloc)) hbn); have a0 := (cells4 ((HB.out.block _ (blkLt HA0.out)).trans HA0.out)).1.1; have a1 := (cells4 ((HB.out.block _ (blkLt HA0.out)).trans HA0.out)).1.2.1; have a2 := (cells4 ((HB.out.block _ (blkLt HA0.out)).trans HA0.out)).1.2.2.1; have a3 := (cells4 ((HB.out.block _ (blkLt HA0.out)).trans HA0.out)).1.2.2.2; have al := Nat.lt_of_lt_of_le (blkLt HA0.out) HB.out.size; have b0 := (cells4 ((HB.out.block _ (blkLt HB0.out)).trans HB0.out)).1.1; have b1 := (cells4 ((HB.out.block _ (blkLt HB0.out)).trans HB0.out)).1.2.1; have b2 := (cells4 ((HB.out.block _ (blkLt HB0.out)).trans HB0.out)).1.2.2.1; have b3 := (cells4 ((HB.out.block _ (blkLt HB0.out)).trans HB0.out)).1.2.2.2; have bl := Nat.lt_of_lt_of_le (blkLt HB0.out) HB.out.size)
      | (go_at_call 18; refine (HU.out _ ?_).mono ?_; ((repeat with_reducible first | exact HB.out | apply bDrew | apply bAlloc)); rintro e wn ⟨rfl, hbn⟩; have HB := Lib.hid (bCall (by (repeat with_reducible first | exact HB.out | apply bDrew | apply bAlloc)) hbn); have a0 := (cells4 ((HB.out.block _ (blkLt HA0.out)).trans HA0.out)).1.1; have a1 := (cells4 ((HB.out.block _ (blkLt HA0.out)).trans HA0.out)).1.2.1; have a2 := (cells4 ((HB.out.block _ (blkLt HA0.out)).trans HA0.out)).1.2.2.1; have a3 := (cells4 ((HB.out.block _ (blkLt HA0.out)).trans HA0.out)).1.2.2.2; have al := Nat.lt_of_lt_of_le (blkLt HA0.out) HB.out.size; have b0 := (cells4 ((HB.out.block _ (blkLt HB0.out)).trans HB0.out)).1.1; have b1 := (cells4 ((HB.out.block _ (blkLt HB0.out)).trans HB0.out)).1.2.1; have b2 := (cells4 ((HB.out.block _ (blkLt HB0.out)).trans HB0.out)).1.2.2.1; have b3 := (cells4 ((HB.out.block _ (blkLt HB0.out)).trans HB0.out)).1.2.2.2; have bl := Nat.lt_of_lt_of_le (blkLt HB0.out) HB.out.size))
    go_ret
    exact ⟨rfl, bCall HW.out HB.out⟩
  | true =>
    rw [hu] at HU
    have HU := Lib.hid HU
    have hm := hmath hu
    clear hu hmath
    have he : e1 = 0 ∨ (¬ e1 = 0 ∧ e2 = e1 ∧ ¬ e3 = 0) := by
      rcases hm with h | ⟨h1, h2⟩
      · exact .inl h
      · by_cases h0 : e1 = 0
        · exact .inl h0
        · exact .inr ⟨h0, h1, h2⟩
    clear hm
    rcases he with rfl | ⟨hn1, rfl, hn3⟩
    all_goals
      go_enter Tryd.func5, Tryd.ntmps5
      go_upto_region 1 with fail
      change Code.wp _ _ _ _ ((w.alloc (.cells (eArr a A c) 29)).alloc (.cells (eArr b B d) 29))
      rw [← hW2]
      clear hW2
      go_wp2_with (first
        | (go_at_call 9; refine (head_any _ ?_).mono ?_; (exact HLc.out.below (by (repeat with_reducible first | exact HB.out | apply bDrew | apply bAlloc))); rintro e wn ⟨rfl, hbn⟩; have HB := Lib.hid (bCall (by (repeat with_reducible first | exact HB.out | apply bDrew | apply bAlloc)) hbn); have a0 := (cells4 ((HB.out.block _ (blkLt HA0.out)).trans HA0.out)).1.1; have a1 := (cells4 ((HB.out.block _ (blkLt HA0.out)).trans HA0.out)).1.2.1; have a2 := (cells4 ((HB.out.block _ (blkLt HA0.out)).trans HA0.out)).1.2.2.1; have a3 := (cells4 ((HB.out.block _ (blkLt HA0.out)).trans HA0.out)).1.2.2.2; have al := Nat.lt_of_lt_of_le (blkLt HA0.out) HB.out.size; have b0 := (cells4 ((HB.out.block _ (blkLt HB0.out)).trans HB0.out)).1.1; have b1 := (cells4 ((HB.out.block _ (blkLt HB0.out)).trans HB0.out)).1.2.1; have b2 := (cells4 ((HB.out.block _ (blkLt HB0.out)).trans HB0.out)).1.2.2.1; have b3 := (cells4 ((HB.out.block _ (blkLt HB0.out)).trans HB0.out)).1.2.2.2; have bl := Nat.lt_of_lt_of_le (blkLt HB0.out) HB.out.size)
        | (go_at_call 18; refine (HU.out _ ?_).mono ?_; ((repeat with_reducible first | exact HB.out | apply bDrew | apply bAlloc)); rintro e wn ⟨rfl, hbn⟩; have HB := Lib.hid (bCall (by (repeat with_reducible first | exact HB.out | apply bDrew | apply bAlloc)) hbn); have a0 := (cells4 ((HB.out.block _ (blkLt HA0.out)).trans HA0.out)).1.1; have a1 := (cells4 ((HB.out.block _ (blkLt HA0.out)).trans HA0.out)).1.2.1; have a2 := (cells4 ((HB.out.block _ (blkLt HA0.out)).trans HA0.out)).1.2.2.1; have a3 := (cells4 ((HB.out.block _ (blkLt HA0.out)).trans HA0.out)).1.2.2.2; have al := Nat.lt_of_lt_of_le (blkLt HA0.out) HB.out.size; have b0 := (cells4 ((HB.out.block _ (blkLt HB0.out)).trans HB0.out)).1.1; have b1 := (cells4 ((HB.out.block _ (blkLt HB0.out)).trans HB0.out)).1.2.1; have b2 := (cells4 ((HB.out.block _ (blkLt HB0.out)).trans HB0.out)).1.2.2.1; have b3 := (cells4 ((HB.out.block _ (blkLt HB0.out)).trans HB0.out)).1.2.2.2; have bl := Nat.lt_of_lt_of_le (blkLt HB0.out) HB.out.size)
        | (go_at_call_of 12 (Value.slice A a.kids.length (a.kids.length + c)); refine (HI1.out _ ?_).mono ?_; ((repeat with_reducible first | exact HB.out | apply bDrew | apply bAlloc)); rintro e wn ⟨rfl, hbn⟩; have HB := Lib.hid (bCall (by (repeat with_reducible first | exact HB.out | apply bDrew | apply bAlloc)) hbn); have a0 := (cells4 ((HB.out.block _ (blkLt HA0.out)).trans HA0.out)).1.1; have a1 := (cells4 ((HB.out.block _ (blkLt HA0.out)).trans HA0.out)).1.2.1; have a2 := (cells4 ((HB.out.block _ (blkLt HA0.out)).trans HA0.out)).1.2.2.1; have a3 := (cells4 ((HB.out.block _ (blkLt HA0.out)).trans HA0.out)).1.2.2.2; have al := Nat.lt_of_lt_of_le (blkLt HA0.out) HB.out.size; have b0 := (cells4 ((HB.out.block _ (blkLt HB0.out)).trans HB0.out)).1.1; have b1 := (cells4 ((HB.out.block _ (blkLt HB0.out)).trans HB0.out)).1.2.1; have b2 := (cells4 ((HB.out.block _ (blkLt HB0.out)).trans HB0.out)).1.2.2.1; have b3 := (cells4 ((HB.out.block _ (blkLt HB0.out)).trans HB0.out)).1.2.2.2; have bl := Nat.lt_of_lt_of_le (blkLt HB0.out) HB.out.size)
        | (go_at_call 19; have gg := K1; refine (two_any op b a B A d c _ ?_ ?_ hlb hla).mono ?_; (exact HKb.out.below (by (repeat with_reducible first | exact HB.out | apply bDrew | apply bAlloc))); (exact HKa.out.below (by (repeat with_reducible first | exact HB.out | apply bDrew | apply bAlloc))); rintro e wn ⟨A2, rfl, hkn, hbn⟩; have HB := Lib.hid (bCall (by (repeat with_reducible first | exact HB.out | apply bDrew | apply bAlloc)) hbn); have a0 := (cells4 ((HB.out.block _ (blkLt HA0.out)).trans HA0.out)).1.1; have a1 := (cells4 ((HB.out.block _ (blkLt HA0.out)).trans HA0.out)).1.2.1; have a2 := (cells4 ((HB.out.block _ (blkLt HA0.out)).trans HA0.out)).1.2.2.1; have a3 := (cells4 ((HB.out.block _ (blkLt HA0.out)).trans HA0.out)).1.2.2.2; have al := Nat.lt_of_lt_of_le (blkLt HA0.out) HB.out.size; have b0 := (cells4 ((HB.out.block _ (blkLt HB0.out)).trans HB0.out)).1.1; have b1 := (cells4 ((HB.out.block _ (blkLt HB0.out)).trans HB0.out)).1.2.1; have b2 := (cells4 ((HB.out.block _ (blkLt HB0.out)).trans HB0.out)).1.2.2.1; have b3 := (cells4 ((HB.out.block _ (blkLt HB0.out)).trans HB0.out)).1.2.2.2; have bl := Nat.lt_of_lt_of_le (blkLt HB0.out) HB.out.size; have K2 := Lib.hid hkn)
        | (go_at_call 19; refine (two_any op a b A B c d _ ?_ ?_ hla hlb).mono ?_; (exact HKa.out.below (by (repeat with_reducible first | exact HB.out | apply bDrew | apply bAlloc))); (exact HKb.out.below (by (repeat with_reducible first | exact HB.out | apply bDrew | apply bAlloc))); rintro e wn ⟨A1, rfl, hkn, hbn⟩; have HB := Lib.hid (bCall (by (repeat with_reducible first | exact HB.out | apply bDrew | apply bAlloc)) hbn); have a0 := (cells4 ((HB.out.block _ (blkLt HA0.out)).trans HA0.out)).1.1; have a1 := (cells4 ((HB.out.block _ (blkLt HA0.out)).trans HA0.out)).1.2.1; have a2 := (cells4 ((HB.out.block _ (blkLt HA0.out)).trans HA0.out)).1.2.2.1; have a3 := (cells4 ((HB.out.block _ (blkLt HA0.out)).trans HA0.out)).1.2.2.2; have al := Nat.lt_of_lt_of_le (blkLt HA0.out) HB.out.size; have b0 := (cells4 ((HB.out.block _ (blkLt HB0.out)).trans HB0.out)).1.1; have b1 := (cells4 ((HB.out.block _ (blkLt HB0.out)).trans HB0.out)).1.2.1; have b2 := (cells4 ((HB.out.block _ (blkLt HB0.out)).trans HB0.out)).1.2.2.1; have b3 := (cells4 ((HB.out.block _ (blkLt HB0.out)).trans HB0.out)).1.2.2.2; have bl := Nat.lt_of_lt_of_le (blkLt HB0.out) HB.out.size; have K1 := Lib.hid hkn)
        | (go_at_call_of 12 (aggE op 0 0 A1 2 2); refine (HI2.out _ A1 ?_ ?_).mono ?_; (exact K1.out.below (by (repeat with_reducible first | exact Below.refl _ _ | apply bDrew | apply bAlloc))); ((repeat with_reducible first | exact HB.out | apply bDrew | apply bAlloc)); rintro e wn ⟨rfl, hbn⟩; have HB := Lib.hid (bCall (by (repeat with_reducible first | exact HB.out | apply bDrew | apply bAlloc)) hbn); have a0 := (cells4 ((HB.out.block _ (blkLt HA0.out)).trans HA0.out)).1.1; have a1 := (cells4 ((HB.out.block _ (blkLt HA0.out)).trans HA0.out)).1.2.1; have a2 := (cells4 ((HB.out.block _ (blkLt HA0.out)).trans HA0.out)).1.2.2.1; have a3 := (cells4 ((HB.out.block _ (blkLt HA0.out)).trans HA0.out)).1.2.2.2; have al := Nat.lt_of_lt_of_le (blkLt HA0.out) HB.out.size; have b0 := (cells4 ((HB.out.block _ (blkLt HB0.out)).trans HB0.out)).1.1; have b1 := (cells4 ((HB.out.block _ (blkLt HB0.out)).trans HB0.out)).1.2.1; have b2 := (cells4 ((HB.out.block _ (blkLt HB0.out)).trans HB0.out)).1.2.2.1; have b3 := (cells4 ((HB.out.block _ (blkLt HB0.out)).trans HB0.out)).1.2.2.2; have bl := Nat.lt_of_lt_of_le (blkLt HB0.out) HB.out.size)
        | (go_at_call_of 12 (aggE op 0 0 A2 2 2); refine (HI3.out _ A2 ?_ ?_).mono ?_; (exact K2.out.below (by (repeat with_reducible first | exact Below.refl _ _ | apply bDrew | apply bAlloc))); ((repeat with_reducible first | exact HB.out | apply bDrew | apply bAlloc)); rintro e wn ⟨rfl, hbn⟩; have HB := Lib.hid (bCall (by (repeat with_reducible first | exact HB.out | apply bDrew | apply bAlloc)) hbn); have a0 := (cells4 ((HB.out.block _ (blkLt HA0.out)).trans HA0.out)).1.1; have a1 := (cells4 ((HB.out.block _ (blkLt HA0.out)).trans HA0.out)).1.2.1; have a2 := (cells4 ((HB.out.block _ (blkLt HA0.out)).trans HA0.out)).1.2.2.1; have a3 := (cells4 ((HB.out.block _ (blkLt HA0.out)).trans HA0.out)).1.2.2.2; have al := Nat.lt_of_lt_of_le (blkLt HA0.out) HB.out.size; have b0 := (cells4 ((HB.out.block _ (blkLt HB0.out)).trans HB0.out)).1.1; have b1 := (cells4 ((HB.out.block _ (blkLt HB0.out)).trans HB0.out)).1.2.1; have b2 := (cells4 ((HB.out.block _ (blkLt HB0.out)).trans HB0.out)).1.2.2.1; have b3 := (cells4 ((HB.out.block _ (blkLt HB0.out)).trans HB0.out)).1.2.2.2; have bl := Nat.lt_of_lt_of_le (blkLt HB0.out) HB.out.size))
      go_ret
      refine ⟨?_, bCall HW.out (by (repeat with_reducible first | exact HB.out | apply bDrew | apply bAlloc))⟩
      first | rfl | simp_all
end Go.Proofs.YtopadppegeoglaaDoor
