/- Package maxmin: whether a list is one of rates. -/
import Derived.Test.YtbjhdfakocfapaaMsV
import Derived.Test.YtbjhdfakocfapaaMsL
namespace Go.Proofs.Ytbjhdfakocfapaa
open Go.RowKit
set_option linter.unusedVariables false
set_option linter.unusedSimpArgs false
def rateB (q : Q) : Bool := qB q && decide (0 ≤ q.n)
def ratesB (n : Net) (xs : List Q) : Bool := decide (xs.length = n.f.length) && xs.all rateB
set_option maxHeartbeats 2000000 in
set_option maxRecDepth 100000 in
theorem areRates_any (n : Net) (a : NetA) (xs : List Q) (XA : Option Addr) (xm : Nat) (w : World) (hx : QsR w xs XA) (hm : xs.length ≤ maxLen) :
    Calls Try.prog 32 #[nv n a, .slice XA xs.length xm] w (VV (.bool (ratesB n xs)) w) := by
  have hml : maxLen = 9223372036854775807 := rfl
  obtain ⟨W1, hW1⟩ : ∃ W1, W1 = w.alloc (netB n a) := ⟨_, rfl⟩
  have G1 : Gr w W1 := by rw [hW1]; exact grAlloc _ _
  have A1 : W1.heap[w.heap.size]? = some (netB n a) := by rw [hW1]; exact newBlk _ _ _ rfl
  obtain ⟨a0, a1, a2⟩ := cells3 A1
  have HX := Lib.hid (hx.gr G1)
  have HG := Lib.hid G1
  clear A1 hx
  by_cases hne : xs.length = n.f.length
  · have e : ratesB n xs = xs.all rateB := by unfold ratesB; rw [decide_eq_true hne]; rfl
    rw [e]
    rw [← hne] at a1
    have t : decide (¬ (xs.length : Int) = xs.length) = false := by simp
    clear e hne
    go_enter Try.func32, Try.ntmps32
    go_upto_region 1 with fail
    rw [← hW1]
    clear hW1
    go_wp2
    go_loopg [15] (xs.length) (fun gk s wr => ∃ k : Nat, k + gk = xs.length ∧ s = .int .i64 k ∧ Hid ((xs.drop k).all rateB = xs.all rateB) ∧ Hid (Gr W1 wr))
    case atStart => exact ⟨0, by omega, rfl, rfl, Below.refl _ _⟩
    case round =>
      obtain ⟨k, hk, rfl, hS, hW⟩ := hrel
      clear a0 a1 a2
      by_cases hlt : k < xs.length
      · obtain ⟨g9, rfl⟩ : ∃ g, gk = g + 1 := ⟨gk - 1, by omega⟩
        obtain ⟨gx, ox, rfl, hcx⟩ := (HX.out.gr hW.out).addr (by omega)
        obtain ⟨q0, q1⟩ := hcx k _ (rat_get hlt)
        have h1 := hS.out
        rw [all_drop hlt] at h1
        have e1 : xs[k] = rat xs k := by simp [rat, hlt]
        rw [e1] at h1
        have hq : IntKind.i64.wrap ((k : Int) + 1) = (k : Int) + 1 := IntWalk.i64_in _ (by omega)
        have HV := Lib.hid (fun wx => Valid_any (rat xs k) wx)
        generalize rat xs k = rq at *
        have h2 : ((qB rq && decide (0 ≤ rq.n)) && (xs.drop (k + 1)).all rateB) = xs.all rateB := h1
        have H2 := Lib.hid h2
        clear hcx e1 hS h1 h2
        obtain ⟨b, hb⟩ : ∃ b, qB rq = b := ⟨_, rfl⟩
        rw [hb] at HV H2
        clear hb
        go_upto_region 6 with fail
        obtain ⟨W3, hW3⟩ : ∃ W3, wr.alloc (qb rq) = W3 := ⟨_, rfl⟩
        have G3 := Lib.hid (show Gr wr W3 by rw [← hW3]; exact grAlloc _ _)
        have Q3 : W3.heap[wr.heap.size]? = some (qb rq) := by rw [← hW3]; exact newBlk _ _ _ rfl
        rw [hW3]
        obtain ⟨⟨z0, z1⟩, -⟩ := cells2 Q3
        clear hW3 Q3 q0 q1
        cases b with
        | false =>
          have h3 := Lib.hid (show xs.all rateB = false by rw [← H2.out]; rfl)
          clear H2
          go_wp2_with (go_at_call 49; refine (HV.out _).mono ?_; rintro e w2 ⟨rfl, hb2⟩; have z0 := grCell hb2 z0; have z1 := grCell hb2 z1; have hb2 := Lib.hid hb2)
          go_ret
          exact ⟨ret_b (by rw [h3.out]), Gr.tr HG.out (Gr.tr hW.out (Gr.tr G3.out hb2.out))⟩
        | true =>
          by_cases hneg : rq.n < 0
          · have h3 := Lib.hid (show xs.all rateB = false by rw [← H2.out, decide_eq_false (show ¬ 0 ≤ rq.n by omega)]; rfl)
            have td : decide (rq.n < 0) = true := decide_eq_true hneg
            clear H2
            go_wp2_with (go_at_call 49; refine (HV.out _).mono ?_; rintro e w2 ⟨rfl, hb2⟩; have z0 := grCell hb2 z0; have z1 := grCell hb2 z1; have hb2 := Lib.hid hb2)
            go_ret
            exact ⟨ret_b (by rw [h3.out]), Gr.tr HG.out (Gr.tr hW.out (Gr.tr G3.out hb2.out))⟩
          · have h3 := Lib.hid (show (xs.drop (k + 1)).all rateB = xs.all rateB by rw [← H2.out, decide_eq_true (show 0 ≤ rq.n by omega)]; rfl)
            have td : decide (rq.n < 0) = false := decide_eq_false hneg
            clear H2
            go_wp2_with (go_at_call 49; refine (HV.out _).mono ?_; rintro e w2 ⟨rfl, hb2⟩; have z0 := grCell hb2 z0; have z1 := grCell hb2 z1; have hb2 := Lib.hid hb2)
            go_roundg g9
            case rel => exact ⟨k + 1, by omega, by go_num, h3, Lib.hid (Gr.tr hW.out (Gr.tr G3.out hb2.out))⟩
            case measure => omega
      · have h3 := Lib.hid ((all_end (p := rateB) (l := xs) (k := k) (by omega)).symm.trans hS.out)
        go_wp2
        go_ret
        exact ⟨ret_b (by rw [← h3.out]), Gr.tr HG.out hW.out⟩
  · have e : ratesB n xs = false := by unfold ratesB; rw [decide_eq_false hne]; rfl
    rw [e]
    have t : ((xs.length : Int) != (n.f.length : Int)) = true := by simp; omega
    clear e HX hne
    go_enter Try.func32, Try.ntmps32
    go_upto_region 1 with fail
    rw [← hW1]
    clear hW1
    go_wp2
    go_ret
    exact ⟨rfl, HG.out⟩
end Go.Proofs.Ytbjhdfakocfapaa
