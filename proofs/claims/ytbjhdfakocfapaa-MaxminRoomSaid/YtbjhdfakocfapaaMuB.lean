/- MaxminExactly: the law as a contract. -/
import Derived.Test.YtbjhdfakocfapaaMuA
import Derived.Test.YtbjhdfakocfapaaMtF
namespace Go.Proofs.Ytbjhdfakocfapaa
open Go.RowKit
set_option linter.unusedVariables false
set_option linter.unusedSimpArgs false
/-- what Share leaves, for a valid network -/
def ShR (n : Net) (W : World) (e : Ending) (w' : World) : Prop :=
  Gr W w' ∧ ∃ YA, QsR w' (shareM n) YA ∧ e = .returned (.tuple #[.slice YA (shareM n).length (shareM n).length, .int .i64 0])
theorem share_ok {n : Net} (hv : validB n = true) {W : World} {e : Ending} {w' : World} (h : ShareP n W e w') : ShR n W e w' := by
  have h2 := h.2
  rw [hv, if_pos rfl] at h2
  obtain ⟨h3, R, h4, h5, h6⟩ := h2
  exact ⟨h.1, some ⟨R, 0, none⟩, qs_blk h5, by rw [h6, h3]⟩
set_option maxHeartbeats 4000000 in
set_option maxRecDepth 100000 in
theorem exactly_any (n : Net) (a : NetA) (xs : List Q) (XA : Option Addr) (xm : Nat) (w : World) (hn : NetR w n a) (hs : n.c.length ≤ maxLen ∧ n.f.length ≤ maxLen ∧ n.l.length ≤ maxLen) (hrow : ∀ r ∈ n.f, r.length ≤ maxLen)
    (hx : QsR w xs XA) (hm : xs.length ≤ maxLen) :
    Calls Try.prog 4 #[nv n a, .slice XA xs.length xm] w (VV (.bool true) w) := by
  have hml : maxLen = 9223372036854775807 := rfl
  obtain ⟨W1, hW1⟩ : ∃ W1, W1 = w.alloc (netB n a) := ⟨_, rfl⟩
  have G1 : Gr w W1 := by rw [hW1]; exact grAlloc _ _
  have A1 : W1.heap[w.heap.size]? = some (netB n a) := by rw [hW1]; exact newBlk _ _ _ rfl
  obtain ⟨a0, a1, a2⟩ := cells3 A1
  have HFe := Lib.hid (fun wx (hg : Gr W1 wx) => RFew_any n a wx (hn.gr (Gr.tr G1 hg)))
  have HVa := Lib.hid (fun wx (hg : Gr W1 wx) => RValid13_any n a wx (hn.gr (Gr.tr G1 hg)) hrow)
  have HSh := Lib.hid (fun wx (hg : Gr W1 wx) => Share_any n a wx (hn.gr (Gr.tr G1 hg)) hs)
  have HCk := Lib.hid (fun ys YA ym wx (hg : Gr W1 wx) (hy : QsR wx ys YA) (hl : ys.length ≤ maxLen) => Check_any n a ys YA ym wx (hn.gr (Gr.tr G1 hg)) hs hy hl)
  have HX := Lib.hid (fun wx (hg : Gr W1 wx) => hx.gr (Gr.tr G1 hg))
  have HM := Lib.hid hm
  have HG := Lib.hid G1
  clear A1 hn hx hs hm G1 hrow
  rcases hf : fewB n with _ | _
  · rw [hf] at HFe
    clear hf HVa HSh HCk HX HM
    go_enter Try.func4, Try.ntmps4
    go_upto_region 1 with fail
    rw [← hW1]
    clear hW1
    go_wp2_with (first
      | (go_at_call 10; refine (head_any _).mono ?_; rintro e w2 ⟨rfl, hg2⟩; have a0 := grCell hg2 a0; have a1 := grCell hg2 a1; have a2 := grCell hg2 a2; have hg2 := Lib.hid hg2)
      | (go_at_call 11; refine (HFe.out _ hg2.out).mono ?_; rintro e w3 ⟨rfl, hg3⟩; have a0 := grCell hg3 a0; have a1 := grCell hg3 a1; have a2 := grCell hg3 a2; have hg3 := Lib.hid (Gr.tr hg2.out hg3)))
    go_ret
    exact ⟨rfl, Gr.tr HG.out hg3.out⟩
  rw [hf] at HFe
  clear hf
  rcases hv : validB n with _ | _
  · rw [hv] at HVa
    clear hv HSh HCk HX HM
    go_enter Try.func4, Try.ntmps4
    go_upto_region 1 with fail
    rw [← hW1]
    clear hW1
    go_wp2_with (first
      | (go_at_call 10; refine (head_any _).mono ?_; rintro e w2 ⟨rfl, hg2⟩; have a0 := grCell hg2 a0; have a1 := grCell hg2 a1; have a2 := grCell hg2 a2; have hg2 := Lib.hid hg2)
      | (go_at_call 11; refine (HFe.out _ hg2.out).mono ?_; rintro e w3 ⟨rfl, hg3⟩; have a0 := grCell hg3 a0; have a1 := grCell hg3 a1; have a2 := grCell hg3 a2; have hg3 := Lib.hid (Gr.tr hg2.out hg3))
      | (go_at_call 18; refine (HVa.out _ hg3.out).mono ?_; rintro e w4 ⟨rfl, hg4⟩; have a0 := grCell hg4 a0; have a1 := grCell hg4 a1; have a2 := grCell hg4 a2; have hg4 := Lib.hid (Gr.tr hg3.out hg4)))
    go_ret
    exact ⟨rfl, Gr.tr HG.out hg4.out⟩
  rw [hv] at HVa
  by_cases hl : 50 < xs.length
  · have t : decide ((50 : Int) < xs.length) = true := by simp; omega
    clear hv HSh HCk HX HM
    go_enter Try.func4, Try.ntmps4
    go_upto_region 1 with fail
    rw [← hW1]
    clear hW1
    go_wp2_with (first
      | (go_at_call 10; refine (head_any _).mono ?_; rintro e w2 ⟨rfl, hg2⟩; have a0 := grCell hg2 a0; have a1 := grCell hg2 a1; have a2 := grCell hg2 a2; have hg2 := Lib.hid hg2)
      | (go_at_call 11; refine (HFe.out _ hg2.out).mono ?_; rintro e w3 ⟨rfl, hg3⟩; have a0 := grCell hg3 a0; have a1 := grCell hg3 a1; have a2 := grCell hg3 a2; have hg3 := Lib.hid (Gr.tr hg2.out hg3))
      | (go_at_call 18; refine (HVa.out _ hg3.out).mono ?_; rintro e w4 ⟨rfl, hg4⟩; have a0 := grCell hg4 a0; have a1 := grCell hg4 a1; have a2 := grCell hg4 a2; have hg4 := Lib.hid (Gr.tr hg3.out hg4)))
    go_ret
    exact ⟨rfl, Gr.tr HG.out hg4.out⟩
  have t : decide ((50 : Int) < xs.length) = false := by simp; omega
  have hS : Hid (∀ W e w', ShareP n W e w' → Gr W w' ∧ ∃ YA, QsR w' (shareM n) YA ∧ e = .returned (.tuple #[.slice YA (shareM n).length (shareM n).length, .int .i64 0])) := Lib.hid (fun W e w' h => share_ok hv h)
  have hc1 := check_share hv
  have hc2 := check_only hv xs
  have hln : (shareM n).length ≤ 8 := by have h1 := (share_fair hv).2.1; have h2 := (valid_parts hv).2.1; omega
  have hden : Hid (∀ k, k < (shareM n).length → 1 ≤ (rat (shareM n) k).d ∧ (rat (shareM n) k).d ≤ 18) := Lib.hid (fun k hk => share_den hv _ (rat_mem hk))
  have HCy := Lib.hid (fun (R : Option Addr) wx (hg : Gr W1 wx) (hy : QsR wx (shareM n) R) => HCk.out (shareM n) R (shareM n).length wx hg hy (by omega))
  have HCx := Lib.hid (fun wx (hg : Gr W1 wx) => HCk.out xs XA xm wx hg (HX.out wx hg) HM.out)
  have HSm := Lib.hid (fun (R : Option Addr) wx (hg : Gr W1 wx) (hy : QsR wx (shareM n) R) => RSame_any xs (shareM n) XA R xm (shareM n).length wx (HX.out wx hg) hy HM.out)
  rw [hc1] at HCy
  rw [hc2] at HCx
  have HL := Lib.hid hln
  clear hv hc1 hc2 HCk HX HM hl hln
  generalize sameB xs (shareM n) = sb at *
  generalize shareM n = ys at *
  go_enter Try.func4, Try.ntmps4
  go_upto_region 1 with fail
  rw [← hW1]
  clear hW1
  go_wp2_with (first
    | (go_at_call 10; refine (head_any _).mono ?_; rintro e w2 ⟨rfl, hg2⟩; have a0 := grCell hg2 a0; have a1 := grCell hg2 a1; have a2 := grCell hg2 a2; have hg2 := Lib.hid hg2)
    | (go_at_call 11; refine (HFe.out _ hg2.out).mono ?_; rintro e w3 ⟨rfl, hg3⟩; have a0 := grCell hg3 a0; have a1 := grCell hg3 a1; have a2 := grCell hg3 a2; have hg3 := Lib.hid (Gr.tr hg2.out hg3))
    | (go_at_call 18; refine (HVa.out _ hg3.out).mono ?_; rintro e w4 ⟨rfl, hg4⟩; have a0 := grCell hg4 a0; have a1 := grCell hg4 a1; have a2 := grCell hg4 a2; have hg4 := Lib.hid (Gr.tr hg3.out hg4))
    | (go_at_call 12; refine (HSh.out _ hg4.out).mono ?_; intro e w5 hP; obtain ⟨hg5, R, hQ, rfl⟩ := hS.out _ _ _ hP; clear hP; have hQ := Lib.hid hQ; have a0 := grCell hg5 a0; have a1 := grCell hg5 a1; have a2 := grCell hg5 a2; have hg5 := Lib.hid (Gr.tr hg4.out hg5))
    | (go_at_call 15; have gg := hg5; refine (HCy.out R _ hg5.out hQ.out).mono ?_; rintro e w6 ⟨rfl, hg6⟩; have hQ := Lib.hid (hQ.out.gr hg6); have a0 := grCell hg6 a0; have a1 := grCell hg6 a1; have a2 := grCell hg6 a2; have hg6 := Lib.hid (Gr.tr hg5.out hg6); clear hg5)
    | (go_at_call 15; refine (HCx.out _ hg6.out).mono ?_; rintro e w7 ⟨rfl, hg7⟩; have hQ := Lib.hid (hQ.out.gr hg7); have hg7 := Lib.hid (Gr.tr hg6.out hg7)))
  clear hS hg2 hg3 hg4 hg6 a0 a1 a2 HCx HCy HSh HVa HFe
  go_loopg [5, 12] (ys.length) (fun gk u s wr => ∃ k : Nat, k + gk = ys.length ∧ u = .bool true ∧ s = .int .i64 k ∧ Hid (Gr W1 wr) ∧ Hid (QsR wr ys R))
  case atStart => exact ⟨0, by omega, rfl, rfl, hg7, hQ⟩
  case round =>
    obtain ⟨k, hk, rfl, rfl, hW, hY⟩ := hrel
    have hL := HL.out
    clear hg7 hQ
    by_cases hlt : k < ys.length
    · obtain ⟨g9, rfl⟩ : ∃ g, gk = g + 1 := ⟨gk - 1, by omega⟩
      obtain ⟨g, o, rfl, hcs⟩ := hY.out.addr (by omega)
      obtain ⟨p0, p1⟩ := hcs k _ (rat_get hlt)
      obtain ⟨d1, d2⟩ := hden.out k hlt
      have t1 : decide ((1 : Int) ≤ (rat ys k).d) = true := by simp; omega
      have t2 : decide ((rat ys k).d ≤ (18 : Int)) = true := by simp; omega
      have hq : IntKind.i64.wrap ((k : Int) + 1) = (k : Int) + 1 := IntWalk.i64_in _ (by omega)
      clear hcs d1 d2
      generalize rat ys k = y at *
      go_wp2
      go_roundg g9
      case rel => exact ⟨k + 1, by omega, rfl, by go_num, hW, hY⟩
      case measure => omega
    · cases sb <;> skip
      all_goals (
        go_wp2_with (first
          | (go_at_call 14; refine (HSm.out R _ hW.out hY.out).mono ?_; rintro e w9 ⟨rfl, hg9⟩; have hg9 := Lib.hid hg9))
        go_ret
        exact ⟨rfl, Gr.tr HG.out (Gr.tr hW.out hg9.out)⟩)
end Go.Proofs.Ytbjhdfakocfapaa
