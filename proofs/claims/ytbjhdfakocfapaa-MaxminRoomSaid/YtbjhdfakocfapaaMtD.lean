/- The law's own functions: is, compared. -/
import Derived.Test.YtbjhdfakocfapaaMsP
import Derived.Test.YtbjhdfakocfapaaMtB
import Derived.Test.YtbjhdfakocfapaaMtC
namespace Go.Proofs.Ytbjhdfakocfapaa
open Go.RowKit
set_option linter.unusedVariables false
set_option linter.unusedSimpArgs false
/-- ratios in a block of their own -/
theorem qs_blk {w : World} {R : Nat} {xs : List Q} {T : TypeId} (h : w.heap[R]? = some (.cells (qC xs).toArray T (0, 0))) : QsR w xs (some ⟨R, 0, none⟩) := by
  refine .inr ⟨R, 0, rfl, fun i q hi => ?_⟩
  obtain ⟨hlt, rfl⟩ := List.getElem?_eq_some_iff.1 hi
  have := qC_get xs i hlt
  rw [Nat.zero_add, cell_of_row _ _ (i * 2) _ _ (0, 0) h, cell_of_row _ _ (i * 2 + 1) _ _ (0, 0) h]
  simpa using this
def isM (n : Net) (xs : List Q) : Bool := validB n && (checkM n xs && sameB (shareM n) xs)
set_option maxHeartbeats 2000000 in
set_option maxRecDepth 100000 in
theorem compared_any (r : Q) (num den : Int) (w : World) (h1 : -1000000000000000 ≤ r.n * den ∧ r.n * den ≤ 1000000000000000) (h2 : -1000000000000000 ≤ num * r.d ∧ num * r.d ≤ 1000000000000000) :
    Calls Try.prog 25 #[qv r, .int .i64 num, .int .i64 den] w (VV (.int .i64 (r.n * den - num * r.d)) w) := by
  have e1 : IntKind.i64.wrap (r.n * den) = r.n * den := IntWalk.i64_in _ (by omega)
  have e2 : IntKind.i64.wrap (num * r.d) = num * r.d := IntWalk.i64_in _ (by omega)
  have e3 : IntKind.i64.wrap (r.n * den - num * r.d) = r.n * den - num * r.d := IntWalk.i64_in _ (by omega)
  obtain ⟨W1, hW1⟩ : ∃ W1, W1 = w.alloc (qb r) := ⟨_, rfl⟩
  have G1 : Gr w W1 := by rw [hW1]; exact grAlloc _ _
  have A1 : W1.heap[w.heap.size]? = some (qb r) := by rw [hW1]; exact newBlk _ _ _ rfl
  obtain ⟨⟨a0, a1⟩, -⟩ := cells2 A1
  clear A1
  go_enter Try.func25, Try.ntmps25
  go_upto_region 1 with fail
  rw [← hW1]
  clear hW1
  go_wp2
  go_ret
  exact ⟨ret_n rfl, G1⟩
set_option maxHeartbeats 4000000 in
set_option maxRecDepth 100000 in
theorem is_any (n : Net) (a : NetA) (xs : List Q) (XA : Option Addr) (xm : Nat) (w : World) (hn : NetR w n a) (hs : n.c.length ≤ maxLen ∧ n.f.length ≤ maxLen ∧ n.l.length ≤ maxLen) (hx : QsR w xs XA) (hm : xs.length ≤ maxLen) :
    Calls Try.prog 27 #[nv n a, .slice XA xs.length xm] w (VV (.bool (isM n xs)) w) := by
  have hml : maxLen = 9223372036854775807 := rfl
  obtain ⟨W1, hW1⟩ : ∃ W1, W1 = w.alloc (netB n a) := ⟨_, rfl⟩
  have G1 : Gr w W1 := by rw [hW1]; exact grAlloc _ _
  have A1 : W1.heap[w.heap.size]? = some (netB n a) := by rw [hW1]; exact newBlk _ _ _ rfl
  obtain ⟨a0, a1, a2⟩ := cells3 A1
  have HSh := Lib.hid (Share_any n a W1 (hn.gr G1) hs)
  have HCk := Lib.hid (fun wx (hg : Gr W1 wx) => Check_any n a xs XA xm wx (hn.gr (Gr.tr G1 hg)) hs (hx.gr (Gr.tr G1 hg)) hm)
  have HX := Lib.hid (fun wx (hg : Gr W1 wx) => hx.gr (Gr.tr G1 hg))
  have HG := Lib.hid G1
  have HM := Lib.hid (And.intro hs hm)
  clear A1 hn hx hs hm G1
  rcases hv : validB n with _ | _
  · have e : isM n xs = false := by unfold isM; rw [hv]; rfl
    rw [e]
    have hS : Hid (∀ e w', ShareP n W1 e w' → Gr W1 w' ∧ e = .returned (.tuple #[.slice none 0 0, .int .i64 1])) := Lib.hid (fun e w' h => ⟨h.1, by have := h.2; rw [hv] at this; simpa using this⟩)
    have hc : checkM n xs = false := by unfold checkM; rw [hv]; rfl
    rw [hc] at HCk
    clear e hv hc HX HM
    go_enter Try.func27, Try.ntmps27
    go_upto_region 1 with fail
    rw [← hW1]
    clear hW1
    go_wp2_with (first
      | (go_at_call 12; refine HSh.out.mono ?_; intro e w2 hP; obtain ⟨hb2, rfl⟩ := hS.out _ _ hP; clear hP; have a0 := grCell hb2 a0; have a1 := grCell hb2 a1; have a2 := grCell hb2 a2; have hb2 := Lib.hid hb2)
      | (go_at_call 15; refine (HCk.out _ hb2.out).mono ?_; rintro e w3 ⟨rfl, hb3⟩; have hb3 := Lib.hid hb3))
    go_ret
    exact ⟨rfl, Gr.tr HG.out (Gr.tr hb2.out hb3.out)⟩
  have e : isM n xs = (checkM n xs && sameB (shareM n) xs) := by unfold isM; rw [hv]; rfl
  rw [e]
  have hS : Hid (∀ e w', ShareP n W1 e w' → Gr W1 w' ∧ ∃ R, QsR w' (shareM n) (some ⟨R, 0, none⟩) ∧ e = .returned (.tuple #[.slice (some ⟨R, 0, none⟩) (shareM n).length (shareM n).length, .int .i64 0])) := Lib.hid (fun e w' h => by
    have h2 := h.2
    rw [hv, if_pos rfl] at h2
    obtain ⟨h3, R, h4, h5, h6⟩ := h2
    exact ⟨h.1, R, qs_blk h5, by rw [h6, h3]⟩)
  have hl : (shareM n).length ≤ maxLen := by have := (share_fair hv).2.1; have := HM.out.1.2.1; omega
  have HSm := Lib.hid (fun (R : Nat) wx (h1 : QsR wx (shareM n) (some ⟨R, 0, none⟩)) (h2 : Gr W1 wx) => RSame_any (shareM n) xs (some ⟨R, 0, none⟩) XA (shareM n).length xm wx h1 (HX.out wx h2) hl)
  clear e hv HX HM hl
  generalize sameB (shareM n) xs = sb at *
  generalize checkM n xs = cb at *
  generalize shareM n = ys at *
  cases cb with
  | false =>
    go_enter Try.func27, Try.ntmps27
    go_upto_region 1 with fail
    rw [← hW1]
    clear hW1
    go_wp2_with (first
      | (go_at_call 12; refine HSh.out.mono ?_; intro e w2 hP; obtain ⟨hb2, R, hQ, rfl⟩ := hS.out _ _ hP; clear hP; have hQ := Lib.hid hQ; have a0 := grCell hb2 a0; have a1 := grCell hb2 a1; have a2 := grCell hb2 a2; have hb2 := Lib.hid hb2)
      | (go_at_call 15; refine (HCk.out _ hb2.out).mono ?_; rintro e w3 ⟨rfl, hb3⟩; have hb3 := Lib.hid hb3))
    go_ret
    exact ⟨rfl, Gr.tr HG.out (Gr.tr hb2.out hb3.out)⟩
  | true =>
    go_enter Try.func27, Try.ntmps27
    go_upto_region 1 with fail
    rw [← hW1]
    clear hW1
    go_wp2_with (first
      | (go_at_call 12; refine HSh.out.mono ?_; intro e w2 hP; obtain ⟨hb2, R, hQ, rfl⟩ := hS.out _ _ hP; clear hP; have hQ := Lib.hid hQ; have a0 := grCell hb2 a0; have a1 := grCell hb2 a1; have a2 := grCell hb2 a2; have hb2 := Lib.hid hb2)
      | (go_at_call 15; refine (HCk.out _ hb2.out).mono ?_; rintro e w3 ⟨rfl, hb3⟩; have hb3 := Lib.hid hb3)
      | (go_at_call 14; refine (HSm.out R _ (hQ.out.gr hb3.out) (Gr.tr hb2.out hb3.out)).mono ?_; rintro e w4 ⟨rfl, hb4⟩; have hb4 := Lib.hid hb4))
    go_ret
    exact ⟨rfl, Gr.tr HG.out (Gr.tr hb2.out (Gr.tr hb3.out hb4.out))⟩
end Go.Proofs.Ytbjhdfakocfapaa
