/- Package maxmin: Check. -/
import Derived.Test.YtbjhdfakocfapaaMsW
namespace Go.Proofs.Ytbjhdfakocfapaa
open Go.RowKit
set_option linter.unusedVariables false
set_option linter.unusedSimpArgs false
def checkM (n : Net) (xs : List Q) : Bool := validB n && (ratesB n xs && (ipM n xs && saM n xs))
theorem valid_links {n : Net} (h : validB n = true) : ∀ r ∈ n.f, ∀ l ∈ r, 0 ≤ l ∧ l < n.c.length := by
  have h1 : ∀ r ∈ n.f, linksB n.c.length r = true := by
    simp only [validB, sizeB, Bool.and_eq_true, decide_eq_true_eq, List.all_eq_true] at h
    exact h.2.1
  have h2 : ∀ (r : List Int) (m : Int), 0 ≤ m → linkB n.c.length r m = true → ∀ l ∈ r, 0 ≤ l ∧ l < n.c.length := by
    intro r
    induction r with
    | nil => intro m hm hh l hl; cases hl
    | cons x r ih =>
      intro m hm hh l hl
      rw [linkB] at hh
      split at hh
      · cases hh
      · rename_i hc
        rcases List.mem_cons.1 hl with rfl | hl
        · exact ⟨by omega, by omega⟩
        · exact ih (x + 1) (by omega) hh l hl
  intro r hr
  have h3 := h1 r hr
  simp only [linksB, Bool.and_eq_true] at h3
  exact h2 r 0 (Int.le_refl _) h3.2
theorem valid_alc {n : Net} {a : NetA} {xs : List Q} {XA : Option Addr} {w : World} (h : validB n = true) (h2 : ratesB n xs = true) (hn : NetR w n a) (hx : QsR w xs XA) : Alc w n a xs XA := by
  have h1 := h
  simp only [validB, sizeB, Bool.and_eq_true, decide_eq_true_eq, List.all_eq_true] at h1
  simp only [ratesB, Bool.and_eq_true, decide_eq_true_eq] at h2
  refine ⟨hn, hx, h2.1, by omega, by omega, h1.1.2, fun r hr => ?_⟩
  have h3 := h1.2.1 r hr
  simp only [linksB, Bool.and_eq_true, decide_eq_true_eq] at h3
  omega
set_option maxHeartbeats 2000000 in
set_option maxRecDepth 100000 in
theorem Check_any (n : Net) (a : NetA) (xs : List Q) (XA : Option Addr) (xm : Nat) (w : World) (hn : NetR w n a) (hs : n.c.length ≤ maxLen ∧ n.f.length ≤ maxLen ∧ n.l.length ≤ maxLen) (hx : QsR w xs XA) (hm : xs.length ≤ maxLen) :
    Calls Try.prog 15 #[nv n a, .slice XA xs.length xm] w (VV (.bool (checkM n xs)) w) := by
  obtain ⟨W1, hW1⟩ : ∃ W1, W1 = w.alloc (netB n a) := ⟨_, rfl⟩
  have G1 : Gr w W1 := by rw [hW1]; exact grAlloc _ _
  have A1 : W1.heap[w.heap.size]? = some (netB n a) := by rw [hW1]; exact newBlk _ _ _ rfl
  obtain ⟨a0, a1, a2⟩ := cells3 A1
  have HV := Lib.hid (Valid13_any n a W1 (hn.gr G1) hs)
  have HA := Lib.hid (fun wx (hg : Gr W1 wx) => areRates_any n a xs XA xm wx (hx.gr (Gr.tr G1 hg)) hm)
  have HG := Lib.hid G1
  have HX := Lib.hid (And.intro hn hx)
  clear A1 hn hx hs hm G1
  rcases hv : validB n with _ | _
  · have e : checkM n xs = false := by unfold checkM; rw [hv]; rfl
    rw [e]
    rw [hv] at HV
    clear e hv HX HA
    go_enter Try.func15, Try.ntmps15
    go_upto_region 1 with fail
    rw [← hW1]
    clear hW1
    go_wp2_with (go_at_call 17; refine HV.out.mono ?_; rintro e w2 ⟨rfl, hb2⟩; have hb2 := Lib.hid hb2)
    go_ret
    exact ⟨rfl, Gr.tr HG.out hb2.out⟩
  rcases hr : ratesB n xs with _ | _
  · have e : checkM n xs = false := by unfold checkM; rw [hv, hr]; rfl
    rw [e]
    rw [hv] at HV
    rw [hr] at HA
    clear e hv hr HX
    go_enter Try.func15, Try.ntmps15
    go_upto_region 1 with fail
    rw [← hW1]
    clear hW1
    go_wp2_with (first
      | (go_at_call 17; refine HV.out.mono ?_; rintro e w2 ⟨rfl, hb2⟩; have a0 := grCell hb2 a0; have a1 := grCell hb2 a1; have a2 := grCell hb2 a2; have hb2 := Lib.hid hb2)
      | (go_at_call 32; refine (HA.out _ hb2.out).mono ?_; rintro e w3 ⟨rfl, hb3⟩; have hb3 := Lib.hid hb3))
    go_ret
    exact ⟨rfl, Gr.tr HG.out (Gr.tr hb2.out hb3.out)⟩
  have e : checkM n xs = (ipM n xs && saM n xs) := by unfold checkM; rw [hv, hr]; rfl
  rw [e]
  have HL := Lib.hid (fun wx hg => isPossible_any n a xs XA xm wx (valid_alc hv hr (HX.out.1.gr hg) (HX.out.2.gr hg)))
  have HS := Lib.hid (fun wx hg => stopsAll_any n a xs XA xm (valid_links hv) wx (valid_alc hv hr (HX.out.1.gr hg) (HX.out.2.gr hg)))
  rw [hv] at HV
  rw [hr] at HA
  clear e hv hr HX
  generalize ipM n xs = pb at *
  generalize saM n xs = sb at *
  go_enter Try.func15, Try.ntmps15
  go_upto_region 1 with fail
  rw [← hW1]
  clear hW1
  go_upto_region 4 with (first
    | (go_at_call 17; refine HV.out.mono ?_; rintro e w2 ⟨rfl, hb2⟩; have a0 := grCell hb2 a0; have a1 := grCell hb2 a1; have a2 := grCell hb2 a2; have hb2 := Lib.hid hb2)
    | (go_at_call 32; refine (HA.out _ hb2.out).mono ?_; rintro e w3 ⟨rfl, hb3⟩; have a0 := grCell hb3 a0; have a1 := grCell hb3 a1; have a2 := grCell hb3 a2; have hb3 := Lib.hid hb3))
  obtain ⟨W3, hW3⟩ : ∃ W3, w3.alloc (alB n a xs XA xm) = W3 := ⟨_, rfl⟩
  have G3 := Lib.hid (show Gr w W3 by rw [← hW3]; exact Gr.tr HG.out (Gr.tr hb2.out (Gr.tr hb3.out (grAlloc _ _))))
  have Q3 : W3.heap[w3.heap.size]? = some (alB n a xs XA xm) := by rw [← hW3]; exact newBlk _ _ _ rfl
  rw [hW3]
  clear hW3 a0 a1 a2
  clear a0 a1 a2
  clear a0 a1 a2
  clear HG hb2 hb3 HA HV
  obtain ⟨b0, b1, b2, b3⟩ := cells4 Q3
  clear Q3
  cases pb with
  | false =>
    go_wp2_with (go_at_call 33; refine (HL.out _ G3.out).mono ?_; rintro e w4 ⟨rfl, hb4⟩; have hb4 := Lib.hid hb4)
    go_ret
    exact ⟨rfl, Gr.tr G3.out hb4.out⟩
  | true =>
    go_wp2_with (first
      | (go_at_call 33; refine (HL.out _ G3.out).mono ?_; rintro e w4 ⟨rfl, hb4⟩; have b0 := grCell hb4 b0; have b1 := grCell hb4 b1; have b2 := grCell hb4 b2; have b3 := grCell hb4 b3; have hb4 := Lib.hid hb4)
      | (go_at_call 34; refine (HS.out _ (Gr.tr G3.out hb4.out)).mono ?_; rintro e w5 ⟨rfl, hb5⟩; have hb5 := Lib.hid hb5))
    go_ret
    exact ⟨rfl, Gr.tr G3.out (Gr.tr hb4.out hb5.out)⟩
end Go.Proofs.Ytbjhdfakocfapaa
