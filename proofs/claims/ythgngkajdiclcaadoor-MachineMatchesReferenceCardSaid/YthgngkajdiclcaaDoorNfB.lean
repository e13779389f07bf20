/- Law package 10: is. Conditions: the laid variables. -/
import Derived.Test.YthgngkajdiclcaaDoorNfA
namespace Go.Proofs.YthgngkajdiclcaaDoor
open Go.RowKit
set_option linter.unusedVariables false
set_option linter.unusedSimpArgs false
namespace N
open K
theorem int1 {w : World} {b : Nat} {n : Int} {T : TypeId} (h : w.heap[b]? = some (.cells #[.int .i64 n] T (0, 0))) : IntsR w [n] (some ⟨b, 0, none⟩) := by
  refine .inr ⟨b, 0, rfl, fun i m hm => ?_⟩
  rcases i with _ | i
  · simp at hm; subst hm; exact (cell_of_row _ _ 0 _ _ (0, 0) h).trans rfl
  · simp at hm
/-- the two calls of is, up to its answer -/
theorem is_head (h0 h1 h2 h3 h4 : Hd) (ev want f steps : Int) (rs : List Int) (er n : Int) (w : World) (hR : ∀ h ∈ [h0, h1, h2, h3, h4], InsR w h.l h.A) (hlen : ∀ h ∈ [h0, h1, h2, h3, h4], h.l.length ≤ 4500) (hE : LaidE w) (hI : LaidI w)
    (hr : runF [(1, 100)] [h0, h1, h2, h3, h4] [7] ev 1 1 1 0 = (rs, er)) (hs : stepsF [(1, 100)] [h0, h1, h2, h3, h4] [7] ev 1 1 1 0 = (n, 0)) :
    (∀ wx b q, Gr w wx → VsR wx [(1, 100)] (some ⟨b, 0, none⟩) → IntsR wx [7] (some ⟨q, 0, none⟩) → Calls Tryd.prog 9 #[.slice (some ⟨b, 0, none⟩) 1 1, .agg (cdA h0 h1 h2 h3 h4), .slice (some ⟨q, 0, none⟩) 1 1, .agg (clA ev 1 1 1 0)] wx (RnP rs er wx)) ∧
    (∀ wx b q, Gr w wx → VsR wx [(1, 100)] (some ⟨b, 0, none⟩) → IntsR wx [7] (some ⟨q, 0, none⟩) → Calls Tryd.prog 11 #[.slice (some ⟨b, 0, none⟩) 1 1, .agg (cdA h0 h1 h2 h3 h4), .slice (some ⟨q, 0, none⟩) 1 1, .agg (clA ev 1 1 1 0)] wx (GG (.tuple #[.int .i64 n, .int .i64 0]) wx)) := by
  refine ⟨fun wx b q hg hv hi => ?_, fun wx b q hg hv hi => ?_⟩
  · have := Run_any [(1, 100)] (some ⟨b, 0, none⟩) 1 h0 h1 h2 h3 h4 [7] (some ⟨q, 0, none⟩) 1 ev 1 1 1 0 wx hv (fun h hh => (hR h hh).gr hg) hlen hi (hE.gr hg) (hI.gr hg) (by simp) (fun h => by cases h)
    rw [hr] at this
    exact this
  · have := Steps_any [(1, 100)] (some ⟨b, 0, none⟩) 1 h0 h1 h2 h3 h4 [7] (some ⟨q, 0, none⟩) 1 ev 1 1 1 0 wx hv (fun h hh => (hR h hh).gr hg) hlen hi (hE.gr hg) (hI.gr hg) (by simp) (fun h => by cases h)
    rw [hs] at this
    exact this
set_option maxHeartbeats 8000000 in
set_option maxRecDepth 100000 in
theorem is_any (h0 h1 h2 h3 h4 : Hd) (ev want f steps : Int) (rs : List Int) (er : Int) (w : World) (hR : ∀ h ∈ [h0, h1, h2, h3, h4], InsR w h.l h.A) (hlen : ∀ h ∈ [h0, h1, h2, h3, h4], h.l.length ≤ 4500) (hE : LaidE w) (hI : LaidI w)
    (hr : runF [(1, 100)] [h0, h1, h2, h3, h4] [7] ev 1 1 1 0 = (rs, er)) (hs : stepsF [(1, 100)] [h0, h1, h2, h3, h4] [7] ev 1 1 1 0 = (steps, 0)) (hf : (f ≠ 0 ∧ er = f ∧ rs = []) ∨ (f = 0 ∧ er = 0 ∧ rs = [want])) :
    Calls Tryd.prog 18 #[.agg (cdA h0 h1 h2 h3 h4), .int .i64 ev, .int .i64 want, .int .i64 f, .int .i64 steps] w (BB true w) := by
  obtain ⟨hRun, hStp⟩ := is_head h0 h1 h2 h3 h4 ev want f steps rs er steps w hR hlen hE hI hr hs
  have HRun := Lib.hid hRun
  have HStp := Lib.hid hStp
  have HCl := Lib.hid (call_any ev)
  have hfH := Lib.hid hf
  clear hRun hStp hR hlen hE hI hr hs hf
  obtain ⟨W1, hW1⟩ : ∃ W1, W1 = w.alloc (.cells (cdA h0 h1 h2 h3 h4) 26) := ⟨_, rfl⟩
  have HG := Lib.hid (show Gr w W1 by rw [hW1]; exact grAlloc _ _)
  have HC := Lib.hid (show W1.heap[w.heap.size]? = some (.cells (cdA h0 h1 h2 h3 h4) 26 (0, 0)) by rw [hW1]; exact nBlk _ _ _ rfl)
  obtain ⟨c0, c1, c2, c3, c4⟩ := cells5k HC.out
  go_enter Tryd.func18, Tryd.ntmps18
  go_upto_region 1 with fail
  rw [← hW1]
  clear hW1
  go_cut [11, 12] (fun s11 s12 wx => ∃ A c, s11 = .slice A rs.length c ∧ s12 = .int .i64 er ∧ Hid (IntsR wx rs A) ∧ Hid (Gr w wx) ∧ Hid (wx.heap[w.heap.size]? = some (.cells (cdA h0 h1 h2 h3 h4) 26 (0, 0))))
  case first =>
    refine wp_region_G (S := fun wq => Gr W1 wq) (by kernel_rfl) (grDrew _) (fun hHeld => ?_)
    have hSG : Hid (∀ wp wq : World, Gr W1 wp → Gr wp wq → Gr W1 wq) := Lib.hid (fun _ _ h k => h.tr k)
    have hmv := Lib.hid (fun (wq : World) (hq : Gr W1 wq) => And.intro (grCell hq c0) (And.intro (grCell hq c1) (And.intro (grCell hq c2) (And.intro (grCell hq c3) (grCell hq c4)))))
    first
     | (refine tk hSG 1 (v := ?_) rfl (by kernel_rfl) (fun _ _ _ h => h) (by rfl) ?_ hHeld ?_; rotate_left; focus (intro w' hSw; obtain ⟨c0, c1, c2, c3, c4⟩ := hmv.out _ hSw; go_simp; (try with_reducible rfl)))
     | refine tn hSG 1 rfl (by kernel_rfl) (fun _ _ _ h => h) (by rfl) hHeld ?_
    (try simp only [zq1, zq2, zq3, Act.put, zq4, zq5, zq6])
    first
     | (refine tk hSG 3 (v := ?_) rfl (by kernel_rfl) (fun _ _ _ h => h) (by rfl) ?_ hHeld ?_; rotate_left; focus (intro w' hSw; obtain ⟨c0, c1, c2, c3, c4⟩ := hmv.out _ hSw; go_simp; (try with_reducible rfl)))
     | refine tn hSG 3 rfl (by kernel_rfl) (fun _ _ _ h => h) (by rfl) hHeld ?_
    (try simp only [zq1, zq2, zq3, Act.put, zq4, zq5, zq6])
    refine wpAnyG_ready (rs := [0, 2]) (by kernel_rfl) (by simp) (AllG.cons rfl (fun w4 hg K hK => ?_) (AllG.cons rfl (fun w4 hg K hK => ?_) AllG.nil))
    · skip
      have hgS := hSG.out _ _ hHeld.out hg
      go_simp
      go_at_call 20
      refine (vars_any w4).mono ?_
      rintro e w5 ⟨⟨b, rfl, hv⟩, hg5⟩
      have hv := Lib.hid hv
      refine hK.out _ _ (hgS.tr hg5) (fun hHeld => ?_)
      clear hK K hg hgS hg5
      refine tc hSG 4 (v := .agg (clA ev 1 1 1 0)) rfl (by kernel_rfl) (fun _ _ _ h => h) (by rfl) ?_ hHeld ?_
      focus (intro wz hSw K hK; obtain ⟨c0, c1, c2, c3, c4⟩ := hmv.out _ hSw; go_simp; go_at_call 21; refine (HCl.out _).mono ?_; rintro e w2 ⟨rfl, hb2⟩; exact hK.out _ hb2)
      (try simp only [zq1, zq2, zq3, Act.put, zq4, zq5, zq6])
      refine wpAnyG_ready (rs := [2]) (by kernel_rfl) (by simp) (AllG.cons rfl (fun w6 hg K hK => ?_) AllG.nil)
      have hgS := hSG.out _ _ hHeld.out hg
      have hv := Lib.hid (hv.out.gr (hg.tr (grAlloc w6 (.cells #[.int .i64 7] 3))))
      go_simp
      refine hK.out _ _ (hgS.tr (grAlloc _ _)) (fun hHeld => ?_)
      have hi := Lib.hid (int1 (nBlk w6 (.cells #[.int .i64 7] 3) _ rfl))
      clear hK K hg hgS
      refine wpAnyG_ready (rs := [5]) (by kernel_rfl) (by simp) (AllG.cons rfl (fun w7 hg K hK => ?_) AllG.nil)
      have hgS := hSG.out _ _ hHeld.out hg
      have HH := HRun.out w7 _ _ (HG.out.tr hgS) (hv.out.gr hg) (hi.out.gr hg)
      go_simp
      go_at_call 9
      refine HH.mono ?_
      rintro e w8 ⟨⟨A, c, rfl, hI, -⟩, hg8⟩
      refine hK.out _ _ (hgS.tr hg8) (fun hHeld => ?_)
      have hI := Lib.hid hI
      clear hK K hg hgS hg8 HH hv hi
      first
       | (refine tk hSG 6 (v := ?_) rfl (by kernel_rfl) (fun _ _ _ h => h) (by rfl) ?_ hHeld ?_; rotate_left; focus (intro w' hSw; obtain ⟨c0, c1, c2, c3, c4⟩ := hmv.out _ hSw; go_simp; (try with_reducible rfl)))
       | refine tn hSG 6 rfl (by kernel_rfl) (fun _ _ _ h => h) (by rfl) hHeld ?_
      (try simp only [zq1, zq2, zq3, Act.put, zq4, zq5, zq6])
      first
       | (refine tk hSG 7 (v := ?_) rfl (by kernel_rfl) (fun _ _ _ h => h) (by rfl) ?_ hHeld ?_; rotate_left; focus (intro w' hSw; obtain ⟨c0, c1, c2, c3, c4⟩ := hmv.out _ hSw; go_simp; (try with_reducible rfl)))
       | refine tn hSG 7 rfl (by kernel_rfl) (fun _ _ _ h => h) (by rfl) hHeld ?_
      (try simp only [zq1, zq2, zq3, Act.put, zq4, zq5, zq6])
      first
       | (refine tk hSG 8 (v := ?_) rfl (by kernel_rfl) (fun _ _ _ h => h) (by rfl) ?_ hHeld ?_; rotate_left; focus (intro w' hSw; obtain ⟨c0, c1, c2, c3, c4⟩ := hmv.out _ hSw; go_simp; (try with_reducible rfl)))
       | refine tn hSG 8 rfl (by kernel_rfl) (fun _ _ _ h => h) (by rfl) hHeld ?_
      (try simp only [zq1, zq2, zq3, Act.put, zq4, zq5, zq6])
      first
       | (refine tk hSG 9 (v := ?_) rfl (by kernel_rfl) (fun _ _ _ h => h) (by rfl) ?_ hHeld ?_; rotate_left; focus (intro w' hSw; obtain ⟨c0, c1, c2, c3, c4⟩ := hmv.out _ hSw; go_simp; (try with_reducible rfl)))
       | refine tn hSG 9 rfl (by kernel_rfl) (fun _ _ _ h => h) (by rfl) hHeld ?_
      (try simp only [zq1, zq2, zq3, Act.put, zq4, zq5, zq6])
      first
       | (refine tk hSG 10 (v := ?_) rfl (by kernel_rfl) (fun _ _ _ h => h) (by rfl) ?_ hHeld ?_; rotate_left; focus (intro w' hSw; obtain ⟨c0, c1, c2, c3, c4⟩ := hmv.out _ hSw; go_simp; (try with_reducible rfl)))
       | refine tn hSG 10 rfl (by kernel_rfl) (fun _ _ _ h => h) (by rfl) hHeld ?_
      (try simp only [zq1, zq2, zq3, Act.put, zq4, zq5, zq6])
      refine wpAnyG_done (by kernel_rfl) (fun w9 hg => ?_) _
      have hg9 := hSG.out _ _ hHeld.out hg
      have HB9 := Lib.hid (HG.out.tr hg9)
      have hI9 := Lib.hid (hI.out.gr hg)
      have HC9 := Lib.hid (grBlk hg9 HC.out)
      clear hg hg9 hHeld hSG hI
      go_wp2
      go_meet
      exact ⟨A, c, rfl, rfl, hI9, HB9, HC9⟩
    · skip
      have hgS := hSG.out _ _ hHeld.out hg
      go_simp
      refine hK.out _ _ (hgS.tr (grAlloc _ _)) (fun hHeld => ?_)
      have hi := Lib.hid (int1 (nBlk w4 (.cells #[.int .i64 7] 3) _ rfl))
      clear hK K hg hgS
      refine wpAnyG_ready (rs := [0]) (by kernel_rfl) (by simp) (AllG.cons rfl (fun w6 hg K hK => ?_) AllG.nil)
      have hgS := hSG.out _ _ hHeld.out hg
      go_simp
      go_at_call 20
      refine (vars_any w6).mono ?_
      rintro e w5 ⟨⟨b, rfl, hv⟩, hg5⟩
      have hv := Lib.hid hv
      have hi := Lib.hid (hi.out.gr (hg.tr hg5))
      refine hK.out _ _ (hgS.tr hg5) (fun hHeld => ?_)
      clear hK K hg hgS hg5
      refine tc hSG 4 (v := .agg (clA ev 1 1 1 0)) rfl (by kernel_rfl) (fun _ _ _ h => h) (by rfl) ?_ hHeld ?_
      focus (intro wz hSw K hK; obtain ⟨c0, c1, c2, c3, c4⟩ := hmv.out _ hSw; go_simp; go_at_call 21; refine (HCl.out _).mono ?_; rintro e w2 ⟨rfl, hb2⟩; exact hK.out _ hb2)
      (try simp only [zq1, zq2, zq3, Act.put, zq4, zq5, zq6])
      refine wpAnyG_ready (rs := [5]) (by kernel_rfl) (by simp) (AllG.cons rfl (fun w7 hg K hK => ?_) AllG.nil)
      have hgS := hSG.out _ _ hHeld.out hg
      have HH := HRun.out w7 _ _ (HG.out.tr hgS) (hv.out.gr hg) (hi.out.gr hg)
      go_simp
      go_at_call 9
      refine HH.mono ?_
      rintro e w8 ⟨⟨A, c, rfl, hI, -⟩, hg8⟩
      refine hK.out _ _ (hgS.tr hg8) (fun hHeld => ?_)
      have hI := Lib.hid hI
      clear hK K hg hgS hg8 HH hv hi
      first
       | (refine tk hSG 6 (v := ?_) rfl (by kernel_rfl) (fun _ _ _ h => h) (by rfl) ?_ hHeld ?_; rotate_left; focus (intro w' hSw; obtain ⟨c0, c1, c2, c3, c4⟩ := hmv.out _ hSw; go_simp; (try with_reducible rfl)))
       | refine tn hSG 6 rfl (by kernel_rfl) (fun _ _ _ h => h) (by rfl) hHeld ?_
      (try simp only [zq1, zq2, zq3, Act.put, zq4, zq5, zq6])
      first
       | (refine tk hSG 7 (v := ?_) rfl (by kernel_rfl) (fun _ _ _ h => h) (by rfl) ?_ hHeld ?_; rotate_left; focus (intro w' hSw; obtain ⟨c0, c1, c2, c3, c4⟩ := hmv.out _ hSw; go_simp; (try with_reducible rfl)))
       | refine tn hSG 7 rfl (by kernel_rfl) (fun _ _ _ h => h) (by rfl) hHeld ?_
      (try simp only [zq1, zq2, zq3, Act.put, zq4, zq5, zq6])
      first
       | (refine tk hSG 8 (v := ?_) rfl (by kernel_rfl) (fun _ _ _ h => h) (by rfl) ?_ hHeld ?_; rotate_left; focus (intro w' hSw; obtain ⟨c0, c1, c2, c3, c4⟩ := hmv.out _ hSw; go_simp; (try with_reducible rfl)))
       | refine tn hSG 8 rfl (by kernel_rfl) (fun _ _ _ h => h) (by rfl) hHeld ?_
      (try simp only [zq1, zq2, zq3, Act.put, zq4, zq5, zq6])
      first
       | (refine tk hSG 9 (v := ?_) rfl (by kernel_rfl) (fun _ _ _ h => h) (by rfl) ?_ hHeld ?_; rotate_left; focus (intro w' hSw; obtain ⟨c0, c1, c2, c3, c4⟩ := hmv.out _ hSw; go_simp; (try with_reducible rfl)))
       | refine tn hSG 9 rfl (by kernel_rfl) (fun _ _ _ h => h) (by rfl) hHeld ?_
      (try simp only [zq1, zq2, zq3, Act.put, zq4, zq5, zq6])
      first
       | (refine tk hSG 10 (v := ?_) rfl (by kernel_rfl) (fun _ _ _ h => h) (by rfl) ?_ hHeld ?_; rotate_left; focus (intro w' hSw; obtain ⟨c0, c1, c2, c3, c4⟩ := hmv.out _ hSw; go_simp; (try with_reducible rfl)))
       | refine tn hSG 10 rfl (by kernel_rfl) (fun _ _ _ h => h) (by rfl) hHeld ?_
      (try simp only [zq1, zq2, zq3, Act.put, zq4, zq5, zq6])
      refine wpAnyG_done (by kernel_rfl) (fun w9 hg => ?_) _
      have hg9 := hSG.out _ _ hHeld.out hg
      have HB9 := Lib.hid (HG.out.tr hg9)
      have hI9 := Lib.hid (hI.out.gr hg)
      have HC9 := Lib.hid (grBlk hg9 HC.out)
      clear hg hg9 hHeld hSG hI
      go_wp2
      go_meet
      exact ⟨A, c, rfl, rfl, hI9, HB9, HC9⟩
  case rest =>
    obtain ⟨A, c, rfl, rfl, hIc, HBc, HCc⟩ := hcut
    clear c0 c1 c2 c3 c4 HC HG HRun
    obtain ⟨c0, c1, c2, c3, c4⟩ := cells5k HCc.out
    go_upto_region 2 with fail
    go_cut [13, 14] (fun s13 s14 wx => s13 = .int .i64 steps ∧ s14 = .int .i64 0 ∧ Hid (IntsR wx rs A) ∧ Hid (Gr w wx))
    case first =>
      refine wp_region_G (S := fun wq => Gr wc wq) (by kernel_rfl) (grDrew _) (fun hHeld => ?_)
      have hSG : Hid (∀ wp wq : World, Gr wc wp → Gr wp wq → Gr wc wq) := Lib.hid (fun _ _ h k => h.tr k)
      have hmv := Lib.hid (fun (wq : World) (hq : Gr wc wq) => And.intro (grCell hq c0) (And.intro (grCell hq c1) (And.intro (grCell hq c2) (And.intro (grCell hq c3) (grCell hq c4)))))
      first
       | (refine tk hSG 1 (v := ?_) rfl (by kernel_rfl) (fun _ _ _ h => h) (by rfl) ?_ hHeld ?_; rotate_left; focus (intro w' hSw; obtain ⟨c0, c1, c2, c3, c4⟩ := hmv.out _ hSw; go_simp; (try with_reducible rfl)))
       | refine tn hSG 1 rfl (by kernel_rfl) (fun _ _ _ h => h) (by rfl) hHeld ?_
      (try simp only [zq1, zq2, zq3, Act.put, zq4, zq5, zq6])
      first
       | (refine tk hSG 3 (v := ?_) rfl (by kernel_rfl) (fun _ _ _ h => h) (by rfl) ?_ hHeld ?_; rotate_left; focus (intro w' hSw; obtain ⟨c0, c1, c2, c3, c4⟩ := hmv.out _ hSw; go_simp; (try with_reducible rfl)))
       | refine tn hSG 3 rfl (by kernel_rfl) (fun _ _ _ h => h) (by rfl) hHeld ?_
      (try simp only [zq1, zq2, zq3, Act.put, zq4, zq5, zq6])
      refine wpAnyG_ready (rs := [0, 2]) (by kernel_rfl) (by simp) (AllG.cons rfl (fun w4 hg K hK => ?_) (AllG.cons rfl (fun w4 hg K hK => ?_) AllG.nil))
      · skip
        have hgS := hSG.out _ _ hHeld.out hg
        go_simp
        go_at_call 20
        refine (vars_any w4).mono ?_
        rintro e w5 ⟨⟨b, rfl, hv⟩, hg5⟩
        have hv := Lib.hid hv
        refine hK.out _ _ (hgS.tr hg5) (fun hHeld => ?_)
        clear hK K hg hgS hg5
        refine tc hSG 4 (v := .agg (clA ev 1 1 1 0)) rfl (by kernel_rfl) (fun _ _ _ h => h) (by rfl) ?_ hHeld ?_
        focus (intro wz hSw K hK; obtain ⟨c0, c1, c2, c3, c4⟩ := hmv.out _ hSw; go_simp; go_at_call 21; refine (HCl.out _).mono ?_; rintro e w2 ⟨rfl, hb2⟩; exact hK.out _ hb2)
        (try simp only [zq1, zq2, zq3, Act.put, zq4, zq5, zq6])
        refine wpAnyG_ready (rs := [2]) (by kernel_rfl) (by simp) (AllG.cons rfl (fun w6 hg K hK => ?_) AllG.nil)
        have hgS := hSG.out _ _ hHeld.out hg
        have hv := Lib.hid (hv.out.gr (hg.tr (grAlloc w6 (.cells #[.int .i64 7] 3))))
        go_simp
        refine hK.out _ _ (hgS.tr (grAlloc _ _)) (fun hHeld => ?_)
        have hi := Lib.hid (int1 (nBlk w6 (.cells #[.int .i64 7] 3) _ rfl))
        clear hK K hg hgS
        refine wpAnyG_ready (rs := [5]) (by kernel_rfl) (by simp) (AllG.cons rfl (fun w7 hg K hK => ?_) AllG.nil)
        have hgS := hSG.out _ _ hHeld.out hg
        have HH := HStp.out w7 _ _ (HBc.out.tr hgS) (hv.out.gr hg) (hi.out.gr hg)
        go_simp
        go_at_call 11
        refine HH.mono ?_
        rintro e w8 ⟨rfl, hg8⟩
        refine hK.out _ _ (hgS.tr hg8) (fun hHeld => ?_)
        clear hK K hg hgS hg8 HH hv hi
        first
         | (refine tk hSG 6 (v := ?_) rfl (by kernel_rfl) (fun _ _ _ h => h) (by rfl) ?_ hHeld ?_; rotate_left; focus (intro w' hSw; obtain ⟨c0, c1, c2, c3, c4⟩ := hmv.out _ hSw; go_simp; (try with_reducible rfl)))
         | refine tn hSG 6 rfl (by kernel_rfl) (fun _ _ _ h => h) (by rfl) hHeld ?_
        (try simp only [zq1, zq2, zq3, Act.put, zq4, zq5, zq6])
        first
         | (refine tk hSG 7 (v := ?_) rfl (by kernel_rfl) (fun _ _ _ h => h) (by rfl) ?_ hHeld ?_; rotate_left; focus (intro w' hSw; obtain ⟨c0, c1, c2, c3, c4⟩ := hmv.out _ hSw; go_simp; (try with_reducible rfl)))
         | refine tn hSG 7 rfl (by kernel_rfl) (fun _ _ _ h => h) (by rfl) hHeld ?_
        (try simp only [zq1, zq2, zq3, Act.put, zq4, zq5, zq6])
        first
         | (refine tk hSG 8 (v := ?_) rfl (by kernel_rfl) (fun _ _ _ h => h) (by rfl) ?_ hHeld ?_; rotate_left; focus (intro w' hSw; obtain ⟨c0, c1, c2, c3, c4⟩ := hmv.out _ hSw; go_simp; (try with_reducible rfl)))
         | refine tn hSG 8 rfl (by kernel_rfl) (fun _ _ _ h => h) (by rfl) hHeld ?_
        (try simp only [zq1, zq2, zq3, Act.put, zq4, zq5, zq6])
        first
         | (refine tk hSG 9 (v := ?_) rfl (by kernel_rfl) (fun _ _ _ h => h) (by rfl) ?_ hHeld ?_; rotate_left; focus (intro w' hSw; obtain ⟨c0, c1, c2, c3, c4⟩ := hmv.out _ hSw; go_simp; (try with_reducible rfl)))
         | refine tn hSG 9 rfl (by kernel_rfl) (fun _ _ _ h => h) (by rfl) hHeld ?_
        (try simp only [zq1, zq2, zq3, Act.put, zq4, zq5, zq6])
        first
         | (refine tk hSG 10 (v := ?_) rfl (by kernel_rfl) (fun _ _ _ h => h) (by rfl) ?_ hHeld ?_; rotate_left; focus (intro w' hSw; obtain ⟨c0, c1, c2, c3, c4⟩ := hmv.out _ hSw; go_simp; (try with_reducible rfl)))
         | refine tn hSG 10 rfl (by kernel_rfl) (fun _ _ _ h => h) (by rfl) hHeld ?_
        (try simp only [zq1, zq2, zq3, Act.put, zq4, zq5, zq6])
        refine wpAnyG_done (by kernel_rfl) (fun w9 hg => ?_) _
        have hg9 := hSG.out _ _ hHeld.out hg
        have HB9 := Lib.hid (HBc.out.tr hg9)
        have hI9 := Lib.hid (hIc.out.gr hg9)
        clear hg hg9 hHeld hSG
        go_wp2
        go_meet
        exact ⟨rfl, rfl, hI9, HB9⟩
      · skip
        have hgS := hSG.out _ _ hHeld.out hg
        go_simp
        refine hK.out _ _ (hgS.tr (grAlloc _ _)) (fun hHeld => ?_)
        have hi := Lib.hid (int1 (nBlk w4 (.cells #[.int .i64 7] 3) _ rfl))
        clear hK K hg hgS
        refine wpAnyG_ready (rs := [0]) (by kernel_rfl) (by simp) (AllG.cons rfl (fun w6 hg K hK => ?_) AllG.nil)
        have hgS := hSG.out _ _ hHeld.out hg
        go_simp
        go_at_call 20
        refine (vars_any w6).mono ?_
        rintro e w5 ⟨⟨b, rfl, hv⟩, hg5⟩
        have hv := Lib.hid hv
        have hi := Lib.hid (hi.out.gr (hg.tr hg5))
        refine hK.out _ _ (hgS.tr hg5) (fun hHeld => ?_)
        clear hK K hg hgS hg5
        refine tc hSG 4 (v := .agg (clA ev 1 1 1 0)) rfl (by kernel_rfl) (fun _ _ _ h => h) (by rfl) ?_ hHeld ?_
        focus (intro wz hSw K hK; obtain ⟨c0, c1, c2, c3, c4⟩ := hmv.out _ hSw; go_simp; go_at_call 21; refine (HCl.out _).mono ?_; rintro e w2 ⟨rfl, hb2⟩; exact hK.out _ hb2)
        (try simp only [zq1, zq2, zq3, Act.put, zq4, zq5, zq6])
        refine wpAnyG_ready (rs := [5]) (by kernel_rfl) (by simp) (AllG.cons rfl (fun w7 hg K hK => ?_) AllG.nil)
        have hgS := hSG.out _ _ hHeld.out hg
        have HH := HStp.out w7 _ _ (HBc.out.tr hgS) (hv.out.gr hg) (hi.out.gr hg)
        go_simp
        go_at_call 11
        refine HH.mono ?_
        rintro e w8 ⟨rfl, hg8⟩
        refine hK.out _ _ (hgS.tr hg8) (fun hHeld => ?_)
        clear hK K hg hgS hg8 HH hv hi
        first
         | (refine tk hSG 6 (v := ?_) rfl (by kernel_rfl) (fun _ _ _ h => h) (by rfl) ?_ hHeld ?_; rotate_left; focus (intro w' hSw; obtain ⟨c0, c1, c2, c3, c4⟩ := hmv.out _ hSw; go_simp; (try with_reducible rfl)))
         | refine tn hSG 6 rfl (by kernel_rfl) (fun _ _ _ h => h) (by rfl) hHeld ?_
        (try simp only [zq1, zq2, zq3, Act.put, zq4, zq5, zq6])
        first
         | (refine tk hSG 7 (v := ?_) rfl (by kernel_rfl) (fun _ _ _ h => h) (by rfl) ?_ hHeld ?_; rotate_left; focus (intro w' hSw; obtain ⟨c0, c1, c2, c3, c4⟩ := hmv.out _ hSw; go_simp; (try with_reducible rfl)))
         | refine tn hSG 7 rfl (by kernel_rfl) (fun _ _ _ h => h) (by rfl) hHeld ?_
        (try simp only [zq1, zq2, zq3, Act.put, zq4, zq5, zq6])
        first
         | (refine tk hSG 8 (v := ?_) rfl (by kernel_rfl) (fun _ _ _ h => h) (by rfl) ?_ hHeld ?_; rotate_left; focus (intro w' hSw; obtain ⟨c0, c1, c2, c3, c4⟩ := hmv.out _ hSw; go_simp; (try with_reducible rfl)))
         | refine tn hSG 8 rfl (by kernel_rfl) (fun _ _ _ h => h) (by rfl) hHeld ?_
        (try simp only [zq1, zq2, zq3, Act.put, zq4, zq5, zq6])
        first
         | (refine tk hSG 9 (v := ?_) rfl (by kernel_rfl) (fun _ _ _ h => h) (by rfl) ?_ hHeld ?_; rotate_left; focus (intro w' hSw; obtain ⟨c0, c1, c2, c3, c4⟩ := hmv.out _ hSw; go_simp; (try with_reducible rfl)))
         | refine tn hSG 9 rfl (by kernel_rfl) (fun _ _ _ h => h) (by rfl) hHeld ?_
        (try simp only [zq1, zq2, zq3, Act.put, zq4, zq5, zq6])
        first
         | (refine tk hSG 10 (v := ?_) rfl (by kernel_rfl) (fun _ _ _ h => h) (by rfl) ?_ hHeld ?_; rotate_left; focus (intro w' hSw; obtain ⟨c0, c1, c2, c3, c4⟩ := hmv.out _ hSw; go_simp; (try with_reducible rfl)))
         | refine tn hSG 10 rfl (by kernel_rfl) (fun _ _ _ h => h) (by rfl) hHeld ?_
        (try simp only [zq1, zq2, zq3, Act.put, zq4, zq5, zq6])
        refine wpAnyG_done (by kernel_rfl) (fun w9 hg => ?_) _
        have hg9 := hSG.out _ _ hHeld.out hg
        have HB9 := Lib.hid (HBc.out.tr hg9)
        have hI9 := Lib.hid (hIc.out.gr hg9)
        clear hg hg9 hHeld hSG
        go_wp2
        go_meet
        exact ⟨rfl, rfl, hI9, HB9⟩
    case rest =>
      obtain ⟨rfl, rfl, hI2, HB2⟩ := hcut
      clear c0 c1 c2 c3 c4 HCc HBc hIc HStp HCl
      rcases hfH.out with ⟨f0, rfl, rfl⟩ | ⟨rfl, rfl, rfl⟩
      · have hne : (er != 0) = true := by simp [f0]
        clear f0 hfH
        go_wp2
        go_ret
        exact ⟨rfl, HB2.out⟩
      · clear hfH
        have HW := Lib.hid (int1 (nBlk wc (.cells #[.int .i64 want] 3) _ rfl))
        have HIn := Lib.hid (Ints_any [want] [want] A (some ⟨wc.heap.size, 0, none⟩) c 1 (wc.alloc (.cells #[.int .i64 want] 3)) (hI2.out.gr (grAlloc _ _)) HW.out (by simp))
        have hin : intsB [want] [want] = true := by simp [intsB, eqB]
        rw [hin] at HIn
        have HB3 := Lib.hid (HB2.out.tr (grAlloc wc (.cells #[.int .i64 want] 3)))
        clear hin HW
        go_wp2_with (go_at_call 13; refine HIn.out.mono ?_; rintro e w3 ⟨rfl, hg3⟩; have HB4 := Lib.hid (Gr.tr HB3.out hg3); clear hg3)
        go_ret
        exact ⟨rfl, HB4.out⟩
end N
end Go.Proofs.YthgngkajdiclcaaDoor
