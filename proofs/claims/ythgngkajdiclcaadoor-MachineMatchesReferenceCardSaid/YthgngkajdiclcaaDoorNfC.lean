/- Law package 10: head. Conditions: the laid variables. -/
import Derived.Test.YthgngkajdiclcaaDoorNfB
namespace Go.Proofs.YthgngkajdiclcaaDoor
open Go.RowKit
set_option linter.unusedVariables false
set_option linter.unusedSimpArgs false
namespace N
open K
abbrev hvS (n : Int) (A : Option Addr) : List Hd := [nH, ⟨hvL n, A, 4⟩, nH, nH, nH]
theorem rnn0 (A : Option Addr) : runF [(1, 100)] (hvS 2 A) [7] 1 1 1 1 0 = ([3], 0) := by rfl
theorem stp0 (A : Option Addr) : stepsF [(1, 100)] (hvS 2 A) [7] 1 1 1 1 0 = (4, 0) := by rfl
theorem rnn1 (A : Option Addr) : runF [(1, 100)] (hvS 2 A) [7] 0 1 1 1 0 = ([7], 0) := by rfl
theorem stp1 (A : Option Addr) : stepsF [(1, 100)] (hvS 2 A) [7] 0 1 1 1 0 = (0, 0) := by rfl
theorem rnn2 (A : Option Addr) : runF [(1, 100)] (hvS 0 A) [7] 1 1 1 1 0 = ([], 14) := by rfl
theorem stp2 (A : Option Addr) : stepsF [(1, 100)] (hvS 0 A) [7] 1 1 1 1 0 = (3, 0) := by rfl
theorem rnn3 (A : Option Addr) : runF [(1, 100)] (hvS 9 A) [7] 1 1 1 1 0 = ([], 15) := by rfl
theorem stp3 (A : Option Addr) : stepsF [(1, 100)] (hvS 9 A) [7] 1 1 1 1 0 = (4, 0) := by rfl
theorem run4 (A : Option Addr) : runF [(1, 100)] (hvS 2 A) [0] 1 1 1 1 0 = ([], 1) := by rfl
theorem stp5 (A : Option Addr) : stepsF [(1, 100)] (hvS 2 A) [7] 5 1 1 1 0 = (0, 1) := by rfl
abbrev adL : List In := [⟨4, 0, 0⟩]
theorem run6 (A : Option Addr) : runF [(1, 100)] [⟨adL, A, 1⟩, nH, nH, nH, nH] [7] 1 1 1 1 0 = ([], 1) := by rfl
theorem hv_R {w : World} {n : Int} {A : Option Addr} (h : InsR w (hvL n) A) : ∀ x ∈ hvS n A, InsR w x.l x.A := by
  intro x hx
  simp only [List.mem_cons, List.not_mem_nil, or_false] at hx
  rcases hx with rfl | rfl | rfl | rfl | rfl
  · exact .inl rfl
  · exact h
  · exact .inl rfl
  · exact .inl rfl
  · exact .inl rfl
theorem hv_len (n : Int) (A : Option Addr) : ∀ x ∈ hvS n A, x.l.length ≤ 4500 := by
  intro x hx
  simp only [List.mem_cons, List.not_mem_nil, or_false] at hx
  rcases hx with rfl | rfl | rfl | rfl | rfl <;> simp [hvL]
theorem ad_R {w : World} {A : Option Addr} (h : InsR w adL A) : ∀ x ∈ [(⟨adL, A, 1⟩ : Hd), nH, nH, nH, nH], InsR w x.l x.A := by
  intro x hx
  simp only [List.mem_cons, List.not_mem_nil, or_false] at hx
  rcases hx with rfl | rfl | rfl | rfl | rfl
  · exact h
  · exact .inl rfl
  · exact .inl rfl
  · exact .inl rfl
  · exact .inl rfl
theorem ad_len (A : Option Addr) : ∀ x ∈ [(⟨adL, A, 1⟩ : Hd), nH, nH, nH, nH], x.l.length ≤ 4500 := by
  intro x hx
  simp only [List.mem_cons, List.not_mem_nil, or_false] at hx
  rcases hx with rfl | rfl | rfl | rfl | rfl <;> simp
theorem ins1 {w : World} {b : Nat} {T : TypeId} (h : w.heap[b]? = some (.cells #[.int .i64 4, .int .i64 0, .int .i64 0] T (0, 0))) : InsR w adL (some ⟨b, 0, none⟩) := by
  obtain ⟨e0, e1, e2⟩ := cells3k h
  refine .inr ⟨b, 0, rfl, fun i x hx => ?_⟩
  rcases i with _ | i
  · simp at hx; subst hx; exact ⟨e0, e1, e2⟩
  · simp at hx
set_option maxHeartbeats 8000000 in
set_option maxRecDepth 100000 in
theorem head_any (w : World) (hE : LaidE w) (hI : LaidI w) : Calls Tryd.prog 7 #[] w (BB true w) := by
  have HE := Lib.hid hE
  have HI := Lib.hid hI
  have HI0 := Lib.hid (fun (wx : World) (g : Nat) (hg : Gr w wx) (h : InsR wx (hvL 2) (some ⟨g, 0, none⟩)) => is_any nH ⟨hvL 2, some ⟨g, 0, none⟩, 4⟩ nH nH nH 1 3 0 4 [3] 0 wx (hv_R h) (hv_len _ _) (hE.gr hg) (hI.gr hg) (rnn0 _) (stp0 _) (.inr ⟨rfl, rfl, rfl⟩))
  have HI1 := Lib.hid (fun (wx : World) (g : Nat) (hg : Gr w wx) (h : InsR wx (hvL 2) (some ⟨g, 0, none⟩)) => is_any nH ⟨hvL 2, some ⟨g, 0, none⟩, 4⟩ nH nH nH 0 7 0 0 [7] 0 wx (hv_R h) (hv_len _ _) (hE.gr hg) (hI.gr hg) (rnn1 _) (stp1 _) (.inr ⟨rfl, rfl, rfl⟩))
  have HI2 := Lib.hid (fun (wx : World) (g : Nat) (hg : Gr w wx) (h : InsR wx (hvL 0) (some ⟨g, 0, none⟩)) => is_any nH ⟨hvL 0, some ⟨g, 0, none⟩, 4⟩ nH nH nH 1 0 14 3 [] 14 wx (hv_R h) (hv_len _ _) (hE.gr hg) (hI.gr hg) (rnn2 _) (stp2 _) (.inl ⟨by decide, rfl, rfl⟩))
  have HI3 := Lib.hid (fun (wx : World) (g : Nat) (hg : Gr w wx) (h : InsR wx (hvL 9) (some ⟨g, 0, none⟩)) => is_any nH ⟨hvL 9, some ⟨g, 0, none⟩, 4⟩ nH nH nH 1 0 15 4 [] 15 wx (hv_R h) (hv_len _ _) (hE.gr hg) (hI.gr hg) (rnn3 _) (stp3 _) (.inl ⟨by decide, rfl, rfl⟩))
  clear hE hI
  go_enter Tryd.func7, Tryd.ntmps7
  go_upto_region 1 with fail
  go_cut [1] (fun s1 wx => s1 = .bool true ∧ Hid (Gr w wx))
  case first =>
    have HB := Lib.hid (Below.refl w.heap.size w)
    go_wp2_with fail
    refine (halving_any 2 _).mono ?_
    rintro e w1 ⟨⟨g1, rfl, hn1⟩, hg1⟩
    have HB := Lib.hid (Gr.tr HB.out hg1)
    have HN := Lib.hid hn1
    clear hn1 hg1
    go_wp2_with fail
    refine (HI0.out _ _ HB.out HN.out).mono ?_
    rintro e w2 ⟨rfl, hg2⟩
    have HB := Lib.hid (Gr.tr HB.out hg2)
    clear hg2 HN
    go_wp2_with fail
    refine (halving_any 2 _).mono ?_
    rintro e w1 ⟨⟨g1, rfl, hn1⟩, hg1⟩
    have HB := Lib.hid (Gr.tr HB.out hg1)
    have HN := Lib.hid hn1
    clear hn1 hg1
    go_wp2_with fail
    refine (HI1.out _ _ HB.out HN.out).mono ?_
    rintro e w2 ⟨rfl, hg2⟩
    have HB := Lib.hid (Gr.tr HB.out hg2)
    clear hg2 HN
    go_wp2_with fail
    refine (halving_any 0 _).mono ?_
    rintro e w1 ⟨⟨g1, rfl, hn1⟩, hg1⟩
    have HB := Lib.hid (Gr.tr HB.out hg1)
    have HN := Lib.hid hn1
    clear hn1 hg1
    go_wp2_with fail
    refine (HI2.out _ _ HB.out HN.out).mono ?_
    rintro e w2 ⟨rfl, hg2⟩
    have HB := Lib.hid (Gr.tr HB.out hg2)
    clear hg2 HN
    go_wp2_with fail
    refine (halving_any 9 _).mono ?_
    rintro e w1 ⟨⟨g1, rfl, hn1⟩, hg1⟩
    have HB := Lib.hid (Gr.tr HB.out hg1)
    have HN := Lib.hid hn1
    clear hn1 hg1
    go_wp2_with fail
    refine (HI3.out _ _ HB.out HN.out).mono ?_
    rintro e w2 ⟨rfl, hg2⟩
    have HB := Lib.hid (Gr.tr HB.out hg2)
    clear hg2 HN
    go_wp2
    go_meet
    exact ⟨rfl, HB.out⟩
  case rest =>
    obtain ⟨rfl, HB⟩ := hcut
    clear HI0 HI1 HI2 HI3
    go_upto_region 2 with fail
    go_cut [3] (fun s3 wx => s3 = .int .i64 1 ∧ Hid (Gr w wx))
    case first =>
      go_wp2_with fail
      refine (vars_any _).mono ?_
      rintro e w1 ⟨⟨b1, rfl, hv1⟩, hg1⟩
      have HB1 := Lib.hid (Gr.tr HB.out hg1)
      have HV := Lib.hid hv1
      clear hg1 hv1
      go_wp2_with fail
      refine (halving_any 2 _).mono ?_
      rintro e w2 ⟨⟨g2, rfl, hn2⟩, hg2⟩
      have HB2 := Lib.hid ((Gr.tr HB1.out hg2).tr (grAlloc w2 (.cells #[.int .i64 0] 3)))
      have HV2 := Lib.hid (HV.out.gr (hg2.tr (grAlloc w2 (.cells #[.int .i64 0] 3))))
      have HN := Lib.hid (hn2.gr (grAlloc w2 (.cells #[.int .i64 0] 3)))
      have HS := Lib.hid (int1 (nBlk w2 (.cells #[.int .i64 0] 3) _ rfl))
      clear hg2 hn2 HV HB1
      go_wp2_with fail
      refine (call_any 1 _).mono ?_
      rintro e w3 ⟨rfl, hg3⟩
      have HC := Run_any [(1, 100)] (some ⟨b1, 0, none⟩) 1 nH ⟨hvL 2, some ⟨g2, 0, none⟩, 4⟩ nH nH nH [0] (some ⟨w2.heap.size, 0, none⟩) 1 1 1 1 1 0 w3 (HV2.out.gr hg3) (hv_R (HN.out.gr hg3)) (hv_len _ _) (HS.out.gr hg3) (HE.out.gr (HB2.out.tr hg3)) (HI.out.gr (HB2.out.tr hg3)) (by simp) (fun h => by cases h)
      rw [run4 (some ⟨g2, 0, none⟩)] at HC
      have HC := Lib.hid HC
      have HB3 := Lib.hid (HB2.out.tr hg3)
      clear hg3 HV2 HN HS HB2
      go_wp2_with fail
      refine HC.out.mono ?_
      rintro e w4 ⟨⟨A4, c4, rfl, -, -⟩, hg4⟩
      have HB4 := Lib.hid (HB3.out.tr hg4)
      clear hg4 HC HB3
      go_wp2
      go_meet
      exact ⟨rfl, HB4.out⟩
    case rest =>
      obtain ⟨rfl, HB⟩ := hcut
      go_upto_region 3 with fail
      go_cut [5] (fun s5 wx => s5 = .int .i64 1 ∧ Hid (Gr w wx))
      case first =>
        go_wp2_with fail
        refine (vars_any _).mono ?_
        rintro e w1 ⟨⟨b1, rfl, hv1⟩, hg1⟩
        have HB1 := Lib.hid (Gr.tr HB.out hg1)
        have HV := Lib.hid hv1
        clear hg1 hv1
        go_wp2_with fail
        refine (halving_any 2 _).mono ?_
        rintro e w2 ⟨⟨g2, rfl, hn2⟩, hg2⟩
        have HB2 := Lib.hid ((Gr.tr HB1.out hg2).tr (grAlloc w2 (.cells #[.int .i64 7] 3)))
        have HV2 := Lib.hid (HV.out.gr (hg2.tr (grAlloc w2 (.cells #[.int .i64 7] 3))))
        have HN := Lib.hid (hn2.gr (grAlloc w2 (.cells #[.int .i64 7] 3)))
        have HS := Lib.hid (int1 (nBlk w2 (.cells #[.int .i64 7] 3) _ rfl))
        clear hg2 hn2 HV HB1
        go_wp2_with fail
        refine (call_any 5 _).mono ?_
        rintro e w3 ⟨rfl, hg3⟩
        have HC := Steps_any [(1, 100)] (some ⟨b1, 0, none⟩) 1 nH ⟨hvL 2, some ⟨g2, 0, none⟩, 4⟩ nH nH nH [7] (some ⟨w2.heap.size, 0, none⟩) 1 5 1 1 1 0 w3 (HV2.out.gr hg3) (hv_R (HN.out.gr hg3)) (hv_len _ _) (HS.out.gr hg3) (HE.out.gr (HB2.out.tr hg3)) (HI.out.gr (HB2.out.tr hg3)) (by simp) (fun h => by cases h)
        rw [stp5 (some ⟨g2, 0, none⟩)] at HC
        have HC := Lib.hid HC
        have HB3 := Lib.hid (HB2.out.tr hg3)
        clear hg3 HV2 HN HS HB2
        go_wp2_with fail
        refine HC.out.mono ?_
        rintro e w4 ⟨rfl, hg4⟩
        have HB4 := Lib.hid (HB3.out.tr hg4)
        clear hg4 HC HB3
        go_wp2
        go_meet
        exact ⟨rfl, HB4.out⟩
      case rest =>
        obtain ⟨rfl, HB⟩ := hcut
        go_upto_region 6 with fail
        obtain ⟨W6, hW6⟩ : ∃ W6, W6 = (wc.alloc (.cells #[.slice (some ⟨wc.heap.size + 1, 0, none⟩) 1 1, .slice none 0 0, .slice none 0 0, .slice none 0 0, .slice none 0 0] 26)).alloc (.cells #[.int .i64 4, .int .i64 0, .int .i64 0] 42) := ⟨_, rfl⟩
        rw [← hW6]
        have HB6 := Lib.hid (show Gr w W6 by rw [hW6]; exact HB.out.tr ((grAlloc _ _).tr (grAlloc _ _)))
        obtain ⟨c0, c1, c2, c3, c4⟩ := cells5k (show W6.heap[wc.heap.size]? = some (.cells #[.slice (some ⟨wc.heap.size + 1, 0, none⟩) 1 1, .slice none 0 0, .slice none 0 0, .slice none 0 0, .slice none 0 0] 26 (0, 0)) by rw [hW6]; exact grBlk (grAlloc _ _) (nBlk _ _ _ rfl))
        have HN := Lib.hid (ins1 (show W6.heap[wc.heap.size + 1]? = some (.cells _ 42 (0, 0)) by rw [hW6]; exact nBlk _ _ _ (by simp)))
        obtain ⟨gi, hgi⟩ : ∃ gi, gi = wc.heap.size + 1 := ⟨_, rfl⟩
        rw [← hgi] at HN
        have HRu := Lib.hid (fun (wx : World) (b q : Nat) (hg : Gr W6 wx) (hv : VsR wx [(1, 100)] (some ⟨b, 0, none⟩)) (hi : IntsR wx [7] (some ⟨q, 0, none⟩)) => (by
          have := Run_any [(1, 100)] (some ⟨b, 0, none⟩) 1 ⟨adL, some ⟨gi, 0, none⟩, 1⟩ nH nH nH nH [7] (some ⟨q, 0, none⟩) 1 1 1 1 1 0 wx hv (ad_R (HN.out.gr hg)) (ad_len _) hi (HE.out.gr (HB6.out.tr hg)) (HI.out.gr (HB6.out.tr hg)) (by simp) (fun h => by cases h)
          rw [run6 (some ⟨gi, 0, none⟩)] at this
          exact this))
        rw [hgi] at HRu
        clear hW6 HN hgi HB
        have HCl := Lib.hid (call_any 1)
        refine wp_region_G (S := fun wq => Gr W6 wq) (by kernel_rfl) (grDrew _) (fun hHeld => ?_)
        have hSG : Hid (∀ wp wq : World, Gr W6 wp → Gr wp wq → Gr W6 wq) := Lib.hid (fun _ _ h k => h.tr k)
        have hmv := Lib.hid (fun (wq : World) (hq : Gr W6 wq) => And.intro (grCell hq c0) (And.intro (grCell hq c1) (And.intro (grCell hq c2) (And.intro (grCell hq c3) (grCell hq c4)))))
        first
         | (refine tk hSG 1 (v := ?_) rfl (by kernel_rfl) (fun _ _ _ h => h) (by rfl) ?_ hHeld ?_; rotate_left; focus (intro w' hSw; obtain ⟨c0, c1, c2, c3, c4⟩ := hmv.out _ hSw; go_simp; (try with_reducible rfl)))
         | refine tn hSG 1 rfl (by kernel_rfl) (fun _ _ _ h => h) (by rfl) hHeld ?_
        (try simp only [zq1, zq2, zq3, Act.put, zq4, zq5, zq6])
        refine wpAnyG_ready (rs := [0, 2]) (by kernel_rfl) (by simp) (AllG.cons rfl (fun w4 hg K hK => ?_) (AllG.cons rfl (fun w4 hg K hK => ?_) AllG.nil))
        · skip
          have hgS := hSG.out _ _ hHeld.out hg
          go_simp
          go_at_call 20
          refine (vars_any w4).mono ?_
          rintro e w5 ⟨⟨b, rfl, hv⟩, hg5⟩
          have hv := Lib.hid hv
          refine hK.out _ _ (hgS.tr hg5) (fun hHeld => ?_)
          clear hK K hg hgS hg5
          refine tc hSG 3 (v := .agg (clA 1 1 1 1 0)) rfl (by kernel_rfl) (fun _ _ _ h => h) (by rfl) ?_ hHeld ?_
          focus (intro wz hSw K hK; obtain ⟨c0, c1, c2, c3, c4⟩ := hmv.out _ hSw; go_simp; go_at_call 21; refine (HCl.out _).mono ?_; rintro e w2 ⟨rfl, hb2⟩; exact hK.out _ hb2)
          (try simp only [zq1, zq2, zq3, Act.put, zq4, zq5, zq6])
          refine wpAnyG_ready (rs := [2]) (by kernel_rfl) (by simp) (AllG.cons rfl (fun w6 hg K hK => ?_) AllG.nil)
          have hgS := hSG.out _ _ hHeld.out hg
          have hv := Lib.hid (hv.out.gr (hg.tr (grAlloc w6 (.cells #[.int .i64 7] 3))))
          go_simp
          refine hK.out _ _ (hgS.tr (grAlloc _ _)) (fun hHeld => ?_)
          have hi := Lib.hid (int1 (nBlk w6 (.cells #[.int .i64 7] 3) _ rfl))
          clear hK K hg hgS
          refine wpAnyG_ready (rs := [4]) (by kernel_rfl) (by simp) (AllG.cons rfl (fun w7 hg K hK => ?_) AllG.nil)
          have hgS := hSG.out _ _ hHeld.out hg
          have HH := HRu.out w7 _ _ hgS (hv.out.gr hg) (hi.out.gr hg)
          go_simp
          go_at_call 9
          refine HH.mono ?_
          rintro e w8 ⟨⟨A, c, rfl, -, -⟩, hg8⟩
          refine hK.out _ _ (hgS.tr hg8) (fun hHeld => ?_)
          clear hK K hg hgS hg8 HH hv hi
          first
           | (refine tk hSG 5 (v := ?_) rfl (by kernel_rfl) (fun _ _ _ h => h) (by rfl) ?_ hHeld ?_; rotate_left; focus (intro w' hSw; obtain ⟨c0, c1, c2, c3, c4⟩ := hmv.out _ hSw; go_simp; (try with_reducible rfl)))
           | refine tn hSG 5 rfl (by kernel_rfl) (fun _ _ _ h => h) (by rfl) hHeld ?_
          (try simp only [zq1, zq2, zq3, Act.put, zq4, zq5, zq6])
          first
           | (refine tk hSG 6 (v := ?_) rfl (by kernel_rfl) (fun _ _ _ h => h) (by rfl) ?_ hHeld ?_; rotate_left; focus (intro w' hSw; obtain ⟨c0, c1, c2, c3, c4⟩ := hmv.out _ hSw; go_simp; (try with_reducible rfl)))
           | refine tn hSG 6 rfl (by kernel_rfl) (fun _ _ _ h => h) (by rfl) hHeld ?_
          (try simp only [zq1, zq2, zq3, Act.put, zq4, zq5, zq6])
          first
           | (refine tk hSG 7 (v := ?_) rfl (by kernel_rfl) (fun _ _ _ h => h) (by rfl) ?_ hHeld ?_; rotate_left; focus (intro w' hSw; obtain ⟨c0, c1, c2, c3, c4⟩ := hmv.out _ hSw; go_simp; (try with_reducible rfl)))
           | refine tn hSG 7 rfl (by kernel_rfl) (fun _ _ _ h => h) (by rfl) hHeld ?_
          (try simp only [zq1, zq2, zq3, Act.put, zq4, zq5, zq6])
          first
           | (refine tk hSG 8 (v := ?_) rfl (by kernel_rfl) (fun _ _ _ h => h) (by rfl) ?_ hHeld ?_; rotate_left; focus (intro w' hSw; obtain ⟨c0, c1, c2, c3, c4⟩ := hmv.out _ hSw; go_simp; (try with_reducible rfl)))
           | refine tn hSG 8 rfl (by kernel_rfl) (fun _ _ _ h => h) (by rfl) hHeld ?_
          (try simp only [zq1, zq2, zq3, Act.put, zq4, zq5, zq6])
          first
           | (refine tk hSG 9 (v := ?_) rfl (by kernel_rfl) (fun _ _ _ h => h) (by rfl) ?_ hHeld ?_; rotate_left; focus (intro w' hSw; obtain ⟨c0, c1, c2, c3, c4⟩ := hmv.out _ hSw; go_simp; (try with_reducible rfl)))
           | refine tn hSG 9 rfl (by kernel_rfl) (fun _ _ _ h => h) (by rfl) hHeld ?_
          (try simp only [zq1, zq2, zq3, Act.put, zq4, zq5, zq6])
          refine wpAnyG_done (by kernel_rfl) (fun w9 hg => ?_) _
          have HB9 := Lib.hid (HB6.out.tr (hSG.out _ _ hHeld.out hg))
          clear hg hHeld hSG
          go_wp2
          go_ret
          exact ⟨rfl, HB9.out⟩
        · skip
          have hgS := hSG.out _ _ hHeld.out hg
          go_simp
          refine hK.out _ _ (hgS.tr (grAlloc _ _)) (fun hHeld => ?_)
          have hi := Lib.hid (int1 (nBlk w4 (.cells #[.int .i64 7] 3) _ rfl))
          clear hK K hg hgS
          refine wpAnyG_ready (rs := [0]) (by kernel_rfl) (by simp) (AllG.cons rfl (fun w6 hg K hK => ?_) AllG.nil)
          have hgS := hSG.out _ _ hHeld.out hg
          go_simp
          go_at_call 20
          refine (vars_any w6).mono ?_
          rintro e w5 ⟨⟨b, rfl, hv⟩, hg5⟩
          have hv := Lib.hid hv
          have hi := Lib.hid (hi.out.gr (hg.tr hg5))
          refine hK.out _ _ (hgS.tr hg5) (fun hHeld => ?_)
          clear hK K hg hgS hg5
          refine tc hSG 3 (v := .agg (clA 1 1 1 1 0)) rfl (by kernel_rfl) (fun _ _ _ h => h) (by rfl) ?_ hHeld ?_
          focus (intro wz hSw K hK; obtain ⟨c0, c1, c2, c3, c4⟩ := hmv.out _ hSw; go_simp; go_at_call 21; refine (HCl.out _).mono ?_; rintro e w2 ⟨rfl, hb2⟩; exact hK.out _ hb2)
          (try simp only [zq1, zq2, zq3, Act.put, zq4, zq5, zq6])
          refine wpAnyG_ready (rs := [4]) (by kernel_rfl) (by simp) (AllG.cons rfl (fun w7 hg K hK => ?_) AllG.nil)
          have hgS := hSG.out _ _ hHeld.out hg
          have HH := HRu.out w7 _ _ hgS (hv.out.gr hg) (hi.out.gr hg)
          go_simp
          go_at_call 9
          refine HH.mono ?_
          rintro e w8 ⟨⟨A, c, rfl, -, -⟩, hg8⟩
          refine hK.out _ _ (hgS.tr hg8) (fun hHeld => ?_)
          clear hK K hg hgS hg8 HH hv hi
          first
           | (refine tk hSG 5 (v := ?_) rfl (by kernel_rfl) (fun _ _ _ h => h) (by rfl) ?_ hHeld ?_; rotate_left; focus (intro w' hSw; obtain ⟨c0, c1, c2, c3, c4⟩ := hmv.out _ hSw; go_simp; (try with_reducible rfl)))
           | refine tn hSG 5 rfl (by kernel_rfl) (fun _ _ _ h => h) (by rfl) hHeld ?_
          (try simp only [zq1, zq2, zq3, Act.put, zq4, zq5, zq6])
          first
           | (refine tk hSG 6 (v := ?_) rfl (by kernel_rfl) (fun _ _ _ h => h) (by rfl) ?_ hHeld ?_; rotate_left; focus (intro w' hSw; obtain ⟨c0, c1, c2, c3, c4⟩ := hmv.out _ hSw; go_simp; (try with_reducible rfl)))
           | refine tn hSG 6 rfl (by kernel_rfl) (fun _ _ _ h => h) (by rfl) hHeld ?_
          (try simp only [zq1, zq2, zq3, Act.put, zq4, zq5, zq6])
          first
           | (refine tk hSG 7 (v := ?_) rfl (by kernel_rfl) (fun _ _ _ h => h) (by rfl) ?_ hHeld ?_; rotate_left; focus (intro w' hSw; obtain ⟨c0, c1, c2, c3, c4⟩ := hmv.out _ hSw; go_simp; (try with_reducible rfl)))
           | refine tn hSG 7 rfl (by kernel_rfl) (fun _ _ _ h => h) (by rfl) hHeld ?_
          (try simp only [zq1, zq2, zq3, Act.put, zq4, zq5, zq6])
          first
           | (refine tk hSG 8 (v := ?_) rfl (by kernel_rfl) (fun _ _ _ h => h) (by rfl) ?_ hHeld ?_; rotate_left; focus (intro w' hSw; obtain ⟨c0, c1, c2, c3, c4⟩ := hmv.out _ hSw; go_simp; (try with_reducible rfl)))
           | refine tn hSG 8 rfl (by kernel_rfl) (fun _ _ _ h => h) (by rfl) hHeld ?_
          (try simp only [zq1, zq2, zq3, Act.put, zq4, zq5, zq6])
          first
           | (refine tk hSG 9 (v := ?_) rfl (by kernel_rfl) (fun _ _ _ h => h) (by rfl) ?_ hHeld ?_; rotate_left; focus (intro w' hSw; obtain ⟨c0, c1, c2, c3, c4⟩ := hmv.out _ hSw; go_simp; (try with_reducible rfl)))
           | refine tn hSG 9 rfl (by kernel_rfl) (fun _ _ _ h => h) (by rfl) hHeld ?_
          (try simp only [zq1, zq2, zq3, Act.put, zq4, zq5, zq6])
          refine wpAnyG_done (by kernel_rfl) (fun w9 hg => ?_) _
          have HB9 := Lib.hid (HB6.out.tr (hSG.out _ _ hHeld.out hg))
          clear hg hHeld hSG
          go_wp2
          go_ret
          exact ⟨rfl, HB9.out⟩
end N
end Go.Proofs.YthgngkajdiclcaaDoor
