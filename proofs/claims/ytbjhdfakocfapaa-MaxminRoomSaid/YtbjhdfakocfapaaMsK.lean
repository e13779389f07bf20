/- Package maxmin: fill. -/
import Derived.Test.YtbjhdfakocfapaaMsJ
namespace Go.Proofs.Ytbjhdfakocfapaa
open Go.RowKit
set_option linter.unusedVariables false
set_option linter.unusedSimpArgs false
attribute [local go_sem] Oper.semAt_some
/-- what holds between two rounds of fill -/
structure FInv (W0 : World) (F R X : Nat) (n : Net) (a : NetA) (B g : Nat) (xs0 : List Q) (fx0 : List Bool) (k : Nat) (ds : List Nat) (xs : List Q) (fx : List Bool) (wr : World) : Prop where
  fil : FilR W0 F R X n a xs fx wr
  box : wr.heap[B]? = some (filP F)
  mar : Marks B ds wr
  cnt : unfixed fx < k
  same : fillM n k xs fx = fillM n g xs0 fx0
  siz : B < wr.heap.size
set_option maxHeartbeats 16000000 in
set_option maxRecDepth 100000 in
theorem fill_any (W0 : World) (F R X : Nat) (n : Net) (a : NetA) (hFR : F ≠ R) (hFX : F ≠ X) (hRX : R ≠ X) (hN : n.f.length ≤ 1000000) (hC : n.c.length ≤ 1000000) (hNL : n.l.length = n.f.length) (hrow : ∀ r ∈ n.f, r.length ≤ 1000000)
    (g : Nat) (xs0 : List Q) (fx0 : List Bool) (hu0 : unfixed fx0 < g) (w : World) (hf0 : FilR W0 F R X n a xs0 fx0 w) :
    Calls Try.prog 29 #[.pointer (some ⟨F, 0, none⟩)] w fun e w' => (∃ v, e = .returned v) ∧ FilR W0 F R X n a (fillM n g xs0 fx0).1 (fillM n g xs0 fx0).2 w' := by
  have Z := Lib.hid (And.intro hFR (And.intro hFX hRX))
  have ZN := Lib.hid (And.intro hN (And.intro hC (And.intro hNL hrow)))
  have HF0 := Lib.hid hf0
  have HU0 := Lib.hid hu0
  obtain ⟨G, hG⟩ : ∃ G, fillM n g xs0 fx0 = G := ⟨_, rfl⟩
  rw [hG]
  have HGe := Lib.hid hG
  clear hFR hFX hRX hN hC hNL hrow hf0 hu0 hG
  refine (callsIn_wide (n := 0)).1 ?_
  refine callsIn_of_wp_marks Try.func29 rfl trivial ?_ rfl
  simp only [Try.ntmps29, List.size_toArray, List.length_cons, List.length_nil, Nat.reduceAdd, Nat.reduceSub, Array.replicate_succ, Array.replicate_zero, List.push_toArray, List.append_toArray, List.nil_append, List.cons_append]
  refine wpIn_wide.2 (np ?_)
  go_wp2
  refine wp_loop_ghost_k (fun k a' wr => ∃ u2 u3 u4 u5 u6 u7 u8 u9 u10 u11 u12 u13 u14 u15 u16 u17 u18 u19 u20 u21 u22 u23 u24 u25 u26 u27 u28 u29 u30 u31 : Value, ∃ (ds : List Nat) (xs : List Q) (fx : List Bool), a' = { tmps := #[.pointer (some ⟨F, 0, none⟩), ptr w.heap.size, u2, u3, u4, u5, u6, u7, u8, u9, u10, u11, u12, u13, u14, u15, u16, u17, u18, u19, u20, u21, u22, u23, u24, u25, u26, u27, u28, u29, u30, u31], defers := ds.map mk } ∧ FInv W0 F R X n a w.heap.size g xs0 fx0 k ds xs fx wr) g ?start ?round
  case start =>
    exact ⟨_, _, _, _, _, _, _, _, _, _, _, _, _, _, _, _, _, _, _, _, _, _, _, _, _, _, _, _, _, _, [], xs0, fx0, rfl, ⟨HF0.out.up (grAlloc _ _), newBlk _ _ _ rfl, ⟨List.nodup_nil, fun D h => by simp at h⟩, HU0.out, rfl, by simp⟩⟩
  case round =>
    rintro k a' wr ⟨u2, u3, u4, u5, u6, u7, u8, u9, u10, u11, u12, u13, u14, u15, u16, u17, u18, u19, u20, u21, u22, u23, u24, u25, u26, u27, u28, u29, u30, u31, ds, xs, fx, rfl, hI⟩ JJ KK hJJ hKK
    obtain ⟨k, rfl⟩ : ∃ k', k = k' + 1 := ⟨k - 1, by have := hI.cnt; omega⟩
    have b0 := (cells1 hI.box).1
    have HI := Lib.hid hI
    have HL := Lib.hid (least_any W0 F R X n a xs fx wr.heap.size ZN.out.1 ZN.out.2.1 ZN.out.2.2.1 ZN.out.2.2.2 (wr.alloc (filP F)) (newBlk _ _ _ rfl) (hI.fil.up (grAlloc _ _)))
    have HJJ := Lib.hid hJJ
    clear hI hJJ
    rcases hlm : leastM (lev n xs fx) (stopsL n fx) with _ | s
    · rw [hlm] at HL
      have hs := HI.out.same
      have e : fillM n (k + 1) xs fx = (xs, fx) := by unfold fillM; rw [hlm]
      rw [e, HGe.out] at hs
      have HS := Lib.hid hs
      have v1 : bV F none = .nilIface := rfl
      have v2 : (none : Option Sp).isSome = false := rfl
      rw [v1, v2] at HL
      clear hlm hs e v1 v2
      go_wp2_with (first
        | (go_at_call 45; refine (stops_any F _).mono ?_; rintro e w1 ⟨rfl, hw⟩; rw [hw]; clear hw)
        | (go_at_call 44; refine HL.out.mono ?_; rintro e w2 ⟨rfl, hb2⟩; have hb2 := Lib.hid hb2))
      have hg2 : Gr wr w2 := Gr.tr (grAlloc _ _) hb2.out
      obtain ⟨m1, m2⟩ := HI.out.mar.keep hg2.size (fun D hD => hg2.block _ (HI.out.mar.2 D hD).2.1)
      refine leaves_marks (fun w => results_none rfl _ _ _) (fun w => FilR W0 F R X n a G.1 G.2 w) (fun w h => ⟨⟨_, rfl⟩, h⟩) ds w2 m1 (fun D hD => (m2 D hD).2.2) (fun wx D hD hx h => h.put hx (Nat.le_trans HF0.out.gr.size (m2 D hD).1) _) ?_
      rw [← HS.out]
      exact HI.out.fil.up hg2
    · rw [hlm] at HL
      have hsm := leastM_mem hlm
      obtain ⟨o1, o2, o3⟩ := stop_ok HI.out.fil.lf ZN.out.2.2.1 hsm
      have hs := HI.out.same
      have e : fillM n (k + 1) xs fx = fillM n k (setQ xs (stopped n fx s) (lev n xs fx s)) (setB fx (stopped n fx s)) := by rw [fillM, hlm]
      rw [e, HGe.out] at hs
      have hok := st_ok hsm
      have v1 : bV F (some s) = spV F s := rfl
      have v2 : (some s : Option Sp).isSome = true := rfl
      rw [v1, v2] at HL
      have HS := Lib.hid (And.intro hs (And.intro o1 (And.intro o2 (And.intro o3 hok))))
      clear hlm hsm hs e v1 v2 o1 o2 o3 hok
      rcases s with l | i
      · have e0 : spV F (.link l) = .iface 109 (.agg #[.pointer (some ⟨F, 0, none⟩), .int .i64 (l : Int)]) := rfl
        rw [e0] at HL
        clear e0
        have HV := Lib.hid (fun wx h => level_any W0 F R X n a xs fx l HS.out.2.2.2.2 ZN.out.1 ZN.out.2.2.2 wx h)
        obtain ⟨v, hv⟩ : ∃ v, lev n xs fx (.link l) = v := ⟨_, rfl⟩
        rw [hv] at HV HS
        have eS : stopped n fx (.link l) = unfL n fx l := rfl
        rw [eS] at HS
        clear hv eS
        have hm1 := m_link
        have hm2 := m_lim
        have hm3 := s_link
        have hm4 := s_lim
        go_wp2_with (first
          | (go_at_call 45; refine (stops_any F _).mono ?_; rintro e w1 ⟨rfl, hw⟩; rw [hw]; clear hw)
          | (go_at_call 44; refine HL.out.mono ?_; rintro e w2 ⟨rfl, hb2⟩; have HG2 := Lib.hid (show Gr wr w2 from Gr.tr (grAlloc _ _) hb2); clear hb2)
          | (go_at_call 127; refine (HV.out _ (HI.out.fil.up HG2.out)).mono ?_; rintro e w3 ⟨rfl, hb3⟩; have HG3 := Lib.hid (Gr.tr HG2.out hb3); clear hb3)
          | (go_at_call 79; refine (lstopped_any F l _).mono ?_; rintro e w4 ⟨rfl, hw⟩; rw [hw]; clear hw))
        obtain ⟨W, hW⟩ : ∃ W, (w3.alloc (qb v)).alloc (lnkB F l) = W := ⟨_, rfl⟩
        have hgW : Gr wr W := by rw [← hW]; exact Gr.tr HG3.out (Gr.tr (grAlloc _ _) (grAlloc _ _))
        have hA : W.heap[w3.heap.size]? = some (qb v) := by rw [← hW]; exact mvAlloc (newBlk _ _ _ rfl)
        have hB : W.heap[w3.heap.size + 1]? = some (lnkB F l) := by rw [← hW]; exact newBlk _ _ _ (by simp)
        have hz : w3.heap.size + 2 ≤ W.heap.size := by rw [← hW]; simp
        have hz3 : wr.heap.size ≤ w3.heap.size := HG3.out.size
        rw [hW]
        clear hW HG3 HG2 HL HV hm1 hm2 hm3 hm4
        obtain ⟨bs, hbs⟩ : ∃ bs, w3.heap.size + 1 = bs := ⟨_, rfl⟩
        obtain ⟨p4, hp4⟩ : ∃ p4, w3.heap.size = p4 := ⟨_, rfl⟩
        rw [hbs] at hB ⊢
        rw [hp4] at hA hbs hz hz3 ⊢
        clear hp4
        have hfW := HI.out.fil.up hgW
        have hmW := HI.out.mar.keep hgW.size (fun D hD => hgW.block _ (HI.out.mar.2 D hD).2.1)
        have hbW := grBlk hgW HI.out.box
        have HZ := Lib.hid (And.intro hz (And.intro hz3 (And.intro hbs HI.out.siz)))
        have HT := Lib.hid (lstop_iter W0 F R X n a fx l bs ZN.out.1 ZN.out.2.2.2)
        obtain ⟨S, hS⟩ : ∃ S, unfL n fx l = S := ⟨_, rfl⟩
        rw [hS] at HS
        have HW := Lib.hid (And.intro hfW (And.intro hA (And.intro hB (And.intro hbW hmW))))
        have HSe := Lib.hid hS
        clear hfW hA hB hbW hmW hz hz3 hbs hgW
        rw [hS] at HT
        clear hS b0
        refine' range_law (gf := 97) (lb := #[ptr bs]) rfl (enters_of Try.func97 (by kernel_rfl) rfl) HT.out (fun _ => rfl)
          (fun k V => FilR W0 F R X n a (setQ xs (S.take k) v) (setB fx (S.take k)) V ∧ V.heap[p4]? = some (qb v) ∧ V.heap[bs]? = some (lnkB F l) ∧ V.heap[w.heap.size]? = some (filP F) ∧ Marks w.heap.size ds V ∧ W.heap.size ≤ V.heap.size)
          (fun _ _ => False) ?hJ ?hJx ?hRd ?h0 _ ?assign ?body ?done ?stop
        case hJ =>
          rintro k A B ⟨h1, h2, h3, h4, h5, h6⟩ hb
          have := HZ.out
          have hF1 := blkLt HW.out.1.fil
          have hR1 := blkLt HW.out.1.rats
          have hX1 := blkLt HW.out.1.fixs
          exact ⟨⟨(Below.trans h1.gr (hb.mono (Nat.le_trans h1.hF (Nat.le_of_lt hF1)))), h1.hF, h1.hR, h1.hX, h1.net, (hb.block _ hF1).trans h1.fil, (hb.block _ hR1).trans h1.rats, (hb.block _ hX1).trans h1.fixs, h1.lx, h1.lf⟩, (hb.block _ (by omega)).trans h2, (hb.block _ (by omega)).trans h3, (hb.block _ (by omega)).trans h4, h5.keep hb.size (fun D hD => hb.block _ (HW.out.2.2.2.2.2 D hD).2.1), Nat.le_trans h6 hb.size⟩
        case hJx => exact fun _ _ _ h _ => h
        case hRd =>
          rintro k A hk ⟨h1, h2, h3, h4, h5, h6⟩
          rw [← HSe.out] at h1
          exact ⟨h3, _, _, h1, fun j hj => fxd_setB _ _ hj⟩
        case h0 => exact ⟨HW.out.1, HW.out.2.1, HW.out.2.2.1, HW.out.2.2.2.1, HW.out.2.2.2.2, Nat.le_refl _⟩
        case assign =>
          intro lx x V K hK
          gi_wp2
          exact hK
        case body =>
          rintro l1 k hk V hsz ⟨h1, h2, h3, h4, h5, h6⟩
          rw [setQ_succ xs S v hk, setB_succ fx S hk]
          have hin : S[k] < n.f.length := by rw [← HI.out.fil.lf]; exact HS.out.2.1 _ (List.getElem_mem hk)
          generalize S[k] = j at *
          generalize setQ xs (S.take k) v = xs1 at *
          generalize setB fx (S.take k) = fx1 at *
          obtain ⟨f0, f1, f2, f3, f4⟩ := cells5 h1.fil
          have b0 := (cells1 h4).1
          obtain ⟨⟨q0, q1⟩, -⟩ := cells2 h2
          have HVV := Lib.hid (And.intro h1 (And.intro h2 (And.intro h3 (And.intro h4 (And.intro h5 h6)))))
          have hsz := Lib.hid hsz
          clear h1 h2 h3 h4 h5 h6 f0 f1 f2
          gi_wp2_with fail
          refine wpIn_region_X (S := fun wq => Gr V wq) [9, 12, 13, 14] (by kernel_rfl) (by kernel_rfl) (by rintro ⟨_, _, h⟩; exact h) (grDrew _) (fun hHeld => ?_)
          have hSG : Hid (∀ wp wq : World, Gr V wp → Gr wp wq → Gr V wq) := Lib.hid (fun _ _ h k => h.tr k)
          have hmv := Lib.hid (fun (wq : World) (hq : Gr V wq) => And.intro (grCell hq b0) (And.intro (grCell hq f3) (And.intro (grCell hq f4) (And.intro (grCell hq q0) (grCell hq q1)))))
          refine xp 9 (v := ?_) rfl (by kernel_rfl) (fun _ _ _ h => h) (by rfl) ?_ ?_; rotate_left; focus (intro w'; go_simp; (try with_reducible rfl))
          (try simp only [zq1, zq2, zq3, Act.put, zq4, zq5, zq6])
          first
           | (refine xk hSG 0 [1, 2, 3, 11, 12, 13, 14] (v := ?_) rfl (by kernel_rfl) (fun _ _ _ h => h) (by rfl) ?_ hHeld ?_; rotate_left; focus (intro w' hSw; obtain ⟨b0, f3, f4, q0, q1⟩ := hmv.out _ hSw; go_simp; (try with_reducible rfl)))
           | refine xn hSG 0 [1, 2, 3, 11, 12, 13, 14] rfl (by kernel_rfl) (fun _ _ _ h => h) (by rfl) hHeld ?_
          (try simp only [zq1, zq2, zq3, Act.put, zq4, zq5, zq6])
          first
           | (refine xk hSG 1 [2, 3, 11, 12, 13, 14] (v := ?_) rfl (by kernel_rfl) (fun _ _ _ h => h) (by rfl) ?_ hHeld ?_; rotate_left; focus (intro w' hSw; obtain ⟨b0, f3, f4, q0, q1⟩ := hmv.out _ hSw; go_simp; (try with_reducible rfl)))
           | refine xn hSG 1 [2, 3, 11, 12, 13, 14] rfl (by kernel_rfl) (fun _ _ _ h => h) (by rfl) hHeld ?_
          (try simp only [zq1, zq2, zq3, Act.put, zq4, zq5, zq6])
          first
           | (refine xk hSG 2 [3, 11, 12, 13, 14] (v := ?_) rfl (by kernel_rfl) (fun _ _ _ h => h) (by rfl) ?_ hHeld ?_; rotate_left; focus (intro w' hSw; obtain ⟨b0, f3, f4, q0, q1⟩ := hmv.out _ hSw; go_simp; (try with_reducible rfl)))
           | refine xn hSG 2 [3, 11, 12, 13, 14] rfl (by kernel_rfl) (fun _ _ _ h => h) (by rfl) hHeld ?_
          (try simp only [zq1, zq2, zq3, Act.put, zq4, zq5, zq6])
          first
           | (refine xk hSG 3 [11, 12, 13, 14] (v := ?_) rfl (by kernel_rfl) (fun _ _ _ h => h) (by rfl) ?_ hHeld ?_; rotate_left; focus (intro w' hSw; obtain ⟨b0, f3, f4, q0, q1⟩ := hmv.out _ hSw; go_simp; (try with_reducible rfl)))
           | refine xn hSG 3 [11, 12, 13, 14] rfl (by kernel_rfl) (fun _ _ _ h => h) (by rfl) hHeld ?_
          (try simp only [zq1, zq2, zq3, Act.put, zq4, zq5, zq6])
          first
           | (refine xk hSG 4 [11, 12, 13, 14] (v := ?_) rfl (by kernel_rfl) (fun _ _ _ h => h) (by rfl) ?_ hHeld ?_; rotate_left; focus (intro w' hSw; obtain ⟨b0, f3, f4, q0, q1⟩ := hmv.out _ hSw; go_simp; (try with_reducible rfl)))
           | refine xn hSG 4 [11, 12, 13, 14] rfl (by kernel_rfl) (fun _ _ _ h => h) (by rfl) hHeld ?_
          (try simp only [zq1, zq2, zq3, Act.put, zq4, zq5, zq6])
          first
           | (refine xk hSG 5 [6, 7, 8, 11, 12, 13, 14] (v := ?_) rfl (by kernel_rfl) (fun _ _ _ h => h) (by rfl) ?_ hHeld ?_; rotate_left; focus (intro w' hSw; obtain ⟨b0, f3, f4, q0, q1⟩ := hmv.out _ hSw; go_simp; (try with_reducible rfl)))
           | refine xn hSG 5 [6, 7, 8, 11, 12, 13, 14] rfl (by kernel_rfl) (fun _ _ _ h => h) (by rfl) hHeld ?_
          (try simp only [zq1, zq2, zq3, Act.put, zq4, zq5, zq6])
          first
           | (refine xk hSG 6 [7, 8, 11, 12, 13, 14] (v := ?_) rfl (by kernel_rfl) (fun _ _ _ h => h) (by rfl) ?_ hHeld ?_; rotate_left; focus (intro w' hSw; obtain ⟨b0, f3, f4, q0, q1⟩ := hmv.out _ hSw; go_simp; (try with_reducible rfl)))
           | refine xn hSG 6 [7, 8, 11, 12, 13, 14] rfl (by kernel_rfl) (fun _ _ _ h => h) (by rfl) hHeld ?_
          (try simp only [zq1, zq2, zq3, Act.put, zq4, zq5, zq6])
          first
           | (refine xk hSG 7 [8, 11, 12, 13, 14] (v := ?_) rfl (by kernel_rfl) (fun _ _ _ h => h) (by rfl) ?_ hHeld ?_; rotate_left; focus (intro w' hSw; obtain ⟨b0, f3, f4, q0, q1⟩ := hmv.out _ hSw; go_simp; (try with_reducible rfl)))
           | refine xn hSG 7 [8, 11, 12, 13, 14] rfl (by kernel_rfl) (fun _ _ _ h => h) (by rfl) hHeld ?_
          (try simp only [zq1, zq2, zq3, Act.put, zq4, zq5, zq6])
          first
           | (refine xk hSG 8 [11, 12, 13, 14] (v := ?_) rfl (by kernel_rfl) (fun _ _ _ h => h) (by rfl) ?_ hHeld ?_; rotate_left; focus (intro w' hSw; obtain ⟨b0, f3, f4, q0, q1⟩ := hmv.out _ hSw; go_simp; (try with_reducible rfl)))
           | refine xn hSG 8 [11, 12, 13, 14] rfl (by kernel_rfl) (fun _ _ _ h => h) (by rfl) hHeld ?_
          (try simp only [zq1, zq2, zq3, Act.put, zq4, zq5, zq6])
          first
           | (refine xk hSG 10 [11, 12, 13, 14] (v := ?_) rfl (by kernel_rfl) (fun _ _ _ h => h) (by rfl) ?_ hHeld ?_; rotate_left; focus (intro w' hSw; obtain ⟨b0, f3, f4, q0, q1⟩ := hmv.out _ hSw; go_simp; (try with_reducible rfl)))
           | refine xn hSG 10 [11, 12, 13, 14] rfl (by kernel_rfl) (fun _ _ _ h => h) (by rfl) hHeld ?_
          (try simp only [zq1, zq2, zq3, Act.put, zq4, zq5, zq6])
          refine xk hSG 11 [12, 13, 14] (v := .pointer (some ⟨R, j * 2, none⟩)) rfl (by kernel_rfl) (fun _ _ _ h => h) (by rfl) ?_ hHeld ?_
          focus (intro w' hSw; obtain ⟨b0, f3, f4, q0, q1⟩ := hmv.out _ hSw; go_simp; (try (intro hq; omega)))
          (try simp only [zq1, zq2, zq3, Act.put, zq4, zq5, zq6])
          refine wpAnyX_oneX (i := 12) (by kernel_rfl) (by kernel_rfl) rfl (fun w5 hg K hK => ?_)
          have hg5 := Lib.hid (hHeld.out.tr hg)
          have R5 := grBlk hg5.out HVV.out.1.rats
          have fz5 : ∀ i, w5.frozen? ⟨R, i, none⟩ = false := fun i => by simp [World.frozen?, R5]
          have hlx := HVV.out.1.lx
          obtain ⟨t0, t1⟩ := qC_at R5 (i := j) (by rw [hlx]; exact hin)
          have z0 := fz5 (j * 2)
          have z1 := fz5 (j * 2 + 1)
          clear fz5 R5 hlx
          go_simp
          refine hK.out _ _ ?_
          clear hK K hg t0 t1 z0 z1
          (try simp only [zq1, zq2, zq3, Act.put, zq4, zq5, zq6])
          refine wpAnyX_oneX (i := 13) (by kernel_rfl) (by kernel_rfl) rfl (fun w6 hg K hK => ?_)
          go_simp
          refine hK.out _ _ ?_
          have hg13 := Lib.hid hg
          clear hK K hg
          (try simp only [zq1, zq2, zq3, Act.put, zq4, zq5, zq6])
          refine wpAnyX_oneX (i := 14) (by kernel_rfl) (by kernel_rfl) rfl (fun w7 hg K hK => ?_)
          have hg14 := Lib.hid hg
          have X7 := grBlk hg14.out (grBlk hg13.out ((Below.heap_setCell _ ⟨R, j * 2 + 1, none⟩ (.int .i64 v.d) X Z.out.2.2.symm).trans ((Below.heap_setCell _ ⟨R, j * 2, none⟩ (.int .i64 v.n) X Z.out.2.2.symm).trans (grBlk hg5.out HVV.out.1.fixs))))
          have hlf := HVV.out.1.lf
          have t0 := bC_at X7 (i := j) (by rw [hlf]; exact hin)
          have z0 : w7.frozen? ⟨X, j, none⟩ = false := by simp [World.frozen?, X7]
          clear X7 hlf
          go_simp
          refine hK.out _ _ ?_
          clear hK K hg t0 z0
          (try simp only [zq1, zq2, zq3, Act.put, zq4, zq5, zq6])
          refine wpAnyX_done (by kernel_rfl) (fun w8 hg => ?_) _
          have hg15 := Lib.hid hg
          clear hg hHeld hSG hmv
          have rlt : R < w.heap.size := blkLt HF0.out.rats
          have xlt : X < w.heap.size := blkLt HF0.out.fixs
          have U1 := Up.setCell (p := ⟨R, j * 2 + 1, none⟩) (Up.setCell (p := ⟨R, j * 2, none⟩) (belUp hg5.out w.heap.size) rlt (.int .i64 v.n)) rlt (.int .i64 v.d)
          have U2 := Up.trans (Up.setCell (p := ⟨X, j, none⟩) ((U1.trans (belUp hg13.out _)).trans (belUp hg14.out _)) xlt (.bool true)) (belUp hg15.out _)
          have U := Lib.hid U2
          clear U1 U2 b0 f3 f4 q0 q1
          gi_wp2
          obtain ⟨h1, h2, h3, h4, h5, h6⟩ := HVV.out
          have hz := HZ.out
          have hsz := hsz.out
          exact ⟨U.out.mono (by omega), h1.set hg5.out hg13.out hg14.out hg15.out Z.out.1 Z.out.2.1 Z.out.2.2, (U.out.block _ (by omega) (by omega)).trans h2, (U.out.block _ (by omega) (by omega)).trans h3, (U.out.block _ (by omega) (by omega)).trans h4, h5.keep U.out.size (fun D hD => U.out.block _ (h5.2 D hD).1 (h5.2 D hD).2.1), Nat.le_trans h6 U.out.size⟩
        case done =>
          rintro V hsz ⟨h1, h2, h3, h4, h5, h6⟩ hD
          rw [List.take_length] at h1
          go_wp2
          have hz := HZ.out
          refine Handed.intro k (by omega) (HJJ.out _ _ _ ⟨_, _, _, _, _, _, _, _, _, _, _, _, _, _, _, _, _, _, _, _, _, _, _, _, _, _, _, _, _, _, W.heap.size :: ds, _, _, rfl, ⟨h1, h4, ⟨List.nodup_cons.2 ⟨fun hm => ?_, h5.1⟩, fun D hm => ?_⟩, ?_, HS.out.1.trans HGe.out.symm, by omega⟩⟩)
          · have := (HW.out.2.2.2.2.2 _ hm).2.1
            omega
          · rcases List.mem_cons.1 hm with rfl | hm
            · exact ⟨by omega, hsz, hD⟩
            · exact h5.2 D hm
          · have h7 := unfixed_lt HS.out.2.1 HS.out.2.2.1 HS.out.2.2.2.1
            have h8 := HI.out.cnt
            omega
        case stop =>
          rintro c V hsz h hD
          exact h.elim
      · have e0 : spV F (.lim i) = .iface 112 (.agg #[.pointer (some ⟨F, 0, none⟩), .int .i64 (i : Int)]) := rfl
        rw [e0] at HL
        clear e0
        have HV := Lib.hid (fun wx h => limlev_any W0 F R X n a xs fx i HS.out.2.2.2.2 wx h)
        obtain ⟨v, hv⟩ : ∃ v, lev n xs fx (.lim i) = v := ⟨_, rfl⟩
        rw [hv] at HV HS
        have eS : stopped n fx (.lim i) = limL fx i := rfl
        rw [eS] at HS
        clear hv eS
        have hm1 := m_link
        have hm2 := m_lim
        have hm3 := s_link
        have hm4 := s_lim
        go_wp2_with (first
          | (go_at_call 45; refine (stops_any F _).mono ?_; rintro e w1 ⟨rfl, hw⟩; rw [hw]; clear hw)
          | (go_at_call 44; refine HL.out.mono ?_; rintro e w2 ⟨rfl, hb2⟩; have HG2 := Lib.hid (show Gr wr w2 from Gr.tr (grAlloc _ _) hb2); clear hb2)
          | (go_at_call 132; refine (HV.out _ (HI.out.fil.up HG2.out)).mono ?_; rintro e w3 ⟨rfl, hb3⟩; have HG3 := Lib.hid (Gr.tr HG2.out hb3); clear hb3)
          | (go_at_call 80; refine (mstopped_any F i _).mono ?_; rintro e w4 ⟨rfl, hw⟩; rw [hw]; clear hw))
        obtain ⟨W, hW⟩ : ∃ W, (w3.alloc (qb v)).alloc (limB F i) = W := ⟨_, rfl⟩
        have hgW : Gr wr W := by rw [← hW]; exact Gr.tr HG3.out (Gr.tr (grAlloc _ _) (grAlloc _ _))
        have hA : W.heap[w3.heap.size]? = some (qb v) := by rw [← hW]; exact mvAlloc (newBlk _ _ _ rfl)
        have hB : W.heap[w3.heap.size + 1]? = some (limB F i) := by rw [← hW]; exact newBlk _ _ _ (by simp)
        have hz : w3.heap.size + 2 ≤ W.heap.size := by rw [← hW]; simp
        have hz3 : wr.heap.size ≤ w3.heap.size := HG3.out.size
        rw [hW]
        clear hW HG3 HG2 HL HV hm1 hm2 hm3 hm4
        obtain ⟨bs, hbs⟩ : ∃ bs, w3.heap.size + 1 = bs := ⟨_, rfl⟩
        obtain ⟨p4, hp4⟩ : ∃ p4, w3.heap.size = p4 := ⟨_, rfl⟩
        rw [hbs] at hB ⊢
        rw [hp4] at hA hbs hz hz3 ⊢
        clear hp4
        have hfW := HI.out.fil.up hgW
        have hmW := HI.out.mar.keep hgW.size (fun D hD => hgW.block _ (HI.out.mar.2 D hD).2.1)
        have hbW := grBlk hgW HI.out.box
        have HZ := Lib.hid (And.intro hz (And.intro hz3 (And.intro hbs HI.out.siz)))
        have HT := Lib.hid (mstop_iter W0 F R X n a fx i bs (by rw [← ZN.out.2.2.1]; exact HS.out.2.2.2.2))
        obtain ⟨S, hS⟩ : ∃ S, limL fx i = S := ⟨_, rfl⟩
        rw [hS] at HS
        have HW := Lib.hid (And.intro hfW (And.intro hA (And.intro hB (And.intro hbW hmW))))
        have HSe := Lib.hid hS
        clear hfW hA hB hbW hmW hz hz3 hbs hgW
        rw [hS] at HT
        clear hS b0
        refine' range_law (gf := 98) (lb := #[ptr bs]) rfl (enters_of Try.func98 (by kernel_rfl) rfl) HT.out (fun _ => rfl)
          (fun k V => FilR W0 F R X n a (setQ xs (S.take k) v) (setB fx (S.take k)) V ∧ V.heap[p4]? = some (qb v) ∧ V.heap[bs]? = some (limB F i) ∧ V.heap[w.heap.size]? = some (filP F) ∧ Marks w.heap.size ds V ∧ W.heap.size ≤ V.heap.size)
          (fun _ _ => False) ?hJ ?hJx ?hRd ?h0 _ ?assign ?body ?done ?stop
        case hJ =>
          rintro k A B ⟨h1, h2, h3, h4, h5, h6⟩ hb
          have := HZ.out
          have hF1 := blkLt HW.out.1.fil
          have hR1 := blkLt HW.out.1.rats
          have hX1 := blkLt HW.out.1.fixs
          exact ⟨⟨(Below.trans h1.gr (hb.mono (Nat.le_trans h1.hF (Nat.le_of_lt hF1)))), h1.hF, h1.hR, h1.hX, h1.net, (hb.block _ hF1).trans h1.fil, (hb.block _ hR1).trans h1.rats, (hb.block _ hX1).trans h1.fixs, h1.lx, h1.lf⟩, (hb.block _ (by omega)).trans h2, (hb.block _ (by omega)).trans h3, (hb.block _ (by omega)).trans h4, h5.keep hb.size (fun D hD => hb.block _ (HW.out.2.2.2.2.2 D hD).2.1), Nat.le_trans h6 hb.size⟩
        case hJx => exact fun _ _ _ h _ => h
        case hRd =>
          rintro k A hk ⟨h1, h2, h3, h4, h5, h6⟩
          rw [← HSe.out] at h1
          exact ⟨h3, _, _, h1, fun hk => by subst hk; rfl⟩
        case h0 => exact ⟨HW.out.1, HW.out.2.1, HW.out.2.2.1, HW.out.2.2.2.1, HW.out.2.2.2.2, Nat.le_refl _⟩
        case assign =>
          intro lx x V K hK
          gi_wp2
          exact hK
        case body =>
          rintro l1 k hk V hsz ⟨h1, h2, h3, h4, h5, h6⟩
          rw [setQ_succ xs S v hk, setB_succ fx S hk]
          have hin : S[k] < n.f.length := by rw [← HI.out.fil.lf]; exact HS.out.2.1 _ (List.getElem_mem hk)
          generalize S[k] = j at *
          generalize setQ xs (S.take k) v = xs1 at *
          generalize setB fx (S.take k) = fx1 at *
          obtain ⟨f0, f1, f2, f3, f4⟩ := cells5 h1.fil
          have b0 := (cells1 h4).1
          obtain ⟨⟨q0, q1⟩, -⟩ := cells2 h2
          have HVV := Lib.hid (And.intro h1 (And.intro h2 (And.intro h3 (And.intro h4 (And.intro h5 h6)))))
          have hsz := Lib.hid hsz
          clear h1 h2 h3 h4 h5 h6 f0 f1 f2
          gi_wp2_with fail
          refine wpIn_region_X (S := fun wq => Gr V wq) [9, 12, 13, 14] (by kernel_rfl) (by kernel_rfl) (by rintro ⟨_, _, h⟩; exact h) (grDrew _) (fun hHeld => ?_)
          have hSG : Hid (∀ wp wq : World, Gr V wp → Gr wp wq → Gr V wq) := Lib.hid (fun _ _ h k => h.tr k)
          have hmv := Lib.hid (fun (wq : World) (hq : Gr V wq) => And.intro (grCell hq b0) (And.intro (grCell hq f3) (And.intro (grCell hq f4) (And.intro (grCell hq q0) (grCell hq q1)))))
          refine xp 9 (v := ?_) rfl (by kernel_rfl) (fun _ _ _ h => h) (by rfl) ?_ ?_; rotate_left; focus (intro w'; go_simp; (try with_reducible rfl))
          (try simp only [zq1, zq2, zq3, Act.put, zq4, zq5, zq6])
          first
           | (refine xk hSG 0 [1, 2, 3, 11, 12, 13, 14] (v := ?_) rfl (by kernel_rfl) (fun _ _ _ h => h) (by rfl) ?_ hHeld ?_; rotate_left; focus (intro w' hSw; obtain ⟨b0, f3, f4, q0, q1⟩ := hmv.out _ hSw; go_simp; (try with_reducible rfl)))
           | refine xn hSG 0 [1, 2, 3, 11, 12, 13, 14] rfl (by kernel_rfl) (fun _ _ _ h => h) (by rfl) hHeld ?_
          (try simp only [zq1, zq2, zq3, Act.put, zq4, zq5, zq6])
          first
           | (refine xk hSG 1 [2, 3, 11, 12, 13, 14] (v := ?_) rfl (by kernel_rfl) (fun _ _ _ h => h) (by rfl) ?_ hHeld ?_; rotate_left; focus (intro w' hSw; obtain ⟨b0, f3, f4, q0, q1⟩ := hmv.out _ hSw; go_simp; (try with_reducible rfl)))
           | refine xn hSG 1 [2, 3, 11, 12, 13, 14] rfl (by kernel_rfl) (fun _ _ _ h => h) (by rfl) hHeld ?_
          (try simp only [zq1, zq2, zq3, Act.put, zq4, zq5, zq6])
          first
           | (refine xk hSG 2 [3, 11, 12, 13, 14] (v := ?_) rfl (by kernel_rfl) (fun _ _ _ h => h) (by rfl) ?_ hHeld ?_; rotate_left; focus (intro w' hSw; obtain ⟨b0, f3, f4, q0, q1⟩ := hmv.out _ hSw; go_simp; (try with_reducible rfl)))
           | refine xn hSG 2 [3, 11, 12, 13, 14] rfl (by kernel_rfl) (fun _ _ _ h => h) (by rfl) hHeld ?_
          (try simp only [zq1, zq2, zq3, Act.put, zq4, zq5, zq6])
          first
           | (refine xk hSG 3 [11, 12, 13, 14] (v := ?_) rfl (by kernel_rfl) (fun _ _ _ h => h) (by rfl) ?_ hHeld ?_; rotate_left; focus (intro w' hSw; obtain ⟨b0, f3, f4, q0, q1⟩ := hmv.out _ hSw; go_simp; (try with_reducible rfl)))
           | refine xn hSG 3 [11, 12, 13, 14] rfl (by kernel_rfl) (fun _ _ _ h => h) (by rfl) hHeld ?_
          (try simp only [zq1, zq2, zq3, Act.put, zq4, zq5, zq6])
          first
           | (refine xk hSG 4 [11, 12, 13, 14] (v := ?_) rfl (by kernel_rfl) (fun _ _ _ h => h) (by rfl) ?_ hHeld ?_; rotate_left; focus (intro w' hSw; obtain ⟨b0, f3, f4, q0, q1⟩ := hmv.out _ hSw; go_simp; (try with_reducible rfl)))
           | refine xn hSG 4 [11, 12, 13, 14] rfl (by kernel_rfl) (fun _ _ _ h => h) (by rfl) hHeld ?_
          (try simp only [zq1, zq2, zq3, Act.put, zq4, zq5, zq6])
          first
           | (refine xk hSG 5 [6, 7, 8, 11, 12, 13, 14] (v := ?_) rfl (by kernel_rfl) (fun _ _ _ h => h) (by rfl) ?_ hHeld ?_; rotate_left; focus (intro w' hSw; obtain ⟨b0, f3, f4, q0, q1⟩ := hmv.out _ hSw; go_simp; (try with_reducible rfl)))
           | refine xn hSG 5 [6, 7, 8, 11, 12, 13, 14] rfl (by kernel_rfl) (fun _ _ _ h => h) (by rfl) hHeld ?_
          (try simp only [zq1, zq2, zq3, Act.put, zq4, zq5, zq6])
          first
           | (refine xk hSG 6 [7, 8, 11, 12, 13, 14] (v := ?_) rfl (by kernel_rfl) (fun _ _ _ h => h) (by rfl) ?_ hHeld ?_; rotate_left; focus (intro w' hSw; obtain ⟨b0, f3, f4, q0, q1⟩ := hmv.out _ hSw; go_simp; (try with_reducible rfl)))
           | refine xn hSG 6 [7, 8, 11, 12, 13, 14] rfl (by kernel_rfl) (fun _ _ _ h => h) (by rfl) hHeld ?_
          (try simp only [zq1, zq2, zq3, Act.put, zq4, zq5, zq6])
          first
           | (refine xk hSG 7 [8, 11, 12, 13, 14] (v := ?_) rfl (by kernel_rfl) (fun _ _ _ h => h) (by rfl) ?_ hHeld ?_; rotate_left; focus (intro w' hSw; obtain ⟨b0, f3, f4, q0, q1⟩ := hmv.out _ hSw; go_simp; (try with_reducible rfl)))
           | refine xn hSG 7 [8, 11, 12, 13, 14] rfl (by kernel_rfl) (fun _ _ _ h => h) (by rfl) hHeld ?_
          (try simp only [zq1, zq2, zq3, Act.put, zq4, zq5, zq6])
          first
           | (refine xk hSG 8 [11, 12, 13, 14] (v := ?_) rfl (by kernel_rfl) (fun _ _ _ h => h) (by rfl) ?_ hHeld ?_; rotate_left; focus (intro w' hSw; obtain ⟨b0, f3, f4, q0, q1⟩ := hmv.out _ hSw; go_simp; (try with_reducible rfl)))
           | refine xn hSG 8 [11, 12, 13, 14] rfl (by kernel_rfl) (fun _ _ _ h => h) (by rfl) hHeld ?_
          (try simp only [zq1, zq2, zq3, Act.put, zq4, zq5, zq6])
          first
           | (refine xk hSG 10 [11, 12, 13, 14] (v := ?_) rfl (by kernel_rfl) (fun _ _ _ h => h) (by rfl) ?_ hHeld ?_; rotate_left; focus (intro w' hSw; obtain ⟨b0, f3, f4, q0, q1⟩ := hmv.out _ hSw; go_simp; (try with_reducible rfl)))
           | refine xn hSG 10 [11, 12, 13, 14] rfl (by kernel_rfl) (fun _ _ _ h => h) (by rfl) hHeld ?_
          (try simp only [zq1, zq2, zq3, Act.put, zq4, zq5, zq6])
          refine xk hSG 11 [12, 13, 14] (v := .pointer (some ⟨R, j * 2, none⟩)) rfl (by kernel_rfl) (fun _ _ _ h => h) (by rfl) ?_ hHeld ?_
          focus (intro w' hSw; obtain ⟨b0, f3, f4, q0, q1⟩ := hmv.out _ hSw; go_simp; (try (intro hq; omega)))
          (try simp only [zq1, zq2, zq3, Act.put, zq4, zq5, zq6])
          refine wpAnyX_oneX (i := 12) (by kernel_rfl) (by kernel_rfl) rfl (fun w5 hg K hK => ?_)
          have hg5 := Lib.hid (hHeld.out.tr hg)
          have R5 := grBlk hg5.out HVV.out.1.rats
          have fz5 : ∀ i, w5.frozen? ⟨R, i, none⟩ = false := fun i => by simp [World.frozen?, R5]
          have hlx := HVV.out.1.lx
          obtain ⟨t0, t1⟩ := qC_at R5 (i := j) (by rw [hlx]; exact hin)
          have z0 := fz5 (j * 2)
          have z1 := fz5 (j * 2 + 1)
          clear fz5 R5 hlx
          go_simp
          refine hK.out _ _ ?_
          clear hK K hg t0 t1 z0 z1
          (try simp only [zq1, zq2, zq3, Act.put, zq4, zq5, zq6])
          refine wpAnyX_oneX (i := 13) (by kernel_rfl) (by kernel_rfl) rfl (fun w6 hg K hK => ?_)
          go_simp
          refine hK.out _ _ ?_
          have hg13 := Lib.hid hg
          clear hK K hg
          (try simp only [zq1, zq2, zq3, Act.put, zq4, zq5, zq6])
          refine wpAnyX_oneX (i := 14) (by kernel_rfl) (by kernel_rfl) rfl (fun w7 hg K hK => ?_)
          have hg14 := Lib.hid hg
          have X7 := grBlk hg14.out (grBlk hg13.out ((Below.heap_setCell _ ⟨R, j * 2 + 1, none⟩ (.int .i64 v.d) X Z.out.2.2.symm).trans ((Below.heap_setCell _ ⟨R, j * 2, none⟩ (.int .i64 v.n) X Z.out.2.2.symm).trans (grBlk hg5.out HVV.out.1.fixs))))
          have hlf := HVV.out.1.lf
          have t0 := bC_at X7 (i := j) (by rw [hlf]; exact hin)
          have z0 : w7.frozen? ⟨X, j, none⟩ = false := by simp [World.frozen?, X7]
          clear X7 hlf
          go_simp
          refine hK.out _ _ ?_
          clear hK K hg t0 z0
          (try simp only [zq1, zq2, zq3, Act.put, zq4, zq5, zq6])
          refine wpAnyX_done (by kernel_rfl) (fun w8 hg => ?_) _
          have hg15 := Lib.hid hg
          clear hg hHeld hSG hmv
          have rlt : R < w.heap.size := blkLt HF0.out.rats
          have xlt : X < w.heap.size := blkLt HF0.out.fixs
          have U1 := Up.setCell (p := ⟨R, j * 2 + 1, none⟩) (Up.setCell (p := ⟨R, j * 2, none⟩) (belUp hg5.out w.heap.size) rlt (.int .i64 v.n)) rlt (.int .i64 v.d)
          have U2 := Up.trans (Up.setCell (p := ⟨X, j, none⟩) ((U1.trans (belUp hg13.out _)).trans (belUp hg14.out _)) xlt (.bool true)) (belUp hg15.out _)
          have U := Lib.hid U2
          clear U1 U2 b0 f3 f4 q0 q1
          gi_wp2
          obtain ⟨h1, h2, h3, h4, h5, h6⟩ := HVV.out
          have hz := HZ.out
          have hsz := hsz.out
          exact ⟨U.out.mono (by omega), h1.set hg5.out hg13.out hg14.out hg15.out Z.out.1 Z.out.2.1 Z.out.2.2, (U.out.block _ (by omega) (by omega)).trans h2, (U.out.block _ (by omega) (by omega)).trans h3, (U.out.block _ (by omega) (by omega)).trans h4, h5.keep U.out.size (fun D hD => U.out.block _ (h5.2 D hD).1 (h5.2 D hD).2.1), Nat.le_trans h6 U.out.size⟩
        case done =>
          rintro V hsz ⟨h1, h2, h3, h4, h5, h6⟩ hD
          rw [List.take_length] at h1
          go_wp2
          have hz := HZ.out
          refine Handed.intro k (by omega) (HJJ.out _ _ _ ⟨_, _, _, _, _, _, _, _, _, _, _, _, _, _, _, _, _, _, _, _, _, _, _, _, _, _, _, _, _, _, W.heap.size :: ds, _, _, rfl, ⟨h1, h4, ⟨List.nodup_cons.2 ⟨fun hm => ?_, h5.1⟩, fun D hm => ?_⟩, ?_, HS.out.1.trans HGe.out.symm, by omega⟩⟩)
          · have := (HW.out.2.2.2.2.2 _ hm).2.1
            omega
          · rcases List.mem_cons.1 hm with rfl | hm
            · exact ⟨by omega, hsz, hD⟩
            · exact h5.2 D hm
          · have h7 := unfixed_lt HS.out.2.1 HS.out.2.2.1 HS.out.2.2.2.1
            have h8 := HI.out.cnt
            omega
        case stop =>
          rintro c V hsz h hD
          exact h.elim
end Go.Proofs.Ytbjhdfakocfapaa
