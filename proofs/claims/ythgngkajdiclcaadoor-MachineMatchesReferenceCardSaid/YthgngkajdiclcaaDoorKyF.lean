/- Package code: isSound. Condition: the laid variable effects. -/
import Derived.Test.YthgngkajdiclcaaDoorKyD
namespace Go.Proofs.YthgngkajdiclcaaDoor
open Go.RowKit
set_option linter.unusedVariables false
set_option linter.unusedSimpArgs false
namespace K
/-- what the laid variable gives -/
def LaidE (w : World) : Prop := ∀ k : Nat, 1 ≤ k → k ≤ 13 → w.cell? ⟨1, k * 2, none⟩ = some (.int .i64 (tko k)) ∧ w.cell? ⟨1, k * 2 + 1, none⟩ = some (.int .i64 (pt k))
theorem LaidE.gr {w w' : World} (h : LaidE w) (hg : Gr w w') : LaidE w' := fun k h1 h2 => ⟨grCell hg (h k h1 h2).1, grCell hg (h k h1 h2).2⟩
theorem LaidE.gb {w w' : World} {b : Nat} (h : LaidE w) (hb : 1 < b) (hg : w.grownBy w' (some b)) : LaidE w' := fun k h1 h2 => by
  have e : ∀ i, w.cell? ⟨1, i, none⟩ = some (.int .i64 (tko k)) ∨ w.cell? ⟨1, i, none⟩ = some (.int .i64 (pt k)) → w'.cell? ⟨1, i, none⟩ = w.cell? ⟨1, i, none⟩ := fun i hi =>
    World.cell?_of_block (a := ⟨1, i, none⟩) (hg.block _ (by rcases hi with hi | hi <;> exact World.block_lt_of_cell? _ _ hi) (fun q => by have := Option.some.inj q; simp only at this; omega))
  exact ⟨(e _ (.inl (h k h1 h2).1)).trans (h k h1 h2).1, (e _ (.inr (h k h1 h2).2)).trans (h k h1 h2).2⟩
theorem ReP.of {W0 : World} {g : Nat} {r r2 : List Int × Bool} {w w2 : World} {e : Ending} {w' : World} (h : ReP W0 g r w2 e w') (hr : r = r2) (hg : w.grownBy w2 (some g)) : ReP W0 g r2 w e w' := by subst hr; exact ⟨h.1, h.2.1, h.2.2.1, gbTrans hg h.2.2.2⟩
set_option maxHeartbeats 4000000 in
set_option maxRecDepth 100000 in
theorem isSound_any (W0 : World) (hs : List Int) (l : List In) (A : Option Addr) (lc : Nat) (vars : Int) (g hc i : Nat) (x : In) (hx : l[i]? = some x) (hf : formI x i l.length vars = true) (hl : hs.length = l.length + 1) (hlen : l.length ≤ 5000) (hbd : ∀ n ∈ hs, -1 ≤ n ∧ n ≤ 64) (w : World) (hG : Gr W0 w) (hg : W0.heap.size ≤ g) (hH : w.heap[g]? = some (.cells (iA hs) 3 (0, 0))) (hR : InsR W0 l A) (hE : LaidE W0) :
    Calls Tryd.prog 42 #[.agg (hA l.length A lc vars (some ⟨g, 0, none⟩) hs.length hc), .int .i64 i] w (ReP W0 g (soundI hs x i) w) := by
  have hi : i < l.length := (List.getElem?_eq_some_iff.1 hx).1
  have hop : 1 ≤ x.op ∧ x.op ≤ 13 := by
    unfold formI at hf
    simp only [Bool.and_eq_true, btw2, decide_eq_true_eq] at hf
    exact hf.1
  have hgl : g < w.heap.size := (Array.getElem?_eq_some_iff.1 hH).1
  obtain ⟨gl, ol, rfl, hat⟩ := hR.addr (by omega)
  obtain ⟨e0, e1, e2⟩ := hat i x hx
  have hnn : x.op = 12 ∨ x.op = 13 → (0 ≤ x.n ∧ x.n.toNat < hs.length) := fun h => by
    have := form_n hf h
    omega
  have hih : i < hs.length := by omega
  have hbi : -1 ≤ (hs[i]?).getD 0 ∧ (hs[i]?).getD 0 ≤ 64 := by rw [List.getElem?_eq_getElem hih]; exact hbd _ (List.getElem_mem hih)
  have h2 : i + 1 < hs.length := by omega
  obtain ⟨k, hk⟩ := Int.eq_ofNat_of_zero_le (show 0 ≤ x.op by omega)
  obtain ⟨f0, f1⟩ := hE k (by omega) (by omega)
  obtain ⟨W4, hW4⟩ : ∃ W4, W4 = ((w.alloc (.cells (hA l.length (some ⟨gl, ol, none⟩) lc vars (some ⟨g, 0, none⟩) hs.length hc) 72)).alloc (.cells #[.int .i64 (k : Int), .int .i64 x.n, .int .i64 x.r] 42)).alloc (.cells #[.int .i64 (tko k), .int .i64 (pt k)] 82) := ⟨_, rfl⟩
  obtain ⟨W1, hW1⟩ : ∃ W1, W1 = w.alloc (.cells (hA l.length (some ⟨gl, ol, none⟩) lc vars (some ⟨g, 0, none⟩) hs.length hc) 72) := ⟨_, rfl⟩
  obtain ⟨W2, hW2⟩ : ∃ W2, W2 = W1.alloc (.cells #[.int .i64 (k : Int), .int .i64 x.n, .int .i64 x.r] 42) := ⟨_, rfl⟩
  have hG1 : Gr w W1 := by rw [hW1]; exact grAlloc _ _
  have hG2 : Gr w W2 := hG1.tr (by rw [hW2]; exact grAlloc _ _)
  have hs1 : W1.heap.size = w.heap.size + 1 := by rw [hW1]; simp
  have hs2 : W2.heap.size = w.heap.size + 1 + 1 := by rw [hW2]; simp [hs1]
  have hG14 : Gr W1 W4 := by rw [hW4, ← hW1]; exact (grAlloc _ _).tr (grAlloc _ _)
  have hG4 : Gr w W4 := hG1.tr hG14
  have HH1 : W1.heap[w.heap.size]? = some (.cells (hA l.length (some ⟨gl, ol, none⟩) lc vars (some ⟨g, 0, none⟩) hs.length hc) 72 (0, 0)) := by rw [hW1]; exact nBlk _ _ _ rfl
  have HH := Lib.hid (grBlk hG14 HH1)
  have HI := Lib.hid (show W4.heap[w.heap.size + 1]? = some (.cells #[.int .i64 (k : Int), .int .i64 x.n, .int .i64 x.r] 42 (0, 0)) by rw [hW4]; exact grBlk (grAlloc _ _) (nBlk _ _ _ (by simp)))
  have HI2 := Lib.hid (show W2.heap[w.heap.size + 1]? = some (.cells #[.int .i64 (k : Int), .int .i64 x.n, .int .i64 x.r] 42 (0, 0)) by rw [hW2, hW1]; exact nBlk _ _ _ (by simp))
  have HE := Lib.hid (show W4.heap[w.heap.size + 2]? = some (.cells #[.int .i64 (tko k), .int .i64 (pt k)] 82 (0, 0)) by rw [hW4]; exact nBlk _ _ _ (by simp))
  have HGr := Lib.hid (hG.tr hG4)
  have HHs := Lib.hid (grBlk hG4 hH)
  have HK := Lib.hid (gbGr (r := some g) hG4)
  have e0 := grCell (hG.tr hG1) e0
  have e1 := grCell (hG.tr hG1) e1
  have e2 := grCell (hG.tr hG1) e2
  have f0 := grCell (hG.tr hG2) f0
  have f1 := grCell (hG.tr hG2) f1
  rw [← hW1, ← hW2] at hW4
  obtain ⟨x0, x1, x2⟩ := cells3k HH1
  have t1 := tko_pos k
  have t2 := pt_pos k
  have t3 : tko k ≤ 2 ∧ pt k ≤ 1 := by constructor <;> (first | (unfold tko; split <;> (try split) <;> (try split) <;> omega) | (unfold pt; split <;> (try split) <;> (try split) <;> (try split) <;> omega))
  obtain ⟨R, hRR⟩ : ∃ R, soundI hs x i = R := ⟨_, rfl⟩
  rw [hRR]
  unfold soundI at hRR
  rw [hk] at hRR e0 hnn
  have hRH := Lib.hid hRR
  have HRe := Lib.hid (fun (ts : List Int) (j : Nat) (h : Int) (hj : j < ts.length) (hts : ts.length = hs.length) (wx : World) (hgx : Gr W0 wx) (hHx : wx.heap[g]? = some (.cells (iA ts) 3 (0, 0))) => (by have := reach_any W0 ts l.length (some ⟨gl, ol, none⟩) lc vars g hc j h hj (by omega) wx hgx hg hHx; rw [hts] at this; exact this))
  clear hRR hx hf hat hG hG1 hG2 hG14 hG4 HH1 hE hR hH hbd hl
  rw [hk] at hop
  clear hk
  generalize l.length = ln at *
  generalize hhn : hs.length = hn at *
  have hhnH := Lib.hid hhn
  clear hhn
  go_enter Tryd.func42, Tryd.ntmps42
  go_upto_region 1 with fail
  rw [← hW1]
  clear hW1
  go_upto_region 2 with fail
  rw [← hW2]
  clear hW2
  have d0 := Lib.hid (cells3k (show W2.heap[w.heap.size + 1]? = some (.cells #[.int .i64 (k : Int), .int .i64 x.n, .int .i64 x.r] 42 (0, 0)) from HI2.out))
  obtain ⟨i0, i1, i2⟩ := d0.out
  try rw [hs1]
  clear d0 hs1
  go_upto_region 3 with fail
  rw [← hW4]
  try rw [hs2]
  clear hW4 hs2 i0 i1 i2 e0 e1 e2 f0 f1 x0 x1 x2
  obtain ⟨x0, x1, x2⟩ := cells3k HH.out
  obtain ⟨y0, y1, y2⟩ := cells3k HI.out
  obtain ⟨s0, s1⟩ := cells2k HE.out
  have c0 := iA_at HHs.out (i := i) (by rw [hhnH.out]; exact hih)
  generalize hhi : (hs[i]?).getD 0 = hv at *
  generalize htk : tko k = tq at *
  generalize hpt : pt k = pq at *
  have q1 : IntKind.i64.wrap (hv - tq) = hv - tq := IntWalk.i64_in _ (by omega)
  have q2' : IntKind.i64.wrap (hv - tq + pq) = hv - tq + pq := IntWalk.i64_in _ (by omega)
  have q3 : IntKind.i64.wrap ((i : Int) + 1) = (i : Int) + 1 := IntWalk.i64_in _ (by omega)
  refine wp_region_G (S := fun wq => Gr W4 wq) (by kernel_rfl) (grDrew _) (fun hHeld => ?_)
  have hSG : Hid (∀ wp wq : World, Gr W4 wp → Gr wp wq → Gr W4 wq) := Lib.hid (fun _ _ h k => h.tr k)
  have hmv := Lib.hid (fun (wq : World) (hq : Gr W4 wq) => And.intro (grCell hq x0) (And.intro (grCell hq x1) (And.intro (grCell hq x2) (And.intro (grCell hq s0) (And.intro (grCell hq s1) (grCell hq c0))))))
  first
   | (refine tk hSG 0 (v := ?_) rfl (by kernel_rfl) (fun _ _ _ h => h) (by rfl) ?_ hHeld ?_; rotate_left; focus (intro w' hSw; obtain ⟨x0, x1, x2, s0, s1, c0⟩ := hmv.out _ hSw; go_simp; (try with_reducible rfl)))
   | refine tn hSG 0 rfl (by kernel_rfl) (fun _ _ _ h => h) (by rfl) hHeld ?_
  (try simp only [zq1, zq2, zq3, Act.put, zq4, zq5, zq6])
  first
   | (refine tk hSG 1 (v := ?_) rfl (by kernel_rfl) (fun _ _ _ h => h) (by rfl) ?_ hHeld ?_; rotate_left; focus (intro w' hSw; obtain ⟨x0, x1, x2, s0, s1, c0⟩ := hmv.out _ hSw; go_simp; (try with_reducible rfl)))
   | refine tn hSG 1 rfl (by kernel_rfl) (fun _ _ _ h => h) (by rfl) hHeld ?_
  (try simp only [zq1, zq2, zq3, Act.put, zq4, zq5, zq6])
  first
   | (refine tk hSG 2 (v := ?_) rfl (by kernel_rfl) (fun _ _ _ h => h) (by rfl) ?_ hHeld ?_; rotate_left; focus (intro w' hSw; obtain ⟨x0, x1, x2, s0, s1, c0⟩ := hmv.out _ hSw; go_simp; (try with_reducible rfl)))
   | refine tn hSG 2 rfl (by kernel_rfl) (fun _ _ _ h => h) (by rfl) hHeld ?_
  (try simp only [zq1, zq2, zq3, Act.put, zq4, zq5, zq6])
  refine tk hSG 3 (v := .pointer (some ⟨g, i, none⟩)) rfl (by kernel_rfl) (fun _ _ _ h => h) (by rfl) ?_ hHeld ?_
  focus (intro w' hSw; obtain ⟨x0, x1, x2, s0, s1, c0⟩ := hmv.out _ hSw; go_simp; (try (intro hq; omega)))
  (try simp only [zq1, zq2, zq3, Act.put, zq4, zq5, zq6])
  first
   | (refine tk hSG 4 (v := ?_) rfl (by kernel_rfl) (fun _ _ _ h => h) (by rfl) ?_ hHeld ?_; rotate_left; focus (intro w' hSw; obtain ⟨x0, x1, x2, s0, s1, c0⟩ := hmv.out _ hSw; go_simp; (try with_reducible rfl)))
   | refine tn hSG 4 rfl (by kernel_rfl) (fun _ _ _ h => h) (by rfl) hHeld ?_
  (try simp only [zq1, zq2, zq3, Act.put, zq4, zq5, zq6])
  first
   | (refine tk hSG 5 (v := ?_) rfl (by kernel_rfl) (fun _ _ _ h => h) (by rfl) ?_ hHeld ?_; rotate_left; focus (intro w' hSw; obtain ⟨x0, x1, x2, s0, s1, c0⟩ := hmv.out _ hSw; go_simp; (try with_reducible rfl)))
   | refine tn hSG 5 rfl (by kernel_rfl) (fun _ _ _ h => h) (by rfl) hHeld ?_
  (try simp only [zq1, zq2, zq3, Act.put, zq4, zq5, zq6])
  first
   | (refine tk hSG 6 (v := ?_) rfl (by kernel_rfl) (fun _ _ _ h => h) (by rfl) ?_ hHeld ?_; rotate_left; focus (intro w' hSw; obtain ⟨x0, x1, x2, s0, s1, c0⟩ := hmv.out _ hSw; go_simp; (try with_reducible rfl)))
   | refine tn hSG 6 rfl (by kernel_rfl) (fun _ _ _ h => h) (by rfl) hHeld ?_
  (try simp only [zq1, zq2, zq3, Act.put, zq4, zq5, zq6])
  first
   | (refine tk hSG 7 (v := ?_) rfl (by kernel_rfl) (fun _ _ _ h => h) (by rfl) ?_ hHeld ?_; rotate_left; focus (intro w' hSw; obtain ⟨x0, x1, x2, s0, s1, c0⟩ := hmv.out _ hSw; go_simp; (try with_reducible rfl)))
   | refine tn hSG 7 rfl (by kernel_rfl) (fun _ _ _ h => h) (by rfl) hHeld ?_
  (try simp only [zq1, zq2, zq3, Act.put, zq4, zq5, zq6])
  first
   | (refine tk hSG 8 (v := ?_) rfl (by kernel_rfl) (fun _ _ _ h => h) (by rfl) ?_ hHeld ?_; rotate_left; focus (intro w' hSw; obtain ⟨x0, x1, x2, s0, s1, c0⟩ := hmv.out _ hSw; go_simp; (try with_reducible rfl)))
   | refine tn hSG 8 rfl (by kernel_rfl) (fun _ _ _ h => h) (by rfl) hHeld ?_
  (try simp only [zq1, zq2, zq3, Act.put, zq4, zq5, zq6])
  refine wpAnyG_done (by kernel_rfl) (fun w5 hgD => ?_) _
  have hg5 : Gr W4 w5 := (grDrew W4).tr hgD
  clear hgD hSG hHeld
  have HGr5 := Lib.hid (Gr.tr HGr.out hg5)
  have HHs5 := Lib.hid (grBlk hg5 HHs.out)
  have HK5 := Lib.hid (gbTrans HK.out (gbGr hg5))
  have HH5 := Lib.hid (grBlk hg5 HH.out)
  have HI5 := Lib.hid (grBlk hg5 HI.out)
  have HE5 := Lib.hid (grBlk hg5 HE.out)
  clear x0 x1 x2 y0 y1 y2 s0 s1 c0 HGr HHs HK HH HI HE hg5
  obtain ⟨x0, x1, x2⟩ := cells3k HH5.out
  obtain ⟨y0, y1, y2⟩ := cells3k HI5.out
  obtain ⟨s0, s1⟩ := cells2k HE5.out
  by_cases hneg : hv - tq < 0
  · have hR : R = (hs, false) := by rw [← hRH.out, if_pos hneg]
    subst hR
    have tn : decide (hv - tq < 0) = true := decide_eq_true hneg
    clear hRH HRe hneg
    go_wp2
    go_ret
    exact ⟨rfl, HHs5.out, HGr5.out, HK5.out⟩
  · have tn : decide (hv - tq < 0) = false := decide_eq_false hneg
    have hRH2 := Lib.hid hRH.out
    rw [if_neg hneg] at hRH2
    clear hRH
    obtain ⟨h, hh⟩ : ∃ h, hv - tq + pq = h := ⟨_, rfl⟩
    have q2 : IntKind.i64.wrap (hv - tq + pq) = h := by rw [q2', hh]
    clear q2'
    rw [hh] at hRH2
    have hhH := Lib.hid hh
    clear hh
    obtain ⟨r1, hr1⟩ : ∃ r1, reach hs (i + 1) h = r1 := ⟨_, rfl⟩
    have HR1 : Hid (Calls Tryd.prog 62 #[.agg (hA ln (some ⟨gl, ol, none⟩) lc vars (some ⟨g, 0, none⟩) hn hc), .int .i64 ((i : Int) + 1), .int .i64 h] w5 (ReP W0 g r1 w5)) := Lib.hid (by
      have := HRe.out hs (i + 1) h (by rw [hhnH.out]; exact h2) hhnH.out w5 HGr5.out HHs5.out
      rw [hr1, show (((i + 1 : Nat)) : Int) = (i : Int) + 1 by omega] at this
      exact this)
    by_cases h12 : (k : Int) = 12
    · have t12 : ((k : Int) == 12) = true := by simp [h12]
      rw [if_pos h12, hr1] at hRH2
      obtain ⟨hn0, hnl⟩ := hnn (.inl h12)
      obtain ⟨j, hj⟩ := Int.eq_ofNat_of_zero_le hn0
      have hjH := Lib.hid hj
      rw [hj] at y1 hRH2 hnl
      rw [Int.toNat_natCast] at hRH2 hnl
      clear h12 hnn hj hn0
      obtain ⟨h3, b1⟩ := r1
      have hl3 : h3.length = hn := by rw [← (reach_ext hr1).1, hhnH.out]
      have hl3H := Lib.hid hl3
      clear hl3
      go_wp2_with fail
      refine HR1.out.mono ?_
      rintro e w6 ⟨he, hH6, hG6, hK6⟩
      simp only at he hH6
      subst he
      have HH6 := (hK6.block _ (World.block_lt_of_cell? _ _ x0) (fun q => by have := Option.some.inj q; simp only at this; omega)).trans HH5.out
      have HI6 := (hK6.block _ (World.block_lt_of_cell? _ _ y0) (fun q => by have := Option.some.inj q; simp only at this; omega)).trans HI5.out
      have HS6 := Lib.hid hH6
      have HG6 := Lib.hid hG6
      have HK6 := Lib.hid (gbTrans HK5.out hK6)
      clear x0 x1 x2 y0 y1 y2 hH6 hG6 hK6 s0 s1
      obtain ⟨x0, x1, x2⟩ := cells3k HH6
      obtain ⟨y0, y1, y2⟩ := cells3k HI6
      rw [hjH.out] at y1
      clear HH6 HI6
      cases b1 with
      | false =>
        have hR : R = (h3, false) := hRH2.out.symm
        subst hR
        clear hRH2 HRe HR1 hr1
        go_wp2
        go_ret
        exact ⟨rfl, HS6.out, HG6.out, HK6.out⟩
      | true =>
        have hR : reach h3 j h = R := hRH2.out
        have HR2 := Lib.hid (HRe.out h3 j h (by rw [hl3H.out]; exact hnl) hl3H.out w6 HG6.out HS6.out)
        rw [hR] at HR2
        clear hRH2 HRe HR1 hr1 hR
        go_wp2_with fail
        refine HR2.out.mono ?_
        rintro e w7 ⟨he, hH7, hG7, hK7⟩
        subst he
        have HF := Lib.hid (show ReP W0 g R w (.returned (.bool R.2)) w7 from ⟨rfl, hH7, hG7, gbTrans HK6.out hK7⟩)
        clear hH7 hG7 hK7
        go_wp2
        go_ret
        exact HF.out
    · have t12 : ((k : Int) == 12) = false := by simp; omega
      rw [if_neg h12] at hRH2
      by_cases h13 : (k : Int) = 13
      · have t13 : ((k : Int) == 13) = true := by simp [h13]
        rw [if_pos h13] at hRH2
        obtain ⟨hn0, hnl⟩ := hnn (.inr h13)
        obtain ⟨j, hj⟩ := Int.eq_ofNat_of_zero_le hn0
        rw [hj] at y1 hRH2 hnl
        rw [Int.toNat_natCast] at hRH2 hnl
        clear h12 h13 hnn hj hn0
        have HR2 := Lib.hid (HRe.out hs j h (by rw [hhnH.out]; exact hnl) hhnH.out w5 HGr5.out HHs5.out)
        rw [hRH2.out] at HR2
        clear hRH2 HRe HR1 hr1
        go_wp2_with fail
        refine HR2.out.mono ?_
        rintro e w7 ⟨he, hH7, hG7, hK7⟩
        subst he
        have HF := Lib.hid (show ReP W0 g R w (.returned (.bool R.2)) w7 from ⟨rfl, hH7, hG7, gbTrans HK5.out hK7⟩)
        clear hH7 hG7 hK7
        go_wp2
        go_ret
        exact HF.out
      · have t13 : ((k : Int) == 13) = false := by simp; omega
        rw [if_neg h13, hr1] at hRH2
        have hR : r1 = R := hRH2.out
        rw [hR] at HR1
        clear hRH2 HRe hr1 h12 h13 hnn
        go_wp2_with fail
        refine HR1.out.mono ?_
        rintro e w7 ⟨he, hH7, hG7, hK7⟩
        subst he
        have HF := Lib.hid (show ReP W0 g R w (.returned (.bool R.2)) w7 from ⟨rfl, hH7, hG7, gbTrans HK5.out hK7⟩)
        clear hH7 hG7 hK7
        go_wp2
        go_ret
        exact HF.out
end K
end Go.Proofs.YthgngkajdiclcaaDoor
