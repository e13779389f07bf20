/- Texts of one proof: KyF, KyG. -/
import Derived.Test.YtljknappbnoikaaGreatDoorZh
import Derived.Laws.CopyOwn
import Derived.Laws.MakeOwn
import Derived.Laws.MathBits
import Derived.Laws.Bits64b
set_option linter.unusedVariables false
set_option linter.unusedSimpArgs false
set_option maxRecDepth 100000
set_option maxHeartbeats 8000000
namespace Go.Proofs.YtljknappbnoikaaGreatDoor
open Go.RowKit
namespace K
def LaidE (w : World) : Prop := ∀ k : Nat, 1 ≤ k → k ≤ 13 → w.cell? ⟨0, k * 2, none⟩ = some (.int .i64 (tko k)) ∧ w.cell? ⟨0, k * 2 + 1, none⟩ = some (.int .i64 (pt k))
theorem LaidE.gr {w w' : World} (h : LaidE w) (hg : Gr w w') : LaidE w' := fun k h1 h2 => ⟨grCell hg (h k h1 h2).1, grCell hg (h k h1 h2).2⟩
theorem isSound_any (W0 : World) (hs : List Int) (l : List In) (A : Option Addr) (lc : Nat) (vars : Int) (g hc i : Nat) (x : In) (hx : l[i]? = some x) (hf : formI x i l.length vars = true) (hl : hs.length = l.length + 1) (hlen : l.length ≤ 5000) (hbd : ∀ n ∈ hs, -1 ≤ n ∧ n ≤ 64) (w : World) (hG : Gr W0 w) (hg : W0.heap.size ≤ g) (hH : w.heap[g]? = some (.cells (iA hs) 3 (0, 0))) (hR : InsR W0 l A) (hE : LaidE W0) :
  Calls Tryz.prog 23 #[.agg (hA l.length A lc vars (some ⟨g, 0, none⟩) hs.length hc), .int .i64 i] w (ReP W0 g (soundI hs x i) w) := by
 have hi : i < l.length := (List.getElem?_eq_some_iff.1 hx).1
 have hop : 1 ≤ x.op ∧ x.op ≤ 13 := by
  unfold formI at hf
  simp only [Bool.and_eq_true, btw2, decide_eq_true_eq] at hf
  exact hf.1
 have hgl : g < w.heap.size := (Array.getElem?_eq_some_iff.1 hH).1
 obtain ⟨gl, ol, rfl, hat⟩ := hR.addr (by omega)
 obtain ⟨e0, e1, e2⟩ := hat i x hx
 have hnn : x.op = 12 ∨ x.op = 13 → (0 ≤ x.n ∧ x.n.toNat < hs.length) := fun h => by
  have := form_n hf h
  omega
 have hih : i < hs.length := by omega
 have hbi : -1 ≤ (hs[i]?).getD 0 ∧ (hs[i]?).getD 0 ≤ 64 := by rw [List.getElem?_eq_getElem hih]; exact hbd _ (List.getElem_mem hih)
 have h2 : i + 1 < hs.length := by omega
 obtain ⟨k, hk⟩ := Int.eq_ofNat_of_zero_le (show 0 ≤ x.op by omega)
 obtain ⟨f0, f1⟩ := hE k (by omega) (by omega)
 obtain ⟨W4, hW4⟩ : ∃ W4, W4 = ((w.alloc (.cells (hA l.length (some ⟨gl, ol, none⟩) lc vars (some ⟨g, 0, none⟩) hs.length hc) 54)).alloc (.cells #[.int .i64 (k : Int), .int .i64 x.n, .int .i64 x.r] 41)).alloc (.cells #[.int .i64 (tko k), .int .i64 (pt k)] 89) := ⟨_, rfl⟩
 obtain ⟨W1, hW1⟩ : ∃ W1, W1 = w.alloc (.cells (hA l.length (some ⟨gl, ol, none⟩) lc vars (some ⟨g, 0, none⟩) hs.length hc) 54) := ⟨_, rfl⟩
 obtain ⟨W2, hW2⟩ : ∃ W2, W2 = W1.alloc (.cells #[.int .i64 (k : Int), .int .i64 x.n, .int .i64 x.r] 41) := ⟨_, rfl⟩
 have hG1 : Gr w W1 := by rw [hW1]; exact grAlloc _ _
 have hG2 : Gr w W2 := hG1.tr (by rw [hW2]; exact grAlloc _ _)
 have hs1 : W1.heap.size = w.heap.size + 1 := by rw [hW1]; simp
 have hs2 : W2.heap.size = w.heap.size + 1 + 1 := by rw [hW2]; simp [hs1]
 have hG14 : Gr W1 W4 := by rw [hW4, ← hW1]; exact (grAlloc _ _).tr (grAlloc _ _)
 have hG4 : Gr w W4 := hG1.tr hG14
 have HH1 : W1.heap[w.heap.size]? = some (.cells (hA l.length (some ⟨gl, ol, none⟩) lc vars (some ⟨g, 0, none⟩) hs.length hc) 54 (0, 0)) := by rw [hW1]; exact nBlk _ _ _ rfl
 have HH := Lib.hid (grBlk hG14 HH1)
 have HI := Lib.hid (show W4.heap[w.heap.size + 1]? = some (.cells #[.int .i64 (k : Int), .int .i64 x.n, .int .i64 x.r] 41 (0, 0)) by rw [hW4]; exact grBlk (grAlloc _ _) (nBlk _ _ _ (by simp)))
 have HI2 := Lib.hid (show W2.heap[w.heap.size + 1]? = some (.cells #[.int .i64 (k : Int), .int .i64 x.n, .int .i64 x.r] 41 (0, 0)) by rw [hW2, hW1]; exact nBlk _ _ _ (by simp))
 have HE := Lib.hid (show W4.heap[w.heap.size + 2]? = some (.cells #[.int .i64 (tko k), .int .i64 (pt k)] 89 (0, 0)) by rw [hW4]; exact nBlk _ _ _ (by simp))
 have HGr := Lib.hid (hG.tr hG4)
 have HHs := Lib.hid (grBlk hG4 hH)
 have HK := Lib.hid (gbGr (r := some g) hG4)
 have e0 := grCell (hG.tr hG1) e0
 have e1 := grCell (hG.tr hG1) e1
 have e2 := grCell (hG.tr hG1) e2
 have f0 := grCell (hG.tr hG2) f0
 have f1 := grCell (hG.tr hG2) f1
 rw [← hW1, ← hW2] at hW4
 obtain ⟨x0, x1, x2⟩ := cells3k HH1
 have t1 := tko_pos k
 have t2 := pt_pos k
 have t3 : tko k ≤ 2 ∧ pt k ≤ 1 := by constructor <;> (first | (unfold tko; split <;> (try split) <;> (try split) <;> omega) | (unfold pt; split <;> (try split) <;> (try split) <;> (try split) <;> omega))
 obtain ⟨R, hRR⟩ : ∃ R, soundI hs x i = R := ⟨_, rfl⟩
 rw [hRR]
 unfold soundI at hRR
 rw [hk] at hRR e0 hnn
 have hRH := Lib.hid hRR
 have HRe := Lib.hid (fun (ts : List Int) (j : Nat) (h : Int) (hj : j < ts.length) (hts : ts.length = hs.length) (wx : World) (hgx : Gr W0 wx) (hHx : wx.heap[g]? = some (.cells (iA ts) 3 (0, 0))) => (by have := reach_any W0 ts l.length (some ⟨gl, ol, none⟩) lc vars g hc j h hj (by omega) wx hgx hg hHx; rw [hts] at this; exact this))
 clear hRR hx hf hat hG hG1 hG2 hG14 hG4 HH1 hE hR hH hbd hl
 rw [hk] at hop
 clear hk
 generalize l.length = ln at *
 generalize hhn : hs.length = hn at *
 have hhnH := Lib.hid hhn
 clear hhn
 go_enter Tryz.func23, Tryz.ntmps23
 go_upto_region 1 with fail
 rw [← hW1]
 clear hW1
 go_upto_region 2 with fail
 rw [← hW2]
 clear hW2
 have d0 := Lib.hid (cells3k (show W2.heap[w.heap.size + 1]? = some (.cells #[.int .i64 (k : Int), .int .i64 x.n, .int .i64 x.r] 41 (0, 0)) from HI2.out))
 obtain ⟨i0, i1, i2⟩ := d0.out
 try rw [hs1]
 clear d0 hs1
 go_upto_region 3 with fail
 rw [← hW4]
 try rw [hs2]
 clear hW4 hs2 i0 i1 i2 e0 e1 e2 f0 f1 x0 x1 x2
 obtain ⟨x0, x1, x2⟩ := cells3k HH.out
 obtain ⟨y0, y1, y2⟩ := cells3k HI.out
 obtain ⟨s0, s1⟩ := cells2k HE.out
 have c0 := iA_at HHs.out (i := i) (by rw [hhnH.out]; exact hih)
 generalize hhi : (hs[i]?).getD 0 = hv at *
 generalize htk : tko k = tq at *
 generalize hpt : pt k = pq at *
 have q1 : IntKind.i64.wrap (hv - tq) = hv - tq := IntWalk.i64_in _ (by omega)
 have q2' : IntKind.i64.wrap (hv - tq + pq) = hv - tq + pq := IntWalk.i64_in _ (by omega)
 have q3 : IntKind.i64.wrap ((i : Int) + 1) = (i : Int) + 1 := IntWalk.i64_in _ (by omega)
 refine wp_region_G (S := fun wq => Gr W4 wq) (by kernel_rfl) (grDrew _) (fun hHeld => ?_)
 have hSG : Hid (∀ wp wq : World, Gr W4 wp → Gr wp wq → Gr W4 wq) := Lib.hid (fun _ _ h k => h.tr k)
 have hmv := Lib.hid (fun (wq : World) (hq : Gr W4 wq) => And.intro (grCell hq x0) (And.intro (grCell hq x1) (And.intro (grCell hq x2) (And.intro (grCell hq s0) (And.intro (grCell hq s1) (grCell hq c0))))))
 first
  | (refine tk hSG 0 (v := ?_) rfl (by kernel_rfl) (fun _ _ _ h => h) (by rfl) ?_ hHeld ?_; rotate_left; focus (intro w' hSw; obtain ⟨x0, x1, x2, s0, s1, c0⟩ := hmv.out _ hSw; go_simp; (try with_reducible rfl)))
  | refine tn hSG 0 rfl (by kernel_rfl) (fun _ _ _ h => h) (by rfl) hHeld ?_
 (try simp only [zq1, zq2, zq3, Act.put, zq4, zq5, zq6])
 first
  | (refine tk hSG 1 (v := ?_) rfl (by kernel_rfl) (fun _ _ _ h => h) (by rfl) ?_ hHeld ?_; rotate_left; focus (intro w' hSw; obtain ⟨x0, x1, x2, s0, s1, c0⟩ := hmv.out _ hSw; go_simp; (try with_reducible rfl)))
  | refine tn hSG 1 rfl (by kernel_rfl) (fun _ _ _ h => h) (by rfl) hHeld ?_
 (try simp only [zq1, zq2, zq3, Act.put, zq4, zq5, zq6])
 first
  | (refine tk hSG 2 (v := ?_) rfl (by kernel_rfl) (fun _ _ _ h => h) (by rfl) ?_ hHeld ?_; rotate_left; focus (intro w' hSw; obtain ⟨x0, x1, x2, s0, s1, c0⟩ := hmv.out _ hSw; go_simp; (try with_reducible rfl)))
  | refine tn hSG 2 rfl (by kernel_rfl) (fun _ _ _ h => h) (by rfl) hHeld ?_
 (try simp only [zq1, zq2, zq3, Act.put, zq4, zq5, zq6])
 refine tk hSG 3 (v := .pointer (some ⟨g, i, none⟩)) rfl (by kernel_rfl) (fun _ _ _ h => h) (by rfl) ?_ hHeld ?_
 focus (intro w' hSw; obtain ⟨x0, x1, x2, s0, s1, c0⟩ := hmv.out _ hSw; go_simp; (try (intro hq; omega)))
 (try simp only [zq1, zq2, zq3, Act.put, zq4, zq5, zq6])
 first
  | (refine tk hSG 4 (v := ?_) rfl (by kernel_rfl) (fun _ _ _ h => h) (by rfl) ?_ hHeld ?_; rotate_left; focus (intro w' hSw; obtain ⟨x0, x1, x2, s0, s1, c0⟩ := hmv.out _ hSw; go_simp; (try with_reducible rfl)))
  | refine tn hSG 4 rfl (by kernel_rfl) (fun _ _ _ h => h) (by rfl) hHeld ?_
 (try simp only [zq1, zq2, zq3, Act.put, zq4, zq5, zq6])
 first
  | (refine tk hSG 5 (v := ?_) rfl (by kernel_rfl) (fun _ _ _ h => h) (by rfl) ?_ hHeld ?_; rotate_left; focus (intro w' hSw; obtain ⟨x0, x1, x2, s0, s1, c0⟩ := hmv.out _ hSw; go_simp; (try with_reducible rfl)))
  | refine tn hSG 5 rfl (by kernel_rfl) (fun _ _ _ h => h) (by rfl) hHeld ?_
 (try simp only [zq1, zq2, zq3, Act.put, zq4, zq5, zq6])
 first
  | (refine tk hSG 6 (v := ?_) rfl (by kernel_rfl) (fun _ _ _ h => h) (by rfl) ?_ hHeld ?_; rotate_left; focus (intro w' hSw; obtain ⟨x0, x1, x2, s0, s1, c0⟩ := hmv.out _ hSw; go_simp; (try with_reducible rfl)))
  | refine tn hSG 6 rfl (by kernel_rfl) (fun _ _ _ h => h) (by rfl) hHeld ?_
 (try simp only [zq1, zq2, zq3, Act.put, zq4, zq5, zq6])
 first
  | (refine tk hSG 7 (v := ?_) rfl (by kernel_rfl) (fun _ _ _ h => h) (by rfl) ?_ hHeld ?_; rotate_left; focus (intro w' hSw; obtain ⟨x0, x1, x2, s0, s1, c0⟩ := hmv.out _ hSw; go_simp; (try with_reducible rfl)))
  | refine tn hSG 7 rfl (by kernel_rfl) (fun _ _ _ h => h) (by rfl) hHeld ?_
 (try simp only [zq1, zq2, zq3, Act.put, zq4, zq5, zq6])
 first
  | (refine tk hSG 8 (v := ?_) rfl (by kernel_rfl) (fun _ _ _ h => h) (by rfl) ?_ hHeld ?_; rotate_left; focus (intro w' hSw; obtain ⟨x0, x1, x2, s0, s1, c0⟩ := hmv.out _ hSw; go_simp; (try with_reducible rfl)))
  | refine tn hSG 8 rfl (by kernel_rfl) (fun _ _ _ h => h) (by rfl) hHeld ?_
 (try simp only [zq1, zq2, zq3, Act.put, zq4, zq5, zq6])
 refine wpAnyG_done (by kernel_rfl) (fun w5 hgD => ?_) _
 have hg5 : Gr W4 w5 := (grDrew W4).tr hgD
 clear hgD hSG hHeld
 have HGr5 := Lib.hid (Gr.tr HGr.out hg5)
 have HHs5 := Lib.hid (grBlk hg5 HHs.out)
 have HK5 := Lib.hid (gbTrans HK.out (gbGr hg5))
 have HH5 := Lib.hid (grBlk hg5 HH.out)
 have HI5 := Lib.hid (grBlk hg5 HI.out)
 have HE5 := Lib.hid (grBlk hg5 HE.out)
 clear x0 x1 x2 y0 y1 y2 s0 s1 c0 HGr HHs HK HH HI HE hg5
 obtain ⟨x0, x1, x2⟩ := cells3k HH5.out
 obtain ⟨y0, y1, y2⟩ := cells3k HI5.out
 obtain ⟨s0, s1⟩ := cells2k HE5.out
 by_cases hneg : hv - tq < 0
 ·have hR : R = (hs, false) := by rw [← hRH.out, if_pos hneg]
  subst hR
  have tn : decide (hv - tq < 0) = true := decide_eq_true hneg
  clear hRH HRe hneg
  go_wp2
  go_ret
  exact ⟨rfl, HHs5.out, HGr5.out, HK5.out⟩
 ·have tn : decide (hv - tq < 0) = false := decide_eq_false hneg
  have hRH2 := Lib.hid hRH.out
  rw [if_neg hneg] at hRH2
  clear hRH
  obtain ⟨h, hh⟩ : ∃ h, hv - tq + pq = h := ⟨_, rfl⟩
  have q2 : IntKind.i64.wrap (hv - tq + pq) = h := by rw [q2', hh]
  clear q2'
  rw [hh] at hRH2
  have hhH := Lib.hid hh
  clear hh
  obtain ⟨r1, hr1⟩ : ∃ r1, reach hs (i + 1) h = r1 := ⟨_, rfl⟩
  have HR1 : Hid (Calls Tryz.prog 44 #[.agg (hA ln (some ⟨gl, ol, none⟩) lc vars (some ⟨g, 0, none⟩) hn hc), .int .i64 ((i : Int) + 1), .int .i64 h] w5 (ReP W0 g r1 w5)) := Lib.hid (by
   have := HRe.out hs (i + 1) h (by rw [hhnH.out]; exact h2) hhnH.out w5 HGr5.out HHs5.out
   rw [hr1, show (((i + 1 : Nat)) : Int) = (i : Int) + 1 by omega] at this
   exact this)
  by_cases h12 : (k : Int) = 12
  ·have t12 : ((k : Int) == 12) = true := by simp [h12]
   rw [if_pos h12, hr1] at hRH2
   obtain ⟨hn0, hnl⟩ := hnn (.inl h12)
   obtain ⟨j, hj⟩ := Int.eq_ofNat_of_zero_le hn0
   have hjH := Lib.hid hj
   rw [hj] at y1 hRH2 hnl
   rw [Int.toNat_natCast] at hRH2 hnl
   clear h12 hnn hj hn0
   obtain ⟨h3, b1⟩ := r1
   have hl3 : h3.length = hn := by rw [← (reach_ext hr1).1, hhnH.out]
   have hl3H := Lib.hid hl3
   clear hl3
   go_wp2_with fail
   refine HR1.out.mono ?_
   rintro e w6 ⟨he, hH6, hG6, hK6⟩
   simp only at he hH6
   subst he
   have HH6 := (hK6.block _ (World.block_lt_of_cell? _ _ x0) (fun q => by have := Option.some.inj q; simp only at this; omega)).trans HH5.out
   have HI6 := (hK6.block _ (World.block_lt_of_cell? _ _ y0) (fun q => by have := Option.some.inj q; simp only at this; omega)).trans HI5.out
   have HS6 := Lib.hid hH6
   have HG6 := Lib.hid hG6
   have HK6 := Lib.hid (gbTrans HK5.out hK6)
   clear x0 x1 x2 y0 y1 y2 hH6 hG6 hK6 s0 s1
   obtain ⟨x0, x1, x2⟩ := cells3k HH6
   obtain ⟨y0, y1, y2⟩ := cells3k HI6
   rw [hjH.out] at y1
   clear HH6 HI6
   cases b1 with
   | false =>
    have hR : R = (h3, false) := hRH2.out.symm
    subst hR
    clear hRH2 HRe HR1 hr1
    go_wp2
    go_ret
    exact ⟨rfl, HS6.out, HG6.out, HK6.out⟩
   | true =>
    have hR : reach h3 j h = R := hRH2.out
    have HR2 := Lib.hid (HRe.out h3 j h (by rw [hl3H.out]; exact hnl) hl3H.out w6 HG6.out HS6.out)
    rw [hR] at HR2
    clear hRH2 HRe HR1 hr1 hR
    go_wp2_with fail
    refine HR2.out.mono ?_
    rintro e w7 ⟨he, hH7, hG7, hK7⟩
    subst he
    have HF := Lib.hid (show ReP W0 g R w (.returned (.bool R.2)) w7 from ⟨rfl, hH7, hG7, gbTrans HK6.out hK7⟩)
    clear hH7 hG7 hK7
    go_wp2
    go_ret
    exact HF.out
  ·have t12 : ((k : Int) == 12) = false := by simp; omega
   rw [if_neg h12] at hRH2
   by_cases h13 : (k : Int) = 13
   ·have t13 : ((k : Int) == 13) = true := by simp [h13]
    rw [if_pos h13] at hRH2
    obtain ⟨hn0, hnl⟩ := hnn (.inr h13)
    obtain ⟨j, hj⟩ := Int.eq_ofNat_of_zero_le hn0
    rw [hj] at y1 hRH2 hnl
    rw [Int.toNat_natCast] at hRH2 hnl
    clear h12 h13 hnn hj hn0
    have HR2 := Lib.hid (HRe.out hs j h (by rw [hhnH.out]; exact hnl) hhnH.out w5 HGr5.out HHs5.out)
    rw [hRH2.out] at HR2
    clear hRH2 HRe HR1 hr1
    go_wp2_with fail
    refine HR2.out.mono ?_
    rintro e w7 ⟨he, hH7, hG7, hK7⟩
    subst he
    have HF := Lib.hid (show ReP W0 g R w (.returned (.bool R.2)) w7 from ⟨rfl, hH7, hG7, gbTrans HK5.out hK7⟩)
    clear hH7 hG7 hK7
    go_wp2
    go_ret
    exact HF.out
   ·have t13 : ((k : Int) == 13) = false := by simp; omega
    rw [if_neg h13, hr1] at hRH2
    have hR : r1 = R := hRH2.out
    rw [hR] at HR1
    clear hRH2 HRe hr1 h12 h13 hnn
    go_wp2_with fail
    refine HR1.out.mono ?_
    rintro e w7 ⟨he, hH7, hG7, hK7⟩
    subst he
    have HF := Lib.hid (show ReP W0 g R w (.returned (.bool R.2)) w7 from ⟨rfl, hH7, hG7, gbTrans HK5.out hK7⟩)
    clear hH7 hG7 hK7
    go_wp2
    go_ret
    exact HF.out
end K
end Go.Proofs.YtljknappbnoikaaGreatDoor
namespace Go.Proofs.YtljknappbnoikaaGreatDoor
open Go.RowKit
namespace K
theorem mul64_1 (n : Nat) (hn : n < 1000000) (w : World) : Calls Tryz.prog 81 #[.int .u64 1, .int .u64 n] w (SS (.tuple #[.int .u64 0, .int .u64 n]) w) := by
 have h1 : bits .and .u64 (n : Int) 4294967295 = n := by rw [and_low32 _ (by omega) (by omega)]; omega
 have h2 : bits .and .u64 1 4294967295 = 1 := by rw [and_low32 _ (by omega) (by omega)]; omega
 have h3 : (n : Int) / 4294967296 = 0 := by omega
 have h0 : bits .and .u64 0 4294967295 = 0 := by rw [and_low32 _ (by omega) (by omega)]; omega
 have w1 : IntKind.u64.wrap (n : Int) = n := by rw [IntKind.wrap_u64]; omega
 go_enter Tryz.func81, Tryz.ntmps81
 go_wp2
 go_ret2
 exact ⟨rfl, rfl⟩
theorem mul_1 (n : Nat) (hn : n < 1000000) (w : World) : Calls Tryz.prog 65 #[.int .u64 1, .int .u64 n] w (SS (.tuple #[.int .u64 0, .int .u64 n]) w) := by
 have HM := Lib.hid (mul64_1 n hn w)
 go_enter Tryz.func65, Tryz.ntmps65
 go_wp2_with (go_at_call 81; refine HM.out.mono ?_; rintro e w1 ⟨rfl, hw⟩; rw [hw])
 go_ret2
 exact ⟨rfl, rfl⟩
theorem intInfo : (Tryz.prog.info? 3).map (fun i => (i.zero, i.size, i.bytes)) = some (some (.int .i64 0), 1, 8) := by kernel_rfl
theorem made1 (z : Value) (n : Nat) : madeCells #[z] n = (List.replicate n z).toArray := by
 apply Array.ext
 ·simp [madeCells]
 ·intro i h1 h2
  simp [madeCells, Nat.mod_one]
def rep (k n : Nat) : List Int := List.replicate k (-1) ++ List.replicate (n - k) 0
def repC (k n : Nat) : List Value := (rep k n).map (Value.int .i64)
theorem rep_len {k n : Nat} (h : k ≤ n) : (repC k n).length = n := by simp [repC, rep]; omega
theorem rep_next {k n c : Nat} (h : k + c ≤ n) : splice (repC k n) k (List.replicate c (.int .i64 (-1))) = repC (k + c) n := by
 unfold splice repC rep
 simp only [List.map_append, List.map_replicate]
 rw [List.take_left' (by simp), List.drop_append, ← List.replicate_append_replicate (n := k) (m := c), List.append_assoc]
 simp only [List.length_replicate, List.drop_replicate]
 rw [show k - (k + c) = 0 by omega, show n - k - (k + c - k) = n - (k + c) by omega]
 simp
theorem rep_first {n : Nat} (h : 1 ≤ n) : splice (List.replicate n (Value.int .i64 0)) 0 [.int .i64 (-1)] = repC 1 n := by
 have := rep_next (k := 0) (c := 1) (n := n) (by omega)
 simpa [repC, rep] using this
theorem rep_at {w : World} {g k n : Nat} {T : TypeId} (h : w.heap[g]? = some (.cells (repC k n).toArray T (0, 0))) {j : Nat} (hj : j < k) : w.cell? ⟨g, j, none⟩ = some (.int .i64 (-1)) := by
 rw [cell_of_row _ _ j _ _ (0, 0) h]
 simp [repC, rep, hj, List.getElem?_append]
theorem Repeat_any (n q : Nat) (hn : 1 ≤ n ∧ n ≤ 10000) (w : World) (T : TypeId) (hq : w.heap[q]? = some (.cells #[.int .i64 (-1)] T (0, 0))) :
  Calls Tryz.prog 41 #[.slice (some ⟨q, 0, none⟩) 1 1, .int .i64 n] w (fun e w' => (∃ g, e = .returned (.slice (some ⟨g, 0, none⟩) n n) ∧ w'.heap[g]? = some (.cells (iA (List.replicate n (-1))) 3 (0, 0)) ∧ w.heap.size ≤ g) ∧ Gr w w') := by
 obtain ⟨ix, hi, hz0, hz1, hz2⟩ := info_parts intInfo
 have hmk : ∀ wx : World, (Instr.makeSlice 52 (.int .i64 n) (.int .i64 n)).run Tryz.prog wx = .ok (.slice (some ⟨wx.heap.size, 0, none⟩) n n) (wx.alloc (.cells (List.replicate n (Value.int .i64 0)).toArray 3)) := fun wx => by
  have := run_make wx 52 3 ix (.int .i64 0) Tryz.underlying52 hi hz0 .i64 .i64 n n (by omega) (by omega) (by rw [hz2]; omega) (by omega)
  rw [this]
  simp [hz1, Value.cells, made1]
 have HMu := Lib.hid (mul_1 n (by omega))
 have e0 : w.cell? ⟨q, 0, none⟩ = some (.int .i64 (-1)) := (cell_of_row _ _ 0 _ _ (0, 0) hq).trans rfl
 have c1 : IntKind.u64.wrap (n : Int) = n := by rw [IntKind.wrap_u64]; omega
 have c2 : IntKind.i64.wrap (n : Int) = n := IntWalk.i64_in _ (by omega)
 have hnH := Lib.hid hn
 clear hq
 have tn1 : decide ((n : Int) < 0) = false := by simp
 have tn2 : decide ((n : Int) > 9223372036854775807) = false := by simp; omega
 obtain ⟨W1, hW1⟩ : ∃ W1, W1 = w.alloc (.cells (Array.replicate n (Value.int .i64 0)) 3) := ⟨_, rfl⟩
 have hG1 := Lib.hid (show Gr w W1 by rw [hW1]; exact grAlloc _ _)
 have hX1 := Lib.hid (show W1.heap[w.heap.size]? = some (.cells (List.replicate n (Value.int .i64 0)).toArray 3 (0, 0)) by rw [hW1, show (List.replicate n (Value.int .i64 0)).toArray = Array.replicate n (Value.int .i64 0) by simp]; exact nBlk _ _ _ rfl)
 obtain ⟨g, hg⟩ : ∃ g, g = w.heap.size := ⟨_, rfl⟩
 have hgH := Lib.hid hg
 go_enter Tryz.func41, Tryz.ntmps41
 go_upto_region 7 with (go_at_call 65; refine (HMu.out _).mono ?_; rintro e w1 ⟨rfl, hw⟩; rw [hw]; clear hw)
 rw [← hW1, ← hg]
 rw [← hg] at hX1
 have e1 := grCell hG1.out e0
 clear hW1 e0 hmk hg
 have hgB : w.heap.size ≤ g := by rw [hgH.out]; exact Nat.le_refl _
 have hsrc : ∀ j v, ([.int .i64 (-1)] : List Value)[j]? = some v → W1.cell? ((⟨q, 0, none⟩ : Addr).add j) = some v := fun j v hj => by
  rcases j with _ | j
  ·simp at hj; rw [← hj]; exact e1
  ·simp at hj
 have hcp := run_copy_row (P := Tryz.prog) W1 52 52 3 3 g 0 n n ⟨q, 0, none⟩ 1 1 _ 3 [.int .i64 (-1)] Tryz.underlying52 (by kernel_rfl) hX1.out (by show 1 = min 1 n; have := hnH.out; omega) hsrc (by simp; have := hnH.out; omega) (by intro v hv; simp at hv; rw [hv]; rfl)
 obtain ⟨W2, hW2⟩ : ∃ W2, W2 = W1.setRow g ((List.replicate n (Value.int .i64 0)).toArray.toList.take 0 ++ [Value.int .i64 (-1)] ++ (List.replicate n (Value.int .i64 0)).toArray.toList.drop (0 + [Value.int .i64 (-1)].length)).toArray := ⟨_, rfl⟩
 have HX2 := Lib.hid (show W2.heap[g]? = some (.cells (repC 1 n).toArray 3 (0, 0)) by
  rw [hW2, ← rep_first hnH.out.1]
  simpa [splice] using setRow_heap W1 g _ _ 3 _ hX1.out)
 have HB2 := Lib.hid (show Gr w W2 by rw [hW2]; exact below_setRow hG1.out hgB _)
 rw [← hW2] at hcp
 have hcp : (Builtin.copy_ #[52, 52] 3 #[.slice (some ⟨g, 0, none⟩) n n, .slice (some ⟨q, 0, none⟩) 1 1]).run Tryz.prog W1 = .ok (.int .i64 1) W2 := hcp
 clear hW2 hsrc hX1 hG1 e1
 go_wp2
 go_loopg [8] (n) (fun gk a8 wr => ∃ k : Nat, 1 ≤ k ∧ k ≤ n ∧ n ≤ k + gk ∧ a8 = .int .i64 k ∧ Hid (wr.heap[g]? = some (.cells (repC k n).toArray 3 (0, 0))) ∧ Hid (Gr w wr))
 case atStart => exact ⟨1, Nat.le_refl _, hnH.out.1, by omega, rfl, HX2, HB2⟩
 case round =>
  obtain ⟨k, hk1, hkn, hkg, rfl, hX, hB⟩ := hrel
  by_cases hlt : k < n
  ·obtain ⟨gq, rfl⟩ : ∃ g, gk = g + 1 := ⟨gk - 1, by omega⟩
   obtain ⟨c, hc⟩ : ∃ c, c = min k (n - k) := ⟨_, rfl⟩
   have hcb : 1 ≤ c ∧ c ≤ k ∧ k + c ≤ n := by omega
   have hcH := Lib.hid hc
   have q1 : IntKind.i64.wrap ((k : Int) + c) = (k : Int) + c := IntWalk.i64_in _ (by have := hnH.out; omega)
   clear hc
   go_upto_region 9 with fail
   have hXB := hB.out
   refine wp_region_G (S := fun wq => Gr w wq) (by kernel_rfl) ((hXB).tr (grDrew _)) (fun hHeld => ?_)
   have hSG : Hid (∀ wp wq : World, Gr w wp → Gr wp wq → Gr w wq) := Lib.hid (fun _ _ h k => h.tr k)
   first
    | (refine tk hSG 0 (v := ?_) rfl (by kernel_rfl) (fun _ _ _ h => h) (by rfl) ?_ hHeld ?_; rotate_left; focus (intro w' hSw; go_simp; (try with_reducible rfl)))
    | refine tn hSG 0 rfl (by kernel_rfl) (fun _ _ _ h => h) (by rfl) hHeld ?_
   (try simp only [zq1, zq2, zq3, Act.put, zq4, zq5, zq6])
   first
    | (refine tk hSG 1 (v := ?_) rfl (by kernel_rfl) (fun _ _ _ h => h) (by rfl) ?_ hHeld ?_; rotate_left; focus (intro w' hSw; go_simp; (try with_reducible rfl)))
    | refine tn hSG 1 rfl (by kernel_rfl) (fun _ _ _ h => h) (by rfl) hHeld ?_
   (try simp only [zq1, zq2, zq3, Act.put, zq4, zq5, zq6])
   first
    | (refine tk hSG 2 (v := ?_) rfl (by kernel_rfl) (fun _ _ _ h => h) (by rfl) ?_ hHeld ?_; rotate_left; focus (intro w' hSw; go_simp; (try with_reducible rfl)))
    | refine tn hSG 2 rfl (by kernel_rfl) (fun _ _ _ h => h) (by rfl) hHeld ?_
   (try simp only [zq1, zq2, zq3, Act.put, zq4, zq5, zq6])
   refine tk hSG 3 (v := .slice (some ⟨g, k, none⟩) (n - k) (n - k)) rfl (by kernel_rfl) (fun _ _ _ h => h) (by rfl) ?_ hHeld ?_
   focus (intro w' hSw; go_simp; (try (intro hq; omega)))
   (try simp only [zq1, zq2, zq3, Act.put, zq4, zq5, zq6])
   first
    | (refine tk hSG 4 (v := ?_) rfl (by kernel_rfl) (fun _ _ _ h => h) (by rfl) ?_ hHeld ?_; rotate_left; focus (intro w' hSw; go_simp; (try with_reducible rfl)))
    | refine tn hSG 4 rfl (by kernel_rfl) (fun _ _ _ h => h) (by rfl) hHeld ?_
   (try simp only [zq1, zq2, zq3, Act.put, zq4, zq5, zq6])
   first
    | (refine tk hSG 5 (v := ?_) rfl (by kernel_rfl) (fun _ _ _ h => h) (by rfl) ?_ hHeld ?_; rotate_left; focus (intro w' hSw; go_simp; (try with_reducible rfl)))
    | refine tn hSG 5 rfl (by kernel_rfl) (fun _ _ _ h => h) (by rfl) hHeld ?_
   (try simp only [zq1, zq2, zq3, Act.put, zq4, zq5, zq6])
   refine tk hSG 6 (v := .slice (some ⟨g, 0, none⟩) k n) rfl (by kernel_rfl) (fun _ _ _ h => h) (by rfl) ?_ hHeld ?_
   focus (intro w' hSw; go_simp; (try (intro hq; omega)))
   (try simp only [zq1, zq2, zq3, Act.put, zq4, zq5, zq6])
   refine wpAnyG_ready (rs := [7]) (by kernel_rfl) (by simp) (AllG.cons rfl (fun w6 hg K hK => ?_) AllG.nil)
   have hgS := hSG.out _ _ hHeld.out hg
   have hX6 := grBlk ((grDrew wr).tr hg) hX.out
   refine step_copy_splice rfl (.tmp 41) (.tmp 44) 52 52 rfl 3 Tryz.underlying52 (by kernel_rfl) (some ⟨g, k, none⟩) (some ⟨g, 0, none⟩) (n - k) (n - k) k n rfl rfl g k (repC k n) 3 hX6 (List.replicate c (.int .i64 (-1))) (by rw [List.length_replicate]; exact hcH.out) (fun _ => ⟨rfl, _, rfl, fun j v hj => ?_⟩) (by rw [rep_len (by omega), List.length_replicate]; omega) (by intro v hv; rw [List.eq_of_mem_replicate hv]; rfl) w.heap.size w hgS hgB ?_
   ·have hj2 := List.getElem?_eq_some_iff.1 hj
    obtain ⟨hjl, hjv⟩ := hj2
    simp only [List.length_replicate] at hjl
    rw [List.getElem_replicate] at hjv
    rw [show ((⟨g, 0, none⟩ : Addr).add j) = ⟨g, j, none⟩ by unfold Addr.add; split <;> simp_all, ← hjv]
    exact rep_at hX6 (by omega)
   intro w7 hX7 hB7
   have hX7 := hX7.out
   rw [rep_next (by omega)] at hX7
   have hX8 := Lib.hid hX7
   rw [show goInt (List.replicate c (Value.int .i64 (-1))).length = .int .i64 c by simp [goInt]]
   refine hK.out _ _ hB7 (fun hHeld => ?_)
   clear hK K hg hgS hX6 hX7 hX
   have hB8 := Lib.hid hB7
   clear hB7 hXB hB
   first
    | (refine tk hSG 8 (v := ?_) rfl (by kernel_rfl) (fun _ _ _ h => h) (by rfl) ?_ hHeld ?_; rotate_left; focus (intro w' hSw; go_simp; (try with_reducible rfl)))
    | refine tn hSG 8 rfl (by kernel_rfl) (fun _ _ _ h => h) (by rfl) hHeld ?_
   (try simp only [zq1, zq2, zq3, Act.put, zq4, zq5, zq6])
   first
    | (refine tk hSG 9 (v := ?_) rfl (by kernel_rfl) (fun _ _ _ h => h) (by rfl) ?_ hHeld ?_; rotate_left; focus (intro w' hSw; go_simp; (try with_reducible rfl)))
    | refine tn hSG 9 rfl (by kernel_rfl) (fun _ _ _ h => h) (by rfl) hHeld ?_
   (try simp only [zq1, zq2, zq3, Act.put, zq4, zq5, zq6])
   refine wpAnyG_done (by kernel_rfl) (fun w9 hg => ?_) _
   have hX9 := Lib.hid (grBlk hg hX8.out)
   have hB9 := Lib.hid (Gr.tr hB8.out hg)
   clear hg hSG hHeld hX8 hB8
   go_wp2
   go_roundg gq
   case measure => omega
   case rel => exact ⟨k + c, by omega, by omega, by omega, by go_num, hX9, hB9⟩
  ·obtain rfl : k = n := by omega
   have hX9 := Lib.hid (show wr.heap[g]? = some (.cells (iA (List.replicate k (-1))) 3 (0, 0)) by
    have := hX.out
    simp only [repC, rep, Nat.sub_self, List.replicate_zero, List.append_nil] at this
    exact this)
   have hkl : decide ((k : Int) < (k : Int)) = false := by simp
   clear hX
   go_wp2
   go_ret
   exact ⟨⟨g, rfl, hX9.out, hgB⟩, hB.out⟩
def NeP (ln : Nat) (A : Option Addr) (lc : Nat) (vars : Int) (w : World) (e : Ending) (w' : World) : Prop :=
 (∃ g, e = .returned (.agg (hA ln A lc vars (some ⟨g, 0, none⟩) (ln + 1) (ln + 1))) ∧ w'.heap[g]? = some (.cells (iA (0 :: List.replicate ln (-1))) 3 (0, 0)) ∧ w.heap.size ≤ g) ∧ Gr w w'
theorem newHandler_any (ln : Nat) (A : Option Addr) (lc : Nat) (vars : Int) (hln : ln ≤ 5000) (w : World) :
  Calls Tryz.prog 21 #[.slice A ln lc, .int .i64 vars] w (NeP ln A lc vars w) := by
 obtain ⟨W1, hW1⟩ : ∃ W1, W1 = w.alloc (.cells #[.slice none 0 0, .int .i64 0, .slice none 0 0] 54) := ⟨_, rfl⟩
 obtain ⟨W2, hW2⟩ : ∃ W2, W2 = W1.alloc (.cells #[.int .i64 (-1)] 3) := ⟨_, rfl⟩
 have hG1 : Gr w W1 := by rw [hW1]; exact grAlloc _ _
 have hG2 : Gr w W2 := hG1.tr (by rw [hW2]; exact grAlloc _ _)
 have hs1 : W1.heap.size = w.heap.size + 1 := by rw [hW1]; simp
 have HX2 : Hid (W2.heap[w.heap.size]? = some (.cells #[.slice none 0 0, .int .i64 0, .slice none 0 0] 54 (0, 0))) := Lib.hid (by rw [hW2, hW1]; exact grBlk (grAlloc _ _) (nBlk _ _ _ rfl))
 have HR := Repeat_any (ln + 1) (w.heap.size + 1) ⟨by omega, by omega⟩ W2 3 (by rw [hW2]; exact nBlk _ _ _ hs1.symm)
 rw [show (((ln + 1 : Nat)) : Int) = (ln : Int) + 1 by omega] at HR
 have HR := Lib.hid HR
 have q1 : IntKind.i64.wrap ((ln : Int) + 1) = (ln : Int) + 1 := IntWalk.i64_in _ (by omega)
 have hs2 := Lib.hid (show W2.heap.size = w.heap.size + 2 by rw [hW2]; simp [hs1])
 rw [hW1] at hW2
 have HG2 := Lib.hid hG2
 clear hG1 hG2 hs1 hW1
 go_enter Tryz.func21, Tryz.ntmps21
 go_wp2_with fail
 rw [← hW2]
 clear hW2
 refine HR.out.mono ?_
 rintro e w3 ⟨⟨g, rfl, hX, hgB⟩, hg3⟩
 have hx2 := grBlk hg3 HX2.out
 obtain ⟨W4, hW4⟩ : ∃ W4, W4 = w3.alloc (.cells (hA ln A lc vars (some ⟨g, 0, none⟩) (ln + 1) (ln + 1)) 54) := ⟨_, rfl⟩
 have hg4 : Gr w3 W4 := by rw [hW4]; exact grAlloc _ _
 have hY4 : W4.heap[w3.heap.size]? = some (.cells (hA ln A lc vars (some ⟨g, 0, none⟩) (ln + 1) (ln + 1)) 54 (0, 0)) := by rw [hW4]; exact nBlk _ _ _ rfl
 have hX4 := grBlk hg4 hX
 have hx4 := grBlk hg4 hx2
 have hgl : g < w3.heap.size := (Array.getElem?_eq_some_iff.1 hX).1
 have hwl : w.heap.size < w3.heap.size := (Array.getElem?_eq_some_iff.1 hx2).1
 have hgw : g ≠ w.heap.size := by have := hs2.out; omega
 have hB4 : Gr w W4 := HG2.out.tr (hg3.tr hg4)
 obtain ⟨W5, hW5⟩ : ∃ W5, W5 = W4.setCell ⟨g, 0, none⟩ (.int .i64 0) := ⟨_, rfl⟩
 have hY5 : W5.heap[w3.heap.size]? = some (.cells (hA ln A lc vars (some ⟨g, 0, none⟩) (ln + 1) (ln + 1)) 54 (0, 0)) := by rw [hW5]; exact (heap_setCell_other _ _ _ _ (show w3.heap.size ≠ g by omega)).trans hY4
 have hx5 : W5.heap[w.heap.size]? = some (.cells #[.slice none 0 0, .int .i64 0, .slice none 0 0] 54 (0, 0)) := by rw [hW5]; exact (heap_setCell_other _ _ _ _ (Ne.symm hgw)).trans hx4
 have hX5 : W5.heap[g]? = some (.cells (iA (0 :: List.replicate ln (-1))) 3 (0, 0)) := by
  rw [hW5]
  have := iA_set hX4 0 0
  rw [show (List.replicate (ln + 1) (-1 : Int)).set 0 0 = 0 :: List.replicate ln (-1) by simp [List.replicate_succ]] at this
  exact this
 have hB5 : Gr w W5 := by rw [hW5]; exact belK hB4 (by have := hs2.out; omega)
 obtain ⟨W6, hW6⟩ : ∃ W6, W6 = ((W5.setCell ⟨w.heap.size, 0, none⟩ (.slice A ln lc)).setCell ⟨w.heap.size, 1, none⟩ (.int .i64 vars)).setCell ⟨w.heap.size, 2, none⟩ (.slice (some ⟨g, 0, none⟩) (ln + 1) (ln + 1)) := ⟨_, rfl⟩
 have g0 : (W5.setCell ⟨w.heap.size, 0, none⟩ (.slice A ln lc)).heap[w.heap.size]? = some (.cells #[.slice A ln lc, .int .i64 0, .slice none 0 0] 54 (0, 0)) := by rw [heap_setCell_same _ w.heap.size 0 _ _ _ hx5]; simp
 have g1 : ((W5.setCell ⟨w.heap.size, 0, none⟩ (.slice A ln lc)).setCell ⟨w.heap.size, 1, none⟩ (.int .i64 vars)).heap[w.heap.size]? = some (.cells #[.slice A ln lc, .int .i64 vars, .slice none 0 0] 54 (0, 0)) := by rw [heap_setCell_same _ w.heap.size 1 _ _ _ g0]; simp
 have HX6 := Lib.hid (show W6.heap[w.heap.size]? = some (.cells (hA ln A lc vars (some ⟨g, 0, none⟩) (ln + 1) (ln + 1)) 54 (0, 0)) by rw [hW6, heap_setCell_same _ w.heap.size 2 _ _ _ g1]; simp)
 have HG6 := Lib.hid (show W6.heap[g]? = some (.cells (iA (0 :: List.replicate ln (-1))) 3 (0, 0)) by rw [hW6]; exact (heap_setCell_other _ _ _ _ hgw).trans ((heap_setCell_other _ _ _ _ hgw).trans ((heap_setCell_other _ _ _ _ hgw).trans hX5)))
 have HB6 := Lib.hid (show Gr w W6 by rw [hW6]; exact belK (belK (belK hB5 (Nat.le_refl _)) (Nat.le_refl _)) (Nat.le_refl _))
 have hW4H := Lib.hid hW4
 have hW5H := Lib.hid hW5
 have hW6H := Lib.hid hW6
 obtain ⟨y0, y1, y2⟩ := cells3k hY4
 have c0 := iA_at hX4 (i := 0) (by simp)
 have d0 := frz hX4 0
 obtain ⟨z0, z1, z2⟩ := cells3k hY5
 obtain ⟨x0, x1, x2⟩ := cells3k hx5
 have f0 := frz hx5 0
 have f1 := frz hx5 1
 have f2 := frz hx5 2
 have hgBH := Lib.hid (show w.heap.size ≤ g by have := hs2.out; omega)
 clear hX hg3 hx2 hg4 hY4 hX4 hx4 hB4 hY5 hx5 hX5 hB5 g0 g1 hW4 hW5 hW6 hgB
 go_upto_region 2 with fail
 rw [← hW4H.out]
 go_upto_region 3 with fail
 rw [← hW5H.out]
 clear y0 y1 y2 c0 d0
 go_wp2
 rw [← hW6H.out]
 obtain ⟨k0, k1, k2⟩ := cells3k HX6.out
 exact bodyPost_ret (v := .agg (hA ln A lc vars (some ⟨g, 0, none⟩) (ln + 1) (ln + 1))) (by simp [results, Tryz.results21, go_sem, k0, k1, k2]) rfl ⟨⟨g, rfl, HG6.out, hgBH.out⟩, HB6.out⟩
end K
end Go.Proofs.YtljknappbnoikaaGreatDoor
