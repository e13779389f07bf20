/- Package machine: run. -/
import Derived.Test.YthgngkajdiclcaaDoorNbG
namespace Go.Proofs.YthgngkajdiclcaaDoor
open Go.RowKit
set_option linter.unusedVariables false
set_option linter.unusedSimpArgs false
namespace N
open K
/-- what a run leaves -/
def RunP (W0 : World) (b : Nat) (VS : Value) (SA : Option Addr) (sl sc : Nat) (i0 i1 i2 i3 : Int) (R : List Int × Nat × Int) (e : Ending) (w' : World) : Prop :=
  e = .returned (.tuple #[.int .i64 R.2.1, .int .i64 R.2.2]) ∧ (∃ s, MAt w' b VS (.slice SA sl sc) i0 i1 i2 i3 s) ∧ StO W0.heap.size b w' R.1 SA ∧ Gr W0 w'
theorem opsAt {w : World} {ro b : Nat} {T : TypeId} (h : w.heap[ro]? = some (.cells (opsA .nilFunc b) T (0, 0))) {k : Nat} {F : FuncId} (hk : (opsA .nilFunc b)[k]? = some (mf F b)) : w.cell? ⟨ro, k, none⟩ = some (mf F b) := (cell_of_row _ _ k _ _ (0, 0) h).trans hk
theorem psh_at {s1 st : List Int} {a : Nat} {r : Int × Int} {c : Cf} (h : psh s1 st a r = (c, 0)) : c.at_ = a := by
  unfold psh at h
  split at h <;> (simp only [Prod.mk.injEq] at h; rw [← h.1])
theorem step_at {vs : List (Int × Int)} {ins : List Int} {x : In} {i : Nat} {s st : List Int} {c : Cf} (hs : step vs ins x i s st = (c, 0)) (h12 : x.op ≠ 12) (h13 : x.op ≠ 13) (hne : tko x.op ≤ s.length) (h1 : 1 ≤ x.op ∧ x.op ≤ 13) : c.at_ = i + 1 := by
  have hc : x.op = 1 ∨ x.op = 2 ∨ x.op = 3 ∨ (4 ≤ x.op ∧ x.op ≤ 10) ∨ x.op = 11 := by omega
  rcases hc with h | h | h | h | h
  · rw [step_1 h] at hs; exact psh_at hs
  · rw [step_2 h] at hs; exact psh_at hs
  · rw [step_3 h] at hs; exact psh_at hs
  · obtain ⟨y, a, r, rfl⟩ := two_of (s := s) (t := s.length) (by rw [takes_2 (by omega)] at hne; exact hne) rfl
    rw [step_two h] at hs; exact psh_at hs
  · obtain ⟨y, r, rfl⟩ := one_of (s := s) (t := s.length) (by rw [h, takes_1] at hne; exact hne) rfl
    rw [step_11 h] at hs
    split at hs <;> (simp only [Prod.mk.injEq] at hs; rw [← hs.1])
set_option maxHeartbeats 4000000 in
set_option maxRecDepth 100000 in
theorem run_any (W0 : World) (b : Nat) (hb : W0.heap.size ≤ b) (vs : List (Int × Int)) (VA : Option Addr) (vc : Nat) (hV : VsR W0 vs VA) (SA : Option Addr) (sc : Nat) (i0 i1 i2 i3 : Int) (l : List In) (LA : Option Addr) (lc : Nat) (H : List Int) (hH : Hts H vs.length l) (hL : InsR W0 l LA) (hlen : l.length ≤ 4000)
    (st : List Int) (hst : st.length = vs.length) (htv : ∀ n ∈ st, vN n = true) (w : World) (hM : MAt w b (.slice VA vs.length vc) (.slice SA st.length sc) i0 i1 i2 i3 []) (hO : StO W0.heap.size b w st SA) (hG : Gr W0 w) (hSA : ∀ g, SA = some ⟨g, 0, none⟩ → g < w.heap.size) :
    Calls Tryd.prog 24 #[.pointer (some ⟨b, 0, none⟩), .slice LA l.length lc] w (RunP W0 b (.slice VA vs.length vc) SA st.length sc i0 i1 i2 i3 (run vs [i0, i1, i2, i3] l l.length 0 [] st 0)) := by
  obtain ⟨R, hR⟩ : ∃ R, run vs [i0, i1, i2, i3] l l.length 0 [] st 0 = R := ⟨_, rfl⟩
  rw [hR]
  have hRH := Lib.hid hR
  have hOp := Lib.hid (operations_any b w)
  have hI : Inv H vs l 0 [] st := ⟨Nat.zero_le _, by rw [hH.h0]; rfl, by simp, htv, hst⟩
  have hIH := Lib.hid hI
  have HM := Lib.hid hM
  have HO := Lib.hid hO
  have HG := Lib.hid hG
  have HV := Lib.hid hV
  have HL := Lib.hid hL
  have HH := Lib.hid hH
  have hstH0 := Lib.hid hst
  have hlnH := Lib.hid hlen
  have hbH := Lib.hid hb
  have hMl := Lib.hid hM.lt
  have hSAH := Lib.hid hSA
  clear hR hI hM hO hG hV hL hH htv hSA
  obtain ⟨sl, hsl⟩ : ∃ sl, sl = st.length := ⟨_, rfl⟩
  have hslH := Lib.hid hsl
  rw [← hsl] at HM ⊢
  clear hsl hst
  go_enter Tryd.func24, Tryd.ntmps24
  go_wp2
  go_step3
  go_upto_region 2 with (go_at_call 33; refine hOp.out.mono ?_; rintro e w2 ⟨rfl, hg2⟩; have HG2 := Lib.hid hg2; clear hg2)
  obtain ⟨W3, hW3⟩ : ∃ W3, W3 = w2.alloc (.cells (opsA .nilFunc b) 64) := ⟨_, rfl⟩
  rw [← hW3]
  have hg3 : Gr w2 W3 := by rw [hW3]; exact grAlloc _ _
  have hg03 : Gr w W3 := HG2.out.tr hg3
  obtain ⟨ro, hro⟩ : ∃ ro, ro = w2.heap.size := ⟨_, rfl⟩
  have HQ := Lib.hid (show W3.heap[ro]? = some (.cells (opsA .nilFunc b) 64 (0, 0)) by rw [hW3, hro]; exact nBlk _ _ _ rfl)
  rw [← hro]
  have hrb := Lib.hid (show ro ≠ b by have := hMl.out; have := HG2.out.size; omega)
  have hrg := Lib.hid (show ∀ g, SA = some ⟨g, 0, none⟩ → ro ≠ g from fun g hg => by have := hSAH.out g hg; have := HG2.out.size; omega)
  have HM3 := Lib.hid (HM.out.gr hg03)
  have HO3 := Lib.hid (HO.out.gr hg03)
  have HG3 := Lib.hid (HG.out.tr hg03)
  clear hW3 hg3 hg03 hro HM HO HG HG2 hOp hSAH hMl
  go_wp2
  go_step3
  go_wp2
  go_loopg [4, 5, 7] (l.length) (fun gk a4 a5 a7 wr => ∃ (i kk : Nat) (s sti : List Int), kk + gk = l.length ∧ l.length ≤ i + gk ∧ a7 = .int .i64 i ∧ a4 = .int .i64 kk ∧ a5 = .int .i64 0 ∧ Hid (Inv H vs l i s sti) ∧ Hid (run vs [i0, i1, i2, i3] l gk i s sti kk = R) ∧ Hid (MAt wr b (.slice VA vs.length vc) (.slice SA sl sc) i0 i1 i2 i3 s) ∧ Hid (StO W0.heap.size b wr sti SA) ∧ Hid (Gr W0 wr) ∧ Hid (wr.heap[ro]? = some (.cells (opsA .nilFunc b) 64 (0, 0))))
  case atStart => exact ⟨0, 0, [], st, by omega, by omega, rfl, rfl, rfl, hIH, hRH, HM3, HO3, HG3, HQ⟩
  case round =>
    obtain ⟨i, kk, s, sti, hkg, hig, rfl, rfl, rfl, hI, hRu, hM, hO, hG, hQ⟩ := hrel
    by_cases hlt : i < l.length
    · obtain ⟨gq, rfl⟩ : ∃ g, gk = g + 1 := ⟨gk - 1, by omega⟩
      have hx : l[i]? = some l[i] := List.getElem?_eq_getElem hlt
      obtain ⟨n1, f1⟩ := HH.out.nx i _ hx
      obtain ⟨gl, ol, hLA, hat⟩ := (HL.out.gr hG.out).addr (by omega)
      subst hLA
      obtain ⟨e0, e1, e2⟩ := hat i _ hx
      have hxH := Lib.hid hx
      clear hx hat
      generalize l[i] = x at *
      have hop := form_op f1
      have f1H := Lib.hid f1
      obtain ⟨k1, k2, k3, k4⟩ := n1
      have hhi := hI.out.h
      rw [hhi] at k1 k2
      have k1H := Lib.hid k1
      have k2H := Lib.hid k2
      clear k1 k2 k3 k4 hhi f1
      obtain ⟨k, hk⟩ := Int.eq_ofNat_of_zero_le (show 0 ≤ x.op by omega)
      have hkH := Lib.hid hk
      rw [hk] at e0 hop
      clear hk
      obtain ⟨W5, hW5⟩ : ∃ W5, W5 = wr.alloc (.cells #[.int .i64 (k : Int), .int .i64 x.n, .int .i64 x.r] 42) := ⟨_, rfl⟩
      have hg5 : Gr wr W5 := by rw [hW5]; exact grAlloc _ _
      obtain ⟨y0, y1, y2⟩ := cells3k (show W5.heap[wr.heap.size]? = some (.cells #[.int .i64 (k : Int), .int .i64 x.n, .int .i64 x.r] 42 (0, 0)) by rw [hW5]; exact nBlk _ _ _ rfl)
      have hM5 := Lib.hid (hM.out.gr hg5)
      have hO5 := Lib.hid (hO.out.gr hg5)
      have hG5 := Lib.hid (hG.out.tr hg5)
      have hQ5 := Lib.hid (grBlk hg5 hQ.out)
      have hbw := Lib.hid hM.out.lt
      clear hg5 hM hO hG hQ
      have q1 : IntKind.i64.wrap ((i : Int) + 1) = (i : Int) + 1 := IntWalk.i64_in _ (by have := hlnH.out; omega)
      have q2 : IntKind.i64.wrap ((kk : Int) + 1) = (kk : Int) + 1 := IntWalk.i64_in _ (by have := hlnH.out; omega)
      go_upto_region 5 with fail
      rw [← hW5]
      clear hW5 e0 e1 e2
      rcases hst : step vs [i0, i1, i2, i3] x i s sti with ⟨c, er⟩
      have hstH := Lib.hid hst
      have hinv := step_inv HH.out hI.out hxH.out hst
      by_cases h13 : k = 13
      · have t13 : ((k : Int) == 13) = true := by simp [h13]
        have hk13 : x.op = 13 := by rw [hkH.out, h13]; rfl
        rw [step_13 hk13] at hst
        cases hst
        obtain ⟨-, hI2, hnx⟩ := hinv.resolve_right (by omega)
        have hnn : 0 ≤ x.n := by
          have := form_n f1H.out (.inr hk13)
          omega
        have hRu2 := Lib.hid (show run vs [i0, i1, i2, i3] l gq x.n.toNat s sti (kk + 1) = R by rw [← run_ok hxH.out hstH.out]; exact hRu.out)
        have hI2 := Lib.hid hI2
        simp only at hI2 hnx
        obtain ⟨j, hj⟩ := Int.eq_ofNat_of_zero_le hnn
        rw [hj] at y1
        rw [hj, Int.toNat_natCast] at hRu2 hI2 hnx
        clear hj hinv hstH f1H k1H k2H hI hRu hxH hkH hk13 h13 hnn
        go_wp2
        go_roundg gq
        case measure => omega
        case rel => exact ⟨j, kk + 1, s, sti, by omega, by omega, rfl, by go_num, rfl, hI2, hRu2, hM5, hO5, hG5, hQ5⟩
      · have t13 : ((k : Int) == 13) = false := by simp; omega
        by_cases h12 : k = 12
        · have t12 : ((k : Int) == 12) = true := by simp [h12]
          have hk12 : x.op = 12 := by rw [hkH.out, h12]; rfl
          obtain ⟨y, a, r, hs2⟩ := two_of (s := s) (t := s.length) (by have := k1H.out; rw [hk12] at this; exact this) rfl
          subst hs2
          rw [step_12 hk12] at hst
          cases hst
          obtain ⟨-, hI2, hnx⟩ := hinv.resolve_right (by omega)
          have hRu2 := Lib.hid (show run vs [i0, i1, i2, i3] l gq (if rlB a x.r y = true then i + 1 else x.n.toNat) r sti (kk + 1) = R by rw [← run_ok hxH.out hstH.out]; exact hRu.out)
          have hI2 := Lib.hid hI2
          simp only at hI2 hnx
          have hnn : 0 ≤ x.n := by
            have := form_n f1H.out (.inl hk12)
            omega
          obtain ⟨j, hj⟩ := Int.eq_ofNat_of_zero_le hnn
          rw [hj] at y1
          rw [hj, Int.toNat_natCast] at hRu2 hI2 hnx
          have HA := Lib.hid (areRelated_any a y x.r b _ _ i0 i1 i2 i3 r W5 hM5.out)
          clear hj hinv hstH f1H k1H k2H hI hRu hxH hkH hnn hk12 h12 h13
          rcases hq : rlB a x.r y with _ | _
          · rw [hq] at HA hRu2 hI2 hnx
            simp only [Bool.false_eq_true, if_false] at hRu2 hI2 hnx
            clear hq
            go_wp2_with fail
            refine HA.out.mono ?_
            rintro e w6 ⟨rfl, hm6, hb6⟩
            have hM6 := Lib.hid hm6
            have hO6 := Lib.hid (hO5.out.gb hb6)
            have hG6 := Lib.hid (hG5.out.trans (gbBelow hb6 hG5.out.size (fun q hq => by cases hq; exact hbH.out)))
            have hQ6 := Lib.hid ((hb6.block _ (blkLt hQ5.out) (fun q => hrb.out (by cases q; rfl))).trans hQ5.out)
            have yk1 := (World.cell?_of_block (a := ⟨wr.heap.size, 1, none⟩) (hb6.block _ (World.block_lt_of_cell? _ _ y1) (fun q => by have q2 := Option.some.inj q; have := hbw.out; simp only at q2; omega))).trans y1
            clear hm6 hb6 y0 y1 y2
            go_wp2
            go_roundg gq
            case measure => omega
            case rel => exact ⟨j, kk + 1, r, sti, by omega, by omega, rfl, by go_num, rfl, hI2, hRu2, hM6, hO6, hG6, hQ6⟩
          · rw [hq] at HA hRu2 hI2 hnx
            simp only [if_true] at hRu2 hI2 hnx
            clear hq
            go_wp2_with fail
            refine HA.out.mono ?_
            rintro e w6 ⟨rfl, hm6, hb6⟩
            have hM6 := Lib.hid hm6
            have hO6 := Lib.hid (hO5.out.gb hb6)
            have hG6 := Lib.hid (hG5.out.trans (gbBelow hb6 hG5.out.size (fun q hq => by cases hq; exact hbH.out)))
            have hQ6 := Lib.hid ((hb6.block _ (blkLt hQ5.out) (fun q => hrb.out (by cases q; rfl))).trans hQ5.out)
            have yk1 := (World.cell?_of_block (a := ⟨wr.heap.size, 1, none⟩) (hb6.block _ (World.block_lt_of_cell? _ _ y1) (fun q => by have q2 := Option.some.inj q; have := hbw.out; simp only at q2; omega))).trans y1
            clear hm6 hb6 y0 y1 y2
            go_wp2
            go_roundg gq
            case measure => omega
            case rel => exact ⟨i + 1, kk + 1, r, sti, by omega, by omega, by go_num, by go_num, rfl, hI2, hRu2, hM6, hO6, hG6, hQ6⟩
        · have t12 : ((k : Int) == 12) = false := by simp; omega
          have n12 : x.op ≠ 12 := by rw [hkH.out]; omega
          have n13 : x.op ≠ 13 := by rw [hkH.out]; omega
          obtain ⟨F, hF, hE, hC⟩ := op_any W0 b hbH.out vs VA vc HV.out SA sc i0 i1 i2 i3 x i l.length s sti f1H.out (hI.out.len) hI.out.sv (by have := k1H.out; omega) (by have := k2H.out; omega) n12 n13
          have hkk : x.op.toNat = k := by rw [hkH.out]; simp
          rw [hkk] at hF
          have f0 := opsAt hQ5.out hF
          have hsl2 : sti.length = sl := by rw [hI.out.len, hslH.out, hstH0.out]
          rw [hst, hsl2] at hC
          have hC := Lib.hid hC
          have hEH := Lib.hid hE
          clear hF hkk hsl2
          have hk12 : k < 12 := by omega
          have hE2 := hEH.out
          have hcat := Lib.hid (fun h0 : er = 0 => step_at (c := c) (by rw [← h0]; exact hst) n12 n13 k1H.out (by rw [hkH.out]; exact hop))
          have hbad := Lib.hid (fun h0 : er ≠ 0 => show (c.st, kk + 1, er) = R by rw [← run_er hxH.out hstH.out h0]; exact hRu.out)
          have hgo := Lib.hid (fun h0 : er = 0 => show run vs [i0, i1, i2, i3] l gq c.at_ c.s c.st (kk + 1) = R by rw [← run_ok hxH.out (by rw [← h0]; exact hstH.out)]; exact hRu.out)
          have hinvH := Lib.hid hinv
          have hroW := Lib.hid (blkLt hQ5.out)
          clear h12 h13 hst hstH hinv hRu hI hxH k1H k2H f1H n12 n13 hkH hlt
          go_upto_region 8 with fail
          refine wp_region_X (S := fun wq => Gr W5 wq) [6, 7] (by kernel_rfl) (grDrew _) (fun hHeld => ?_)
          have hSG : Hid (∀ wp wq : World, Gr W5 wp → Gr wp wq → Gr W5 wq) := Lib.hid (fun _ _ h k => h.tr k)
          have hmv := Lib.hid (fun (wq : World) (hq : Gr W5 wq) => And.intro (grCell hq y0) (And.intro (grCell hq y1) (grCell hq f0)))
          first
           | (refine xk hSG 0 [1, 2, 3, 6, 7] (v := ?_) rfl (by kernel_rfl) (fun _ _ _ h => h) (by rfl) ?_ hHeld ?_; rotate_left; focus (intro w' hSw; obtain ⟨y0, y1, f0⟩ := hmv.out _ hSw; go_simp; (try with_reducible rfl)))
           | refine xn hSG 0 [1, 2, 3, 6, 7] rfl (by kernel_rfl) (fun _ _ _ h => h) (by rfl) hHeld ?_
          (try simp only [zq1, zq2, zq3, Act.put, zq4, zq5, zq6])
          first
           | (refine xk hSG 1 [2, 3, 6, 7] (v := ?_) rfl (by kernel_rfl) (fun _ _ _ h => h) (by rfl) ?_ hHeld ?_; rotate_left; focus (intro w' hSw; obtain ⟨y0, y1, f0⟩ := hmv.out _ hSw; go_simp; (try with_reducible rfl)))
           | refine xn hSG 1 [2, 3, 6, 7] rfl (by kernel_rfl) (fun _ _ _ h => h) (by rfl) hHeld ?_
          (try simp only [zq1, zq2, zq3, Act.put, zq4, zq5, zq6])
          refine xk hSG 2 [3, 6, 7] (v := .pointer (some ⟨ro, k, none⟩)) rfl (by kernel_rfl) (fun _ _ _ h => h) (by rfl) ?_ hHeld ?_
          focus (intro w' hSw; obtain ⟨y0, y1, f0⟩ := hmv.out _ hSw; go_simp; (try (intro hq; omega)))
          (try simp only [zq1, zq2, zq3, Act.put, zq4, zq5, zq6])
          first
           | (refine xk hSG 3 [6, 7] (v := ?_) rfl (by kernel_rfl) (fun _ _ _ h => h) (by rfl) ?_ hHeld ?_; rotate_left; focus (intro w' hSw; obtain ⟨y0, y1, f0⟩ := hmv.out _ hSw; go_simp; (try with_reducible rfl)))
           | refine xn hSG 3 [6, 7] rfl (by kernel_rfl) (fun _ _ _ h => h) (by rfl) hHeld ?_
          (try simp only [zq1, zq2, zq3, Act.put, zq4, zq5, zq6])
          first
           | (refine xk hSG 4 [5, 6, 7] (v := ?_) rfl (by kernel_rfl) (fun _ _ _ h => h) (by rfl) ?_ hHeld ?_; rotate_left; focus (intro w' hSw; obtain ⟨y0, y1, f0⟩ := hmv.out _ hSw; go_simp; (try with_reducible rfl)))
           | refine xn hSG 4 [5, 6, 7] rfl (by kernel_rfl) (fun _ _ _ h => h) (by rfl) hHeld ?_
          (try simp only [zq1, zq2, zq3, Act.put, zq4, zq5, zq6])
          first
           | (refine xk hSG 5 [6, 7] (v := ?_) rfl (by kernel_rfl) (fun _ _ _ h => h) (by rfl) ?_ hHeld ?_; rotate_left; focus (intro w' hSw; obtain ⟨y0, y1, f0⟩ := hmv.out _ hSw; go_simp; (try with_reducible rfl)))
           | refine xn hSG 5 [6, 7] rfl (by kernel_rfl) (fun _ _ _ h => h) (by rfl) hHeld ?_
          (try simp only [zq1, zq2, zq3, Act.put, zq4, zq5, zq6])
          refine wpAnyX_oneX (i := 6) (by kernel_rfl) (by kernel_rfl) rfl (fun w7 hg K hK => ?_)
          have hg7 := hHeld.out.tr hg
          go_simp
          refine (hC.out _ (hM5.out.gr hg7) (hO5.out.gr hg7) (hG5.out.tr hg7)).mono ?_
          rintro e w8 ⟨he, hm8, ho8, hg8, hk8⟩
          simp only at he hm8 ho8
          subst he
          refine hK.out _ _ ?_
          have hM8 := Lib.hid hm8
          have hO8 := Lib.hid ho8
          have hG8 := Lib.hid hg8
          have hQ8 := Lib.hid ((hk8.block ro (Nat.lt_of_lt_of_le hroW.out hg7.size) hrb.out hrg.out).trans (grBlk hg7 hQ5.out))
          clear hK K hg hHeld hSG hg7 hm8 ho8 hg8 hk8 y0 y1 y2 f0 hM5 hO5 hG5 hQ5 hroW
          refine wpAnyX_oneX (i := 7) (by kernel_rfl) (by kernel_rfl) rfl (fun w9 hg K hK => ?_)
          have hM9 := Lib.hid (hM8.out.gr hg)
          have hO9 := Lib.hid (hO8.out.gr hg)
          have hG9 := Lib.hid (Gr.tr hG8.out hg)
          have hQ9 := Lib.hid (grBlk hg hQ8.out)
          clear hM8 hO8 hG8 hQ8
          go_simp
          refine hK.out _ _ ?_
          clear hK K hg
          refine wpAnyX_done (by kernel_rfl) (fun w10 hg => ?_) _
          have hM8 := Lib.hid (hM9.out.gr hg)
          have hO8 := Lib.hid (hO9.out.gr hg)
          have hG8 := Lib.hid (Gr.tr hG9.out hg)
          have hQ8 := Lib.hid (grBlk hg hQ9.out)
          clear hM9 hO9 hG9 hQ9 hg
          by_cases h0 : er = 0
          · have hRu2 := Lib.hid (hgo.out h0)
            obtain ⟨-, hI2, hnx⟩ := hinvH.out.resolve_right (by omega)
            have hat := hcat.out h0
            have hI2 := Lib.hid hI2
            rw [hat] at hRu2 hI2
            subst h0
            clear hcat hbad hgo hinvH hnx hat
            go_wp2
            go_roundg gq
            case measure => omega
            case rel => exact ⟨i + 1, kk + 1, c.s, c.st, by omega, by omega, by go_num, by go_num, rfl, hI2, hRu2, hM8, hO8, hG8, hQ8⟩
          · have hb := hbad.out h0
            have hP := Lib.hid (show RunP W0 b (.slice VA vs.length vc) SA sl sc i0 i1 i2 i3 R (.returned (.tuple #[.int .i64 ((kk : Int) + 1), .int .i64 er])) w10 by rw [← hb]; exact ⟨by simp, ⟨_, hM8.out⟩, hO8.out, hG8.out⟩)
            have hne : (er != 0) = true := by simp [h0]
            clear hcat hbad hgo hinvH hb hM8 hO8 hG8 hQ8 h0
            go_wp2
            rw [Exit.noGoto_ret]
            go_ret2
            exact hP.out
    · have hRe : (sti, kk, 0) = R := by rw [← hRu.out]; exact (run_end (by omega)).symm
      have hP := Lib.hid (show RunP W0 b (.slice VA vs.length vc) SA sl sc i0 i1 i2 i3 R (.returned (.tuple #[.int .i64 (kk : Int), .int .i64 0])) wr by rw [← hRe]; exact ⟨rfl, ⟨_, hM.out⟩, hO.out, hG.out⟩)
      have hkl : decide ((i : Int) < (l.length : Int)) = false := by simp; omega
      clear hRe hRu hI hM hO hG hQ
      go_wp2
      rw [Exit.noGoto_ret]
      go_ret2
      exact hP.out
end N
end Go.Proofs.YthgngkajdiclcaaDoor
