/- Package maxmin: whether rates are possible. -/
import Derived.Test.YtbjhdfakocfapaaMsU
namespace Go.Proofs.Ytbjhdfakocfapaa
open Go.RowKit
set_option linter.unusedVariables false
set_option linter.unusedSimpArgs false
def moreB (s t : Q) : Bool := decide (0 < (cmpM s t).1)
def ipL (n : Net) (xs : List Q) (l : Nat) : Bool := match loadM n xs (l : Int) with | none => false | some q => !moreB q ⟨num n.c l, 1⟩
def ipF (n : Net) (xs : List Q) (i : Nat) : Bool := !(decide (0 < num n.l i) && moreB (rat xs i) ⟨num n.l i, 1⟩)
def ipM (n : Net) (xs : List Q) : Bool := (List.range n.c.length).all (ipL n xs) && (List.range n.l.length).all (ipF n xs)
set_option maxHeartbeats 4000000 in
set_option maxRecDepth 100000 in
theorem isPossible_any (n : Net) (a : NetA) (xs : List Q) (XA : Option Addr) (xm : Nat) (w : World) (hA : Alc w n a xs XA) :
    Calls Try.prog 33 #[alv n a xs XA xm] w (VV (.bool (ipM n xs)) w) := by
  obtain ⟨W1, hW1⟩ : ∃ W1, W1 = w.alloc (alB n a xs XA xm) := ⟨_, rfl⟩
  have G1 : Gr w W1 := by rw [hW1]; exact grAlloc _ _
  have A1 : W1.heap[w.heap.size]? = some (alB n a xs XA xm) := by rw [hW1]; exact newBlk _ _ _ rfl
  obtain ⟨a0, a1, a2, a3⟩ := cells4 A1
  have HLd := Lib.hid (fun (l : Int) wx hx => load_any n a xs XA xm l wx hx)
  have HA := Lib.hid hA
  have HG := Lib.hid G1
  have HB := Lib.hid A1
  have hlx := hA.lx
  have hNL := hA.hNL
  have hN := hA.hN
  have hC := hA.hC
  have HL := Lib.hid (And.intro hlx (And.intro hNL (And.intro hN hC)))
  have hI1 := (hA.gr G1).net.1
  obtain ⟨AC, hAC⟩ : ∃ AC, a.ca = AC := ⟨_, rfl⟩
  rw [hAC] at a0 hI1
  have HI1 := Lib.hid hI1
  have hI2 := (hA.gr G1).net.2.2
  obtain ⟨AL, hAL⟩ : ∃ AL, a.la = AL := ⟨_, rfl⟩
  rw [hAL] at hI2
  have HI2 := Lib.hid hI2
  have HAL := Lib.hid hAL
  clear hAC hI1 hAL hI2
  clear hA G1 A1 hlx hN hNL hC
  obtain ⟨R, hR⟩ : ∃ R, ipM n xs = R := ⟨_, rfl⟩
  obtain ⟨R1, hR1⟩ : ∃ R1, (List.range n.c.length).all (ipL n xs) = R1 := ⟨_, rfl⟩
  obtain ⟨R2, hR2⟩ : ∃ R2, (List.range n.l.length).all (ipF n xs) = R2 := ⟨_, rfl⟩
  have hRR : R = (R1 && R2) := by rw [← hR, ← hR1, ← hR2]; rfl
  rw [hR]
  have HR := Lib.hid (And.intro hRR (And.intro hR1 hR2))
  clear hR hRR hR1 hR2
  go_enter Try.func33, Try.ntmps33
  go_upto_region 1 with fail
  rw [← hW1]
  clear hW1
  go_wp2
  go_loopg [13] (n.c.length) (fun gk s wr => ∃ k : Nat, k + gk = n.c.length ∧ s = .int .i64 k ∧ Hid (((List.range n.c.length).drop k).all (ipL n xs) = R1) ∧ Hid (wr.heap[w.heap.size]? = some (alB n a xs XA xm)) ∧ Hid (Gr W1 wr))
  case atStart => exact ⟨0, by omega, rfl, HR.out.2.1, HB.out, Below.refl _ _⟩
  case round =>
    obtain ⟨k, hk, rfl, hS, hB, hW⟩ := hrel
    clear a0 a1 a2 a3
    obtain ⟨a0, a1, a2, a3⟩ := cells4 hB.out
    have hbl := blkLt hB.out
    by_cases hlt : k < n.c.length
    · obtain ⟨g9, rfl⟩ : ∃ g, gk = g + 1 := ⟨gk - 1, by omega⟩
      have hAl : Alc wr n a xs XA := HA.out.gr (Gr.tr HG.out hW.out)
      obtain ⟨gl, ol, rfl, hcl⟩ := (HI1.out.gr hW.out).addr (by omega)
      have c0 := hcl k _ (num_get hlt)
      have h1 := hS.out
      rw [all_range hlt] at h1
      have e1 : ipL n xs k = match loadM n xs (k : Int) with | none => false | some q => !moreB q ⟨num n.c k, 1⟩ := rfl
      rw [e1] at h1
      have HLd1 := Lib.hid (HLd.out (k : Int) wr hAl)
      have hq : IntKind.i64.wrap ((k : Int) + 1) = (k : Int) + 1 := IntWalk.i64_in _ (by have := HL.out; omega)
      generalize num n.c k = cap at *
      have HWh := Lib.hid (fun wx => whole_any cap wx)
      clear hS hcl e1 hAl
      generalize loadM n xs (k : Int) = ld at *
      cases ld with
      | none =>
        have h3 := Lib.hid (show R = false by rw [HR.out.1, ← h1]; rfl)
        have e2 : ldV none = .tuple #[qv ⟨0, 0⟩, .bool false] := rfl
        rw [e2] at HLd1
        clear h1 e2
        go_upto_region 5 with (go_at_call 50; refine HLd1.out.mono ?_; rintro e w2 ⟨rfl, hb2⟩; have hb2 := Lib.hid hb2)
        obtain ⟨W3, hW3⟩ : ∃ W3, w2.alloc (qb ⟨0, 0⟩) = W3 := ⟨_, rfl⟩
        have G3 := Lib.hid (show Gr w2 W3 by rw [← hW3]; exact grAlloc _ _)
        rw [hW3]
        clear hW3
        refine wp_region_G (S := fun wq => Gr W3 wq) (by kernel_rfl) (grDrew _) (fun hHeld => ?_)
        have hSG : Hid (∀ wp wq : World, Gr W3 wp → Gr wp wq → Gr W3 wq) := Lib.hid (fun _ _ h k => h.tr k)
        first
         | (refine tk hSG 0 (v := ?_) rfl (by kernel_rfl) (fun _ _ _ h => h) (by rfl) ?_ hHeld ?_; rotate_left; focus (intro w' hSw; go_simp; (try with_reducible rfl)))
         | refine tn hSG 0 rfl (by kernel_rfl) (fun _ _ _ h => h) (by rfl) hHeld ?_
        (try simp only [zq1, zq2, zq3, Act.put, zq4, zq5, zq6])
        first
         | (refine tk hSG 1 (v := ?_) rfl (by kernel_rfl) (fun _ _ _ h => h) (by rfl) ?_ hHeld ?_; rotate_left; focus (intro w' hSw; go_simp; (try with_reducible rfl)))
         | refine tn hSG 1 rfl (by kernel_rfl) (fun _ _ _ h => h) (by rfl) hHeld ?_
        (try simp only [zq1, zq2, zq3, Act.put, zq4, zq5, zq6])
        first
         | (refine tk hSG 2 (v := ?_) rfl (by kernel_rfl) (fun _ _ _ h => h) (by rfl) ?_ hHeld ?_; rotate_left; focus (intro w' hSw; go_simp; (try with_reducible rfl)))
         | refine tn hSG 2 rfl (by kernel_rfl) (fun _ _ _ h => h) (by rfl) hHeld ?_
        (try simp only [zq1, zq2, zq3, Act.put, zq4, zq5, zq6])
        first
         | (refine tk hSG 3 (v := ?_) rfl (by kernel_rfl) (fun _ _ _ h => h) (by rfl) ?_ hHeld ?_; rotate_left; focus (intro w' hSw; go_simp; (try with_reducible rfl)))
         | refine tn hSG 3 rfl (by kernel_rfl) (fun _ _ _ h => h) (by rfl) hHeld ?_
        (try simp only [zq1, zq2, zq3, Act.put, zq4, zq5, zq6])
        first
         | (refine tk hSG 4 (v := ?_) rfl (by kernel_rfl) (fun _ _ _ h => h) (by rfl) ?_ hHeld ?_; rotate_left; focus (intro w' hSw; go_simp; (try with_reducible rfl)))
         | refine tn hSG 4 rfl (by kernel_rfl) (fun _ _ _ h => h) (by rfl) hHeld ?_
        (try simp only [zq1, zq2, zq3, Act.put, zq4, zq5, zq6])
        first
         | (refine tk hSG 5 (v := ?_) rfl (by kernel_rfl) (fun _ _ _ h => h) (by rfl) ?_ hHeld ?_; rotate_left; focus (intro w' hSw; go_simp; (try with_reducible rfl)))
         | refine tn hSG 5 rfl (by kernel_rfl) (fun _ _ _ h => h) (by rfl) hHeld ?_
        (try simp only [zq1, zq2, zq3, Act.put, zq4, zq5, zq6])
        first
         | (refine tk hSG 6 (v := ?_) rfl (by kernel_rfl) (fun _ _ _ h => h) (by rfl) ?_ hHeld ?_; rotate_left; focus (intro w' hSw; go_simp; (try with_reducible rfl)))
         | refine tn hSG 6 rfl (by kernel_rfl) (fun _ _ _ h => h) (by rfl) hHeld ?_
        (try simp only [zq1, zq2, zq3, Act.put, zq4, zq5, zq6])
        first
         | (refine tk hSG 7 (v := ?_) rfl (by kernel_rfl) (fun _ _ _ h => h) (by rfl) ?_ hHeld ?_; rotate_left; focus (intro w' hSw; go_simp; (try with_reducible rfl)))
         | refine tn hSG 7 rfl (by kernel_rfl) (fun _ _ _ h => h) (by rfl) hHeld ?_
        (try simp only [zq1, zq2, zq3, Act.put, zq4, zq5, zq6])
        refine wpAnyG_done (by kernel_rfl) (fun w9 hgD => ?_) _
        have hg9 : Gr W3 w9 := (grDrew W3).tr hgD
        clear hgD hSG hHeld
        go_wp2
        go_ret
        exact ⟨ret_b (by rw [h3.out]), Gr.tr HG.out (Gr.tr hW.out (Gr.tr hb2.out (Gr.tr G3.out hg9)))⟩
      | some q =>
        have e2 : ldV (some q) = .tuple #[qv q, .bool true] := rfl
        rw [e2] at HLd1
        have HM := Lib.hid (fun wx => isMore_any q ⟨cap, 1⟩ wx)
        have h1 : (!moreB q ⟨cap, 1⟩ && ((List.range n.c.length).drop (k + 1)).all (ipL n xs)) = R1 := h1
        have e3 : decide (0 < (cmpM q ⟨cap, 1⟩).1) = moreB q ⟨cap, 1⟩ := rfl
        rw [e3] at HM
        generalize moreB q ⟨cap, 1⟩ = mb at *
        have H1 := Lib.hid h1
        clear h1 e2 e3
        go_upto_region 5 with (go_at_call 50; refine HLd1.out.mono ?_; rintro e w2 ⟨rfl, hb2⟩; have hb2 := Lib.hid hb2)
        obtain ⟨W3, hW3⟩ : ∃ W3, w2.alloc (qb q) = W3 := ⟨_, rfl⟩
        have G3 := Lib.hid (show Gr w2 W3 by rw [← hW3]; exact grAlloc _ _)
        have Q3 : W3.heap[w2.heap.size]? = some (qb q) := by rw [← hW3]; exact newBlk _ _ _ rfl
        rw [hW3]
        obtain ⟨⟨q0, q1⟩, -⟩ := cells2 Q3
        clear hW3 Q3
        refine wp_region_G (S := fun wq => Gr W3 wq) (by kernel_rfl) (grDrew _) (fun hHeld => ?_)
        have hSG : Hid (∀ wp wq : World, Gr W3 wp → Gr wp wq → Gr W3 wq) := Lib.hid (fun _ _ h k => h.tr k)
        have hmv := Lib.hid (fun (wq : World) (hq : Gr W3 wq) => And.intro (grCell hq q0) (grCell hq q1))
        first
         | (refine tk hSG 0 (v := ?_) rfl (by kernel_rfl) (fun _ _ _ h => h) (by rfl) ?_ hHeld ?_; rotate_left; focus (intro w' hSw; obtain ⟨q0, q1⟩ := hmv.out _ hSw; go_simp; (try with_reducible rfl)))
         | refine tn hSG 0 rfl (by kernel_rfl) (fun _ _ _ h => h) (by rfl) hHeld ?_
        (try simp only [zq1, zq2, zq3, Act.put, zq4, zq5, zq6])
        first
         | (refine tk hSG 1 (v := ?_) rfl (by kernel_rfl) (fun _ _ _ h => h) (by rfl) ?_ hHeld ?_; rotate_left; focus (intro w' hSw; obtain ⟨q0, q1⟩ := hmv.out _ hSw; go_simp; (try with_reducible rfl)))
         | refine tn hSG 1 rfl (by kernel_rfl) (fun _ _ _ h => h) (by rfl) hHeld ?_
        (try simp only [zq1, zq2, zq3, Act.put, zq4, zq5, zq6])
        first
         | (refine tk hSG 2 (v := ?_) rfl (by kernel_rfl) (fun _ _ _ h => h) (by rfl) ?_ hHeld ?_; rotate_left; focus (intro w' hSw; obtain ⟨q0, q1⟩ := hmv.out _ hSw; go_simp; (try with_reducible rfl)))
         | refine tn hSG 2 rfl (by kernel_rfl) (fun _ _ _ h => h) (by rfl) hHeld ?_
        (try simp only [zq1, zq2, zq3, Act.put, zq4, zq5, zq6])
        first
         | (refine tk hSG 3 (v := ?_) rfl (by kernel_rfl) (fun _ _ _ h => h) (by rfl) ?_ hHeld ?_; rotate_left; focus (intro w' hSw; obtain ⟨q0, q1⟩ := hmv.out _ hSw; go_simp; (try with_reducible rfl)))
         | refine tn hSG 3 rfl (by kernel_rfl) (fun _ _ _ h => h) (by rfl) hHeld ?_
        (try simp only [zq1, zq2, zq3, Act.put, zq4, zq5, zq6])
        first
         | (refine tk hSG 4 (v := ?_) rfl (by kernel_rfl) (fun _ _ _ h => h) (by rfl) ?_ hHeld ?_; rotate_left; focus (intro w' hSw; obtain ⟨q0, q1⟩ := hmv.out _ hSw; go_simp; (try with_reducible rfl)))
         | refine tn hSG 4 rfl (by kernel_rfl) (fun _ _ _ h => h) (by rfl) hHeld ?_
        (try simp only [zq1, zq2, zq3, Act.put, zq4, zq5, zq6])
        refine tc hSG 5 (v := qv ⟨cap, 1⟩) rfl (by kernel_rfl) (fun _ _ _ h => h) (by rfl) ?_ hHeld ?_
        focus (intro wz hSw K hK; obtain ⟨q0, q1⟩ := hmv.out _ hSw; go_simp; go_at_call 52; refine (HWh.out _).mono ?_; rintro e w2 ⟨rfl, hb2⟩; first | exact hK.out _ hb2 | (have h9 := hK.out _ hb2; (try simp only [zq1, zq2, zq3, Act.put, zq4, zq5, zq6] at h9 ⊢); exact h9) | (have h9 := hK.out _ hb2; go_simp; exact h9))
        (try simp only [zq1, zq2, zq3, Act.put, zq4, zq5, zq6])
        refine tc hSG 6 (v := .bool mb) rfl (by kernel_rfl) (fun _ _ _ h => h) (by rfl) ?_ hHeld ?_
        focus (intro wz hSw K hK; obtain ⟨q0, q1⟩ := hmv.out _ hSw; go_simp; go_at_call 51; refine (HM.out _).mono ?_; rintro e w2 ⟨rfl, hb2⟩; first | exact hK.out _ hb2 | (have h9 := hK.out _ hb2; (try simp only [zq1, zq2, zq3, Act.put, zq4, zq5, zq6] at h9 ⊢); exact h9) | (have h9 := hK.out _ hb2; go_simp; exact h9))
        (try simp only [zq1, zq2, zq3, Act.put, zq4, zq5, zq6])
        first
         | (refine tk hSG 7 (v := ?_) rfl (by kernel_rfl) (fun _ _ _ h => h) (by rfl) ?_ hHeld ?_; rotate_left; focus (intro w' hSw; obtain ⟨q0, q1⟩ := hmv.out _ hSw; go_simp; (try with_reducible rfl)))
         | refine tn hSG 7 rfl (by kernel_rfl) (fun _ _ _ h => h) (by rfl) hHeld ?_
        (try simp only [zq1, zq2, zq3, Act.put, zq4, zq5, zq6])
        refine wpAnyG_done (by kernel_rfl) (fun w9 hgD => ?_) _
        have hg9 : Gr W3 w9 := (grDrew W3).tr hgD
        clear hgD hSG hHeld
        clear q0 q1 hmv
        have hg9 := Lib.hid hg9
        cases mb with
        | true =>
          have h3 := Lib.hid (show R = false by rw [HR.out.1, ← H1.out]; rfl)
          go_wp2
          go_ret
          exact ⟨ret_b (by rw [h3.out]), Gr.tr HG.out (Gr.tr hW.out (Gr.tr hb2.out (Gr.tr G3.out hg9.out)))⟩
        | false =>
          have h3 := Lib.hid (show ((List.range n.c.length).drop (k + 1)).all (ipL n xs) = R1 by rw [← H1.out]; rfl)
          go_wp2
          go_roundg g9
          case rel => exact ⟨k + 1, by omega, by go_num, h3, Lib.hid (grBlk hg9.out (grBlk G3.out (grBlk hb2.out hB.out))), Lib.hid (Gr.tr hW.out (Gr.tr hb2.out (Gr.tr G3.out hg9.out)))⟩
          case measure => omega
    · have hR1 : R1 = true := by rw [← hS.out]; exact all_rend (by omega)
      have HR2 := Lib.hid (show R = R2 by rw [HR.out.1, hR1]; rfl)
      clear hR1 hS
      have a2x := a2
      rw [HAL.out] at a2x
      clear a2
      go_wp2
      go_loopg [37] (n.l.length) (fun gk s wy => ∃ k : Nat, k + gk = n.l.length ∧ s = .int .i64 k ∧ Hid (((List.range n.l.length).drop k).all (ipF n xs) = R2) ∧ Hid (wy.heap[w.heap.size]? = some (alB n a xs XA xm)) ∧ Hid (Gr W1 wy))
      case atStart => exact ⟨0, by omega, rfl, HR.out.2.2, hB.out, hW.out⟩
      case round =>
        clear hB hW a0 a1 a2x a3 hbl
        obtain ⟨p, hp, rfl, hS, hB, hW⟩ := hrel
        obtain ⟨a0, a1, a2, a3⟩ := cells4 hB.out
        by_cases hlp : p < n.l.length
        · obtain ⟨g9, rfl⟩ : ∃ g, gk = g + 1 := ⟨gk - 1, by omega⟩
          have hAl : Alc wr n a xs XA := HA.out.gr (Gr.tr HG.out hW.out)
          obtain ⟨gl, ol, rfl, hcl⟩ := (HI2.out.gr hW.out).addr (by omega)
          have c0 := hcl p _ (num_get hlp)
          have hkx : p < xs.length := by rw [HL.out.1, ← HL.out.2.1]; exact hlp
          obtain ⟨gx, ox, hXA, hcx⟩ := hAl.qs.addr (by omega)
          obtain ⟨q0, q1⟩ := hcx p _ (rat_get hkx)
          have h1 := hS.out
          rw [all_range hlp] at h1
          have e1 : ipF n xs p = !(decide (0 < num n.l p) && moreB (rat xs p) ⟨num n.l p, 1⟩) := rfl
          rw [e1] at h1
          have hq : IntKind.i64.wrap ((p : Int) + 1) = (p : Int) + 1 := IntWalk.i64_in _ (by have := HL.out; omega)
          have HM := Lib.hid (fun wx => isMore_any (rat xs p) ⟨num n.l p, 1⟩ wx)
          have e3 : decide (0 < (cmpM (rat xs p) ⟨num n.l p, 1⟩).1) = moreB (rat xs p) ⟨num n.l p, 1⟩ := rfl
          rw [e3] at HM
          generalize moreB (rat xs p) ⟨num n.l p, 1⟩ = mb at *
          generalize rat xs p = rq at *
          generalize num n.l p = lim at *
          have HWh := Lib.hid (fun wx => whole_any lim wx)
          have HXA := Lib.hid hXA
          clear hXA hS hcl hcx e1 e3 hAl
          have hbl := blkLt hB.out
          have hx3 := a3
          rw [HXA.out] at hx3
          clear a3 a2
          by_cases hpos : 0 < lim
          · have td : decide (0 < lim) = true := decide_eq_true hpos
            rw [td] at h1
            have H1 := Lib.hid h1
            clear h1
            go_upto_region 11 with fail
            refine wp_region_G (S := fun wq => Gr wr wq) (by kernel_rfl) (grDrew _) (fun hHeld => ?_)
            have hSG : Hid (∀ wp wq : World, Gr wr wp → Gr wp wq → Gr wr wq) := Lib.hid (fun _ _ h k => h.tr k)
            have hmv := Lib.hid (fun (wq : World) (hq : Gr wr wq) => And.intro (grCell hq hx3) (And.intro (grCell hq q0) (grCell hq q1)))
            first
             | (refine tk hSG 0 (v := ?_) rfl (by kernel_rfl) (fun _ _ _ h => h) (by rfl) ?_ hHeld ?_; rotate_left; focus (intro w' hSw; obtain ⟨hx3, q0, q1⟩ := hmv.out _ hSw; go_simp; (try with_reducible rfl)))
             | refine tn hSG 0 rfl (by kernel_rfl) (fun _ _ _ h => h) (by rfl) hHeld ?_
            (try simp only [zq1, zq2, zq3, Act.put, zq4, zq5, zq6])
            first
             | (refine tk hSG 1 (v := ?_) rfl (by kernel_rfl) (fun _ _ _ h => h) (by rfl) ?_ hHeld ?_; rotate_left; focus (intro w' hSw; obtain ⟨hx3, q0, q1⟩ := hmv.out _ hSw; go_simp; (try with_reducible rfl)))
             | refine tn hSG 1 rfl (by kernel_rfl) (fun _ _ _ h => h) (by rfl) hHeld ?_
            (try simp only [zq1, zq2, zq3, Act.put, zq4, zq5, zq6])
            first
             | (refine tk hSG 2 (v := ?_) rfl (by kernel_rfl) (fun _ _ _ h => h) (by rfl) ?_ hHeld ?_; rotate_left; focus (intro w' hSw; obtain ⟨hx3, q0, q1⟩ := hmv.out _ hSw; go_simp; (try with_reducible rfl)))
             | refine tn hSG 2 rfl (by kernel_rfl) (fun _ _ _ h => h) (by rfl) hHeld ?_
            (try simp only [zq1, zq2, zq3, Act.put, zq4, zq5, zq6])
            first
             | (refine tk hSG 3 (v := ?_) rfl (by kernel_rfl) (fun _ _ _ h => h) (by rfl) ?_ hHeld ?_; rotate_left; focus (intro w' hSw; obtain ⟨hx3, q0, q1⟩ := hmv.out _ hSw; go_simp; (try with_reducible rfl)))
             | refine tn hSG 3 rfl (by kernel_rfl) (fun _ _ _ h => h) (by rfl) hHeld ?_
            (try simp only [zq1, zq2, zq3, Act.put, zq4, zq5, zq6])
            first
             | (refine tk hSG 4 (v := ?_) rfl (by kernel_rfl) (fun _ _ _ h => h) (by rfl) ?_ hHeld ?_; rotate_left; focus (intro w' hSw; obtain ⟨hx3, q0, q1⟩ := hmv.out _ hSw; go_simp; (try with_reducible rfl)))
             | refine tn hSG 4 rfl (by kernel_rfl) (fun _ _ _ h => h) (by rfl) hHeld ?_
            (try simp only [zq1, zq2, zq3, Act.put, zq4, zq5, zq6])
            first
             | (refine tk hSG 5 (v := ?_) rfl (by kernel_rfl) (fun _ _ _ h => h) (by rfl) ?_ hHeld ?_; rotate_left; focus (intro w' hSw; obtain ⟨hx3, q0, q1⟩ := hmv.out _ hSw; go_simp; (try with_reducible rfl)))
             | refine tn hSG 5 rfl (by kernel_rfl) (fun _ _ _ h => h) (by rfl) hHeld ?_
            (try simp only [zq1, zq2, zq3, Act.put, zq4, zq5, zq6])
            refine tk hSG 6 (v := .pointer (some ⟨gx, ox + p * 2, none⟩)) rfl (by kernel_rfl) (fun _ _ _ h => h) (by rfl) ?_ hHeld ?_
            focus (intro w' hSw; obtain ⟨hx3, q0, q1⟩ := hmv.out _ hSw; go_simp; (try (intro hq; omega)))
            (try simp only [zq1, zq2, zq3, Act.put, zq4, zq5, zq6])
            first
             | (refine tk hSG 7 (v := ?_) rfl (by kernel_rfl) (fun _ _ _ h => h) (by rfl) ?_ hHeld ?_; rotate_left; focus (intro w' hSw; obtain ⟨hx3, q0, q1⟩ := hmv.out _ hSw; go_simp; (try with_reducible rfl)))
             | refine tn hSG 7 rfl (by kernel_rfl) (fun _ _ _ h => h) (by rfl) hHeld ?_
            (try simp only [zq1, zq2, zq3, Act.put, zq4, zq5, zq6])
            first
             | (refine tk hSG 8 (v := ?_) rfl (by kernel_rfl) (fun _ _ _ h => h) (by rfl) ?_ hHeld ?_; rotate_left; focus (intro w' hSw; obtain ⟨hx3, q0, q1⟩ := hmv.out _ hSw; go_simp; (try with_reducible rfl)))
             | refine tn hSG 8 rfl (by kernel_rfl) (fun _ _ _ h => h) (by rfl) hHeld ?_
            (try simp only [zq1, zq2, zq3, Act.put, zq4, zq5, zq6])
            refine tc hSG 9 (v := qv ⟨lim, 1⟩) rfl (by kernel_rfl) (fun _ _ _ h => h) (by rfl) ?_ hHeld ?_
            focus (intro wz hSw K hK; obtain ⟨hx3, q0, q1⟩ := hmv.out _ hSw; go_simp; go_at_call 52; refine (HWh.out _).mono ?_; rintro e w2 ⟨rfl, hb2⟩; first | exact hK.out _ hb2 | (have h9 := hK.out _ hb2; (try simp only [zq1, zq2, zq3, Act.put, zq4, zq5, zq6] at h9 ⊢); exact h9) | (have h9 := hK.out _ hb2; go_simp; exact h9))
            (try simp only [zq1, zq2, zq3, Act.put, zq4, zq5, zq6])
            refine tc hSG 10 (v := .bool mb) rfl (by kernel_rfl) (fun _ _ _ h => h) (by rfl) ?_ hHeld ?_
            focus (intro wz hSw K hK; obtain ⟨hx3, q0, q1⟩ := hmv.out _ hSw; go_simp; go_at_call 51; refine (HM.out _).mono ?_; rintro e w2 ⟨rfl, hb2⟩; first | exact hK.out _ hb2 | (have h9 := hK.out _ hb2; (try simp only [zq1, zq2, zq3, Act.put, zq4, zq5, zq6] at h9 ⊢); exact h9) | (have h9 := hK.out _ hb2; go_simp; exact h9))
            (try simp only [zq1, zq2, zq3, Act.put, zq4, zq5, zq6])
            first
             | (refine tk hSG 11 (v := ?_) rfl (by kernel_rfl) (fun _ _ _ h => h) (by rfl) ?_ hHeld ?_; rotate_left; focus (intro w' hSw; obtain ⟨hx3, q0, q1⟩ := hmv.out _ hSw; go_simp; (try with_reducible rfl)))
             | refine tn hSG 11 rfl (by kernel_rfl) (fun _ _ _ h => h) (by rfl) hHeld ?_
            (try simp only [zq1, zq2, zq3, Act.put, zq4, zq5, zq6])
            refine wpAnyG_done (by kernel_rfl) (fun w9 hgD => ?_) _
            have hg9 : Gr wr w9 := (grDrew wr).tr hgD
            clear hgD hSG hHeld
            clear hx3 q0 q1 hmv
            have hg9 := Lib.hid hg9
            cases mb with
            | true =>
              have h3 := Lib.hid (show R = false by rw [HR2.out, ← H1.out]; rfl)
              go_wp2
              go_ret
              exact ⟨ret_b (by rw [h3.out]), Gr.tr HG.out (Gr.tr hW.out hg9.out)⟩
            | false =>
              have h3 := Lib.hid (show ((List.range n.l.length).drop (p + 1)).all (ipF n xs) = R2 by rw [← H1.out]; rfl)
              go_wp2
              go_roundg g9
              case rel => exact ⟨p + 1, by omega, by go_num, h3, Lib.hid (grBlk hg9.out hB.out), Lib.hid (Gr.tr hW.out hg9.out)⟩
              case measure => omega
          · have td : decide (0 < lim) = false := decide_eq_false hpos
            rw [td] at h1
            have h3 := Lib.hid (show ((List.range n.l.length).drop (p + 1)).all (ipF n xs) = R2 by rw [← h1]; rfl)
            clear h1 hx3 HWh HM
            go_upto_region 11 with fail
            refine wp_region_G (S := fun wq => Gr wr wq) (by kernel_rfl) (grDrew _) (fun hHeld => ?_)
            have hSG : Hid (∀ wp wq : World, Gr wr wp → Gr wp wq → Gr wr wq) := Lib.hid (fun _ _ h k => h.tr k)
            have hmv := Lib.hid (fun (wq : World) (hq : Gr wr wq) => And.intro (grCell hq q0) (grCell hq q1))
            first
             | (refine tk hSG 0 (v := ?_) rfl (by kernel_rfl) (fun _ _ _ h => h) (by rfl) ?_ hHeld ?_; rotate_left; focus (intro w' hSw; obtain ⟨q0, q1⟩ := hmv.out _ hSw; go_simp; (try with_reducible rfl)))
             | refine tn hSG 0 rfl (by kernel_rfl) (fun _ _ _ h => h) (by rfl) hHeld ?_
            (try simp only [zq1, zq2, zq3, Act.put, zq4, zq5, zq6])
            first
             | (refine tk hSG 1 (v := ?_) rfl (by kernel_rfl) (fun _ _ _ h => h) (by rfl) ?_ hHeld ?_; rotate_left; focus (intro w' hSw; obtain ⟨q0, q1⟩ := hmv.out _ hSw; go_simp; (try with_reducible rfl)))
             | refine tn hSG 1 rfl (by kernel_rfl) (fun _ _ _ h => h) (by rfl) hHeld ?_
            (try simp only [zq1, zq2, zq3, Act.put, zq4, zq5, zq6])
            first
             | (refine tk hSG 2 (v := ?_) rfl (by kernel_rfl) (fun _ _ _ h => h) (by rfl) ?_ hHeld ?_; rotate_left; focus (intro w' hSw; obtain ⟨q0, q1⟩ := hmv.out _ hSw; go_simp; (try with_reducible rfl)))
             | refine tn hSG 2 rfl (by kernel_rfl) (fun _ _ _ h => h) (by rfl) hHeld ?_
            (try simp only [zq1, zq2, zq3, Act.put, zq4, zq5, zq6])
            first
             | (refine tk hSG 3 (v := ?_) rfl (by kernel_rfl) (fun _ _ _ h => h) (by rfl) ?_ hHeld ?_; rotate_left; focus (intro w' hSw; obtain ⟨q0, q1⟩ := hmv.out _ hSw; go_simp; (try with_reducible rfl)))
             | refine tn hSG 3 rfl (by kernel_rfl) (fun _ _ _ h => h) (by rfl) hHeld ?_
            (try simp only [zq1, zq2, zq3, Act.put, zq4, zq5, zq6])
            first
             | (refine tk hSG 4 (v := ?_) rfl (by kernel_rfl) (fun _ _ _ h => h) (by rfl) ?_ hHeld ?_; rotate_left; focus (intro w' hSw; obtain ⟨q0, q1⟩ := hmv.out _ hSw; go_simp; (try with_reducible rfl)))
             | refine tn hSG 4 rfl (by kernel_rfl) (fun _ _ _ h => h) (by rfl) hHeld ?_
            (try simp only [zq1, zq2, zq3, Act.put, zq4, zq5, zq6])
            first
             | (refine tk hSG 5 (v := ?_) rfl (by kernel_rfl) (fun _ _ _ h => h) (by rfl) ?_ hHeld ?_; rotate_left; focus (intro w' hSw; obtain ⟨q0, q1⟩ := hmv.out _ hSw; go_simp; (try with_reducible rfl)))
             | refine tn hSG 5 rfl (by kernel_rfl) (fun _ _ _ h => h) (by rfl) hHeld ?_
            (try simp only [zq1, zq2, zq3, Act.put, zq4, zq5, zq6])
            first
             | (refine tk hSG 6 (v := ?_) rfl (by kernel_rfl) (fun _ _ _ h => h) (by rfl) ?_ hHeld ?_; rotate_left; focus (intro w' hSw; obtain ⟨q0, q1⟩ := hmv.out _ hSw; go_simp; (try with_reducible rfl)))
             | refine tn hSG 6 rfl (by kernel_rfl) (fun _ _ _ h => h) (by rfl) hHeld ?_
            (try simp only [zq1, zq2, zq3, Act.put, zq4, zq5, zq6])
            first
             | (refine tk hSG 7 (v := ?_) rfl (by kernel_rfl) (fun _ _ _ h => h) (by rfl) ?_ hHeld ?_; rotate_left; focus (intro w' hSw; obtain ⟨q0, q1⟩ := hmv.out _ hSw; go_simp; (try with_reducible rfl)))
             | refine tn hSG 7 rfl (by kernel_rfl) (fun _ _ _ h => h) (by rfl) hHeld ?_
            (try simp only [zq1, zq2, zq3, Act.put, zq4, zq5, zq6])
            first
             | (refine tk hSG 8 (v := ?_) rfl (by kernel_rfl) (fun _ _ _ h => h) (by rfl) ?_ hHeld ?_; rotate_left; focus (intro w' hSw; obtain ⟨q0, q1⟩ := hmv.out _ hSw; go_simp; (try with_reducible rfl)))
             | refine tn hSG 8 rfl (by kernel_rfl) (fun _ _ _ h => h) (by rfl) hHeld ?_
            (try simp only [zq1, zq2, zq3, Act.put, zq4, zq5, zq6])
            first
             | (refine tk hSG 9 (v := ?_) rfl (by kernel_rfl) (fun _ _ _ h => h) (by rfl) ?_ hHeld ?_; rotate_left; focus (intro w' hSw; obtain ⟨q0, q1⟩ := hmv.out _ hSw; go_simp; (try with_reducible rfl)))
             | refine tn hSG 9 rfl (by kernel_rfl) (fun _ _ _ h => h) (by rfl) hHeld ?_
            (try simp only [zq1, zq2, zq3, Act.put, zq4, zq5, zq6])
            first
             | (refine tk hSG 10 (v := ?_) rfl (by kernel_rfl) (fun _ _ _ h => h) (by rfl) ?_ hHeld ?_; rotate_left; focus (intro w' hSw; obtain ⟨q0, q1⟩ := hmv.out _ hSw; go_simp; (try with_reducible rfl)))
             | refine tn hSG 10 rfl (by kernel_rfl) (fun _ _ _ h => h) (by rfl) hHeld ?_
            (try simp only [zq1, zq2, zq3, Act.put, zq4, zq5, zq6])
            first
             | (refine tk hSG 11 (v := ?_) rfl (by kernel_rfl) (fun _ _ _ h => h) (by rfl) ?_ hHeld ?_; rotate_left; focus (intro w' hSw; obtain ⟨q0, q1⟩ := hmv.out _ hSw; go_simp; (try with_reducible rfl)))
             | refine tn hSG 11 rfl (by kernel_rfl) (fun _ _ _ h => h) (by rfl) hHeld ?_
            (try simp only [zq1, zq2, zq3, Act.put, zq4, zq5, zq6])
            refine wpAnyG_done (by kernel_rfl) (fun w9 hgD => ?_) _
            have hg9 : Gr wr w9 := (grDrew wr).tr hgD
            clear hgD hSG hHeld
            clear q0 q1 hmv
            have hg9 := Lib.hid hg9
            go_wp2
            go_roundg g9
            case rel => exact ⟨p + 1, by omega, by go_num, h3, Lib.hid (grBlk hg9.out hB.out), Lib.hid (Gr.tr hW.out hg9.out)⟩
            case measure => omega
        · have hR2 : R2 = true := by rw [← hS.out]; exact all_rend (by omega)
          have H3 := Lib.hid (show R = true by rw [HR2.out, hR2])
          clear hR2
          go_wp2
          go_ret
          exact ⟨ret_b (by rw [H3.out]), Gr.tr HG.out hW.out⟩
end Go.Proofs.Ytbjhdfakocfapaa
