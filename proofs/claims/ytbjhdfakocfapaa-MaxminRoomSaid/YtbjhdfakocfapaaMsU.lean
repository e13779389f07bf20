/- Package maxmin: whether each flow has a stop. -/
import Derived.Test.YtbjhdfakocfapaaMsT
namespace Go.Proofs.Ytbjhdfakocfapaa
open Go.RowKit
set_option linter.unusedVariables false
set_option linter.unusedSimpArgs false
theorem all_range {p : Nat → Bool} {N k : Nat} (h : k < N) : ((List.range N).drop k).all p = (p k && ((List.range N).drop (k + 1)).all p) := by
  rw [all_drop (by simpa using h), List.getElem_range]
theorem all_rend {p : Nat → Bool} {N k : Nat} (h : N ≤ k) : ((List.range N).drop k).all p = true := all_end (by simpa using h)
def limEq (n : Net) (xs : List Q) (i : Nat) : Bool := qEq (rat xs i) ⟨num n.l i, 1⟩
def saB (n : Net) (xs : List Q) (i : Nat) : Bool := (decide (0 < num n.l i) && limEq n xs i) || hsM n xs i
def saM (n : Net) (xs : List Q) : Bool := (List.range n.l.length).all (saB n xs)
set_option maxHeartbeats 4000000 in
set_option maxRecDepth 100000 in
theorem stopsAll_any (n : Net) (a : NetA) (xs : List Q) (XA : Option Addr) (xm : Nat) (hrl : ∀ r ∈ n.f, ∀ l ∈ r, 0 ≤ l ∧ l < n.c.length) (w : World) (hA : Alc w n a xs XA) :
    Calls Try.prog 34 #[alv n a xs XA xm] w (VV (.bool (saM n xs)) w) := by
  obtain ⟨W1, hW1⟩ : ∃ W1, W1 = w.alloc (alB n a xs XA xm) := ⟨_, rfl⟩
  have G1 : Gr w W1 := by rw [hW1]; exact grAlloc _ _
  have A1 : W1.heap[w.heap.size]? = some (alB n a xs XA xm) := by rw [hW1]; exact newBlk _ _ _ rfl
  obtain ⟨a0, a1, a2, a3⟩ := cells4 A1
  have HH := Lib.hid (fun i hi wx hx => hasStop_any n a xs XA xm i hi hrl wx hx)
  have HA := Lib.hid hA
  have HG := Lib.hid G1
  have HB := Lib.hid A1
  have hlx := hA.lx
  have hNL := hA.hNL
  have hN := hA.hN
  have HL := Lib.hid (And.intro hlx (And.intro hNL hN))
  have hI1 := (hA.gr G1).net.2.2
  obtain ⟨AL, hAL⟩ : ∃ AL, a.la = AL := ⟨_, rfl⟩
  rw [hAL] at a2 hI1
  have HI1 := Lib.hid hI1
  clear hAL hI1
  clear hA hrl G1 A1 hlx hN hNL
  go_enter Try.func34, Try.ntmps34
  go_upto_region 1 with fail
  rw [← hW1]
  clear hW1
  go_wp2
  go_loopg [9] (n.l.length) (fun gk s wr => ∃ k : Nat, k + gk = n.l.length ∧ s = .int .i64 k ∧ Hid (((List.range n.l.length).drop k).all (saB n xs) = saM n xs) ∧ Hid (wr.heap[w.heap.size]? = some (alB n a xs XA xm)) ∧ Hid (Gr W1 wr))
  case atStart => exact ⟨0, by omega, rfl, rfl, HB.out, Below.refl _ _⟩
  case round =>
    obtain ⟨k, hk, rfl, hS, hB, hW⟩ := hrel
    clear a0 a1 a2 a3
    obtain ⟨a0, a1, a2, a3⟩ := cells4 hB.out
    by_cases hlt : k < n.l.length
    · obtain ⟨g9, rfl⟩ : ∃ g, gk = g + 1 := ⟨gk - 1, by omega⟩
      have hAl : Alc wr n a xs XA := HA.out.gr (Gr.tr HG.out hW.out)
      obtain ⟨gl, ol, rfl, hcl⟩ := (HI1.out.gr hW.out).addr (by omega)
      have c0 := hcl k _ (num_get hlt)
      have hkx : k < xs.length := by rw [HL.out.1, ← HL.out.2.1]; exact hlt
      obtain ⟨gx, ox, hXA, hcx⟩ := hAl.qs.addr (by omega)
      obtain ⟨q0, q1⟩ := hcx k _ (rat_get hkx)
      have h1 := hS.out
      rw [all_range hlt] at h1
      have e1 : saB n xs k = ((decide (0 < num n.l k) && limEq n xs k) || hsM n xs k) := rfl
      have e2 : limEq n xs k = qEq (rat xs k) ⟨num n.l k, 1⟩ := rfl
      rw [e1, e2] at h1
      have HH1 := Lib.hid (fun wx hg => HH.out k (by rw [← HL.out.1]; exact hkx) wx (hAl.gr hg))
      have hq : IntKind.i64.wrap ((k : Int) + 1) = (k : Int) + 1 := IntWalk.i64_in _ (by have := HL.out; omega)
      have hqe : ∀ wx, (Op.equalIn 10000 35 (.agg #[.int .i64 (rat xs k).n, .int .i64 (rat xs k).d]) (.agg #[.int .i64 (num n.l k), .int .i64 1])).run Try.prog wx = .ok (qEq (rat xs k) ⟨num n.l k, 1⟩) wx := run_q_eq (rat xs k) ⟨num n.l k, 1⟩
      generalize qEq (rat xs k) ⟨num n.l k, 1⟩ = eq at *
      generalize rat xs k = rq at *
      generalize num n.l k = lim at *
      generalize hsM n xs k = hs at *
      have HWh := Lib.hid (fun wx => whole_any lim wx)
      have HXA := Lib.hid hXA
      clear hXA hS hcl hcx e1 e2 hAl
      have hbl := blkLt hB.out
      have next : ∀ (wx : World), Hid (((List.range n.l.length).drop (k + 1)).all (saB n xs) = saM n xs) → Gr wr wx → True := fun _ _ _ => trivial
      clear next
      by_cases hpos : 0 < lim
      · have td : decide (0 < lim) = true := decide_eq_true hpos
        rw [td] at h1
        clear a2
        have hx3 := a3
        rw [HXA.out] at hx3
        clear a3
        have H1 := Lib.hid h1
        clear h1
        go_upto_region 4 with fail
        refine wp_region_G (S := fun wq => Gr wr wq) (by kernel_rfl) (grDrew _) (fun hHeld => ?_)
        have hSG : Hid (∀ wp wq : World, Gr wr wp → Gr wp wq → Gr wr wq) := Lib.hid (fun _ _ h k => h.tr k)
        have hmv := Lib.hid (fun (wq : World) (hq : Gr wr wq) => And.intro (grCell hq hx3) (And.intro (grCell hq q0) (grCell hq q1)))
        first
         | (refine tk hSG 0 (v := ?_) rfl (by kernel_rfl) (fun _ _ _ h => h) (by rfl) ?_ hHeld ?_; rotate_left; focus (intro w' hSw; obtain ⟨hx3, q0, q1⟩ := hmv.out _ hSw; go_simp; (try with_reducible rfl)))
         | refine tn hSG 0 rfl (by kernel_rfl) (fun _ _ _ h => h) (by rfl) hHeld ?_
        (try simp only [zq1, zq2, zq3, Act.put, zq4, zq5, zq6])
        first
         | (refine tk hSG 1 (v := ?_) rfl (by kernel_rfl) (fun _ _ _ h => h) (by rfl) ?_ hHeld ?_; rotate_left; focus (intro w' hSw; obtain ⟨hx3, q0, q1⟩ := hmv.out _ hSw; go_simp; (try with_reducible rfl)))
         | refine tn hSG 1 rfl (by kernel_rfl) (fun _ _ _ h => h) (by rfl) hHeld ?_
        (try simp only [zq1, zq2, zq3, Act.put, zq4, zq5, zq6])
        first
         | (refine tk hSG 2 (v := ?_) rfl (by kernel_rfl) (fun _ _ _ h => h) (by rfl) ?_ hHeld ?_; rotate_left; focus (intro w' hSw; obtain ⟨hx3, q0, q1⟩ := hmv.out _ hSw; go_simp; (try with_reducible rfl)))
         | refine tn hSG 2 rfl (by kernel_rfl) (fun _ _ _ h => h) (by rfl) hHeld ?_
        (try simp only [zq1, zq2, zq3, Act.put, zq4, zq5, zq6])
        first
         | (refine tk hSG 3 (v := ?_) rfl (by kernel_rfl) (fun _ _ _ h => h) (by rfl) ?_ hHeld ?_; rotate_left; focus (intro w' hSw; obtain ⟨hx3, q0, q1⟩ := hmv.out _ hSw; go_simp; (try with_reducible rfl)))
         | refine tn hSG 3 rfl (by kernel_rfl) (fun _ _ _ h => h) (by rfl) hHeld ?_
        (try simp only [zq1, zq2, zq3, Act.put, zq4, zq5, zq6])
        first
         | (refine tk hSG 4 (v := ?_) rfl (by kernel_rfl) (fun _ _ _ h => h) (by rfl) ?_ hHeld ?_; rotate_left; focus (intro w' hSw; obtain ⟨hx3, q0, q1⟩ := hmv.out _ hSw; go_simp; (try with_reducible rfl)))
         | refine tn hSG 4 rfl (by kernel_rfl) (fun _ _ _ h => h) (by rfl) hHeld ?_
        (try simp only [zq1, zq2, zq3, Act.put, zq4, zq5, zq6])
        first
         | (refine tk hSG 5 (v := ?_) rfl (by kernel_rfl) (fun _ _ _ h => h) (by rfl) ?_ hHeld ?_; rotate_left; focus (intro w' hSw; obtain ⟨hx3, q0, q1⟩ := hmv.out _ hSw; go_simp; (try with_reducible rfl)))
         | refine tn hSG 5 rfl (by kernel_rfl) (fun _ _ _ h => h) (by rfl) hHeld ?_
        (try simp only [zq1, zq2, zq3, Act.put, zq4, zq5, zq6])
        refine tk hSG 6 (v := .pointer (some ⟨gx, ox + k * 2, none⟩)) rfl (by kernel_rfl) (fun _ _ _ h => h) (by rfl) ?_ hHeld ?_
        focus (intro w' hSw; obtain ⟨hx3, q0, q1⟩ := hmv.out _ hSw; go_simp; (try (intro hq; omega)))
        (try simp only [zq1, zq2, zq3, Act.put, zq4, zq5, zq6])
        first
         | (refine tk hSG 7 (v := ?_) rfl (by kernel_rfl) (fun _ _ _ h => h) (by rfl) ?_ hHeld ?_; rotate_left; focus (intro w' hSw; obtain ⟨hx3, q0, q1⟩ := hmv.out _ hSw; go_simp; (try with_reducible rfl)))
         | refine tn hSG 7 rfl (by kernel_rfl) (fun _ _ _ h => h) (by rfl) hHeld ?_
        (try simp only [zq1, zq2, zq3, Act.put, zq4, zq5, zq6])
        first
         | (refine tk hSG 8 (v := ?_) rfl (by kernel_rfl) (fun _ _ _ h => h) (by rfl) ?_ hHeld ?_; rotate_left; focus (intro w' hSw; obtain ⟨hx3, q0, q1⟩ := hmv.out _ hSw; go_simp; (try with_reducible rfl)))
         | refine tn hSG 8 rfl (by kernel_rfl) (fun _ _ _ h => h) (by rfl) hHeld ?_
        (try simp only [zq1, zq2, zq3, Act.put, zq4, zq5, zq6])
        refine tc hSG 9 (v := qv ⟨lim, 1⟩) rfl (by kernel_rfl) (fun _ _ _ h => h) (by rfl) ?_ hHeld ?_
        focus (intro wz hSw K hK; obtain ⟨hx3, q0, q1⟩ := hmv.out _ hSw; go_simp; go_at_call 52; refine (HWh.out _).mono ?_; rintro e w2 ⟨rfl, hb2⟩; first | exact hK.out _ hb2 | (have h9 := hK.out _ hb2; (try simp only [zq1, zq2, zq3, Act.put, zq4, zq5, zq6] at h9 ⊢); exact h9) | (have h9 := hK.out _ hb2; go_simp; exact h9))
        (try simp only [zq1, zq2, zq3, Act.put, zq4, zq5, zq6])
        refine tk hSG 10 (v := .bool eq) rfl (by kernel_rfl) (fun _ _ _ h => h) (by rfl) ?_ hHeld ?_
        focus (intro w' hSw; obtain ⟨hx3, q0, q1⟩ := hmv.out _ hSw; go_simp)
        (try simp only [zq1, zq2, zq3, Act.put, zq4, zq5, zq6])
        first
         | (refine tk hSG 11 (v := ?_) rfl (by kernel_rfl) (fun _ _ _ h => h) (by rfl) ?_ hHeld ?_; rotate_left; focus (intro w' hSw; obtain ⟨hx3, q0, q1⟩ := hmv.out _ hSw; go_simp; (try with_reducible rfl)))
         | refine tn hSG 11 rfl (by kernel_rfl) (fun _ _ _ h => h) (by rfl) hHeld ?_
        (try simp only [zq1, zq2, zq3, Act.put, zq4, zq5, zq6])
        refine wpAnyG_done (by kernel_rfl) (fun w9 hgD => ?_) _
        have hg9 : Gr wr w9 := (grDrew wr).tr hgD
        clear hgD hSG hHeld
        clear hx3 q0 q1 hmv
        have hg9 := Lib.hid hg9
        obtain ⟨a0, a1, a2, a3⟩ := cells4 (grBlk hg9.out hB.out)
        have HH2 := Lib.hid (HH1.out w9 hg9.out)
        cases eq with
        | true =>
          have h3 := Lib.hid (show ((List.range n.l.length).drop (k + 1)).all (saB n xs) = saM n xs by rw [← H1.out]; rfl)
          go_wp2
          go_roundg g9
          case rel => exact ⟨k + 1, by omega, by go_num, h3, Lib.hid (grBlk hg9.out hB.out), Lib.hid (Gr.tr hW.out hg9.out)⟩
          case measure => omega
        | false =>
          cases hs with
          | true =>
            have h3 := Lib.hid (show ((List.range n.l.length).drop (k + 1)).all (saB n xs) = saM n xs by rw [← H1.out]; rfl)
            go_wp2_with (go_at_call 53; refine HH2.out.mono ?_; rintro e w2 ⟨rfl, hb2⟩; have hb2 := Lib.hid hb2)
            go_roundg g9
            case rel => exact ⟨k + 1, by omega, by go_num, h3, Lib.hid (grBlk hb2.out (grBlk hg9.out hB.out)), Lib.hid (Gr.tr hW.out (Gr.tr hg9.out hb2.out))⟩
            case measure => omega
          | false =>
            have h3 := Lib.hid (show saM n xs = false by rw [← H1.out]; rfl)
            go_wp2_with (go_at_call 53; refine HH2.out.mono ?_; rintro e w2 ⟨rfl, hb2⟩; have hb2 := Lib.hid hb2)
            go_ret
            exact ⟨ret_b (by rw [h3.out]), Gr.tr HG.out (Gr.tr hW.out (Gr.tr hg9.out hb2.out))⟩
      · have td : decide (0 < lim) = false := decide_eq_false hpos
        rw [td] at h1
        have H1 := Lib.hid h1
        clear h1 a2 a3 HWh
        go_upto_region 4 with fail
        refine wp_region_G (S := fun wq => Gr wr wq) (by kernel_rfl) (grDrew _) (fun hHeld => ?_)
        have hSG : Hid (∀ wp wq : World, Gr wr wp → Gr wp wq → Gr wr wq) := Lib.hid (fun _ _ h k => h.tr k)
        have hmv := Lib.hid (fun (wq : World) (hq : Gr wr wq) => And.intro (grCell hq q0) (grCell hq q1))
        first
         | (refine tk hSG 0 (v := ?_) rfl (by kernel_rfl) (fun _ _ _ h => h) (by rfl) ?_ hHeld ?_; rotate_left; focus (intro w' hSw; obtain ⟨q0, q1⟩ := hmv.out _ hSw; go_simp; (try with_reducible rfl)))
         | refine tn hSG 0 rfl (by kernel_rfl) (fun _ _ _ h => h) (by rfl) hHeld ?_
        (try simp only [zq1, zq2, zq3, Act.put, zq4, zq5, zq6])
        first
         | (refine tk hSG 1 (v := ?_) rfl (by kernel_rfl) (fun _ _ _ h => h) (by rfl) ?_ hHeld ?_; rotate_left; focus (intro w' hSw; obtain ⟨q0, q1⟩ := hmv.out _ hSw; go_simp; (try with_reducible rfl)))
         | refine tn hSG 1 rfl (by kernel_rfl) (fun _ _ _ h => h) (by rfl) hHeld ?_
        (try simp only [zq1, zq2, zq3, Act.put, zq4, zq5, zq6])
        first
         | (refine tk hSG 2 (v := ?_) rfl (by kernel_rfl) (fun _ _ _ h => h) (by rfl) ?_ hHeld ?_; rotate_left; focus (intro w' hSw; obtain ⟨q0, q1⟩ := hmv.out _ hSw; go_simp; (try with_reducible rfl)))
         | refine tn hSG 2 rfl (by kernel_rfl) (fun _ _ _ h => h) (by rfl) hHeld ?_
        (try simp only [zq1, zq2, zq3, Act.put, zq4, zq5, zq6])
        first
         | (refine tk hSG 3 (v := ?_) rfl (by kernel_rfl) (fun _ _ _ h => h) (by rfl) ?_ hHeld ?_; rotate_left; focus (intro w' hSw; obtain ⟨q0, q1⟩ := hmv.out _ hSw; go_simp; (try with_reducible rfl)))
         | refine tn hSG 3 rfl (by kernel_rfl) (fun _ _ _ h => h) (by rfl) hHeld ?_
        (try simp only [zq1, zq2, zq3, Act.put, zq4, zq5, zq6])
        first
         | (refine tk hSG 4 (v := ?_) rfl (by kernel_rfl) (fun _ _ _ h => h) (by rfl) ?_ hHeld ?_; rotate_left; focus (intro w' hSw; obtain ⟨q0, q1⟩ := hmv.out _ hSw; go_simp; (try with_reducible rfl)))
         | refine tn hSG 4 rfl (by kernel_rfl) (fun _ _ _ h => h) (by rfl) hHeld ?_
        (try simp only [zq1, zq2, zq3, Act.put, zq4, zq5, zq6])
        first
         | (refine tk hSG 5 (v := ?_) rfl (by kernel_rfl) (fun _ _ _ h => h) (by rfl) ?_ hHeld ?_; rotate_left; focus (intro w' hSw; obtain ⟨q0, q1⟩ := hmv.out _ hSw; go_simp; (try with_reducible rfl)))
         | refine tn hSG 5 rfl (by kernel_rfl) (fun _ _ _ h => h) (by rfl) hHeld ?_
        (try simp only [zq1, zq2, zq3, Act.put, zq4, zq5, zq6])
        first
         | (refine tk hSG 6 (v := ?_) rfl (by kernel_rfl) (fun _ _ _ h => h) (by rfl) ?_ hHeld ?_; rotate_left; focus (intro w' hSw; obtain ⟨q0, q1⟩ := hmv.out _ hSw; go_simp; (try with_reducible rfl)))
         | refine tn hSG 6 rfl (by kernel_rfl) (fun _ _ _ h => h) (by rfl) hHeld ?_
        (try simp only [zq1, zq2, zq3, Act.put, zq4, zq5, zq6])
        first
         | (refine tk hSG 7 (v := ?_) rfl (by kernel_rfl) (fun _ _ _ h => h) (by rfl) ?_ hHeld ?_; rotate_left; focus (intro w' hSw; obtain ⟨q0, q1⟩ := hmv.out _ hSw; go_simp; (try with_reducible rfl)))
         | refine tn hSG 7 rfl (by kernel_rfl) (fun _ _ _ h => h) (by rfl) hHeld ?_
        (try simp only [zq1, zq2, zq3, Act.put, zq4, zq5, zq6])
        first
         | (refine tk hSG 8 (v := ?_) rfl (by kernel_rfl) (fun _ _ _ h => h) (by rfl) ?_ hHeld ?_; rotate_left; focus (intro w' hSw; obtain ⟨q0, q1⟩ := hmv.out _ hSw; go_simp; (try with_reducible rfl)))
         | refine tn hSG 8 rfl (by kernel_rfl) (fun _ _ _ h => h) (by rfl) hHeld ?_
        (try simp only [zq1, zq2, zq3, Act.put, zq4, zq5, zq6])
        first
         | (refine tk hSG 9 (v := ?_) rfl (by kernel_rfl) (fun _ _ _ h => h) (by rfl) ?_ hHeld ?_; rotate_left; focus (intro w' hSw; obtain ⟨q0, q1⟩ := hmv.out _ hSw; go_simp; (try with_reducible rfl)))
         | refine tn hSG 9 rfl (by kernel_rfl) (fun _ _ _ h => h) (by rfl) hHeld ?_
        (try simp only [zq1, zq2, zq3, Act.put, zq4, zq5, zq6])
        first
         | (refine tk hSG 10 (v := ?_) rfl (by kernel_rfl) (fun _ _ _ h => h) (by rfl) ?_ hHeld ?_; rotate_left; focus (intro w' hSw; obtain ⟨q0, q1⟩ := hmv.out _ hSw; go_simp; (try with_reducible rfl)))
         | refine tn hSG 10 rfl (by kernel_rfl) (fun _ _ _ h => h) (by rfl) hHeld ?_
        (try simp only [zq1, zq2, zq3, Act.put, zq4, zq5, zq6])
        first
         | (refine tk hSG 11 (v := ?_) rfl (by kernel_rfl) (fun _ _ _ h => h) (by rfl) ?_ hHeld ?_; rotate_left; focus (intro w' hSw; obtain ⟨q0, q1⟩ := hmv.out _ hSw; go_simp; (try with_reducible rfl)))
         | refine tn hSG 11 rfl (by kernel_rfl) (fun _ _ _ h => h) (by rfl) hHeld ?_
        (try simp only [zq1, zq2, zq3, Act.put, zq4, zq5, zq6])
        refine wpAnyG_done (by kernel_rfl) (fun w9 hgD => ?_) _
        have hg9 : Gr wr w9 := (grDrew wr).tr hgD
        clear hgD hSG hHeld
        clear q0 q1 hmv
        have hg9 := Lib.hid hg9
        obtain ⟨a0, a1, a2, a3⟩ := cells4 (grBlk hg9.out hB.out)
        have HH2 := Lib.hid (HH1.out w9 hg9.out)
        cases hs with
        | true =>
          have h3 := Lib.hid (show ((List.range n.l.length).drop (k + 1)).all (saB n xs) = saM n xs by rw [← H1.out]; rfl)
          go_wp2_with (go_at_call 53; refine HH2.out.mono ?_; rintro e w2 ⟨rfl, hb2⟩; have hb2 := Lib.hid hb2)
          go_roundg g9
          case rel => exact ⟨k + 1, by omega, by go_num, h3, Lib.hid (grBlk hb2.out (grBlk hg9.out hB.out)), Lib.hid (Gr.tr hW.out (Gr.tr hg9.out hb2.out))⟩
          case measure => omega
        | false =>
          have h3 := Lib.hid (show saM n xs = false by rw [← H1.out]; rfl)
          go_wp2_with (go_at_call 53; refine HH2.out.mono ?_; rintro e w2 ⟨rfl, hb2⟩; have hb2 := Lib.hid hb2)
          go_ret
          exact ⟨ret_b (by rw [h3.out]), Gr.tr HG.out (Gr.tr hW.out (Gr.tr hg9.out hb2.out))⟩
    · have h3 := Lib.hid ((all_rend (p := saB n xs) (N := n.l.length) (k := k) (by omega)).symm.trans hS.out)
      go_wp2
      go_ret
      exact ⟨ret_b (by rw [← h3.out]), Gr.tr HG.out hW.out⟩
end Go.Proofs.Ytbjhdfakocfapaa
