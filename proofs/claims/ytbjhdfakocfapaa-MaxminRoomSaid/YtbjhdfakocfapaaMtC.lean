/- The reference implementation of layer 13: Valid. -/
import Derived.Test.YtbjhdfakocfapaaMtA
namespace Go.Proofs.Ytbjhdfakocfapaa
open Go.RowKit
set_option linter.unusedVariables false
set_option linter.unusedSimpArgs false
theorem valid_iff13 {n : Net} : validB n = true ↔ n.c.length ≤ 8 ∧ n.f.length ≤ 8 ∧ n.l.length = n.f.length ∧ (∀ r ∈ n.f, linksB n.c.length r = true) ∧ (∀ c ∈ n.c, capB c = true) ∧ (∀ c ∈ n.l, capB c = true) := by
  simp only [validB, sizeB, capsB, Bool.and_eq_true, decide_eq_true_eq, List.all_eq_true]
  exact ⟨fun h => ⟨h.1.1.1, h.1.1.2, h.1.2, h.2.1, h.2.2.1, h.2.2.2⟩, fun h => ⟨⟨⟨h.1, h.2.1⟩, h.2.2.1⟩, h.2.2.2.1, h.2.2.2.2.1, h.2.2.2.2.2⟩⟩
theorem valid_not13 {n : Net} (h : validB n = true → False) : validB n = false := by
  cases hv : validB n
  · rfl
  · exact absurd (h hv) id
theorem num_mem {l : List Int} {i : Nat} (h : i < l.length) : num l i ∈ l := by
  have e : num l i = l[i] := by simp [num, h]
  rw [e]; exact List.getElem_mem h
theorem row_mem {f : List (List Int)} {i : Nat} (h : i < f.length) : f[i]?.getD [] ∈ f := by
  rw [List.getElem?_eq_getElem h]; exact List.getElem_mem h
set_option maxHeartbeats 4000000 in
set_option maxRecDepth 100000 in
theorem RValid13_any (n : Net) (a : NetA) (w : World) (hn : NetR w n a) (hrow : ∀ r ∈ n.f, r.length ≤ maxLen) :
    Calls Try.prog 18 #[nv n a] w (VV (.bool (validB n)) w) := by
  obtain ⟨W1, hW1⟩ : ∃ W1, W1 = w.alloc (netB n a) := ⟨_, rfl⟩
  have G1 : Gr w W1 := by rw [hW1]; exact grAlloc _ _
  have A1 : W1.heap[w.heap.size]? = some (netB n a) := by rw [hW1]; exact newBlk _ _ _ rfl
  obtain ⟨a0, a1, a2⟩ := cells3 A1
  have HN := Lib.hid (hn.gr G1)
  have HG := Lib.hid G1
  have HB := Lib.hid A1
  have HF := Lib.hid (fun i (hi : i < n.f.length) B m wx hg => RFlow_any (n.f[i]?.getD []) B m n.c.length wx hg (hrow _ (row_mem hi)))
  clear A1 hn G1 hrow
  by_cases c1 : 8 < n.c.length
  · rw [valid_not13 (n := n) (fun h => by have := (valid_iff13.1 h).1; omega)]
    have t : decide ((8 : Int) < n.c.length) = true := by simp; omega
    clear HF
    go_enter Try.func18, Try.ntmps18
    go_upto_region 1 with fail
    rw [← hW1]
    clear hW1
    go_wp2
    go_ret
    exact ⟨rfl, HG.out⟩
  have t1 : decide ((8 : Int) < n.c.length) = false := by simp; omega
  by_cases c2 : 8 < n.f.length
  · rw [valid_not13 (n := n) (fun h => by have := (valid_iff13.1 h).2.1; omega)]
    have t : decide ((8 : Int) < n.f.length) = true := by simp; omega
    clear HF
    go_enter Try.func18, Try.ntmps18
    go_upto_region 1 with fail
    rw [← hW1]
    clear hW1
    go_wp2
    go_ret
    exact ⟨rfl, HG.out⟩
  have t2 : decide ((8 : Int) < n.f.length) = false := by simp; omega
  by_cases c3 : n.l.length = n.f.length
  rotate_left
  · rw [valid_not13 (n := n) (fun h => c3 (valid_iff13.1 h).2.2.1)]
    have t : ((n.l.length : Int) != (n.f.length : Int)) = true := by simp; omega
    clear HF
    go_enter Try.func18, Try.ntmps18
    go_upto_region 1 with fail
    rw [← hW1]
    clear hW1
    go_wp2
    go_ret
    exact ⟨rfl, HG.out⟩
  have t3 : ((n.l.length : Int) != (n.f.length : Int)) = false := by simp; omega
  have C := Lib.hid (And.intro (Nat.le_of_not_lt c1) (And.intro (Nat.le_of_not_lt c2) c3))
  clear c1 c2 c3
  go_enter Try.func18, Try.ntmps18
  go_upto_region 1 with fail
  rw [← hW1]
  clear hW1
  go_wp2
  go_loop [3] (fun i => ∃ k : Nat, k ≤ n.c.length ∧ i = .int .i64 k ∧ Hid (∀ j, j < k → capB (num n.c j) = true)) (fun i => n.c.length - (intOf i).toNat)
  case atStart => exact ⟨0, Nat.zero_le _, rfl, fun j hj => absurd hj (by omega)⟩
  case round =>
    clear t1 t2 t3
    obtain ⟨k, hk, rfl, hI⟩ := hrel
    by_cases hlt : k < n.c.length
    · obtain ⟨g, o, hA, hcs⟩ := HN.out.1.addr (by omega)
      have hc := hcs k _ (num_get hlt)
      rw [hA] at a0
      have hkm := Lib.hid (num_mem hlt)
      obtain ⟨y, hy⟩ : ∃ y, num n.c k = y := ⟨_, rfl⟩
      rw [hy] at hc hkm
      have HY := Lib.hid hy
      clear hcs hA hy
      have hq : IntKind.i64.wrap ((k : Int) + 1) = (k : Int) + 1 := IntWalk.i64_in _ (by have := C.out; omega)
      by_cases h0 : y < 0
      · have h3 := Lib.hid (valid_not13 (n := n) (fun h => by have := (valid_iff13.1 h).2.2.2.2.1 _ hkm.out; simp [capB] at this; omega))
        have d0 : decide (y < 0) = true := decide_eq_true h0
        clear hI
        go_wp2
        go_ret
        exact ⟨ret_b (by rw [h3.out]), HG.out⟩
      have d0 : decide (y < 0) = false := decide_eq_false h0
      by_cases h5 : 1000 < y
      · have h3 := Lib.hid (valid_not13 (n := n) (fun h => by have := (valid_iff13.1 h).2.2.2.2.1 _ hkm.out; simp [capB] at this; omega))
        have d1 : decide (1000 < y) = true := decide_eq_true h5
        clear hI
        go_wp2
        go_ret
        exact ⟨ret_b (by rw [h3.out]), HG.out⟩
      have d1 : decide (1000 < y) = false := decide_eq_false h5
      have h3 := Lib.hid (show ∀ j, j < k + 1 → capB (num n.c j) = true from fun j hj => by
        rcases Nat.lt_or_ge j k with h | h
        · exact hI.out j h
        · obtain rfl : j = k := by omega
          rw [HY.out]; simp [capB]; omega)
      clear hI
      go_wp2
      go_round
      case rel => exact ⟨k + 1, by omega, by go_num, h3⟩
      case measure => simp [intOf]; omega
    · have HC := Lib.hid (show ∀ c ∈ n.c, capB c = true from fun c hc => by
        obtain ⟨j, hj, rfl⟩ := List.getElem_of_mem hc
        have := hI.out j (by omega)
        simpa [num, hj] using this)
      clear hI
      go_wp2
      go_loopg [4] (n.f.length) (fun gk s wr => ∃ p : Nat, p + gk = n.f.length ∧ s = .int .i64 p ∧ Hid (∀ j, j < p → linksB n.c.length (n.f[j]?.getD []) = true ∧ capB (num n.l j) = true) ∧ Hid (Gr W1 wr))
      case atStart => exact ⟨0, by omega, rfl, fun j hj => absurd hj (by omega), Below.refl _ _⟩
      case round =>
        clear a0 a1 a2
        obtain ⟨p, hp, rfl, hI, hW⟩ := hrel
        obtain ⟨a0, a1, a2⟩ := cells3 (grBlk hW.out HB.out)
        by_cases hlp : p < n.f.length
        · obtain ⟨g9, rfl⟩ : ∃ g, gk = g + 1 := ⟨gk - 1, by omega⟩
          obtain ⟨g, o, hA, hcs⟩ := (HN.out.gr hW.out).2.1.addr (by omega)
          obtain ⟨B, m, hc, hr⟩ := hcs p _ (List.getElem?_eq_getElem hlp)
          rw [hA] at a1
          have hll : p < n.l.length := by have := C.out; omega
          obtain ⟨gl, ol, hAL, hcl⟩ := (HN.out.gr hW.out).2.2.addr (by omega)
          have hz := hcl p _ (num_get hll)
          rw [hAL] at a2
          have erow : n.f[p]?.getD [] = n.f[p] := by rw [List.getElem?_eq_getElem hlp]; rfl
          have HF1 := Lib.hid (fun wx (hg : Gr wr wx) => HF.out p hlp B m wx (by rw [erow]; exact hr.gr hg))
          rw [erow] at HF1
          have hkm := Lib.hid (And.intro (num_mem hll) (And.intro (List.getElem_mem hlp) erow))
          have hA9 := Lib.hid hA
          obtain ⟨y, hy⟩ : ∃ y, num n.l p = y := ⟨_, rfl⟩
          rw [hy] at hz hkm
          have HY := Lib.hid hy
          generalize n.f[p] = row at *
          obtain ⟨b, hb⟩ : ∃ b, linksB n.c.length row = b := ⟨_, rfl⟩
          rw [hb] at HF1
          have HBb := Lib.hid hb
          clear hcs hcl hA hAL hy erow hb hr
          have hq : IntKind.i64.wrap ((p : Int) + 1) = (p : Int) + 1 := IntWalk.i64_in _ (by have := C.out; omega)
          go_upto_region 11 with fail
          refine wp_region_G (S := fun wq => Gr wr wq) (by kernel_rfl) (grDrew _) (fun hHeld => ?_)
          have hSG : Hid (∀ wp wq : World, Gr wr wp → Gr wp wq → Gr wr wq) := Lib.hid (fun _ _ h k => h.tr k)
          have hmv := Lib.hid (fun (wq : World) (hq : Gr wr wq) => And.intro (grCell hq a0) (And.intro (grCell hq a1) (And.intro (grCell hq a2) (And.intro (grCell hq hc) (grCell hq hz)))))
          first
           | (refine tk hSG 0 (v := ?_) rfl (by kernel_rfl) (fun _ _ _ h => h) (by rfl) ?_ hHeld ?_; rotate_left; focus (intro w' hSw; obtain ⟨a0, a1, a2, hc, hz⟩ := hmv.out _ hSw; go_simp; (try with_reducible rfl)))
           | refine tn hSG 0 rfl (by kernel_rfl) (fun _ _ _ h => h) (by rfl) hHeld ?_
          (try simp only [zq1, zq2, zq3, Act.put, zq4, zq5, zq6])
          first
           | (refine tk hSG 1 (v := ?_) rfl (by kernel_rfl) (fun _ _ _ h => h) (by rfl) ?_ hHeld ?_; rotate_left; focus (intro w' hSw; obtain ⟨a0, a1, a2, hc, hz⟩ := hmv.out _ hSw; go_simp; (try with_reducible rfl)))
           | refine tn hSG 1 rfl (by kernel_rfl) (fun _ _ _ h => h) (by rfl) hHeld ?_
          (try simp only [zq1, zq2, zq3, Act.put, zq4, zq5, zq6])
          first
           | (refine tk hSG 2 (v := ?_) rfl (by kernel_rfl) (fun _ _ _ h => h) (by rfl) ?_ hHeld ?_; rotate_left; focus (intro w' hSw; obtain ⟨a0, a1, a2, hc, hz⟩ := hmv.out _ hSw; go_simp; (try with_reducible rfl)))
           | refine tn hSG 2 rfl (by kernel_rfl) (fun _ _ _ h => h) (by rfl) hHeld ?_
          (try simp only [zq1, zq2, zq3, Act.put, zq4, zq5, zq6])
          first
           | (refine tk hSG 3 (v := ?_) rfl (by kernel_rfl) (fun _ _ _ h => h) (by rfl) ?_ hHeld ?_; rotate_left; focus (intro w' hSw; obtain ⟨a0, a1, a2, hc, hz⟩ := hmv.out _ hSw; go_simp; (try with_reducible rfl)))
           | refine tn hSG 3 rfl (by kernel_rfl) (fun _ _ _ h => h) (by rfl) hHeld ?_
          (try simp only [zq1, zq2, zq3, Act.put, zq4, zq5, zq6])
          first
           | (refine tk hSG 4 (v := ?_) rfl (by kernel_rfl) (fun _ _ _ h => h) (by rfl) ?_ hHeld ?_; rotate_left; focus (intro w' hSw; obtain ⟨a0, a1, a2, hc, hz⟩ := hmv.out _ hSw; go_simp; (try with_reducible rfl)))
           | refine tn hSG 4 rfl (by kernel_rfl) (fun _ _ _ h => h) (by rfl) hHeld ?_
          (try simp only [zq1, zq2, zq3, Act.put, zq4, zq5, zq6])
          first
           | (refine tk hSG 5 (v := ?_) rfl (by kernel_rfl) (fun _ _ _ h => h) (by rfl) ?_ hHeld ?_; rotate_left; focus (intro w' hSw; obtain ⟨a0, a1, a2, hc, hz⟩ := hmv.out _ hSw; go_simp; (try with_reducible rfl)))
           | refine tn hSG 5 rfl (by kernel_rfl) (fun _ _ _ h => h) (by rfl) hHeld ?_
          (try simp only [zq1, zq2, zq3, Act.put, zq4, zq5, zq6])
          first
           | (refine tk hSG 6 (v := ?_) rfl (by kernel_rfl) (fun _ _ _ h => h) (by rfl) ?_ hHeld ?_; rotate_left; focus (intro w' hSw; obtain ⟨a0, a1, a2, hc, hz⟩ := hmv.out _ hSw; go_simp; (try with_reducible rfl)))
           | refine tn hSG 6 rfl (by kernel_rfl) (fun _ _ _ h => h) (by rfl) hHeld ?_
          (try simp only [zq1, zq2, zq3, Act.put, zq4, zq5, zq6])
          first
           | (refine tk hSG 7 (v := ?_) rfl (by kernel_rfl) (fun _ _ _ h => h) (by rfl) ?_ hHeld ?_; rotate_left; focus (intro w' hSw; obtain ⟨a0, a1, a2, hc, hz⟩ := hmv.out _ hSw; go_simp; (try with_reducible rfl)))
           | refine tn hSG 7 rfl (by kernel_rfl) (fun _ _ _ h => h) (by rfl) hHeld ?_
          (try simp only [zq1, zq2, zq3, Act.put, zq4, zq5, zq6])
          refine tc hSG 8 (v := .bool b) rfl (by kernel_rfl) (fun _ _ _ h => h) (by rfl) ?_ hHeld ?_
          focus (intro wz hSw K hK; obtain ⟨a0, a1, a2, hc, hz⟩ := hmv.out _ hSw; go_simp; go_at_call 39; refine (HF1.out _ hSw).mono ?_; rintro e w2 ⟨rfl, hb2⟩; first | exact hK.out _ hb2 | (have h9 := hK.out _ hb2; (try simp only [zq1, zq2, zq3, Act.put, zq4, zq5, zq6] at h9 ⊢); exact h9) | (have h9 := hK.out _ hb2; go_simp; exact h9))
          (try simp only [zq1, zq2, zq3, Act.put, zq4, zq5, zq6])
          first
           | (refine tk hSG 9 (v := ?_) rfl (by kernel_rfl) (fun _ _ _ h => h) (by rfl) ?_ hHeld ?_; rotate_left; focus (intro w' hSw; obtain ⟨a0, a1, a2, hc, hz⟩ := hmv.out _ hSw; go_simp; (try with_reducible rfl)))
           | refine tn hSG 9 rfl (by kernel_rfl) (fun _ _ _ h => h) (by rfl) hHeld ?_
          (try simp only [zq1, zq2, zq3, Act.put, zq4, zq5, zq6])
          refine wpAnyG_done (by kernel_rfl) (fun w9 hgD => ?_) _
          have hg9 : Gr wr w9 := (grDrew wr).tr hgD
          clear hgD hSG hHeld
          obtain ⟨a0, a1, a2, hc, hz⟩ := hmv.out _ hg9
          clear hc hmv a0 a1
          have hg9 := Lib.hid hg9
          cases b with
          | false =>
            have h3 := Lib.hid (valid_not13 (n := n) (fun h => by have := (valid_iff13.1 h).2.2.2.1 _ hkm.out.2.1; rw [HBb.out] at this; cases this))
            clear hI HF HF1
            go_wp2
            go_ret
            exact ⟨ret_b (by rw [h3.out]), Gr.tr HG.out (Gr.tr hW.out hg9.out)⟩
          | true =>
            by_cases h0 : y < 0
            · have h3 := Lib.hid (valid_not13 (n := n) (fun h => by have := (valid_iff13.1 h).2.2.2.2.2 _ hkm.out.1; simp [capB] at this; omega))
              have d0 : decide (y < 0) = true := decide_eq_true h0
              clear hI HF HF1
              go_wp2
              go_ret
              exact ⟨ret_b (by rw [h3.out]), Gr.tr HG.out (Gr.tr hW.out hg9.out)⟩
            have d0 : decide (y < 0) = false := decide_eq_false h0
            by_cases h5 : 1000 < y
            · have h3 := Lib.hid (valid_not13 (n := n) (fun h => by have := (valid_iff13.1 h).2.2.2.2.2 _ hkm.out.1; simp [capB] at this; omega))
              have d1 : decide (1000 < y) = true := decide_eq_true h5
              clear hI HF HF1
              go_wp2
              go_ret
              exact ⟨ret_b (by rw [h3.out]), Gr.tr HG.out (Gr.tr hW.out hg9.out)⟩
            have d1 : decide (1000 < y) = false := decide_eq_false h5
            have h3 := Lib.hid (show ∀ j, j < p + 1 → linksB n.c.length (n.f[j]?.getD []) = true ∧ capB (num n.l j) = true from fun j hj => by
              rcases Nat.lt_or_ge j p with h | h
              · exact hI.out j h
              · obtain rfl : j = p := by omega
                rw [HY.out, hkm.out.2.2]
                exact ⟨HBb.out, by simp [capB]; omega⟩)
            clear hI HF1
            go_wp2
            go_roundg g9
            case rel => exact ⟨p + 1, by omega, by go_num, h3, Lib.hid (Gr.tr hW.out hg9.out)⟩
            case measure => omega
        · have h3 := Lib.hid (show validB n = true by
            refine valid_iff13.2 ⟨C.out.1, C.out.2.1, C.out.2.2, fun r hr => ?_, HC.out, fun c hc => ?_⟩
            · obtain ⟨j, hj, rfl⟩ := List.getElem_of_mem hr
              have := (hI.out j (by omega)).1
              rw [List.getElem?_eq_getElem hj] at this
              exact this
            · obtain ⟨j, hj, rfl⟩ := List.getElem_of_mem hc
              have := (hI.out j (by have := C.out; omega)).2
              simpa [num, hj] using this)
          clear hI HF
          go_wp2
          go_ret
          exact ⟨ret_b (by rw [h3.out]), Gr.tr HG.out hW.out⟩
end Go.Proofs.Ytbjhdfakocfapaa
