/- Reference 13: Load, the sum of the rates on a link. -/
import Derived.Test.YtbjhdfakocfapaaMuA
import Derived.Test.YtbjhdfakocfapaaMuG
namespace Go.Proofs.Ytbjhdfakocfapaa
open Go.RowKit
set_option linter.unusedVariables false
set_option linter.unusedSimpArgs false
def LoadP (n : Net) (xs : List Q) (l : Nat) (w : World) (e : Ending) (w' : World) : Prop :=
  Gr w w' ∧ ∃ q, e = .returned (.tuple #[qv q, .bool (loadM n xs (l : Int)).isSome]) ∧ ∀ s, loadM n xs (l : Int) = some s → q = s
theorem ldP_none_up {n : Net} {xs : List Q} {l p : Nat} (h : ldP n xs l p = none) : ∀ k, p ≤ k → ldP n xs l k = none := by
  intro k hk
  induction k with
  | zero => obtain rfl : p = 0 := by omega
            exact h
  | succ k ih =>
    by_cases e : p = k + 1
    · rw [← e]; exact h
    · rw [ldP_succ, ih (by omega)]
      split <;> rfl
theorem farS2 {w : World} {b c : Nat} {x0 x1 : Value} {o : Obj} (h : c ≠ b) (H : w.heap[c]? = some o) : ((w.setCell ⟨b, 0, none⟩ x0).setCell ⟨b, 1, none⟩ x1).heap[c]? = some o :=
  (Below.heap_setCell _ _ _ _ h).trans ((Below.heap_setCell _ _ _ _ h).trans H)
set_option maxHeartbeats 4000000 in
set_option maxRecDepth 100000 in
theorem RLoad_any (n : Net) (a : NetA) (xs : List Q) (XA : Option Addr) (xm : Nat) (l : Nat) (w : World) (hn : NetR w n a) (hx : QsR w xs XA) (hlen : xs.length = n.f.length) (hF : n.f.length ≤ 1000000) (hrow : ∀ r ∈ n.f, r.length ≤ 1000000) :
    Calls Try.prog 26 #[nv n a, .slice XA xs.length xm, .int .i64 (l : Int)] w (LoadP n xs l w) := by
  have hml : maxLen = 9223372036854775807 := rfl
  obtain ⟨W1, hW1⟩ : ∃ W1, W1 = w.alloc (netB n a) := ⟨_, rfl⟩
  have G1 : Gr w W1 := by rw [hW1]; exact grAlloc _ _
  have A1 : W1.heap[w.heap.size]? = some (netB n a) := by rw [hW1]; exact newBlk _ _ _ rfl
  obtain ⟨a0, a1, a2⟩ := cells3 A1
  have HN := Lib.hid (fun wx (hg : Gr W1 wx) => hn.gr (Gr.tr G1 hg))
  have HX := Lib.hid (fun wx (hg : Gr W1 wx) => hx.gr (Gr.tr G1 hg))
  have HB := Lib.hid (fun wx (hg : Gr W1 wx) => cells3 (grBlk hg A1))
  have HG := Lib.hid G1
  have HZ0 := Lib.hid (show W1.heap.size = w.heap.size + 1 from by rw [hW1]; simp)
  have HL := Lib.hid (And.intro hlen (And.intro hF hrow))
  clear A1 hn hx hlen hF hrow G1
  go_enter Try.func26, Try.ntmps26
  go_upto_region 1 with fail
  rw [← hW1]
  clear hW1
  go_upto_region 2 with fail
  obtain ⟨W2, hW2⟩ : ∃ W2, ((W1.alloc (.cells #[.int .i64 0, .int .i64 0] 35 (0, 0))).alloc (.cells #[.int .i64 0, .int .i64 1] 35 (0, 0))) = W2 := ⟨_, rfl⟩
  have hZ := HZ0.out
  have G2 : Gr W1 W2 := by rw [← hW2]; exact Gr.tr (grAlloc _ _) (grAlloc _ _)
  have R2 : W2.heap[w.heap.size + 1]? = some (qb ⟨0, 0⟩) := by rw [← hW2, ← hZ]; exact mvAlloc (newBlk _ _ _ rfl)
  have S2 : W2.heap[W1.heap.size + 1]? = some (qb ⟨0, 1⟩) := by rw [← hW2]; exact newBlk _ _ _ (by simp)
  rw [hW2]
  obtain ⟨R, hR⟩ : ∃ R, w.heap.size + 1 = R := ⟨_, rfl⟩
  obtain ⟨S, hS⟩ : ∃ S, W1.heap.size + 1 = S := ⟨_, rfl⟩
  rw [hR] at R2
  rw [hS] at S2
  have HZ := Lib.hid (show W1.heap.size = R ∧ S = R + 1 from by omega)
  rw [hR, hS]
  have R2 := Lib.hid R2
  have S2 := Lib.hid S2
  have G2 := Lib.hid G2
  clear hW2 hR hS hZ a0 a1 a2
  go_wp2
  go_loopg [9] (n.f.length) (fun gk s wr => ∃ (k : Nat) (q : Q), k + gk = n.f.length ∧ s = .int .i64 k ∧ Hid (ldP n xs l k = some q) ∧ Hid (Gr W1 wr) ∧ Hid (wr.heap[R]? = some (qb ⟨0, 0⟩)) ∧ Hid (wr.heap[S]? = some (qb q)))
  case atStart => exact ⟨0, ⟨0, 1⟩, by omega, rfl, rfl, G2, R2, S2⟩
  case round =>
    obtain ⟨k, q, hk, rfl, hld, hGr, hRb, hSb⟩ := hrel
    clear G2 R2 S2
    obtain ⟨a0, a1, a2⟩ := HB.out _ hGr.out
    obtain ⟨⟨s0, s1⟩, zs0, zs1⟩ := cells2 hSb.out
    obtain ⟨⟨r0, r1⟩, zr0, zr1⟩ := cells2 hRb.out
    have hF := HL.out.2.1
    by_cases hlt : k < n.f.length
    · obtain ⟨g9, rfl⟩ : ∃ g, gk = g + 1 := ⟨gk - 1, by omega⟩
      have hq : IntKind.i64.wrap ((k : Int) + 1) = (k : Int) + 1 := IntWalk.i64_in _ (by omega)
      obtain ⟨gF, oF, hAF, hcf⟩ := (HN.out _ hGr.out).2.1.addr (by omega)
      obtain ⟨r, hr⟩ : ∃ r, n.f[k]? = some r := ⟨_, List.getElem?_eq_getElem hlt⟩
      obtain ⟨B, mB, hc1, hri⟩ := hcf k r hr
      have hOn := Lib.hid (On_any r B mB (l : Int) wr hri (HL.out.2.2 r (List.mem_of_getElem? hr)))
      have hon : Hid (onF n.f (l : Int) k = r.contains (l : Int)) := Lib.hid (by unfold onF; rw [hr]; rfl)
      rw [hAF] at a1
      obtain ⟨b, hb⟩ : ∃ b, r.contains (l : Int) = b := ⟨_, rfl⟩
      rw [hb] at hOn hon
      clear hcf hri hr hb hAF
      cases b with
      | false =>
        have hn1 := Lib.hid (show ldP n xs l (k + 1) = some q from by rw [ldP_succ, if_neg (by rw [hon.out]; simp)]; exact hld.out)
        go_wp2_with (go_at_call 31; refine hOn.out.mono ?_; rintro e w2 ⟨rfl, hw⟩; rw [hw])
        go_roundg g9
        case rel => exact ⟨k + 1, q, by omega, by go_num, hn1, hGr, hRb, hSb⟩
        case measure => omega
      | true =>
        have hkx : k < xs.length := by have := HL.out.1; omega
        obtain ⟨g, o, rfl, hcs⟩ := (HX.out _ hGr.out).addr (by omega)
        obtain ⟨p0, p1⟩ := hcs k _ (rat_get hkx)
        have HAd := Lib.hid (fun wx => RAdd_any q (rat xs k) wx)
        have hst := Lib.hid (show ldP n xs l (k + 1) = if (addM q (rat xs k)).2 = 0 then some (addM q (rat xs k)).1 else none from by rw [ldP_succ, if_pos hon.out, hld.out]; rfl)
        obtain ⟨y, hy⟩ : ∃ y, addM q (rat xs k) = y := ⟨_, rfl⟩
        rw [hy] at HAd hst
        obtain ⟨x, hx⟩ : ∃ x, rat xs k = x := ⟨_, rfl⟩
        rw [hx] at p0 p1 HAd
        obtain ⟨y1, y2⟩ := y
        simp only at hst
        clear hcs hy hx
        go_upto_region 7 with (go_at_call 31; refine hOn.out.mono ?_; rintro e w2 ⟨rfl, hw⟩; rw [hw])
        go_cut [9, 10, 11, 12] from 14 to 41 (fun s9 s10 s11 s12 wx => s9 = .int .i64 k ∧ s10 = .bool true ∧ s12 = .int .i64 y2 ∧ ∃ D, s11 = .pointer (some ⟨D, 0, none⟩) ∧ Hid (Gr wr wx) ∧ Hid (wx.heap[D]? = some (qb y1)))
        case first =>
          refine wp_region_G (S := fun wq => Gr wr wq) (by kernel_rfl) (grDrew _) (fun hHeld => ?_)
          have hSG : Hid (∀ wp wq : World, Gr wr wp → Gr wp wq → Gr wr wq) := Lib.hid (fun _ _ h k => h.tr k)
          have hmv := Lib.hid (fun (wq : World) (hq : Gr wr wq) => And.intro (grCell hq s0) (And.intro (grCell hq s1) (And.intro (grCell hq p0) (grCell hq p1))))
          first
           | (refine tk hSG 0 (v := ?_) rfl (by kernel_rfl) (fun _ _ _ h => h) (by rfl) ?_ hHeld ?_; rotate_left; focus (intro w' hSw; obtain ⟨s0, s1, p0, p1⟩ := hmv.out _ hSw; go_simp; (try with_reducible rfl)))
           | refine tn hSG 0 rfl (by kernel_rfl) (fun _ _ _ h => h) (by rfl) hHeld ?_
          (try simp only [zq1, zq2, zq3, Act.put, zq4, zq5, zq6])
          first
           | (refine tk hSG 1 (v := ?_) rfl (by kernel_rfl) (fun _ _ _ h => h) (by rfl) ?_ hHeld ?_; rotate_left; focus (intro w' hSw; obtain ⟨s0, s1, p0, p1⟩ := hmv.out _ hSw; go_simp; (try with_reducible rfl)))
           | refine tn hSG 1 rfl (by kernel_rfl) (fun _ _ _ h => h) (by rfl) hHeld ?_
          (try simp only [zq1, zq2, zq3, Act.put, zq4, zq5, zq6])
          first
           | (refine tk hSG 2 (v := ?_) rfl (by kernel_rfl) (fun _ _ _ h => h) (by rfl) ?_ hHeld ?_; rotate_left; focus (intro w' hSw; obtain ⟨s0, s1, p0, p1⟩ := hmv.out _ hSw; go_simp; (try with_reducible rfl)))
           | refine tn hSG 2 rfl (by kernel_rfl) (fun _ _ _ h => h) (by rfl) hHeld ?_
          (try simp only [zq1, zq2, zq3, Act.put, zq4, zq5, zq6])
          first
           | (refine tk hSG 3 (v := ?_) rfl (by kernel_rfl) (fun _ _ _ h => h) (by rfl) ?_ hHeld ?_; rotate_left; focus (intro w' hSw; obtain ⟨s0, s1, p0, p1⟩ := hmv.out _ hSw; go_simp; (try with_reducible rfl)))
           | refine tn hSG 3 rfl (by kernel_rfl) (fun _ _ _ h => h) (by rfl) hHeld ?_
          (try simp only [zq1, zq2, zq3, Act.put, zq4, zq5, zq6])
          first
           | (refine tk hSG 4 (v := ?_) rfl (by kernel_rfl) (fun _ _ _ h => h) (by rfl) ?_ hHeld ?_; rotate_left; focus (intro w' hSw; obtain ⟨s0, s1, p0, p1⟩ := hmv.out _ hSw; go_simp; (try with_reducible rfl)))
           | refine tn hSG 4 rfl (by kernel_rfl) (fun _ _ _ h => h) (by rfl) hHeld ?_
          (try simp only [zq1, zq2, zq3, Act.put, zq4, zq5, zq6])
          refine wpAnyG_ready (rs := [5, 9]) (by kernel_rfl) (by simp) (AllG.cons rfl (fun v0 hg K hK => ?_) (AllG.cons rfl (fun v0 hg K hK => ?_) AllG.nil))
          · skip
            have hgS := hSG.out _ _ hHeld.out hg
            go_simp
            go_at_call 43; refine (HAd.out _).mono ?_; rintro e w5 ⟨rfl, hb2⟩
            refine hK.out _ _ (hgS.tr hb2) (fun hHeld => ?_)
            clear hK K hg hgS
            (try simp only [zq1, zq2, zq3, Act.put, zq4, zq5, zq6])
            first
             | (refine tk hSG 6 (v := ?_) rfl (by kernel_rfl) (fun _ _ _ h => h) (by rfl) ?_ hHeld ?_; rotate_left; focus (intro w' hSw; obtain ⟨s0, s1, p0, p1⟩ := hmv.out _ hSw; go_simp; (try with_reducible rfl)))
             | refine tn hSG 6 rfl (by kernel_rfl) (fun _ _ _ h => h) (by rfl) hHeld ?_
            (try simp only [zq1, zq2, zq3, Act.put, zq4, zq5, zq6])
            first
             | (refine tk hSG 7 (v := ?_) rfl (by kernel_rfl) (fun _ _ _ h => h) (by rfl) ?_ hHeld ?_; rotate_left; focus (intro w' hSw; obtain ⟨s0, s1, p0, p1⟩ := hmv.out _ hSw; go_simp; (try with_reducible rfl)))
             | refine tn hSG 7 rfl (by kernel_rfl) (fun _ _ _ h => h) (by rfl) hHeld ?_
            (try simp only [zq1, zq2, zq3, Act.put, zq4, zq5, zq6])
            first
             | (refine tk hSG 8 (v := ?_) rfl (by kernel_rfl) (fun _ _ _ h => h) (by rfl) ?_ hHeld ?_; rotate_left; focus (intro w' hSw; obtain ⟨s0, s1, p0, p1⟩ := hmv.out _ hSw; go_simp; (try with_reducible rfl)))
             | refine tn hSG 8 rfl (by kernel_rfl) (fun _ _ _ h => h) (by rfl) hHeld ?_
            (try simp only [zq1, zq2, zq3, Act.put, zq4, zq5, zq6])
            refine wpAnyG_ready (rs := [9]) (by kernel_rfl) (by simp) (AllG.cons rfl (fun v1 hg K hK => ?_) AllG.nil)
            have hgS := hSG.out _ _ hHeld.out hg
            have zA := hgS.size
            go_simp
            refine hK.out _ _ (hgS.tr (grAlloc _ _)) (fun hHeld => ?_)
            have Dn := newBlk v1 (.cells #[.int .i64 0, .int .i64 0] 35 (0, 0)) _ rfl
            clear hK K hg hgS
            (try simp only [zq1, zq2, zq3, Act.put, zq4, zq5, zq6])
            refine wpAnyG_ready (rs := [10]) (by kernel_rfl) (by simp) (AllG.cons rfl (fun v3 hg K hK => ?_) AllG.nil)
            have hgS := hSG.out _ _ hHeld.out hg
            have D2 := grBlk hg Dn
            obtain ⟨⟨d0, d1⟩, e0, e1⟩ := cells2 D2
            go_simp
            refine hK.out _ _ (below2 hgS (by omega)) (fun hHeld => ?_)
            have D3 := (res2 (x := .int .i64 y1.n) (y := .int .i64 y1.d) D2).1
            clear hK K hg hgS D2 d0 d1 e0 e1 Dn
            (try simp only [zq1, zq2, zq3, Act.put, zq4, zq5, zq6])
            first
             | (refine tk hSG 11 (v := ?_) rfl (by kernel_rfl) (fun _ _ _ h => h) (by rfl) ?_ hHeld ?_; rotate_left; focus (intro w' hSw; obtain ⟨s0, s1, p0, p1⟩ := hmv.out _ hSw; go_simp; (try with_reducible rfl)))
             | refine tn hSG 11 rfl (by kernel_rfl) (fun _ _ _ h => h) (by rfl) hHeld ?_
            (try simp only [zq1, zq2, zq3, Act.put, zq4, zq5, zq6])
            refine wpAnyG_done (by kernel_rfl) (fun w9 hg => ?_) _
            have hg9 := hSG.out _ _ hHeld.out hg
            have D9 := grBlk hg D3
            clear hg D3 hHeld hSG hmv
            go_wp2_with fail
            go_meet
            exact ⟨rfl, rfl, rfl, v1.heap.size, rfl, Lib.hid hg9, Lib.hid D9⟩
          · skip
            have hgS := hSG.out _ _ hHeld.out hg
            have zA := hgS.size
            go_simp
            refine hK.out _ _ (hgS.tr (grAlloc _ _)) (fun hHeld => ?_)
            have Dn := newBlk v0 (.cells #[.int .i64 0, .int .i64 0] 35 (0, 0)) _ rfl
            clear hK K hg hgS
            (try simp only [zq1, zq2, zq3, Act.put, zq4, zq5, zq6])
            refine wpAnyG_ready (rs := [5]) (by kernel_rfl) (by simp) (AllG.cons rfl (fun v1 hg K hK => ?_) AllG.nil)
            have hgS := hSG.out _ _ hHeld.out hg
            go_simp
            go_at_call 43; refine (HAd.out _).mono ?_; rintro e w5 ⟨rfl, hb2⟩
            refine hK.out _ _ (hgS.tr hb2) (fun hHeld => ?_)
            have Dn := grBlk (Gr.tr hg hb2) Dn
            clear hK K hg hgS
            (try simp only [zq1, zq2, zq3, Act.put, zq4, zq5, zq6])
            first
             | (refine tk hSG 6 (v := ?_) rfl (by kernel_rfl) (fun _ _ _ h => h) (by rfl) ?_ hHeld ?_; rotate_left; focus (intro w' hSw; obtain ⟨s0, s1, p0, p1⟩ := hmv.out _ hSw; go_simp; (try with_reducible rfl)))
             | refine tn hSG 6 rfl (by kernel_rfl) (fun _ _ _ h => h) (by rfl) hHeld ?_
            (try simp only [zq1, zq2, zq3, Act.put, zq4, zq5, zq6])
            first
             | (refine tk hSG 7 (v := ?_) rfl (by kernel_rfl) (fun _ _ _ h => h) (by rfl) ?_ hHeld ?_; rotate_left; focus (intro w' hSw; obtain ⟨s0, s1, p0, p1⟩ := hmv.out _ hSw; go_simp; (try with_reducible rfl)))
             | refine tn hSG 7 rfl (by kernel_rfl) (fun _ _ _ h => h) (by rfl) hHeld ?_
            (try simp only [zq1, zq2, zq3, Act.put, zq4, zq5, zq6])
            first
             | (refine tk hSG 8 (v := ?_) rfl (by kernel_rfl) (fun _ _ _ h => h) (by rfl) ?_ hHeld ?_; rotate_left; focus (intro w' hSw; obtain ⟨s0, s1, p0, p1⟩ := hmv.out _ hSw; go_simp; (try with_reducible rfl)))
             | refine tn hSG 8 rfl (by kernel_rfl) (fun _ _ _ h => h) (by rfl) hHeld ?_
            (try simp only [zq1, zq2, zq3, Act.put, zq4, zq5, zq6])
            refine wpAnyG_ready (rs := [10]) (by kernel_rfl) (by simp) (AllG.cons rfl (fun v3 hg K hK => ?_) AllG.nil)
            have hgS := hSG.out _ _ hHeld.out hg
            have D2 := grBlk hg Dn
            obtain ⟨⟨d0, d1⟩, e0, e1⟩ := cells2 D2
            go_simp
            refine hK.out _ _ (below2 hgS (by omega)) (fun hHeld => ?_)
            have D3 := (res2 (x := .int .i64 y1.n) (y := .int .i64 y1.d) D2).1
            clear hK K hg hgS D2 d0 d1 e0 e1 Dn
            (try simp only [zq1, zq2, zq3, Act.put, zq4, zq5, zq6])
            first
             | (refine tk hSG 11 (v := ?_) rfl (by kernel_rfl) (fun _ _ _ h => h) (by rfl) ?_ hHeld ?_; rotate_left; focus (intro w' hSw; obtain ⟨s0, s1, p0, p1⟩ := hmv.out _ hSw; go_simp; (try with_reducible rfl)))
             | refine tn hSG 11 rfl (by kernel_rfl) (fun _ _ _ h => h) (by rfl) hHeld ?_
            (try simp only [zq1, zq2, zq3, Act.put, zq4, zq5, zq6])
            refine wpAnyG_done (by kernel_rfl) (fun w9 hg => ?_) _
            have hg9 := hSG.out _ _ hHeld.out hg
            have D9 := grBlk hg D3
            clear hg D3 hHeld hSG hmv
            go_wp2_with fail
            go_meet
            exact ⟨rfl, rfl, rfl, v0.heap.size, rfl, Lib.hid hg9, Lib.hid D9⟩
        case rest =>
          obtain ⟨rfl, rfl, rfl, D, rfl, hgw, hDb⟩ := hcut
          clear s0 s1 r0 r1 p0 p1 a0 a1 a2 zs0 zs1 zr0 zr1 hOn
          have hS2 := Lib.hid (grBlk hgw.out hSb.out)
          have hR2 := Lib.hid (grBlk hgw.out hRb.out)
          obtain ⟨⟨s0, s1⟩, zs0, zs1⟩ := cells2 hS2.out
          obtain ⟨⟨r0, r1⟩, zr0, zr1⟩ := cells2 hR2.out
          obtain ⟨⟨d0, d1⟩, zd0, zd1⟩ := cells2 hDb.out
          have hgA := Lib.hid (Gr.tr hGr.out hgw.out)
          by_cases he : y2 = 0
          · subst he
            have hn1 := Lib.hid (show ldP n xs l (k + 1) = some y1 from by rw [hst.out]; rfl)
            clear hst
            go_wp2
            go_roundg g9
            case rel => exact ⟨k + 1, y1, by omega, by go_num, hn1, Lib.hid (below2 hgA.out (by have := HZ.out; omega)), Lib.hid (farS2 (by have := HZ.out; omega) hR2.out), Lib.hid (res2 hS2.out).1⟩
            case measure => omega
          · have hnone := Lib.hid (show loadM n xs (l : Int) = none from by
              rw [ldP_all]
              exact ldP_none_up (by rw [hst.out, if_neg he]) n.f.length (by omega))
            have t : ((y2 : Int) != 0) = true := by simp; exact he
            clear hst he
            go_wp2
            exact bodyPost_ret (v := .tuple #[qv q, .bool false]) (by simp [results, Try.results26, go_sem, (res2 hR2.out).2.1, (res2 hR2.out).2.2]) rfl ⟨Gr.tr HG.out (below2 hgA.out (by have := HZ.out; omega)), q, by rw [hnone.out]; rfl, fun s hs => by rw [hnone.out] at hs; cases hs⟩
    · have hsome := Lib.hid (show loadM n xs (l : Int) = some q from by rw [ldP_all, ← show k = n.f.length by omega]; exact hld.out)
      clear hld
      go_wp2
      exact bodyPost_ret (v := .tuple #[qv q, .bool true]) (by simp [results, Try.results26, go_sem, (res2 hRb.out).2.1, (res2 hRb.out).2.2]) rfl ⟨Gr.tr HG.out (below2 hGr.out (by have := HZ.out; omega)), q, by rw [hsome.out]; rfl, fun s hs => by rw [hsome.out] at hs; exact Option.some.inj hs⟩
end Go.Proofs.Ytbjhdfakocfapaa
