/- Texts of one proof: MxJ, MxK. -/
import Derived.Test.YtdlebaiamdbneaaGreatDoorYi
set_option linter.unusedVariables false
set_option linter.unusedSimpArgs false
set_option maxRecDepth 100000
set_option maxHeartbeats 8000000
namespace Go.Proofs.YtdlebaiamdbneaaGreatDoor
open Go.RowKit
namespace M
open I
open U (Ex St StsR StAt btw ev eArr KidsE newBlk blkLt Vr VarsR VrAt sArr KpL)
open R (epanic bAllocX limS WfL WfS)
theorem rnS_asg {ins : List Int} {lim : List Sp} {st : List Int} {x : St} (h : x.kind = 1) : rnS ins lim st x = asgE ins lim st x := by
 obtain ⟨k, v, r, a, b, th, el⟩ := x
 have h : k = 1 := h
 rw [rnS, if_pos h]
 rfl
theorem rnS_if {ins : List Int} {lim : List Sp} {st : List Int} {x : St} (h : x.kind ≠ 1) : rnS ins lim st x = (match chE ins st x with | .error e => .error e | .ok b => if b = true then rnL ins lim st x.th else rnL ins lim st x.el) := by
 obtain ⟨k, v, r, a, b, th, el⟩ := x
 have h : k ≠ 1 := h
 rw [rnS, if_neg h]
 unfold chE
 simp only [St.a, St.b, St.rel, St.th, St.el]
 rcases mvE st ins a with e | y
 ·rfl
 simp only
 rcases mvE st ins b with e | z
 ·rfl
 rfl
theorem rnL_drop {ins : List Int} {lim : List Sp} {st : List Int} {l : List St} {k : Nat} (h : k < l.length) : rnL ins lim st (l.drop k) = (match rnS ins lim st l[k] with | .error e => .error e | .ok v => rnL ins lim v (l.drop (k + 1))) := by
 rw [List.drop_eq_getElem_cons h, rnL]
 rcases rnS ins lim st l[k] with e | v <;> rfl
theorem WfL_get {n : Nat} : ∀ {l : List St}, WfL n l → ∀ x ∈ l, WfS n x
 | [], _, x, hx => by cases hx
 | y :: ys, h, x, hx => by
  rw [WfL] at h
  rcases List.mem_cons.1 hx with rfl | hx
  ·exact h.1
  ·exact WfL_get h.2 x hx
theorem WfS_cases {n : Nat} {x : St} (h : WfS n x) : (x.kind = 1 ∧ 0 ≤ x.var ∧ x.var < n ∧ x.a.size ≤ 60) ∨ (x.kind = 2 ∧ 1 ≤ x.rel ∧ x.rel ≤ 6 ∧ x.a.size ≤ 60 ∧ x.b.size ≤ 60 ∧ WfL n x.th ∧ WfL n x.el) := by
 obtain ⟨k, v, r, a, b, th, el⟩ := x
 rw [WfS] at h
 exact h
theorem asgE_len {ins : List Int} {lim : List Sp} {st : List Int} {x : St} {v : List Int} (h : asgE ins lim st x = .ok v) : v.length = st.length := by
 unfold asgE at h
 rcases ha : mvE st ins x.a with e | n
 ·rw [ha] at h; cases h
 rw [ha] at h
 simp only at h
 split at h
 ·cases h; simp
 ·cases h
mutual
theorem rnS_len {ins : List Int} {lim : List Sp} : ∀ (x : St) {st v : List Int}, rnS ins lim st x = .ok v → v.length = st.length
 | .mk k vr r a b th el, st, v, h => by
  rw [rnS] at h
  split at h
  ·rcases ha : mvE st ins a with e | n
   ·rw [ha] at h; cases h
   rw [ha] at h
   simp only at h
   split at h
   ·cases h; simp
   ·cases h
  ·rcases ha : mvE st ins a with e | y
   ·rw [ha] at h; cases h
   rw [ha] at h
   simp only at h
   rcases hb : mvE st ins b with e | z
   ·rw [hb] at h; cases h
   rw [hb] at h
   simp only at h
   split at h
   ·exact rnL_len th h
   ·exact rnL_len el h
theorem rnL_len {ins : List Int} {lim : List Sp} : ∀ (l : List St) {st v : List Int}, rnL ins lim st l = .ok v → v.length = st.length
 | [], st, v, h => by rw [rnL] at h; cases h; rfl
 | x :: xs, st, v, h => by
  rw [rnL] at h
  rcases h1 : rnS ins lim st x with e | u
  ·rw [h1] at h; cases h
  rw [h1] at h
  exact (rnL_len xs h).trans (rnS_len x h1)
end
def RunC (vs : List Vr) (VA : Option Addr) (vm : Nat) (i0 i1 i2 i3 : Int) (l : List St) : Prop := ∀ (W0 w : World) (st : List Int) (g cap : Nat) (LA : Option Addr) (lm mb : Nat), Gr W0 w → IntsO W0.heap.size w st g cap → VarsR W0 vs VA → OpsR w mb → StsR W0 l LA → WfL vs.length l → st.length = vs.length → l.length ≤ maxLen →
 Calls Tryz.prog 30 #[.agg (ruA VA vs.length vm g st.length cap i0 i1 i2 i3 mb), .slice LA l.length lm] w (RunP W0 w g cap (rnL [i0, i1, i2, i3] (limS vs) st l))
theorem run_step (vs : List Vr) (hvl : vs.length ≤ 12) (VA : Option Addr) (vm : Nat) (i0 i1 i2 i3 : Int) (l : List St) (ih : ∀ x ∈ l, RunC vs VA vm i0 i1 i2 i3 x.th ∧ RunC vs VA vm i0 i1 i2 i3 x.el) : RunC vs VA vm i0 i1 i2 i3 l := by
 intro W0 w st g cap LA lm mb hg hO hV hM hL hW hsl hlen
 obtain ⟨r, hr⟩ : ∃ r, rnL [i0, i1, i2, i3] (limS vs) st l = r := ⟨_, rfl⟩
 rw [hr]
 have HL := Lib.hid hL
 have HV := Lib.hid hV
 have HWf := Lib.hid hW
 have IH := Lib.hid ih
 have HG := Lib.hid hg
 have hvH := Lib.hid hvl
 have hgw := Lib.hid hO.lt
 have hslH := Lib.hid hsl
 obtain ⟨sn, hsn⟩ : ∃ sn, st.length = sn := ⟨_, rfl⟩
 have hsnH := Lib.hid hsn
 have HR0 : Hid ((w.alloc (.cells (ruA VA vs.length vm g sn cap i0 i1 i2 i3 mb) 61)).heap[w.heap.size]? = some (.cells (ruA VA vs.length vm g sn cap i0 i1 i2 i3 mb) 61 (0, 0))) := Lib.hid (newBlk _ _ _ rfl)
 have HM0 := Lib.hid (hM.gr (grAlloc w (.cells (ruA VA vs.length vm g sn cap i0 i1 i2 i3 mb) 61)))
 have HO0 := Lib.hid (hO.gr (grAlloc w (.cells (ruA VA vs.length vm g sn cap i0 i1 i2 i3 mb) 61)))
 have HK0 := Lib.hid (U.Below.kpl (L := g) (grAlloc w (.cells (ruA VA vs.length vm g sn cap i0 i1 i2 i3 mb) 61)))
 have hrH : Hid (rnL [i0, i1, i2, i3] (limS vs) st (l.drop 0) = r) := Lib.hid hr
 unfold maxLen at hlen
 rw [hsn]
 clear hL hV hM hW ih hg hO hr hvl hsl hsn
 go_enter Tryz.func30, Tryz.ntmps30
 go_wp2_with fail
 go_loopg [8] (l.length) (fun gk i wr => ∃ (k : Nat) (sk : List Int), k + gk = l.length ∧ i = .int .i64 k ∧ Hid (rnL [i0, i1, i2, i3] (limS vs) sk (l.drop k) = r) ∧ Hid (IntsO W0.heap.size wr sk g cap) ∧ Hid (sk.length = sn) ∧ Hid (wr.heap[w.heap.size]? = some (.cells (ruA VA vs.length vm g sn cap i0 i1 i2 i3 mb) 61 (0, 0))) ∧ Hid (KpL g w wr) ∧ Hid (OpsR wr mb))
 case atStart => exact ⟨0, st, by omega, rfl, hrH, HO0, hsnH, HR0, HK0, HM0⟩
 case round =>
  obtain ⟨k, sk, hk, rfl, hG, hO, hsk, hR, hKp, hMr⟩ := hrel
  clear HO0 HR0 HK0 HM0
  have hGr := Lib.hid (show Gr W0 wr from KpL.below HG.out hKp.out HG.out.size hgw.out.1)
  obtain ⟨r0, r1, r2, r3, r4, r5, r6⟩ := cells7 hR.out
  have hrl := blkLt hR.out
  by_cases hlt : k < l.length
  ·obtain ⟨gq, rfl⟩ : ∃ g, gk = g + 1 := ⟨gk - 1, by omega⟩
   obtain ⟨ls, lo, rfl⟩ := HL.out.addr (by omega)
   have hx := HL.out.get _ _ _ k _ (List.getElem?_eq_getElem hlt)
   have hmem : l[k] ∈ l := List.getElem_mem hlt
   have hwx := WfS_cases (WfL_get HWf.out _ hmem)
   have hih := IH.out _ hmem
   have hGd := hG.out
   rw [rnL_drop hlt] at hGd
   generalize l[k] = x at *
   obtain ⟨A, c, B, d, T, m, E, n, hat, hKa, hKb, hTh, hEl, hlth, hlel⟩ := hx.cells
   obtain ⟨e0, e1, e2, e3, e4, e5, e6, e7, e8, e9, ea, eb, ec⟩ := hat
   have e0 := grCell hGr.out e0
   have e1 := grCell hGr.out e1
   have e2 := grCell hGr.out e2
   have e3 := grCell hGr.out e3
   have e4 := grCell hGr.out e4
   have e5 := grCell hGr.out e5
   have e6 := grCell hGr.out e6
   have e7 := grCell hGr.out e7
   have e8 := grCell hGr.out e8
   have e9 := grCell hGr.out e9
   have ea := grCell hGr.out ea
   have eb := grCell hGr.out eb
   have ec := grCell hGr.out ec
   obtain ⟨W5, hW5⟩ : ∃ W5, W5 = wr.alloc (.cells (sArr x A c B d T m E n) 65) := ⟨_, rfl⟩
   have hg5 : Gr wr W5 := by rw [hW5]; exact grAlloc _ _
   have hQ5 : W5.heap[wr.heap.size]? = some (.cells (sArr x A c B d T m E n) 65 (0, 0)) := by rw [hW5]; exact newBlk _ _ _ rfl
   have hO5 := Lib.hid (hO.out.gr hg5)
   have hG5 := Lib.hid (hGr.out.tr hg5)
   have hR5 := Lib.hid (grBlk hg5 hR.out)
   have hM5 := Lib.hid (hMr.out.gr hg5)
   have hK5 := Lib.hid (hKp.out.trans (U.Below.kpl hg5))
   have hskn := hsk.out
   rcases hwx with ⟨hk1, hv0, hv1, hza⟩ | ⟨hk2, hr1, hr2, hza, hzb, wth, wel⟩
   ·have HA := assign_any W0 W5 hG5.out sk g cap hO5.out vs VA vm HV.out i0 i1 i2 i3 mb hM5.out x A c B d T m E n hKa hv0 hv1 hza (by rw [hskn, ← hsnH.out]; exact hslH.out) hvH.out
    rw [hskn] at HA
    have HA := Lib.hid HA
    rw [rnS_asg hk1] at hGd
    have hGd := Lib.hid hGd
    have hkb : (x.kind == 1) = true := by simp [hk1]
    have hkH := Lib.hid hk1
    have hla := Lib.hid (fun v => asgE_len (ins := [i0, i1, i2, i3]) (lim := limS vs) (st := sk) (x := x) (v := v))
    generalize asgE [i0, i1, i2, i3] (limS vs) sk x = q at *
    clear hk1 hv0 hv1 hza hih hG hO hKa hKb hTh hEl hlth hlel hx hmem hskn
    go_upto_region 4 with fail
    rw [← hW5]
    clear hW5
    obtain ⟨y0, y1, y2, y3, y4, y5, y6, y7, y8, y9, ya, yb, yc⟩ := U.cells13 hQ5
    obtain ⟨r0, r1, r2, r3, r4, r5, r6⟩ := cells7 hR5.out
    clear e0 e1 e2 e3 e4 e5 e6 e7 e8 e9 ea eb ec
    rcases q with er | s2
    ·have hF : (.error er : Except Int (List Int)) = r := hGd.out
     go_wp2_with (go_at_call 55; refine HA.out.mono ?_; rintro e w8 ⟨he, hk8⟩; simp only at he; subst he; have hk9 := Lib.hid (hK5.out.trans hk8))
     exact ⟨rfl, by rw [← hF]; exact ⟨rfl, hk9.out⟩⟩
    ·go_wp2_with (go_at_call 55; refine HA.out.mono ?_; rintro e w8 ⟨⟨he, ho8⟩, hk8⟩; subst he; have hO8 := Lib.hid ho8; have hk9 := Lib.hid (hK5.out.trans hk8); have hM8 := Lib.hid (hM5.out.kp hO5.out hk8); have hR8 := Lib.hid ((hk8.block _ (blkLt hR5.out) (by have := hgw.out; omega)).trans hR5.out); clear ho8 hk8)
     have hl8 : Hid (s2.length = sn) := Lib.hid ((hla.out s2 rfl).trans hsk.out)
     go_roundg gq
     case measure => omega
     case rel => exact ⟨k + 1, s2, by omega, by go_num, hGd, hO8, hl8, hR8, hk9, hM8⟩
   ·have hk1 : x.kind ≠ 1 := by omega
    rw [rnS_if hk1] at hGd
    have hkb : (x.kind == 1) = false := by simp [hk1]
    have HC := Lib.hid (fun wx (hgx : Gr W5 wx) => by
     have := chosen_any wx sk g cap ((hO5.out.intsR).gr hgx) VA vs.length vm i0 i1 i2 i3 mb (hM5.out.gr hgx) x A c B d T m E n (hKa.below (hG5.out.tr hgx)) (hKb.below (hG5.out.tr hgx)) hza hzb (by have := hslH.out; have := hsnH.out; have := hvH.out; omega)
     rw [hskn] at this
     exact this)
    generalize chE [i0, i1, i2, i3] sk x = q at *
    have hGd := Lib.hid hGd
    clear hk1 hk2
    rcases q with er | b
    ·have hF : (.error er : Except Int (List Int)) = r := hGd.out
     clear hih hG hO hKa hKb hTh hEl hlth hlel hx hmem hskn hza hzb wth wel hr1 hr2
     go_upto_region 4 with fail
     rw [← hW5]
     clear hW5
     obtain ⟨y0, y1, y2, y3, y4, y5, y6, y7, y8, y9, ya, yb, yc⟩ := U.cells13 hQ5
     obtain ⟨r0, r1, r2, r3, r4, r5, r6⟩ := cells7 hR5.out
     clear e0 e1 e2 e3 e4 e5 e6 e7 e8 e9 ea eb ec
     go_upto_region 6 with fail
     refine wp_region_G (S := fun wq => Gr W5 wq) (by kernel_rfl) (grDrew _) (fun hHeld => ?_)
     have hSG : Hid (∀ wp wq : World, Gr W5 wp → Gr wp wq → Gr W5 wq) := Lib.hid (fun _ _ h k => h.tr k)
     have hmv := Lib.hid (fun (wq : World) (hq : Gr W5 wq) => And.intro (grCell hq r0) (And.intro (grCell hq r1) (And.intro (grCell hq r2) (And.intro (grCell hq r3) (And.intro (grCell hq r4) (And.intro (grCell hq r5) (And.intro (grCell hq r6) (And.intro (grCell hq y0) (And.intro (grCell hq y1) (And.intro (grCell hq y2) (And.intro (grCell hq y3) (And.intro (grCell hq y4) (And.intro (grCell hq y5) (And.intro (grCell hq y6) (And.intro (grCell hq y7) (And.intro (grCell hq y8) (And.intro (grCell hq y9) (And.intro (grCell hq ya) (And.intro (grCell hq yb) (grCell hq yc))))))))))))))))))))
     first
      | (refine tk hSG 0 (v := ?_) rfl (by kernel_rfl) (fun _ _ _ h => h) (by rfl) ?_ hHeld ?_; rotate_left; focus (intro w' hSw; obtain ⟨r0, r1, r2, r3, r4, r5, r6, y0, y1, y2, y3, y4, y5, y6, y7, y8, y9, ya, yb, yc⟩ := hmv.out _ hSw; go_simp; (try with_reducible rfl)))
      | refine tn hSG 0 rfl (by kernel_rfl) (fun _ _ _ h => h) (by rfl) hHeld ?_
     (try simp only [zq1, zq2, zq3, Act.put, zq4, zq5, zq6])
     first
      | (refine tk hSG 1 (v := ?_) rfl (by kernel_rfl) (fun _ _ _ h => h) (by rfl) ?_ hHeld ?_; rotate_left; focus (intro w' hSw; obtain ⟨r0, r1, r2, r3, r4, r5, r6, y0, y1, y2, y3, y4, y5, y6, y7, y8, y9, ya, yb, yc⟩ := hmv.out _ hSw; go_simp; (try with_reducible rfl)))
      | refine tn hSG 1 rfl (by kernel_rfl) (fun _ _ _ h => h) (by rfl) hHeld ?_
     (try simp only [zq1, zq2, zq3, Act.put, zq4, zq5, zq6])
     first
      | (refine tk hSG 2 (v := ?_) rfl (by kernel_rfl) (fun _ _ _ h => h) (by rfl) ?_ hHeld ?_; rotate_left; focus (intro w' hSw; obtain ⟨r0, r1, r2, r3, r4, r5, r6, y0, y1, y2, y3, y4, y5, y6, y7, y8, y9, ya, yb, yc⟩ := hmv.out _ hSw; go_simp; (try with_reducible rfl)))
      | refine tn hSG 2 rfl (by kernel_rfl) (fun _ _ _ h => h) (by rfl) hHeld ?_
     (try simp only [zq1, zq2, zq3, Act.put, zq4, zq5, zq6])
     refine wpAnyG_ready (rs := [3]) (by kernel_rfl) (by simp) (AllG.cons rfl (fun w7 hgL K hK => ?_) AllG.nil)
     have hgL := (grDrew W5).tr hgL
     have r0 := grCell hgL r0
     have r1 := grCell hgL r1
     have r2 := grCell hgL r2
     have r3 := grCell hgL r3
     have r4 := grCell hgL r4
     have r5 := grCell hgL r5
     have r6 := grCell hgL r6
     have y0 := grCell hgL y0
     have y1 := grCell hgL y1
     have y2 := grCell hgL y2
     have y3 := grCell hgL y3
     have y4 := grCell hgL y4
     have y5 := grCell hgL y5
     have y6 := grCell hgL y6
     have y7 := grCell hgL y7
     have y8 := grCell hgL y8
     have y9 := grCell hgL y9
     have ya := grCell hgL ya
     have yb := grCell hgL yb
     have yc := grCell hgL yc
     go_simp
     go_at_call 56; refine (HC.out _ hgL).mono ?_; rintro e w8 ⟨he, hb8⟩; simp only at he; subst he
     have hk9 := Lib.hid ((hK5.out.trans (U.Below.kpl hgL)).trans (U.Below.kpl hb8))
     go_wp2
     exact ⟨rfl, by rw [← hF]; exact ⟨rfl, hk9.out⟩⟩
    ·rcases b with _ | _
     ·have HT := Lib.hid (fun wx (hgx : Gr W5 wx) => by
       have := hih.2 W0 wx sk g cap E n mb (hG5.out.tr hgx) (hO5.out.gr hgx) HV.out (hM5.out.gr hgx) hEl wel (by rw [hskn, ← hsnH.out]; exact hslH.out) hlel
       rw [hskn] at this
       exact this)
      have hGd : (match rnL [i0, i1, i2, i3] (limS vs) sk x.el with | .error e => .error e | .ok v => rnL [i0, i1, i2, i3] (limS vs) v (l.drop (k + 1))) = r := hGd.out
      have hla := Lib.hid (fun v => rnL_len (ins := [i0, i1, i2, i3]) (lim := limS vs) x.el (st := sk) (v := v))
      generalize rnL [i0, i1, i2, i3] (limS vs) sk x.el = q2 at *
      have hGd := Lib.hid hGd
      clear hih hG hO hKa hKb hTh hEl hlth hlel hx hmem hskn hza hzb wth wel hr1 hr2
      go_upto_region 4 with fail
      rw [← hW5]
      clear hW5
      obtain ⟨y0, y1, y2, y3, y4, y5, y6, y7, y8, y9, ya, yb, yc⟩ := U.cells13 hQ5
      obtain ⟨r0, r1, r2, r3, r4, r5, r6⟩ := cells7 hR5.out
      clear e0 e1 e2 e3 e4 e5 e6 e7 e8 e9 ea eb ec
      go_upto_region 6 with fail
      refine wp_region_X (S := fun wq => Gr W5 wq) [4] (by kernel_rfl) (grDrew _) (fun hHeld => ?_)
      have hSG : Hid (∀ wp wq : World, Gr W5 wp → Gr wp wq → Gr W5 wq) := Lib.hid (fun _ _ h k => h.tr k)
      have hmv := Lib.hid (fun (wq : World) (hq : Gr W5 wq) => And.intro (grCell hq r0) (And.intro (grCell hq r1) (And.intro (grCell hq r2) (And.intro (grCell hq r3) (And.intro (grCell hq r4) (And.intro (grCell hq r5) (And.intro (grCell hq r6) (And.intro (grCell hq y0) (And.intro (grCell hq y1) (And.intro (grCell hq y2) (And.intro (grCell hq y3) (And.intro (grCell hq y4) (And.intro (grCell hq y5) (And.intro (grCell hq y6) (And.intro (grCell hq y7) (And.intro (grCell hq y8) (And.intro (grCell hq y9) (And.intro (grCell hq ya) (And.intro (grCell hq yb) (grCell hq yc))))))))))))))))))))
      first
       | (refine xk hSG 0 [4] (v := ?_) rfl (by kernel_rfl) (fun _ _ _ h => h) (by rfl) ?_ hHeld ?_; rotate_left; focus (intro w' hSw; obtain ⟨r0, r1, r2, r3, r4, r5, r6, y0, y1, y2, y3, y4, y5, y6, y7, y8, y9, ya, yb, yc⟩ := hmv.out _ hSw; go_simp; (try with_reducible rfl)))
       | refine xn hSG 0 [4] rfl (by kernel_rfl) (fun _ _ _ h => h) (by rfl) hHeld ?_
      (try simp only [zq1, zq2, zq3, Act.put, zq4, zq5, zq6])
      first
       | (refine xk hSG 1 [3, 4] (v := ?_) rfl (by kernel_rfl) (fun _ _ _ h => h) (by rfl) ?_ hHeld ?_; rotate_left; focus (intro w' hSw; obtain ⟨r0, r1, r2, r3, r4, r5, r6, y0, y1, y2, y3, y4, y5, y6, y7, y8, y9, ya, yb, yc⟩ := hmv.out _ hSw; go_simp; (try with_reducible rfl)))
       | refine xn hSG 1 [3, 4] rfl (by kernel_rfl) (fun _ _ _ h => h) (by rfl) hHeld ?_
      (try simp only [zq1, zq2, zq3, Act.put, zq4, zq5, zq6])
      first
       | (refine xk hSG 2 [3, 4] (v := ?_) rfl (by kernel_rfl) (fun _ _ _ h => h) (by rfl) ?_ hHeld ?_; rotate_left; focus (intro w' hSw; obtain ⟨r0, r1, r2, r3, r4, r5, r6, y0, y1, y2, y3, y4, y5, y6, y7, y8, y9, ya, yb, yc⟩ := hmv.out _ hSw; go_simp; (try with_reducible rfl)))
       | refine xn hSG 2 [3, 4] rfl (by kernel_rfl) (fun _ _ _ h => h) (by rfl) hHeld ?_
      (try simp only [zq1, zq2, zq3, Act.put, zq4, zq5, zq6])
      refine xc hSG 3 [4] (v := .slice E x.el.length n) rfl (by kernel_rfl) (fun _ _ _ h => h) (by rfl) ?_ hHeld ?_
      focus (intro wz hSw K hK; obtain ⟨r0, r1, r2, r3, r4, r5, r6, y0, y1, y2, y3, y4, y5, y6, y7, y8, y9, ya, yb, yc⟩ := hmv.out _ hSw; go_simp; go_at_call 56; refine (HC.out _ hSw).mono ?_; rintro e w2 ⟨he, hb2⟩; simp only [if_pos, if_neg, Bool.false_eq_true, not_false_eq_true] at he; subst he; exact hK.out _ hb2)
      (try simp only [zq1, zq2, zq3, Act.put, zq4, zq5, zq6])
      refine wpAnyX_oneX (i := 4) (by kernel_rfl) (by kernel_rfl) rfl (fun w7 hg K hK => ?_)
      have hg7 := (grDrew W5).tr hg
      go_simp
      go_at_call 30
      refine (HT.out _ hg7).mono ?_
      rcases q2 with er | s2
      ·rintro e w8 ⟨he, hk8⟩
       simp only at he
       subst he
       have hF : (.error er : Except Int (List Int)) = r := hGd.out
       have hk9 := Lib.hid ((hK5.out.trans (U.Below.kpl hg7)).trans hk8)
       go_wp2
       exact ⟨rfl, by rw [← hF]; exact ⟨rfl, hk9.out⟩⟩
      ·rintro e w8 ⟨⟨he, ho8⟩, hk8⟩
       subst he
       refine hK.out _ _ ?_
       clear hK K hg
       have hk9 := Lib.hid ((hK5.out.trans (U.Below.kpl hg7)).trans hk8)
       have hR8 := Lib.hid ((hk8.block _ (blkLt (grBlk hg7 hR5.out)) (by have := hgw.out; omega)).trans (grBlk hg7 hR5.out))
       have hM8 := Lib.hid ((hM5.out.gr hg7).kp (hO5.out.gr hg7) hk8)
       have hO8 := Lib.hid ho8
       clear ho8 hk8 hg7
       refine wpAnyX_done (by kernel_rfl) (fun w9 hg => ?_) _
       have hO9 := Lib.hid (hO8.out.gr hg)
       have hM9 := Lib.hid (hM8.out.gr hg)
       have hR9 := Lib.hid (grBlk hg hR8.out)
       have hk10 := Lib.hid (hk9.out.trans (U.Below.kpl hg))
       have hl8 : Hid (s2.length = sn) := Lib.hid ((hla.out s2 rfl).trans hsk.out)
       clear hg hO8 hR8 hk9 r0 r1 r2 r3 r4 r5 r6 y0 y1 y2 y3 y4 y5 y6 y7 y8 y9 ya yb yc
       go_upto_region 7 with fail
       go_wp2
       go_roundg gq
       case measure => omega
       case rel => exact ⟨k + 1, s2, by omega, by go_num, hGd, hO9, hl8, hR9, hk10, hM9⟩
     ·have HT := Lib.hid (fun wx (hgx : Gr W5 wx) => by
       have := hih.1 W0 wx sk g cap T m mb (hG5.out.tr hgx) (hO5.out.gr hgx) HV.out (hM5.out.gr hgx) hTh wth (by rw [hskn, ← hsnH.out]; exact hslH.out) hlth
       rw [hskn] at this
       exact this)
      have hGd : (match rnL [i0, i1, i2, i3] (limS vs) sk x.th with | .error e => .error e | .ok v => rnL [i0, i1, i2, i3] (limS vs) v (l.drop (k + 1))) = r := hGd.out
      have hla := Lib.hid (fun v => rnL_len (ins := [i0, i1, i2, i3]) (lim := limS vs) x.th (st := sk) (v := v))
      generalize rnL [i0, i1, i2, i3] (limS vs) sk x.th = q2 at *
      have hGd := Lib.hid hGd
      clear hih hG hO hKa hKb hTh hEl hlth hlel hx hmem hskn hza hzb wth wel hr1 hr2
      go_upto_region 4 with fail
      rw [← hW5]
      clear hW5
      obtain ⟨y0, y1, y2, y3, y4, y5, y6, y7, y8, y9, ya, yb, yc⟩ := U.cells13 hQ5
      obtain ⟨r0, r1, r2, r3, r4, r5, r6⟩ := cells7 hR5.out
      clear e0 e1 e2 e3 e4 e5 e6 e7 e8 e9 ea eb ec
      go_upto_region 6 with fail
      refine wp_region_X (S := fun wq => Gr W5 wq) [4] (by kernel_rfl) (grDrew _) (fun hHeld => ?_)
      have hSG : Hid (∀ wp wq : World, Gr W5 wp → Gr wp wq → Gr W5 wq) := Lib.hid (fun _ _ h k => h.tr k)
      have hmv := Lib.hid (fun (wq : World) (hq : Gr W5 wq) => And.intro (grCell hq r0) (And.intro (grCell hq r1) (And.intro (grCell hq r2) (And.intro (grCell hq r3) (And.intro (grCell hq r4) (And.intro (grCell hq r5) (And.intro (grCell hq r6) (And.intro (grCell hq y0) (And.intro (grCell hq y1) (And.intro (grCell hq y2) (And.intro (grCell hq y3) (And.intro (grCell hq y4) (And.intro (grCell hq y5) (And.intro (grCell hq y6) (And.intro (grCell hq y7) (And.intro (grCell hq y8) (And.intro (grCell hq y9) (And.intro (grCell hq ya) (And.intro (grCell hq yb) (grCell hq yc))))))))))))))))))))
      first
       | (refine xk hSG 0 [4] (v := ?_) rfl (by kernel_rfl) (fun _ _ _ h => h) (by rfl) ?_ hHeld ?_; rotate_left; focus (intro w' hSw; obtain ⟨r0, r1, r2, r3, r4, r5, r6, y0, y1, y2, y3, y4, y5, y6, y7, y8, y9, ya, yb, yc⟩ := hmv.out _ hSw; go_simp; (try with_reducible rfl)))
       | refine xn hSG 0 [4] rfl (by kernel_rfl) (fun _ _ _ h => h) (by rfl) hHeld ?_
      (try simp only [zq1, zq2, zq3, Act.put, zq4, zq5, zq6])
      first
       | (refine xk hSG 1 [3, 4] (v := ?_) rfl (by kernel_rfl) (fun _ _ _ h => h) (by rfl) ?_ hHeld ?_; rotate_left; focus (intro w' hSw; obtain ⟨r0, r1, r2, r3, r4, r5, r6, y0, y1, y2, y3, y4, y5, y6, y7, y8, y9, ya, yb, yc⟩ := hmv.out _ hSw; go_simp; (try with_reducible rfl)))
       | refine xn hSG 1 [3, 4] rfl (by kernel_rfl) (fun _ _ _ h => h) (by rfl) hHeld ?_
      (try simp only [zq1, zq2, zq3, Act.put, zq4, zq5, zq6])
      first
       | (refine xk hSG 2 [3, 4] (v := ?_) rfl (by kernel_rfl) (fun _ _ _ h => h) (by rfl) ?_ hHeld ?_; rotate_left; focus (intro w' hSw; obtain ⟨r0, r1, r2, r3, r4, r5, r6, y0, y1, y2, y3, y4, y5, y6, y7, y8, y9, ya, yb, yc⟩ := hmv.out _ hSw; go_simp; (try with_reducible rfl)))
       | refine xn hSG 2 [3, 4] rfl (by kernel_rfl) (fun _ _ _ h => h) (by rfl) hHeld ?_
      (try simp only [zq1, zq2, zq3, Act.put, zq4, zq5, zq6])
      refine xc hSG 3 [4] (v := .slice T x.th.length m) rfl (by kernel_rfl) (fun _ _ _ h => h) (by rfl) ?_ hHeld ?_
      focus (intro wz hSw K hK; obtain ⟨r0, r1, r2, r3, r4, r5, r6, y0, y1, y2, y3, y4, y5, y6, y7, y8, y9, ya, yb, yc⟩ := hmv.out _ hSw; go_simp; go_at_call 56; refine (HC.out _ hSw).mono ?_; rintro e w2 ⟨he, hb2⟩; simp only [if_pos, if_neg, Bool.false_eq_true, not_false_eq_true] at he; subst he; exact hK.out _ hb2)
      (try simp only [zq1, zq2, zq3, Act.put, zq4, zq5, zq6])
      refine wpAnyX_oneX (i := 4) (by kernel_rfl) (by kernel_rfl) rfl (fun w7 hg K hK => ?_)
      have hg7 := (grDrew W5).tr hg
      go_simp
      go_at_call 30
      refine (HT.out _ hg7).mono ?_
      rcases q2 with er | s2
      ·rintro e w8 ⟨he, hk8⟩
       simp only at he
       subst he
       have hF : (.error er : Except Int (List Int)) = r := hGd.out
       have hk9 := Lib.hid ((hK5.out.trans (U.Below.kpl hg7)).trans hk8)
       go_wp2
       exact ⟨rfl, by rw [← hF]; exact ⟨rfl, hk9.out⟩⟩
      ·rintro e w8 ⟨⟨he, ho8⟩, hk8⟩
       subst he
       refine hK.out _ _ ?_
       clear hK K hg
       have hk9 := Lib.hid ((hK5.out.trans (U.Below.kpl hg7)).trans hk8)
       have hR8 := Lib.hid ((hk8.block _ (blkLt (grBlk hg7 hR5.out)) (by have := hgw.out; omega)).trans (grBlk hg7 hR5.out))
       have hM8 := Lib.hid ((hM5.out.gr hg7).kp (hO5.out.gr hg7) hk8)
       have hO8 := Lib.hid ho8
       clear ho8 hk8 hg7
       refine wpAnyX_done (by kernel_rfl) (fun w9 hg => ?_) _
       have hO9 := Lib.hid (hO8.out.gr hg)
       have hM9 := Lib.hid (hM8.out.gr hg)
       have hR9 := Lib.hid (grBlk hg hR8.out)
       have hk10 := Lib.hid (hk9.out.trans (U.Below.kpl hg))
       have hl8 : Hid (s2.length = sn) := Lib.hid ((hla.out s2 rfl).trans hsk.out)
       clear hg hO8 hR8 hk9 r0 r1 r2 r3 r4 r5 r6 y0 y1 y2 y3 y4 y5 y6 y7 y8 y9 ya yb yc
       go_upto_region 7 with fail
       go_wp2
       go_roundg gq
       case measure => omega
       case rel => exact ⟨k + 1, s2, by omega, by go_num, hGd, hO9, hl8, hR9, hk10, hM9⟩
  ·obtain rfl : gk = 0 := by omega
   have hF : (.ok sk : Except Int (List Int)) = r := by have := hG.out; rw [List.drop_eq_nil_of_le (by omega), rnL] at this; exact this
   have hkl : decide ((k : Int) < (l.length : Int)) = false := by simp; omega
   have hP := Lib.hid (show RunP W0 w g cap r (.returned (.tuple #[])) wr from by rw [← hF]; exact ⟨⟨rfl, hO.out⟩, hKp.out⟩)
   clear hG hO
   go_wp2
   exact ⟨rfl, .tuple #[], by simp [results, Tryz.results30, go_sem], hP.out⟩
mutual
theorem run_any (vs : List Vr) (hvl : vs.length ≤ 12) (VA : Option Addr) (vm : Nat) (i0 i1 i2 i3 : Int) : ∀ x : St, RunC vs VA vm i0 i1 i2 i3 x.th ∧ RunC vs VA vm i0 i1 i2 i3 x.el
 | .mk _ _ _ _ _ th el => ⟨run_step vs hvl VA vm i0 i1 i2 i3 th (run_all vs hvl VA vm i0 i1 i2 i3 th), run_step vs hvl VA vm i0 i1 i2 i3 el (run_all vs hvl VA vm i0 i1 i2 i3 el)⟩
theorem run_all (vs : List Vr) (hvl : vs.length ≤ 12) (VA : Option Addr) (vm : Nat) (i0 i1 i2 i3 : Int) : ∀ (l : List St), ∀ x ∈ l, RunC vs VA vm i0 i1 i2 i3 x.th ∧ RunC vs VA vm i0 i1 i2 i3 x.el
 | [], x, hx => by cases hx
 | y :: ys, x, hx => by
  rcases List.mem_cons.1 hx with h | h
  ·rw [h]; exact run_any vs hvl VA vm i0 i1 i2 i3 y
  ·exact run_all vs hvl VA vm i0 i1 i2 i3 ys x h
end
theorem runs_any (vs : List Vr) (hvl : vs.length ≤ 12) (VA : Option Addr) (vm : Nat) (i0 i1 i2 i3 : Int) (l : List St) : RunC vs VA vm i0 i1 i2 i3 l := run_step vs hvl VA vm i0 i1 i2 i3 l (run_all vs hvl VA vm i0 i1 i2 i3 l)
end M
end Go.Proofs.YtdlebaiamdbneaaGreatDoor
namespace Go.Proofs.YtdlebaiamdbneaaGreatDoor
open Go.RowKit
namespace M
open I
open U (Ex St btw btw_iff ev eArr KidsE newBlk blkLt Vr VarsR VrAt gbBelow)
open R (epanic bAllocX insR addN)
theorem belOf {w w2 : World} (h : w2 = w) : Below w.heap.size w w2 := by subst h; exact Below.refl _ _
theorem CloneI_any (st : List Int) (SA : Option Addr) (sc : Nat) (w : World) (hS : IntsR w st SA) (h0 : 0 < st.length) (h1 : st.length ≤ 1000) :
  Calls Tryz.prog 26 #[.slice SA st.length sc] w (fun e w' => (∃ g cap, e = .returned (.slice (some ⟨g, 0, none⟩) st.length cap) ∧ IntsO w.heap.size w' st g cap) ∧ Below w.heap.size w w') := by
 obtain ⟨g, o, rfl, hat⟩ := hS.addr (by intro e; rw [e] at h0; simp at h0)
 have hc : ∀ (j : Nat) (u : Value), (iCells st)[j]? = some u → w.cell? ⟨g, o + j, none⟩ = some u := by
  intro j u hu
  simp only [iCells, List.getElem?_map, Option.map_eq_some_iff] at hu
  obtain ⟨n, hn, rfl⟩ := hu
  exact hat j n hn
 have hc := Lib.hid hc
 have h1' : Hid (∀ u ∈ iCells st, u.oneCell' = true) := Lib.hid (by intro u hu; obtain ⟨n, -, rfl⟩ := List.mem_map.1 hu; rfl)
 have hln : (iCells st).length = st.length := by simp [iCells]
 have hnil : ∀ wx, (binOp .eql 27 (.slice (some ⟨g, o, none⟩) st.length sc) (.slice none 0 0)).run Tryz.prog wx = .ok (.bool false) wx := fun wx => Lib.run_eql_slice_nil wx _ 3 _ _ _ _ _ Tryz.underlying27
 obtain ⟨ix, hi, hz0, hz1, hz2⟩ := info_parts intInfo
 have hO : Hid ((w.alloc (.cells #[] 3)).ownsRow w.heap.size 3 1 (.slice (some ⟨w.heap.size, 0, none⟩) 0 0) 0 []) := Lib.hid (World.ownsRow_made w #[] 0 (Nat.le_refl _) (Nat.zero_le _) rfl)
 have hgr := Lib.hid (grAlloc w (.cells #[] 3))
 clear hat hS
 go_enter Tryz.func26, Tryz.ntmps26
 go_wp2_with (at_builtin; refine wpList_append_lies _ rfl _ _ 27 rfl w.heap.size 3 ix (.int .i64 0) 1 8 Tryz.underlying27 hi hz0 hz1 hz2 rfl (by decide) _ 0 [] rfl hO.out ⟨g, o, none⟩ st.length sc (iCells st) rfl ?c0 ?c1 h1'.out h0 ?c3 ?c4 ?c5 (w.heap.size + 1) ?c6 ?_)
 case c0 => omega
 case c1 => intro j x hj; rw [addN]; exact grCell hgr.out (hc.out j x hj)
 case c3 => unfold maxLen; omega
 case c4 => omega
 case c5 => simp
 case c6 => simp
 intro gb cap w3 hown3 hgrow hat hlt3
 have hO3 : Hid (IntsO w.heap.size w3 st gb cap) := Lib.hid (by unfold IntsO; simpa using hown3)
 have hB3 := Lib.hid (Below.trans hgr.out (gbBelow (B := w.heap.size) hgrow (by simp) (fun k e => by simp [Value.ownBlock] at e; omega)))
 clear hown3 hgrow hat
 go_wp2
 exact bodyPost_ret (v := .slice (some ⟨gb, 0, none⟩) st.length cap) (by simp [results, Tryz.results26, go_sem]) rfl ⟨⟨gb, cap, rfl, hO3.out⟩, hB3.out⟩
def inLB : List Vr → List Int → Bool
 | v :: vs, n :: ns => btw n v.lo v.hi && inLB vs ns
 | _, _ => true
def stB (vs : List Vr) (st : List Int) : Bool := decide (st.length = vs.length) && inLB vs st
theorem inLB_drop {vs : List Vr} {st : List Int} {k : Nat} (h1 : k < vs.length) (h2 : k < st.length) : inLB (vs.drop k) (st.drop k) = (btw st[k] vs[k].lo vs[k].hi && inLB (vs.drop (k + 1)) (st.drop (k + 1))) := by
 rw [List.drop_eq_getElem_cons h1, List.drop_eq_getElem_cons h2, inLB]
theorem inLB_end {vs : List Vr} {st : List Int} {k : Nat} (h1 : vs.length ≤ k) : inLB (vs.drop k) (st.drop k) = true := by
 rw [List.drop_eq_nil_of_le h1]; rfl
theorem isState_any (vs : List Vr) (VA : Option Addr) (vm : Nat) (st : List Int) (SA : Option Addr) (sc : Nat) (w : World) (hV : VarsR w vs VA) (hS : IntsR w st SA) (hvl : vs.length ≤ 1000000) :
  Calls Tryz.prog 24 #[.slice VA vs.length vm, .slice SA st.length sc] w (BB (stB vs st) w) := by
 by_cases hl : st.length = vs.length
 ·have hm : stB vs st = inLB vs st := by unfold stB; simp [hl]
  rw [hm]
  obtain ⟨r, hr⟩ : ∃ r, inLB vs st = r := ⟨_, rfl⟩
  rw [hr]
  have hrH : Hid (inLB (vs.drop 0) (st.drop 0) = r) := Lib.hid hr
  have HV := Lib.hid hV
  have HS := Lib.hid hS
  have hlb : (((st.length : Nat) : Int) != ((vs.length : Nat) : Int)) = false := by simp [hl]
  have hlH := Lib.hid hl
  clear hm hr hV hS hl
  go_enter Tryz.func24, Tryz.ntmps24
  go_wp2_with fail
  go_loopg [14] (vs.length) (fun gk i wr => ∃ k : Nat, k + gk = vs.length ∧ i = .int .i64 k ∧ Hid (inLB (vs.drop k) (st.drop k) = r) ∧ Hid (Below w.heap.size w wr))
  case atStart => exact ⟨0, by omega, rfl, hrH, Lib.hid (Below.refl _ _)⟩
  case round =>
   obtain ⟨k, hk, rfl, hG, hW⟩ := hrel
   by_cases hlt : k < vs.length
   ·obtain ⟨gq, rfl⟩ : ∃ g, gk = g + 1 := ⟨gk - 1, by omega⟩
    have hls : k < st.length := by have := hlH.out; omega
    obtain ⟨ga, oa, rfl, hat⟩ := HV.out.addr (by omega)
    obtain ⟨gs, os, rfl, has⟩ := HS.out.addr (by intro e; rw [e] at hls; simp at hls)
    obtain ⟨e0, e1, e2, e3, e4⟩ := hat k _ (List.getElem?_eq_getElem hlt)
    have s0 := has k _ (List.getElem?_eq_getElem hls)
    have e0 := grCell hW.out e0
    have e1 := grCell hW.out e1
    have e2 := grCell hW.out e2
    have e3 := grCell hW.out e3
    have e4 := grCell hW.out e4
    have s0 := grCell hW.out s0
    have hGd := hG.out
    rw [inLB_drop hlt hls] at hGd
    generalize vs[k] = u at *
    generalize st[k] = n at *
    obtain ⟨W5, hW5⟩ : ∃ W5, W5 = wr.alloc (.cells (vrC u) 54) := ⟨_, rfl⟩
    have hG5 : Gr wr W5 := by rw [hW5]; exact grAlloc _ _
    have hQ5 : W5.heap[wr.heap.size]? = some (.cells (vrC u) 54 (0, 0)) := by rw [hW5]; exact newBlk _ _ _ rfl
    have s0 := grCell hG5 s0
    have hB5 := Lib.hid (hW.out.trans (hG5.mono hW.out.size))
    clear hat has hG
    go_upto_region 6 with fail
    rw [← hW5]
    clear hW5 hG5 e0 e1 e2 e3 e4
    obtain ⟨⟨q0, q1, q2, q3, q4⟩, -⟩ := C.cells5C hQ5
    have HBt := Lib.hid (fun wx => between_any n u.lo u.hi wx)
    rcases hb : btw n u.lo u.hi with _ | _
    ·rw [hb] at HBt hGd
     obtain rfl : false = r := by simpa using hGd
     clear hb hGd
     refine wp_region_G (S := fun wq => Gr W5 wq) (by kernel_rfl) (grDrew _) (fun hHeld => ?_)
     have hSG : Hid (∀ wp wq : World, Gr W5 wp → Gr wp wq → Gr W5 wq) := Lib.hid (fun _ _ h k => h.tr k)
     have hmv := Lib.hid (fun (wq : World) (hq : Gr W5 wq) => And.intro (grCell hq s0) (And.intro (grCell hq q0) (And.intro (grCell hq q1) (And.intro (grCell hq q2) (And.intro (grCell hq q3) (grCell hq q4))))))
     first
      | (refine tk hSG 0 (v := ?_) rfl (by kernel_rfl) (fun _ _ _ h => h) (by rfl) ?_ hHeld ?_; rotate_left; focus (intro w' hSw; obtain ⟨s0, q0, q1, q2, q3, q4⟩ := hmv.out _ hSw; go_simp; (try with_reducible rfl)))
      | refine tn hSG 0 rfl (by kernel_rfl) (fun _ _ _ h => h) (by rfl) hHeld ?_
     (try simp only [zq1, zq2, zq3, Act.put, zq4, zq5, zq6])
     first
      | (refine tk hSG 1 (v := ?_) rfl (by kernel_rfl) (fun _ _ _ h => h) (by rfl) ?_ hHeld ?_; rotate_left; focus (intro w' hSw; obtain ⟨s0, q0, q1, q2, q3, q4⟩ := hmv.out _ hSw; go_simp; (try with_reducible rfl)))
      | refine tn hSG 1 rfl (by kernel_rfl) (fun _ _ _ h => h) (by rfl) hHeld ?_
     (try simp only [zq1, zq2, zq3, Act.put, zq4, zq5, zq6])
     refine tk hSG 2 (v := .pointer (some ⟨gs, os + k, none⟩)) rfl (by kernel_rfl) (fun _ _ _ h => h) (by rfl) ?_ hHeld ?_
     focus (intro w' hSw; obtain ⟨s0, q0, q1, q2, q3, q4⟩ := hmv.out _ hSw; go_simp; (try (intro hq; omega)))
     (try simp only [zq1, zq2, zq3, Act.put, zq4, zq5, zq6])
     first
      | (refine tk hSG 3 (v := ?_) rfl (by kernel_rfl) (fun _ _ _ h => h) (by rfl) ?_ hHeld ?_; rotate_left; focus (intro w' hSw; obtain ⟨s0, q0, q1, q2, q3, q4⟩ := hmv.out _ hSw; go_simp; (try with_reducible rfl)))
      | refine tn hSG 3 rfl (by kernel_rfl) (fun _ _ _ h => h) (by rfl) hHeld ?_
     (try simp only [zq1, zq2, zq3, Act.put, zq4, zq5, zq6])
     first
      | (refine tk hSG 4 (v := ?_) rfl (by kernel_rfl) (fun _ _ _ h => h) (by rfl) ?_ hHeld ?_; rotate_left; focus (intro w' hSw; obtain ⟨s0, q0, q1, q2, q3, q4⟩ := hmv.out _ hSw; go_simp; (try with_reducible rfl)))
      | refine tn hSG 4 rfl (by kernel_rfl) (fun _ _ _ h => h) (by rfl) hHeld ?_
     (try simp only [zq1, zq2, zq3, Act.put, zq4, zq5, zq6])
     first
      | (refine tk hSG 5 (v := ?_) rfl (by kernel_rfl) (fun _ _ _ h => h) (by rfl) ?_ hHeld ?_; rotate_left; focus (intro w' hSw; obtain ⟨s0, q0, q1, q2, q3, q4⟩ := hmv.out _ hSw; go_simp; (try with_reducible rfl)))
      | refine tn hSG 5 rfl (by kernel_rfl) (fun _ _ _ h => h) (by rfl) hHeld ?_
     (try simp only [zq1, zq2, zq3, Act.put, zq4, zq5, zq6])
     first
      | (refine tk hSG 6 (v := ?_) rfl (by kernel_rfl) (fun _ _ _ h => h) (by rfl) ?_ hHeld ?_; rotate_left; focus (intro w' hSw; obtain ⟨s0, q0, q1, q2, q3, q4⟩ := hmv.out _ hSw; go_simp; (try with_reducible rfl)))
      | refine tn hSG 6 rfl (by kernel_rfl) (fun _ _ _ h => h) (by rfl) hHeld ?_
     (try simp only [zq1, zq2, zq3, Act.put, zq4, zq5, zq6])
     first
      | (refine tk hSG 7 (v := ?_) rfl (by kernel_rfl) (fun _ _ _ h => h) (by rfl) ?_ hHeld ?_; rotate_left; focus (intro w' hSw; obtain ⟨s0, q0, q1, q2, q3, q4⟩ := hmv.out _ hSw; go_simp; (try with_reducible rfl)))
      | refine tn hSG 7 rfl (by kernel_rfl) (fun _ _ _ h => h) (by rfl) hHeld ?_
     (try simp only [zq1, zq2, zq3, Act.put, zq4, zq5, zq6])
     refine tc hSG 8 (v := .bool false) rfl (by kernel_rfl) (fun _ _ _ h => h) (by rfl) ?_ hHeld ?_
     focus (intro wz hSw K hK; obtain ⟨s0, q0, q1, q2, q3, q4⟩ := hmv.out _ hSw; go_simp; go_at_call 45; refine (HBt.out _).mono ?_; rintro e w2 ⟨rfl, hw⟩; have hb2 := belOf hw; exact hK.out _ hb2)
     (try simp only [zq1, zq2, zq3, Act.put, zq4, zq5, zq6])
     first
      | (refine tk hSG 9 (v := ?_) rfl (by kernel_rfl) (fun _ _ _ h => h) (by rfl) ?_ hHeld ?_; rotate_left; focus (intro w' hSw; obtain ⟨s0, q0, q1, q2, q3, q4⟩ := hmv.out _ hSw; go_simp; (try with_reducible rfl)))
      | refine tn hSG 9 rfl (by kernel_rfl) (fun _ _ _ h => h) (by rfl) hHeld ?_
     (try simp only [zq1, zq2, zq3, Act.put, zq4, zq5, zq6])
     refine wpAnyG_done (by kernel_rfl) (fun w5 hgD => ?_) _
     have hg5 : Gr W5 w5 := (grDrew W5).tr hgD
     clear hgD hSG hHeld
     have hB6 := Lib.hid (hB5.out.trans (hg5.mono hB5.out.size))
     clear q0 q1 q2 q3 q4 s0
     go_wp2
     go_ret
     exact ⟨rfl, hB6.out⟩
    ·rw [hb] at HBt hGd
     have hGd := Lib.hid (show inLB (vs.drop (k + 1)) (st.drop (k + 1)) = r by simpa using hGd)
     clear hb
     refine wp_region_G (S := fun wq => Gr W5 wq) (by kernel_rfl) (grDrew _) (fun hHeld => ?_)
     have hSG : Hid (∀ wp wq : World, Gr W5 wp → Gr wp wq → Gr W5 wq) := Lib.hid (fun _ _ h k => h.tr k)
     have hmv := Lib.hid (fun (wq : World) (hq : Gr W5 wq) => And.intro (grCell hq s0) (And.intro (grCell hq q0) (And.intro (grCell hq q1) (And.intro (grCell hq q2) (And.intro (grCell hq q3) (grCell hq q4))))))
     first
      | (refine tk hSG 0 (v := ?_) rfl (by kernel_rfl) (fun _ _ _ h => h) (by rfl) ?_ hHeld ?_; rotate_left; focus (intro w' hSw; obtain ⟨s0, q0, q1, q2, q3, q4⟩ := hmv.out _ hSw; go_simp; (try with_reducible rfl)))
      | refine tn hSG 0 rfl (by kernel_rfl) (fun _ _ _ h => h) (by rfl) hHeld ?_
     (try simp only [zq1, zq2, zq3, Act.put, zq4, zq5, zq6])
     first
      | (refine tk hSG 1 (v := ?_) rfl (by kernel_rfl) (fun _ _ _ h => h) (by rfl) ?_ hHeld ?_; rotate_left; focus (intro w' hSw; obtain ⟨s0, q0, q1, q2, q3, q4⟩ := hmv.out _ hSw; go_simp; (try with_reducible rfl)))
      | refine tn hSG 1 rfl (by kernel_rfl) (fun _ _ _ h => h) (by rfl) hHeld ?_
     (try simp only [zq1, zq2, zq3, Act.put, zq4, zq5, zq6])
     refine tk hSG 2 (v := .pointer (some ⟨gs, os + k, none⟩)) rfl (by kernel_rfl) (fun _ _ _ h => h) (by rfl) ?_ hHeld ?_
     focus (intro w' hSw; obtain ⟨s0, q0, q1, q2, q3, q4⟩ := hmv.out _ hSw; go_simp; (try (intro hq; omega)))
     (try simp only [zq1, zq2, zq3, Act.put, zq4, zq5, zq6])
     first
      | (refine tk hSG 3 (v := ?_) rfl (by kernel_rfl) (fun _ _ _ h => h) (by rfl) ?_ hHeld ?_; rotate_left; focus (intro w' hSw; obtain ⟨s0, q0, q1, q2, q3, q4⟩ := hmv.out _ hSw; go_simp; (try with_reducible rfl)))
      | refine tn hSG 3 rfl (by kernel_rfl) (fun _ _ _ h => h) (by rfl) hHeld ?_
     (try simp only [zq1, zq2, zq3, Act.put, zq4, zq5, zq6])
     first
      | (refine tk hSG 4 (v := ?_) rfl (by kernel_rfl) (fun _ _ _ h => h) (by rfl) ?_ hHeld ?_; rotate_left; focus (intro w' hSw; obtain ⟨s0, q0, q1, q2, q3, q4⟩ := hmv.out _ hSw; go_simp; (try with_reducible rfl)))
      | refine tn hSG 4 rfl (by kernel_rfl) (fun _ _ _ h => h) (by rfl) hHeld ?_
     (try simp only [zq1, zq2, zq3, Act.put, zq4, zq5, zq6])
     first
      | (refine tk hSG 5 (v := ?_) rfl (by kernel_rfl) (fun _ _ _ h => h) (by rfl) ?_ hHeld ?_; rotate_left; focus (intro w' hSw; obtain ⟨s0, q0, q1, q2, q3, q4⟩ := hmv.out _ hSw; go_simp; (try with_reducible rfl)))
      | refine tn hSG 5 rfl (by kernel_rfl) (fun _ _ _ h => h) (by rfl) hHeld ?_
     (try simp only [zq1, zq2, zq3, Act.put, zq4, zq5, zq6])
     first
      | (refine tk hSG 6 (v := ?_) rfl (by kernel_rfl) (fun _ _ _ h => h) (by rfl) ?_ hHeld ?_; rotate_left; focus (intro w' hSw; obtain ⟨s0, q0, q1, q2, q3, q4⟩ := hmv.out _ hSw; go_simp; (try with_reducible rfl)))
      | refine tn hSG 6 rfl (by kernel_rfl) (fun _ _ _ h => h) (by rfl) hHeld ?_
     (try simp only [zq1, zq2, zq3, Act.put, zq4, zq5, zq6])
     first
      | (refine tk hSG 7 (v := ?_) rfl (by kernel_rfl) (fun _ _ _ h => h) (by rfl) ?_ hHeld ?_; rotate_left; focus (intro w' hSw; obtain ⟨s0, q0, q1, q2, q3, q4⟩ := hmv.out _ hSw; go_simp; (try with_reducible rfl)))
      | refine tn hSG 7 rfl (by kernel_rfl) (fun _ _ _ h => h) (by rfl) hHeld ?_
     (try simp only [zq1, zq2, zq3, Act.put, zq4, zq5, zq6])
     refine tc hSG 8 (v := .bool true) rfl (by kernel_rfl) (fun _ _ _ h => h) (by rfl) ?_ hHeld ?_
     focus (intro wz hSw K hK; obtain ⟨s0, q0, q1, q2, q3, q4⟩ := hmv.out _ hSw; go_simp; go_at_call 45; refine (HBt.out _).mono ?_; rintro e w2 ⟨rfl, hw⟩; have hb2 := belOf hw; exact hK.out _ hb2)
     (try simp only [zq1, zq2, zq3, Act.put, zq4, zq5, zq6])
     first
      | (refine tk hSG 9 (v := ?_) rfl (by kernel_rfl) (fun _ _ _ h => h) (by rfl) ?_ hHeld ?_; rotate_left; focus (intro w' hSw; obtain ⟨s0, q0, q1, q2, q3, q4⟩ := hmv.out _ hSw; go_simp; (try with_reducible rfl)))
      | refine tn hSG 9 rfl (by kernel_rfl) (fun _ _ _ h => h) (by rfl) hHeld ?_
     (try simp only [zq1, zq2, zq3, Act.put, zq4, zq5, zq6])
     refine wpAnyG_done (by kernel_rfl) (fun w5 hgD => ?_) _
     have hg5 : Gr W5 w5 := (grDrew W5).tr hgD
     clear hgD hSG hHeld
     have hB6 := Lib.hid (hB5.out.trans (hg5.mono hB5.out.size))
     clear q0 q1 q2 q3 q4 s0
     go_upto_region 8 with fail
     go_wp2
     go_roundg gq
     case measure => omega
     case rel => exact ⟨k + 1, by omega, by go_num, hGd, hB6⟩
   ·obtain rfl : gk = 0 := by omega
    have hkl : decide ((k : Int) < (vs.length : Int)) = false := by simp; omega
    obtain rfl : true = r := by have := hG.out; rw [inLB_end (by omega)] at this; exact this
    clear hG
    go_wp2
    go_ret
    exact ⟨rfl, hW.out⟩
 ·have hm : stB vs st = false := by unfold stB; simp [hl]
  rw [hm]
  have hlb : (((st.length : Nat) : Int) != ((vs.length : Nat) : Int)) = true := by simp; omega
  clear hm hV hS hl
  go_enter Tryz.func24, Tryz.ntmps24
  go_wp2_with fail
  go_ret
  exact ⟨rfl, Below.refl _ _⟩
end M
end Go.Proofs.YtdlebaiamdbneaaGreatDoor
