/- Texts of one proof: MxJ. -/
import Derived.Test.YtdgompdbhlhofaaGreatDoorYe
namespace Go.Proofs.YtdgompdbhlhofaaGreatDoor
open Go.RowKit
set_option linter.unusedVariables false
set_option linter.unusedSimpArgs false
namespace M
open I
open U (Ex St StsR StAt btw ev eArr KidsE newBlk blkLt Vr VarsR VrAt sArr KpL)
open R (epanic bAllocX limS WfL WfS)
theorem rnS_asg {ins : List Int} {lim : List Sp} {st : List Int} {x : St} (h : x.kind = 1) : rnS ins lim st x = asgE ins lim st x := by
  obtain ⟨k, v, r, a, b, th, el⟩ := x
  have h : k = 1 := h
  rw [rnS, if_pos h]
  rfl
theorem rnS_if {ins : List Int} {lim : List Sp} {st : List Int} {x : St} (h : x.kind ≠ 1) : rnS ins lim st x = (match chE ins st x with | .error e => .error e | .ok b => if b = true then rnL ins lim st x.th else rnL ins lim st x.el) := by
  obtain ⟨k, v, r, a, b, th, el⟩ := x
  have h : k ≠ 1 := h
  rw [rnS, if_neg h]
  unfold chE
  simp only [St.a, St.b, St.rel, St.th, St.el]
  rcases mvE st ins a with e | y
  · rfl
  simp only
  rcases mvE st ins b with e | z
  · rfl
  rfl
theorem rnL_drop {ins : List Int} {lim : List Sp} {st : List Int} {l : List St} {k : Nat} (h : k < l.length) : rnL ins lim st (l.drop k) = (match rnS ins lim st l[k] with | .error e => .error e | .ok v => rnL ins lim v (l.drop (k + 1))) := by
  rw [List.drop_eq_getElem_cons h, rnL]
  rcases rnS ins lim st l[k] with e | v <;> rfl
theorem WfL_get {n : Nat} : ∀ {l : List St}, WfL n l → ∀ x ∈ l, WfS n x
  | [], _, x, hx => by cases hx
  | y :: ys, h, x, hx => by
    rw [WfL] at h
    rcases List.mem_cons.1 hx with rfl | hx
    · exact h.1
    · exact WfL_get h.2 x hx
theorem WfS_cases {n : Nat} {x : St} (h : WfS n x) : (x.kind = 1 ∧ 0 ≤ x.var ∧ x.var < n ∧ x.a.size ≤ 60) ∨ (x.kind = 2 ∧ 1 ≤ x.rel ∧ x.rel ≤ 6 ∧ x.a.size ≤ 60 ∧ x.b.size ≤ 60 ∧ WfL n x.th ∧ WfL n x.el) := by
  obtain ⟨k, v, r, a, b, th, el⟩ := x
  rw [WfS] at h
  exact h
theorem asgE_len {ins : List Int} {lim : List Sp} {st : List Int} {x : St} {v : List Int} (h : asgE ins lim st x = .ok v) : v.length = st.length := by
  unfold asgE at h
  rcases ha : mvE st ins x.a with e | n
  · rw [ha] at h; cases h
  rw [ha] at h
  simp only at h
  split at h
  · cases h; simp
  · cases h
mutual
theorem rnS_len {ins : List Int} {lim : List Sp} : ∀ (x : St) {st v : List Int}, rnS ins lim st x = .ok v → v.length = st.length
  | .mk k vr r a b th el, st, v, h => by
    rw [rnS] at h
    split at h
    · rcases ha : mvE st ins a with e | n
      · rw [ha] at h; cases h
      rw [ha] at h
      simp only at h
      split at h
      · cases h; simp
      · cases h
    · rcases ha : mvE st ins a with e | y
      · rw [ha] at h; cases h
      rw [ha] at h
      simp only at h
      rcases hb : mvE st ins b with e | z
      · rw [hb] at h; cases h
      rw [hb] at h
      simp only at h
      split at h
      · exact rnL_len th h
      · exact rnL_len el h
theorem rnL_len {ins : List Int} {lim : List Sp} : ∀ (l : List St) {st v : List Int}, rnL ins lim st l = .ok v → v.length = st.length
  | [], st, v, h => by rw [rnL] at h; cases h; rfl
  | x :: xs, st, v, h => by
    rw [rnL] at h
    rcases h1 : rnS ins lim st x with e | u
    · rw [h1] at h; cases h
    rw [h1] at h
    exact (rnL_len xs h).trans (rnS_len x h1)
end
def RunC (vs : List Vr) (VA : Option Addr) (vm : Nat) (i0 i1 i2 i3 : Int) (l : List St) : Prop := ∀ (W0 w : World) (st : List Int) (g cap : Nat) (LA : Option Addr) (lm mb : Nat), Gr W0 w → IntsO W0.heap.size w st g cap → VarsR W0 vs VA → OpsR w mb → StsR W0 l LA → WfL vs.length l → st.length = vs.length → l.length ≤ maxLen →
  Calls Tryz.prog 29 #[.agg (ruA VA vs.length vm g st.length cap i0 i1 i2 i3 mb), .slice LA l.length lm] w (RunP W0 w g cap (rnL [i0, i1, i2, i3] (limS vs) st l))
theorem RunP.kp {W0 w w1 w' : World} {g cap : Nat} {r : Except Int (List Int)} {e : Ending} (h : RunP W0 w1 g cap r e w') (k : KpL g w w1) : RunP W0 w g cap r e w' := ⟨h.1, k.trans h.2⟩
set_option maxHeartbeats 8000000 in
set_option maxRecDepth 100000 in
theorem run_step (vs : List Vr) (hvl : vs.length ≤ 12) (VA : Option Addr) (vm : Nat) (i0 i1 i2 i3 : Int) (l : List St) (ih : ∀ x ∈ l, RunC vs VA vm i0 i1 i2 i3 x.th ∧ RunC vs VA vm i0 i1 i2 i3 x.el) : RunC vs VA vm i0 i1 i2 i3 l := by
  intro W0 w st g cap LA lm mb hg hO hV hM hL hW hsl hlen
  obtain ⟨r, hr⟩ : ∃ r, rnL [i0, i1, i2, i3] (limS vs) st l = r := ⟨_, rfl⟩
  rw [hr]
  have HL := Lib.hid hL
  have HV := Lib.hid hV
  have HWf := Lib.hid hW
  have IH := Lib.hid ih
  have HG := Lib.hid hg
  have hvH := Lib.hid hvl
  have hgw := Lib.hid hO.lt
  have hslH := Lib.hid hsl
  obtain ⟨sn, hsn⟩ : ∃ sn, st.length = sn := ⟨_, rfl⟩
  have hsnH := Lib.hid hsn
  have HR0 : Hid ((w.alloc (.cells (ruA VA vs.length vm g sn cap i0 i1 i2 i3 mb) 73)).heap[w.heap.size]? = some (.cells (ruA VA vs.length vm g sn cap i0 i1 i2 i3 mb) 73 (0, 0))) := Lib.hid (newBlk _ _ _ rfl)
  have HM0 := Lib.hid (hM.gr (grAlloc w (.cells (ruA VA vs.length vm g sn cap i0 i1 i2 i3 mb) 73)))
  have HO0 := Lib.hid (hO.gr (grAlloc w (.cells (ruA VA vs.length vm g sn cap i0 i1 i2 i3 mb) 73)))
  have HK0 := Lib.hid (U.Below.kpl (L := g) (grAlloc w (.cells (ruA VA vs.length vm g sn cap i0 i1 i2 i3 mb) 73)))
  have hrH : Hid (rnL [i0, i1, i2, i3] (limS vs) st (l.drop 0) = r) := Lib.hid hr
  unfold maxLen at hlen
  rw [hsn]
  clear hL hV hM hW ih hg hO hr hvl hsl hsn
  go_enter Tryz.func29, Tryz.ntmps29
  go_wp2_with fail
  go_loopg [8] (l.length) (fun gk i wr => ∃ (k : Nat) (sk : List Int), k + gk = l.length ∧ i = .int .i64 k ∧ Hid (rnL [i0, i1, i2, i3] (limS vs) sk (l.drop k) = r) ∧ Hid (IntsO W0.heap.size wr sk g cap) ∧ Hid (sk.length = sn) ∧ Hid (wr.heap[w.heap.size]? = some (.cells (ruA VA vs.length vm g sn cap i0 i1 i2 i3 mb) 73 (0, 0))) ∧ Hid (KpL g w wr) ∧ Hid (OpsR wr mb))
  case atStart => exact ⟨0, st, by omega, rfl, hrH, HO0, hsnH, HR0, HK0, HM0⟩
  case round =>
    obtain ⟨k, sk, hk, rfl, hG, hO, hsk, hR, hKp, hMr⟩ := hrel
    clear HO0 HR0 HK0 HM0
    have hGr := Lib.hid (show Gr W0 wr from KpL.below HG.out hKp.out HG.out.size hgw.out.1)
    obtain ⟨r0, r1, r2, r3, r4, r5, r6⟩ := cells7 hR.out
    have hrl := blkLt hR.out
    by_cases hlt : k < l.length
    · obtain ⟨gq, rfl⟩ : ∃ g, gk = g + 1 := ⟨gk - 1, by omega⟩
      obtain ⟨ls, lo, rfl⟩ := HL.out.addr (by omega)
      have hx := HL.out.get _ _ _ k _ (List.getElem?_eq_getElem hlt)
      have hmem : l[k] ∈ l := List.getElem_mem hlt
      have hwx := WfS_cases (WfL_get HWf.out _ hmem)
      have hih := IH.out _ hmem
      have hGd := hG.out
      rw [rnL_drop hlt] at hGd
      generalize l[k] = x at *
      obtain ⟨A, c, B, d, T, m, E, n, hat, hKa, hKb, hTh, hEl, hlth, hlel⟩ := hx.cells
      obtain ⟨e0, e1, e2, e3, e4, e5, e6, e7, e8, e9, ea, eb, ec⟩ := hat
      have e0 := grCell hGr.out e0
      have e1 := grCell hGr.out e1
      have e2 := grCell hGr.out e2
      have e3 := grCell hGr.out e3
      have e4 := grCell hGr.out e4
      have e5 := grCell hGr.out e5
      have e6 := grCell hGr.out e6
      have e7 := grCell hGr.out e7
      have e8 := grCell hGr.out e8
      have e9 := grCell hGr.out e9
      have ea := grCell hGr.out ea
      have eb := grCell hGr.out eb
      have ec := grCell hGr.out ec
      obtain ⟨W5, hW5⟩ : ∃ W5, W5 = wr.alloc (.cells (sArr x A c B d T m E n) 49) := ⟨_, rfl⟩
      have hg5 : Gr wr W5 := by rw [hW5]; exact grAlloc _ _
      have hQ5 : W5.heap[wr.heap.size]? = some (.cells (sArr x A c B d T m E n) 49 (0, 0)) := by rw [hW5]; exact newBlk _ _ _ rfl
      have hO5 := Lib.hid (hO.out.gr hg5)
      have hG5 := Lib.hid (hGr.out.tr hg5)
      have hR5 := Lib.hid (grBlk hg5 hR.out)
      have hM5 := Lib.hid (hMr.out.gr hg5)
      have hK5 := Lib.hid (hKp.out.trans (U.Below.kpl hg5))
      have hskn := hsk.out
      rcases hwx with ⟨hk1, hv0, hv1, hza⟩ | ⟨hk2, hr1, hr2, hza, hzb, wth, wel⟩
      · have HA := assign_any W0 W5 hG5.out sk g cap hO5.out vs VA vm HV.out i0 i1 i2 i3 mb hM5.out x A c B d T m E n hKa hv0 hv1 hza (by rw [hskn, ← hsnH.out]; exact hslH.out) hvH.out
        rw [hskn] at HA
        have HA := Lib.hid HA
        rw [rnS_asg hk1] at hGd
        have hGd := Lib.hid hGd
        have hkb : (x.kind == 1) = true := by simp [hk1]
        have hkH := Lib.hid hk1
        have hla := Lib.hid (fun v => asgE_len (ins := [i0, i1, i2, i3]) (lim := limS vs) (st := sk) (x := x) (v := v))
        generalize asgE [i0, i1, i2, i3] (limS vs) sk x = q at *
        clear hk1 hv0 hv1 hza hih hG hO hKa hKb hTh hEl hlth hlel hx hmem hskn
        go_upto_region 4 with fail
        rw [← hW5]
        clear hW5
        obtain ⟨y0, y1, y2, y3, y4, y5, y6, y7, y8, y9, ya, yb, yc⟩ := U.cells13 hQ5
        obtain ⟨r0, r1, r2, r3, r4, r5, r6⟩ := cells7 hR5.out
        clear e0 e1 e2 e3 e4 e5 e6 e7 e8 e9 ea eb ec
        rcases q with er | s2
        · have hF : (.error er : Except Int (List Int)) = r := hGd.out
          go_wp2_with (go_at_call 48; refine HA.out.mono ?_; rintro e w8 ⟨he, hk8⟩; simp only at he; subst he; have hk9 := Lib.hid (hK5.out.trans hk8))
          exact ⟨rfl, by rw [← hF]; exact ⟨rfl, hk9.out⟩⟩
        · go_wp2_with (go_at_call 48; refine HA.out.mono ?_; rintro e w8 ⟨⟨he, ho8⟩, hk8⟩; subst he; have hO8 := Lib.hid ho8; have hk9 := Lib.hid (hK5.out.trans hk8); have hM8 := Lib.hid (hM5.out.kp hO5.out hk8); have hR8 := Lib.hid ((hk8.block _ (blkLt hR5.out) (by have := hgw.out; omega)).trans hR5.out); clear ho8 hk8)
          have hl8 : Hid (s2.length = sn) := Lib.hid ((hla.out s2 rfl).trans hsk.out)
          go_roundg gq
          case measure => omega
          case rel => exact ⟨k + 1, s2, by omega, by go_num, hGd, hO8, hl8, hR8, hk9, hM8⟩
      · have hk1 : x.kind ≠ 1 := by omega
        rw [rnS_if hk1] at hGd
        have hkb : (x.kind == 1) = false := by simp [hk1]
        have HC := Lib.hid (fun wx (hgx : Gr W5 wx) => by
          have := chosen_any wx sk g cap ((hO5.out.intsR).gr hgx) VA vs.length vm i0 i1 i2 i3 mb (hM5.out.gr hgx) x A c B d T m E n (hKa.below (hG5.out.tr hgx)) (hKb.below (hG5.out.tr hgx)) hza hzb (by have := hslH.out; have := hsnH.out; have := hvH.out; omega)
          rw [hskn] at this
          exact this)
        generalize chE [i0, i1, i2, i3] sk x = q at *
        have hGd := Lib.hid hGd
        clear hk1 hk2
        rcases q with er | b
        · have hF : (.error er : Except Int (List Int)) = r := hGd.out
          clear hih hG hO hKa hKb hTh hEl hlth hlel hx hmem hskn hza hzb wth wel hr1 hr2
          go_upto_region 4 with fail
          rw [← hW5]
          clear hW5
          obtain ⟨y0, y1, y2, y3, y4, y5, y6, y7, y8, y9, ya, yb, yc⟩ := U.cells13 hQ5
          obtain ⟨r0, r1, r2, r3, r4, r5, r6⟩ := cells7 hR5.out
          clear e0 e1 e2 e3 e4 e5 e6 e7 e8 e9 ea eb ec
          go_upto_region 6 with fail
          refine wp_region_G (S := fun wq => Gr W5 wq) (by kernel_rfl) (grDrew _) (fun hHeld => ?_)
          have hSG : Hid (∀ wp wq : World, Gr W5 wp → Gr wp wq → Gr W5 wq) := Lib.hid (fun _ _ h k => h.tr k)
          first
            | (refine wpAnyG_take hSG (i := 0)  (v := ?_) rfl (by kernel_rfl) (by kernel_rfl) (by kernel_rfl) (fun _ _ _ h => h) (YieldsIf.gives (Or.inl ⟨by rfl, ?_⟩)) hHeld ?_; rotate_left; focus (intro w' hSw; have r0 := grCell hSw r0; have r1 := grCell hSw r1; have r2 := grCell hSw r2; have r3 := grCell hSw r3; have r4 := grCell hSw r4; have r5 := grCell hSw r5; have r6 := grCell hSw r6; have y0 := grCell hSw y0; have y1 := grCell hSw y1; have y2 := grCell hSw y2; have y3 := grCell hSw y3; have y4 := grCell hSw y4; have y5 := grCell hSw y5; have y6 := grCell hSw y6; have y7 := grCell hSw y7; have y8 := grCell hSw y8; have y9 := grCell hSw y9; have ya := grCell hSw ya; have yb := grCell hSw yb; have yc := grCell hSw yc; go_simp; (try with_reducible rfl)))
            | (refine wpAnyG_take hSG (i := 0)  (v := undef) rfl (by kernel_rfl) (by kernel_rfl) (by kernel_rfl) (fun _ _ _ h => h) (Or.inr ⟨by rfl, rfl⟩) hHeld ?_)
          (try simp only [List.getElem_toArray, List.getElem_cons_succ, List.getElem_cons_zero, Act.put, List.setIfInBounds_toArray, List.set_cons_zero, List.set_cons_succ])
          first
            | (refine wpAnyG_take hSG (i := 1)  (v := ?_) rfl (by kernel_rfl) (by kernel_rfl) (by kernel_rfl) (fun _ _ _ h => h) (YieldsIf.gives (Or.inl ⟨by rfl, ?_⟩)) hHeld ?_; rotate_left; focus (intro w' hSw; have r0 := grCell hSw r0; have r1 := grCell hSw r1; have r2 := grCell hSw r2; have r3 := grCell hSw r3; have r4 := grCell hSw r4; have r5 := grCell hSw r5; have r6 := grCell hSw r6; have y0 := grCell hSw y0; have y1 := grCell hSw y1; have y2 := grCell hSw y2; have y3 := grCell hSw y3; have y4 := grCell hSw y4; have y5 := grCell hSw y5; have y6 := grCell hSw y6; have y7 := grCell hSw y7; have y8 := grCell hSw y8; have y9 := grCell hSw y9; have ya := grCell hSw ya; have yb := grCell hSw yb; have yc := grCell hSw yc; go_simp; (try with_reducible rfl)))
            | (refine wpAnyG_take hSG (i := 1)  (v := undef) rfl (by kernel_rfl) (by kernel_rfl) (by kernel_rfl) (fun _ _ _ h => h) (Or.inr ⟨by rfl, rfl⟩) hHeld ?_)
          (try simp only [List.getElem_toArray, List.getElem_cons_succ, List.getElem_cons_zero, Act.put, List.setIfInBounds_toArray, List.set_cons_zero, List.set_cons_succ])
          first
            | (refine wpAnyG_take hSG (i := 2)  (v := ?_) rfl (by kernel_rfl) (by kernel_rfl) (by kernel_rfl) (fun _ _ _ h => h) (YieldsIf.gives (Or.inl ⟨by rfl, ?_⟩)) hHeld ?_; rotate_left; focus (intro w' hSw; have r0 := grCell hSw r0; have r1 := grCell hSw r1; have r2 := grCell hSw r2; have r3 := grCell hSw r3; have r4 := grCell hSw r4; have r5 := grCell hSw r5; have r6 := grCell hSw r6; have y0 := grCell hSw y0; have y1 := grCell hSw y1; have y2 := grCell hSw y2; have y3 := grCell hSw y3; have y4 := grCell hSw y4; have y5 := grCell hSw y5; have y6 := grCell hSw y6; have y7 := grCell hSw y7; have y8 := grCell hSw y8; have y9 := grCell hSw y9; have ya := grCell hSw ya; have yb := grCell hSw yb; have yc := grCell hSw yc; go_simp; (try with_reducible rfl)))
            | (refine wpAnyG_take hSG (i := 2)  (v := undef) rfl (by kernel_rfl) (by kernel_rfl) (by kernel_rfl) (fun _ _ _ h => h) (Or.inr ⟨by rfl, rfl⟩) hHeld ?_)
          (try simp only [List.getElem_toArray, List.getElem_cons_succ, List.getElem_cons_zero, Act.put, List.setIfInBounds_toArray, List.set_cons_zero, List.set_cons_succ])
          refine wpAnyG_ready (rs := [3]) (by kernel_rfl) (by simp) (AllG.cons rfl (fun w7 hgL K hK => ?_) AllG.nil)
          have hgL := (grDrew W5).tr hgL
          have r0 := grCell hgL r0
          have r1 := grCell hgL r1
          have r2 := grCell hgL r2
          have r3 := grCell hgL r3
          have r4 := grCell hgL r4
          have r5 := grCell hgL r5
          have r6 := grCell hgL r6
          have y0 := grCell hgL y0
          have y1 := grCell hgL y1
          have y2 := grCell hgL y2
          have y3 := grCell hgL y3
          have y4 := grCell hgL y4
          have y5 := grCell hgL y5
          have y6 := grCell hgL y6
          have y7 := grCell hgL y7
          have y8 := grCell hgL y8
          have y9 := grCell hgL y9
          have ya := grCell hgL ya
          have yb := grCell hgL yb
          have yc := grCell hgL yc
          go_simp
          go_at_call 49; refine (HC.out _ hgL).mono ?_; rintro e w8 ⟨he, hb8⟩; simp only at he; subst he
          have hk9 := Lib.hid ((hK5.out.trans (U.Below.kpl hgL)).trans (U.Below.kpl hb8))
          go_wp2
          exact ⟨rfl, by rw [← hF]; exact ⟨rfl, hk9.out⟩⟩
        · rcases b with _ | _
          · have HT := Lib.hid (fun wx (hgx : Gr W5 wx) => by
              have := hih.2 W0 wx sk g cap E n mb (hG5.out.tr hgx) (hO5.out.gr hgx) HV.out (hM5.out.gr hgx) hEl wel (by rw [hskn, ← hsnH.out]; exact hslH.out) hlel
              rw [hskn] at this
              exact this)
            have hGd : (match rnL [i0, i1, i2, i3] (limS vs) sk x.el with | .error e => .error e | .ok v => rnL [i0, i1, i2, i3] (limS vs) v (l.drop (k + 1))) = r := hGd.out
            have hla := Lib.hid (fun v => rnL_len (ins := [i0, i1, i2, i3]) (lim := limS vs) x.el (st := sk) (v := v))
            generalize rnL [i0, i1, i2, i3] (limS vs) sk x.el = q2 at *
            have hGd := Lib.hid hGd
            clear hih hG hO hKa hKb hTh hEl hlth hlel hx hmem hskn hza hzb wth wel hr1 hr2
            go_upto_region 4 with fail
            rw [← hW5]
            clear hW5
            obtain ⟨y0, y1, y2, y3, y4, y5, y6, y7, y8, y9, ya, yb, yc⟩ := U.cells13 hQ5
            obtain ⟨r0, r1, r2, r3, r4, r5, r6⟩ := cells7 hR5.out
            clear e0 e1 e2 e3 e4 e5 e6 e7 e8 e9 ea eb ec
            go_upto_region 6 with fail
            refine wp_region_X (S := fun wq => Gr W5 wq) [4] (by kernel_rfl) (grDrew _) (fun hHeld => ?_)
            have hSG : Hid (∀ wp wq : World, Gr W5 wp → Gr wp wq → Gr W5 wq) := Lib.hid (fun _ _ h k => h.tr k)
            first
              | (refine wpAnyX_take hSG (i := 0) [4]  (v := ?_) rfl (by kernel_rfl) (by kernel_rfl) (by kernel_rfl) (by kernel_rfl) (fun _ _ _ h => h) (YieldsIf.gives (Or.inl ⟨by rfl, ?_⟩)) hHeld ?_; rotate_left; focus (intro w' hSw; have r0 := grCell hSw r0; have r1 := grCell hSw r1; have r2 := grCell hSw r2; have r3 := grCell hSw r3; have r4 := grCell hSw r4; have r5 := grCell hSw r5; have r6 := grCell hSw r6; have y0 := grCell hSw y0; have y1 := grCell hSw y1; have y2 := grCell hSw y2; have y3 := grCell hSw y3; have y4 := grCell hSw y4; have y5 := grCell hSw y5; have y6 := grCell hSw y6; have y7 := grCell hSw y7; have y8 := grCell hSw y8; have y9 := grCell hSw y9; have ya := grCell hSw ya; have yb := grCell hSw yb; have yc := grCell hSw yc; go_simp; (try with_reducible rfl)))
              | (refine wpAnyX_take hSG (i := 0) [4]  (v := undef) rfl (by kernel_rfl) (by kernel_rfl) (by kernel_rfl) (by kernel_rfl) (fun _ _ _ h => h) (Or.inr ⟨by rfl, rfl⟩) hHeld ?_)
            (try simp only [List.getElem_toArray, List.getElem_cons_succ, List.getElem_cons_zero, Act.put, List.setIfInBounds_toArray, List.set_cons_zero, List.set_cons_succ])
            first
              | (refine wpAnyX_take hSG (i := 1) [3, 4]  (v := ?_) rfl (by kernel_rfl) (by kernel_rfl) (by kernel_rfl) (by kernel_rfl) (fun _ _ _ h => h) (YieldsIf.gives (Or.inl ⟨by rfl, ?_⟩)) hHeld ?_; rotate_left; focus (intro w' hSw; have r0 := grCell hSw r0; have r1 := grCell hSw r1; have r2 := grCell hSw r2; have r3 := grCell hSw r3; have r4 := grCell hSw r4; have r5 := grCell hSw r5; have r6 := grCell hSw r6; have y0 := grCell hSw y0; have y1 := grCell hSw y1; have y2 := grCell hSw y2; have y3 := grCell hSw y3; have y4 := grCell hSw y4; have y5 := grCell hSw y5; have y6 := grCell hSw y6; have y7 := grCell hSw y7; have y8 := grCell hSw y8; have y9 := grCell hSw y9; have ya := grCell hSw ya; have yb := grCell hSw yb; have yc := grCell hSw yc; go_simp; (try with_reducible rfl)))
              | (refine wpAnyX_take hSG (i := 1) [3, 4]  (v := undef) rfl (by kernel_rfl) (by kernel_rfl) (by kernel_rfl) (by kernel_rfl) (fun _ _ _ h => h) (Or.inr ⟨by rfl, rfl⟩) hHeld ?_)
            (try simp only [List.getElem_toArray, List.getElem_cons_succ, List.getElem_cons_zero, Act.put, List.setIfInBounds_toArray, List.set_cons_zero, List.set_cons_succ])
            first
              | (refine wpAnyX_take hSG (i := 2) [3, 4]  (v := ?_) rfl (by kernel_rfl) (by kernel_rfl) (by kernel_rfl) (by kernel_rfl) (fun _ _ _ h => h) (YieldsIf.gives (Or.inl ⟨by rfl, ?_⟩)) hHeld ?_; rotate_left; focus (intro w' hSw; have r0 := grCell hSw r0; have r1 := grCell hSw r1; have r2 := grCell hSw r2; have r3 := grCell hSw r3; have r4 := grCell hSw r4; have r5 := grCell hSw r5; have r6 := grCell hSw r6; have y0 := grCell hSw y0; have y1 := grCell hSw y1; have y2 := grCell hSw y2; have y3 := grCell hSw y3; have y4 := grCell hSw y4; have y5 := grCell hSw y5; have y6 := grCell hSw y6; have y7 := grCell hSw y7; have y8 := grCell hSw y8; have y9 := grCell hSw y9; have ya := grCell hSw ya; have yb := grCell hSw yb; have yc := grCell hSw yc; go_simp; (try with_reducible rfl)))
              | (refine wpAnyX_take hSG (i := 2) [3, 4]  (v := undef) rfl (by kernel_rfl) (by kernel_rfl) (by kernel_rfl) (by kernel_rfl) (fun _ _ _ h => h) (Or.inr ⟨by rfl, rfl⟩) hHeld ?_)
            (try simp only [List.getElem_toArray, List.getElem_cons_succ, List.getElem_cons_zero, Act.put, List.setIfInBounds_toArray, List.set_cons_zero, List.set_cons_succ])
            refine wpAnyX_take hSG (i := 3) [4]  (v := .slice E x.el.length n) rfl (by kernel_rfl) (by kernel_rfl) (by kernel_rfl) (by kernel_rfl) (fun _ _ _ h => h) (Or.inl ⟨by rfl, ?_⟩) hHeld ?_
            focus (intro wz hSw K hK; have r0 := grCell hSw r0; have r1 := grCell hSw r1; have r2 := grCell hSw r2; have r3 := grCell hSw r3; have r4 := grCell hSw r4; have r5 := grCell hSw r5; have r6 := grCell hSw r6; have y0 := grCell hSw y0; have y1 := grCell hSw y1; have y2 := grCell hSw y2; have y3 := grCell hSw y3; have y4 := grCell hSw y4; have y5 := grCell hSw y5; have y6 := grCell hSw y6; have y7 := grCell hSw y7; have y8 := grCell hSw y8; have y9 := grCell hSw y9; have ya := grCell hSw ya; have yb := grCell hSw yb; have yc := grCell hSw yc; go_simp; go_at_call 49; refine (HC.out _ hSw).mono ?_; rintro e w2 ⟨he, hb2⟩; simp only [if_pos, if_neg, Bool.false_eq_true, not_false_eq_true] at he; subst he; exact hK.out _ hb2)
            (try simp only [List.getElem_toArray, List.getElem_cons_succ, List.getElem_cons_zero, Act.put, List.setIfInBounds_toArray, List.set_cons_zero, List.set_cons_succ])
            refine wpAnyX_oneX (i := 4) (by kernel_rfl) (by kernel_rfl) rfl (fun w7 hg K hK => ?_)
            have hg7 := (grDrew W5).tr hg
            go_simp
            go_at_call 29
            refine (HT.out _ hg7).mono ?_
            rcases q2 with er | s2
            · rintro e w8 ⟨he, hk8⟩
              simp only at he
              subst he
              have hF : (.error er : Except Int (List Int)) = r := hGd.out
              have hk9 := Lib.hid ((hK5.out.trans (U.Below.kpl hg7)).trans hk8)
              go_wp2
              exact ⟨rfl, by rw [← hF]; exact ⟨rfl, hk9.out⟩⟩
            · rintro e w8 ⟨⟨he, ho8⟩, hk8⟩
              subst he
              refine hK.out _ _ ?_
              clear hK K hg
              have hk9 := Lib.hid ((hK5.out.trans (U.Below.kpl hg7)).trans hk8)
              have hR8 := Lib.hid ((hk8.block _ (blkLt (grBlk hg7 hR5.out)) (by have := hgw.out; omega)).trans (grBlk hg7 hR5.out))
              have hM8 := Lib.hid ((hM5.out.gr hg7).kp (hO5.out.gr hg7) hk8)
              have hO8 := Lib.hid ho8
              clear ho8 hk8 hg7
              refine wpAnyX_done (by kernel_rfl) (fun w9 hg => ?_) _
              have hO9 := Lib.hid (hO8.out.gr hg)
              have hM9 := Lib.hid (hM8.out.gr hg)
              have hR9 := Lib.hid (grBlk hg hR8.out)
              have hk10 := Lib.hid (hk9.out.trans (U.Below.kpl hg))
              have hl8 : Hid (s2.length = sn) := Lib.hid ((hla.out s2 rfl).trans hsk.out)
              clear hg hO8 hR8 hk9 r0 r1 r2 r3 r4 r5 r6 y0 y1 y2 y3 y4 y5 y6 y7 y8 y9 ya yb yc
              go_upto_region 7 with fail
              go_wp2
              go_roundg gq
              case measure => omega
              case rel => exact ⟨k + 1, s2, by omega, by go_num, hGd, hO9, hl8, hR9, hk10, hM9⟩
          · have HT := Lib.hid (fun wx (hgx : Gr W5 wx) => by
              have := hih.1 W0 wx sk g cap T m mb (hG5.out.tr hgx) (hO5.out.gr hgx) HV.out (hM5.out.gr hgx) hTh wth (by rw [hskn, ← hsnH.out]; exact hslH.out) hlth
              rw [hskn] at this
              exact this)
            have hGd : (match rnL [i0, i1, i2, i3] (limS vs) sk x.th with | .error e => .error e | .ok v => rnL [i0, i1, i2, i3] (limS vs) v (l.drop (k + 1))) = r := hGd.out
            have hla := Lib.hid (fun v => rnL_len (ins := [i0, i1, i2, i3]) (lim := limS vs) x.th (st := sk) (v := v))
            generalize rnL [i0, i1, i2, i3] (limS vs) sk x.th = q2 at *
            have hGd := Lib.hid hGd
            clear hih hG hO hKa hKb hTh hEl hlth hlel hx hmem hskn hza hzb wth wel hr1 hr2
            go_upto_region 4 with fail
            rw [← hW5]
            clear hW5
            obtain ⟨y0, y1, y2, y3, y4, y5, y6, y7, y8, y9, ya, yb, yc⟩ := U.cells13 hQ5
            obtain ⟨r0, r1, r2, r3, r4, r5, r6⟩ := cells7 hR5.out
            clear e0 e1 e2 e3 e4 e5 e6 e7 e8 e9 ea eb ec
            go_upto_region 6 with fail
            refine wp_region_X (S := fun wq => Gr W5 wq) [4] (by kernel_rfl) (grDrew _) (fun hHeld => ?_)
            have hSG : Hid (∀ wp wq : World, Gr W5 wp → Gr wp wq → Gr W5 wq) := Lib.hid (fun _ _ h k => h.tr k)
            first
              | (refine wpAnyX_take hSG (i := 0) [4]  (v := ?_) rfl (by kernel_rfl) (by kernel_rfl) (by kernel_rfl) (by kernel_rfl) (fun _ _ _ h => h) (YieldsIf.gives (Or.inl ⟨by rfl, ?_⟩)) hHeld ?_; rotate_left; focus (intro w' hSw; have r0 := grCell hSw r0; have r1 := grCell hSw r1; have r2 := grCell hSw r2; have r3 := grCell hSw r3; have r4 := grCell hSw r4; have r5 := grCell hSw r5; have r6 := grCell hSw r6; have y0 := grCell hSw y0; have y1 := grCell hSw y1; have y2 := grCell hSw y2; have y3 := grCell hSw y3; have y4 := grCell hSw y4; have y5 := grCell hSw y5; have y6 := grCell hSw y6; have y7 := grCell hSw y7; have y8 := grCell hSw y8; have y9 := grCell hSw y9; have ya := grCell hSw ya; have yb := grCell hSw yb; have yc := grCell hSw yc; go_simp; (try with_reducible rfl)))
              | (refine wpAnyX_take hSG (i := 0) [4]  (v := undef) rfl (by kernel_rfl) (by kernel_rfl) (by kernel_rfl) (by kernel_rfl) (fun _ _ _ h => h) (Or.inr ⟨by rfl, rfl⟩) hHeld ?_)
            (try simp only [List.getElem_toArray, List.getElem_cons_succ, List.getElem_cons_zero, Act.put, List.setIfInBounds_toArray, List.set_cons_zero, List.set_cons_succ])
            first
              | (refine wpAnyX_take hSG (i := 1) [3, 4]  (v := ?_) rfl (by kernel_rfl) (by kernel_rfl) (by kernel_rfl) (by kernel_rfl) (fun _ _ _ h => h) (YieldsIf.gives (Or.inl ⟨by rfl, ?_⟩)) hHeld ?_; rotate_left; focus (intro w' hSw; have r0 := grCell hSw r0; have r1 := grCell hSw r1; have r2 := grCell hSw r2; have r3 := grCell hSw r3; have r4 := grCell hSw r4; have r5 := grCell hSw r5; have r6 := grCell hSw r6; have y0 := grCell hSw y0; have y1 := grCell hSw y1; have y2 := grCell hSw y2; have y3 := grCell hSw y3; have y4 := grCell hSw y4; have y5 := grCell hSw y5; have y6 := grCell hSw y6; have y7 := grCell hSw y7; have y8 := grCell hSw y8; have y9 := grCell hSw y9; have ya := grCell hSw ya; have yb := grCell hSw yb; have yc := grCell hSw yc; go_simp; (try with_reducible rfl)))
              | (refine wpAnyX_take hSG (i := 1) [3, 4]  (v := undef) rfl (by kernel_rfl) (by kernel_rfl) (by kernel_rfl) (by kernel_rfl) (fun _ _ _ h => h) (Or.inr ⟨by rfl, rfl⟩) hHeld ?_)
            (try simp only [List.getElem_toArray, List.getElem_cons_succ, List.getElem_cons_zero, Act.put, List.setIfInBounds_toArray, List.set_cons_zero, List.set_cons_succ])
            first
              | (refine wpAnyX_take hSG (i := 2) [3, 4]  (v := ?_) rfl (by kernel_rfl) (by kernel_rfl) (by kernel_rfl) (by kernel_rfl) (fun _ _ _ h => h) (YieldsIf.gives (Or.inl ⟨by rfl, ?_⟩)) hHeld ?_; rotate_left; focus (intro w' hSw; have r0 := grCell hSw r0; have r1 := grCell hSw r1; have r2 := grCell hSw r2; have r3 := grCell hSw r3; have r4 := grCell hSw r4; have r5 := grCell hSw r5; have r6 := grCell hSw r6; have y0 := grCell hSw y0; have y1 := grCell hSw y1; have y2 := grCell hSw y2; have y3 := grCell hSw y3; have y4 := grCell hSw y4; have y5 := grCell hSw y5; have y6 := grCell hSw y6; have y7 := grCell hSw y7; have y8 := grCell hSw y8; have y9 := grCell hSw y9; have ya := grCell hSw ya; have yb := grCell hSw yb; have yc := grCell hSw yc; go_simp; (try with_reducible rfl)))
              | (refine wpAnyX_take hSG (i := 2) [3, 4]  (v := undef) rfl (by kernel_rfl) (by kernel_rfl) (by kernel_rfl) (by kernel_rfl) (fun _ _ _ h => h) (Or.inr ⟨by rfl, rfl⟩) hHeld ?_)
            (try simp only [List.getElem_toArray, List.getElem_cons_succ, List.getElem_cons_zero, Act.put, List.setIfInBounds_toArray, List.set_cons_zero, List.set_cons_succ])
            refine wpAnyX_take hSG (i := 3) [4]  (v := .slice T x.th.length m) rfl (by kernel_rfl) (by kernel_rfl) (by kernel_rfl) (by kernel_rfl) (fun _ _ _ h => h) (Or.inl ⟨by rfl, ?_⟩) hHeld ?_
            focus (intro wz hSw K hK; have r0 := grCell hSw r0; have r1 := grCell hSw r1; have r2 := grCell hSw r2; have r3 := grCell hSw r3; have r4 := grCell hSw r4; have r5 := grCell hSw r5; have r6 := grCell hSw r6; have y0 := grCell hSw y0; have y1 := grCell hSw y1; have y2 := grCell hSw y2; have y3 := grCell hSw y3; have y4 := grCell hSw y4; have y5 := grCell hSw y5; have y6 := grCell hSw y6; have y7 := grCell hSw y7; have y8 := grCell hSw y8; have y9 := grCell hSw y9; have ya := grCell hSw ya; have yb := grCell hSw yb; have yc := grCell hSw yc; go_simp; go_at_call 49; refine (HC.out _ hSw).mono ?_; rintro e w2 ⟨he, hb2⟩; simp only [if_pos, if_neg, Bool.false_eq_true, not_false_eq_true] at he; subst he; exact hK.out _ hb2)
            (try simp only [List.getElem_toArray, List.getElem_cons_succ, List.getElem_cons_zero, Act.put, List.setIfInBounds_toArray, List.set_cons_zero, List.set_cons_succ])
            refine wpAnyX_oneX (i := 4) (by kernel_rfl) (by kernel_rfl) rfl (fun w7 hg K hK => ?_)
            have hg7 := (grDrew W5).tr hg
            go_simp
            go_at_call 29
            refine (HT.out _ hg7).mono ?_
            rcases q2 with er | s2
            · rintro e w8 ⟨he, hk8⟩
              simp only at he
              subst he
              have hF : (.error er : Except Int (List Int)) = r := hGd.out
              have hk9 := Lib.hid ((hK5.out.trans (U.Below.kpl hg7)).trans hk8)
              go_wp2
              exact ⟨rfl, by rw [← hF]; exact ⟨rfl, hk9.out⟩⟩
            · rintro e w8 ⟨⟨he, ho8⟩, hk8⟩
              subst he
              refine hK.out _ _ ?_
              clear hK K hg
              have hk9 := Lib.hid ((hK5.out.trans (U.Below.kpl hg7)).trans hk8)
              have hR8 := Lib.hid ((hk8.block _ (blkLt (grBlk hg7 hR5.out)) (by have := hgw.out; omega)).trans (grBlk hg7 hR5.out))
              have hM8 := Lib.hid ((hM5.out.gr hg7).kp (hO5.out.gr hg7) hk8)
              have hO8 := Lib.hid ho8
              clear ho8 hk8 hg7
              refine wpAnyX_done (by kernel_rfl) (fun w9 hg => ?_) _
              have hO9 := Lib.hid (hO8.out.gr hg)
              have hM9 := Lib.hid (hM8.out.gr hg)
              have hR9 := Lib.hid (grBlk hg hR8.out)
              have hk10 := Lib.hid (hk9.out.trans (U.Below.kpl hg))
              have hl8 : Hid (s2.length = sn) := Lib.hid ((hla.out s2 rfl).trans hsk.out)
              clear hg hO8 hR8 hk9 r0 r1 r2 r3 r4 r5 r6 y0 y1 y2 y3 y4 y5 y6 y7 y8 y9 ya yb yc
              go_upto_region 7 with fail
              go_wp2
              go_roundg gq
              case measure => omega
              case rel => exact ⟨k + 1, s2, by omega, by go_num, hGd, hO9, hl8, hR9, hk10, hM9⟩
    · obtain rfl : gk = 0 := by omega
      have hF : (.ok sk : Except Int (List Int)) = r := by have := hG.out; rw [List.drop_eq_nil_of_le (by omega), rnL] at this; exact this
      have hkl : decide ((k : Int) < (l.length : Int)) = false := by simp; omega
      have hP := Lib.hid (show RunP W0 w g cap r (.returned (.tuple #[])) wr from by rw [← hF]; exact ⟨⟨rfl, hO.out⟩, hKp.out⟩)
      clear hG hO
      go_wp2
      exact ⟨rfl, .tuple #[], by simp [results, Tryz.results29, go_sem], hP.out⟩
mutual
theorem run_any (vs : List Vr) (hvl : vs.length ≤ 12) (VA : Option Addr) (vm : Nat) (i0 i1 i2 i3 : Int) : ∀ x : St, RunC vs VA vm i0 i1 i2 i3 x.th ∧ RunC vs VA vm i0 i1 i2 i3 x.el
  | .mk _ _ _ _ _ th el => ⟨run_step vs hvl VA vm i0 i1 i2 i3 th (run_all vs hvl VA vm i0 i1 i2 i3 th), run_step vs hvl VA vm i0 i1 i2 i3 el (run_all vs hvl VA vm i0 i1 i2 i3 el)⟩
theorem run_all (vs : List Vr) (hvl : vs.length ≤ 12) (VA : Option Addr) (vm : Nat) (i0 i1 i2 i3 : Int) : ∀ (l : List St), ∀ x ∈ l, RunC vs VA vm i0 i1 i2 i3 x.th ∧ RunC vs VA vm i0 i1 i2 i3 x.el
  | [], x, hx => by cases hx
  | y :: ys, x, hx => by
    rcases List.mem_cons.1 hx with h | h
    · rw [h]; exact run_any vs hvl VA vm i0 i1 i2 i3 y
    · exact run_all vs hvl VA vm i0 i1 i2 i3 ys x h
end
theorem runs_any (vs : List Vr) (hvl : vs.length ≤ 12) (VA : Option Addr) (vm : Nat) (i0 i1 i2 i3 : Int) (l : List St) : RunC vs VA vm i0 i1 i2 i3 l := run_step vs hvl VA vm i0 i1 i2 i3 l (run_all vs hvl VA vm i0 i1 i2 i3 l)
end M
end Go.Proofs.YtdgompdbhlhofaaGreatDoor
