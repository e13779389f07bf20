/- Texts of one proof: PxI, PxJ, PxK. -/
import Derived.Test.YtdaghppcomckbaaGreatDoorPmC
/- The parser: settings and names. -/
namespace Go.Proofs.YtdaghppcomckbaaGreatDoor
open Go.RowKit
set_option linter.unusedVariables false
set_option linter.unusedSimpArgs false

def settingsF : List ByteArray → List Nd → List Tk → Res (List Nd)
  | [], acc, l => .ok acc l
  | wd :: ws, acc, l => (wordM wd l).bind fun _ l1 => (numberM l1).bind fun t l2 => settingsF ws (acc ++ [t]) l2
theorem settingsF_drop (ws : List ByteArray) (k : Nat) (hk : k < ws.length) (acc : List Nd) (l : List Tk) :
    settingsF (ws.drop k) acc l = (wordM ws[k] l).bind fun _ l1 => (numberM l1).bind fun t l2 => settingsF (ws.drop (k + 1)) (acc ++ [t]) l2 := by
  rw [List.drop_eq_getElem_cons hk]; rfl
theorem StrS.keep {w w' : World} {g : Nat} {ws : List ByteArray} (h : StrS w g ws) (hb : w'.heap[g]? = w.heap[g]?) : StrS w' g ws :=
  fun i x hx => (World.cell?_of_block (a := ⟨g, i, none⟩) hb).trans (h i x hx)

set_option maxHeartbeats 1000000 in
set_option maxRecDepth 100000 in
theorem settings_any (C : Cx) (w : World) (nx : Nat) (dv : Value) (ds : List (Int × Int)) (g0 c0 : Nat) (ws : List ByteArray) (h : PS C w nx dv ds) (hds : ds.length ≤ 100) (hs : StrS w g0 ws) (hg0 : g0 < w.heap.size) (hgR : g0 ≠ C.R) (hw : ws.length ≤ 10) (hne : (⟨#[]⟩ : ByteArray) ∉ ws) :
    Calls Tryz.prog 58 #[.pointer (some ⟨C.R, 0, none⟩), .slice (some ⟨g0, 0, none⟩) ws.length c0] w (Out C nx dv ds w VNds (settingsF ws [] (C.l nx))) := by
  have h0 := Lib.hid h
  have hS0 := Lib.hid hs
  have hNE := Lib.hid hne
  obtain ⟨i0, hi, hz0, hz1, hz2⟩ := info_parts nodeInfo
  obtain ⟨r, hr⟩ : ∃ r, settingsF ws [] (C.l nx) = r := ⟨_, rfl⟩
  rw [hr]
  have HR := Lib.hid hr
  clear hr h hs hne
  go_enter Tryz.func58, Tryz.ntmps58
  go_wp2
  go_loopg [5, 10] ws.length (fun gk v i wr => ∃ (nx' : Nat) (acc : List Nd), acc.length + gk = ws.length ∧ i = .int .i64 (acc.length : Nat) ∧ nx ≤ nx' ∧ Hid (settingsF (ws.drop acc.length) acc (C.l nx') = r) ∧ Hid (VNds w.heap.size wr v acc) ∧ Hid (PS C wr nx' dv ds) ∧ Hid (Kp C.R none w wr))
  case atStart => exact ⟨nx, [], by simp, rfl, Nat.le_refl _, HR.out, VNds.nil _ _, h0.out, Kp.refl _ _ _⟩
  case round =>
    obtain ⟨nx', acc, hc, rfl, hn, hR, hV, hP, hK⟩ := hrel
    by_cases hlt : acc.length < ws.length
    · obtain ⟨g, rfl⟩ : ∃ g, gk = g + 1 := ⟨gk - 1, by omega⟩
      have hS := Lib.hid (hS0.out.keep (hK.out.block g0 hg0 hgR (by simp)))
      have hcell := hS.out _ _ (List.getElem?_eq_getElem hlt)
      have hW := Lib.hid (word_any C wr nx' dv ds ws[acc.length] hP.out hds (fun e => hNE.out (by rw [← e]; exact List.getElem_mem hlt)))
      have hR1 := Lib.hid (settingsF_drop ws acc.length hlt acc (C.l nx'))
      generalize ws[acc.length] = wd at *
      rcases hm : wordM wd (C.l nx') with ⟨t0, l⟩ | ⟨er, l⟩
      · have hm := Lib.hid hm
        obtain ⟨Av, cv, rfl⟩ := hV.out.own
        go_wp2_with fail
        refine hW.out.mono ?_
        rw [hm.out]
        rintro e w1 ⟨nx1, v1, hl1, hn1, rfl, hv1, hP1, hk1⟩
        unfold VUnit at hv1
        subst hv1 hl1
        have hP1 := Lib.hid hP1
        have hk1 := Lib.hid hk1
        have hN := Lib.hid (number_any C w1 nx1 dv ds hP1.out hds)
        rcases hm2 : numberM (C.l nx1) with ⟨t, l2⟩ | ⟨er, l2⟩
        · have hR2 : Hid (settingsF (ws.drop (acc.length + 1)) (acc ++ [t]) l2 = r) := by
            have := hR1.out.symm.trans hR.out
            rw [hm.out, Res.bind_ok, hm2] at this
            exact this
          have hm2 := Lib.hid hm2
          go_wp2_with fail
          refine hN.out.mono ?_
          rw [hm2.out]
          rintro e w2 ⟨nx2, v2, hl2, hn2, rfl, ⟨A, c, rfl, hkd⟩, hP2, hk2⟩
          subst hl2
          have hKd := Lib.hid hkd
          have hP2 := Lib.hid hP2
          have hk2 := Lib.hid (hk1.out.trans hk2)
          clear hkd
          have hV1 := Lib.hid (VNds.keep (w' := w2) (fun k h1 h2 => hk2.out.block k h2 (by have := h0.out.RLt; omega) (by simp)) hV.out)
          have hKd' : Hid (KidsR w2 (From wr.heap.size) t.kids A) := hKd.out.keep (fun k h1 h2 => ⟨rfl, Nat.le_trans hk1.out.size h1⟩)
          obtain ⟨vs, hown, hrows⟩ := hV1.out
          have hrows := Lib.hid hrows
          go_wp2_with (at_builtin; refine wpList_append_lies _ rfl _ _ 23 rfl w.heap.size 25 i0 (.agg zeroNd) 6 72 Tryz.underlying23 hi hz0 hz1 hz2 rfl (by decide) _ _ vs rfl (hown.alloc _) ⟨w2.heap.size, 0, none⟩ 1 1 (nCells t A c) rfl rfl ?c1 ?c2 (by decide) ?c3 ?c4 ?c5 (w2.heap.size + 1) ?c6 ?_)
          case c1 => exact new_cells _ (ndArr t A c) _ _ rfl
          case c2 => exact nd_one t A c
          case c3 => unfold maxLen; omega
          case c4 => omega
          case c5 => have := hK.out.size; have := hk2.out.size; simp; omega
          case c6 => simp
          intro gb cap w3 hown2 hgrow hat hlt2
          have hV2 := Lib.hid (VNds.snoc hown hrows.out hKd'.out (fun k hk => by have := hV.out; obtain ⟨vs', ho', _⟩ := this; exact (ho'.lt k hk).2) hK.out.size hgrow hown2 hat (Nat.lt_succ_self _))
          have hPK := Lib.hid (h0.out.lastR (hK.out.trans hk2.out) hP2.out (gbTrans (gbAlloc (gbRefl _ _)) hgrow) (fun k hk => (hown.lt k hk).1))
          clear hgrow hown hown2
          go_wp2
          go_roundg g
          case measure => omega
          case rel => exact ⟨nx2, acc ++ [t], by simp; omega, by simp, by omega, by simpa using hR2, hV2, hPK.out.1, hPK.out.2⟩
        · have hR2 : Res.err er l2 = r := by
            have := hR1.out.symm.trans hR.out
            rw [hm.out, Res.bind_ok, hm2] at this
            exact this
          have hR2 := Lib.hid hR2
          have hm2 := Lib.hid hm2
          go_wp2_with fail
          refine hN.out.mono ?_
          rw [hm2.out]
          rintro e w2 ⟨nx2, hl, hn2, ⟨T, pv, rfl⟩, ⟨dv', hP2⟩, hk2⟩
          have hF := Lib.hid (Out.fail (V := VNds) hR2.out hl hn (Nat.le_trans hn1 hn2) ⟨T, pv, rfl⟩ hP2 hK.out (hk1.out.up.trans hk2))
          clear hP2 hk2 hl
          go_wp2
          exact ⟨rfl, hF.out⟩
      · have hR2 : Res.err er l = r := by have := hR1.out.symm.trans hR.out; rw [hm] at this; exact this
        have hR2 := Lib.hid hR2
        have hm := Lib.hid hm
        obtain ⟨Av, cv, rfl⟩ := hV.out.own
        go_wp2_with fail
        refine hW.out.mono ?_
        rw [hm.out]
        rintro e w1 ⟨nx2, hl, hn2, ⟨T, pv, rfl⟩, ⟨dv', hP1⟩, hk1⟩
        have hF := Lib.hid (Out.fail (V := VNds) hR2.out hl hn hn2 ⟨T, pv, rfl⟩ hP1 hK.out hk1)
        clear hP1 hk1 hl
        go_wp2
        exact ⟨rfl, hF.out⟩
    · have hR2 : Hid (Res.ok acc (C.l nx') = r) := by have := hR.out; rw [List.drop_eq_nil_of_le (by omega)] at this; exact this
      have hF := Lib.hid (Out.list hR2.out hn hV.out hP.out hK.out)
      obtain ⟨Av, cv, rfl⟩ := hV.out.own
      go_wp2
      go_ret
      exact hF.out

/-- one name or more -/
def namesF : Nat → List Nd → List Tk → Res (List Nd)
  | 0, acc, l => .ok acc l
  | f + 1, acc, l => if acc = [] ∨ atNameB l = true then (nameM l).bind fun x l1 => namesF f (acc ++ [nmNd x (hd l).a]) l1 else .ok acc l
end Go.Proofs.YtdaghppcomckbaaGreatDoor

/- The parser: names, units, policies' sizes. -/
namespace Go.Proofs.YtdaghppcomckbaaGreatDoor
open Go.RowKit
set_option linter.unusedVariables false
set_option linter.unusedSimpArgs false

theorem Cx.llen (C : Cx) (n : Nat) : (C.l n).length = C.ts.length - n := by unfold Cx.l; simp
theorem nameM_ok {l l1 : List Tk} {x : ByteArray} (h : nameM l = .ok x l1) : l1 = l.tail ∧ x = (hd l).x := by
  unfold nameM at h
  split at h
  · cases h; exact ⟨rfl, rfl⟩
  · cases h
theorem VNds.len0 {B : Nat} {w : World} {v : Value} {ts : List Nd} (h : VNds B w v ts) : True := trivial

set_option maxHeartbeats 1000000 in
set_option maxRecDepth 100000 in
theorem names_any (C : Cx) (w : World) (nx : Nat) (dv : Value) (ds : List (Int × Int)) (h : PS C w nx dv ds) (hds : ds.length ≤ 100) :
    Calls Tryz.prog 61 #[.pointer (some ⟨C.R, 0, none⟩)] w (Out C nx dv ds w VNds (namesF ((C.l nx).length + 1) [] (C.l nx))) := by
  have h0 := Lib.hid h
  have f3 := tfield3
  obtain ⟨i0, hi, hz0, hz1, hz2⟩ := info_parts nodeInfo
  obtain ⟨r, hr⟩ : ∃ r, namesF ((C.l nx).length + 1) [] (C.l nx) = r := ⟨_, rfl⟩
  rw [hr]
  have HR := Lib.hid hr
  clear hr h
  go_enter Tryz.func61, Tryz.ntmps61
  go_wp2
  go_loopg [3] ((C.l nx).length + 1) (fun gk v wr => ∃ (nx' : Nat) (acc : List Nd), (C.l nx').length < gk ∧ acc.length ≤ nx' ∧ nx' ≤ 3001 ∧ nx ≤ nx' ∧ Hid (namesF gk acc (C.l nx') = r) ∧ Hid (VNds w.heap.size wr v acc) ∧ Hid (PS C wr nx' dv ds) ∧ Hid (Kp C.R none w wr))
  case atStart => exact ⟨nx, [], by omega, by simp, by have := h0.out.lt; have := h0.out.le; omega, Nat.le_refl _, HR.out, VNds.nil _ _, h0.out, Kp.refl _ _ _⟩
  case round =>
    obtain ⟨nx', acc, hc, hal, hnx, hn, hR, hV, hP, hK⟩ := hrel
    obtain ⟨g, rfl⟩ : ∃ g, gk = g + 1 := ⟨gk - 1, by omega⟩
    obtain ⟨Av, cv, rfl⟩ := hV.out.own
    have hA := Lib.hid (atName_any C wr nx' dv ds hP.out)
    by_cases hcond : acc = [] ∨ atNameB (C.l nx') = true
    · have hR1 : Hid ((nameM (C.l nx')).bind (fun x l1 => namesF g (acc ++ [nmNd x (hd (C.l nx')).a]) l1) = r) := by have := hR.out; rw [namesF, if_pos hcond] at this; exact this
      -- the test says yes, in a world that holds what it held
      have key : ∀ wt : World, Below wr.heap.size wr wt → Hid (Calls Tryz.prog 38 #[.pointer (some ⟨C.R, 0, none⟩)] wt fun e w' => e = .returned (.agg #[.int .i64 (hd (C.l nx')).k, .string (hd (C.l nx')).x, .int .i64 (hd (C.l nx')).m, .int .i64 (hd (C.l nx')).a]) ∧ Below wt.heap.size wt w') :=
        fun wt hb => token_any C wt nx' dv ds (hP.out.below hb)
      have key2 : ∀ wt : World, Below wr.heap.size wr wt → Hid (Calls Tryz.prog 57 #[.pointer (some ⟨C.R, 0, none⟩)] wt (Out C nx' dv ds wt VStr (nameM (C.l nx')))) :=
        fun wt hb => name_any C wt nx' dv ds (hP.out.below hb) hds
      have key := Lib.hid key
      have key2 := Lib.hid key2
      by_cases hz : acc.length = 0
      all_goals
        first
          | have hzb : ((acc.length : Int) == 0) = true := by rw [hz]; rfl
            clear hcond hA hz
            have hb1 := Lib.hid (Below.refl wr.heap.size wr)
            go_wp2_with fail
            refine (key.out _ hb1.out).out.mono ?_
          | have hzb : ((acc.length : Int) == 0) = false := by simp; exact fun e => hz (by rw [e]; rfl)
            have hnb := Lib.hid (hcond.resolve_left (fun e => hz (by rw [e]; rfl)))
            clear hcond hz
            go_wp2_with fail
            refine hA.out.mono ?_
            rw [hnb.out]
            rintro e w1 ⟨rfl, hb1⟩
            have hb1 := Lib.hid hb1
            go_wp2_with fail
            refine (key.out _ hb1.out).out.mono ?_
        rintro e w2 ⟨rfl, hb2⟩
        have hb2 := Lib.hid (hb1.out.trans (hb2.mono hb1.out.size))
        have hN := Lib.hid (key2.out _ hb2.out).out
        rcases hm : nameM (C.l nx') with ⟨x, l⟩ | ⟨er, l⟩
        · have hR2 : Hid (namesF g (acc ++ [nmNd x (hd (C.l nx')).a]) l = r) := by have := hR1.out; rw [hm] at this; exact this
          have hlt := Lib.hid (nameM_ok hm)
          have hm := Lib.hid hm
          go_wp2_with fail
          refine hN.out.mono ?_
          rw [hm.out]
          rintro e w3 ⟨nx2, v2, hl2, hn2, rfl, hv2, hP2, hk2⟩
          unfold VStr at hv2
          subst hv2 hl2
          have hP2 := Lib.hid hP2
          have hk2 := Lib.hid ((Below.kp (R := C.R) (o := none) hb2.out).trans hk2)
          have hn3 : nx2 = nx' + 1 := by
            have e1 := congrArg List.length hlt.out.1
            rw [List.length_tail, Cx.llen, Cx.llen] at e1
            have := hP2.out.lt
            have := hP.out.lt
            omega
          have hV1 := Lib.hid (VNds.keep (w' := w3) (fun k h1 h2 => hk2.out.block k h2 (by have := h0.out.RLt; omega) (by simp)) hV.out)
          obtain ⟨vs, hown, hrows⟩ := hV1.out
          have hrows := Lib.hid hrows
          go_wp2_with (at_builtin; refine wpList_append_lies _ rfl _ _ 23 rfl w.heap.size 25 i0 (.agg zeroNd) 6 72 Tryz.underlying23 hi hz0 hz1 hz2 rfl (by decide) _ _ vs rfl (hown.alloc _) ⟨w3.heap.size, 0, none⟩ 1 1 (nCells (nmNd x (hd (C.l nx')).a) none 0) rfl rfl (new_cells _ (ndArr (nmNd x (hd (C.l nx')).a) none 0) _ _ rfl) (nd_one _ _ _) (by decide) (by unfold maxLen; omega) (by omega) (by have := hK.out.size; have := hk2.out.size; simp; omega) (w3.heap.size + 1) (by simp) ?_)
          intro gb cap w4 hown2 hgrow hat hlt2
          have hV2 := Lib.hid (VNds.snoc hown hrows.out (B' := wr.heap.size) (by trivial) (fun k hk => by have := hV.out; obtain ⟨vs', ho', _⟩ := this; exact (ho'.lt k hk).2) hK.out.size hgrow hown2 hat (Nat.lt_succ_self _))
          have hPK := Lib.hid (h0.out.lastR (hK.out.trans hk2.out) hP2.out (gbTrans (gbAlloc (gbRefl _ _)) hgrow) (fun k hk => (hown.lt k hk).1))
          have hlen : (C.l nx2).length < g := by rw [Cx.llen] at hc ⊢; have := hP2.out.lt; omega
          have hnx2 : nx2 ≤ 3001 := by have := hP2.out.lt; have := hP2.out.le; omega
          clear hgrow hown hown2
          go_wp2
          go_roundg g
          case measure => omega
          case rel => exact ⟨nx2, acc ++ [nmNd x (hd (C.l nx')).a], hlen, by simp; omega, hnx2, by omega, hR2, hV2, hPK.out.1, hPK.out.2⟩
        · have hR2 : Hid (Res.err er l = r) := by have := hR1.out; rw [hm] at this; exact this
          have hm := Lib.hid hm
          go_wp2_with fail
          refine hN.out.mono ?_
          rw [hm.out]
          rintro e w3 ⟨nx2, hl, hn2, ⟨T, pv, rfl⟩, ⟨dv', hP2⟩, hk2⟩
          have hF := Lib.hid (Out.fail (V := VNds) hR2.out hl hn hn2 ⟨T, pv, rfl⟩ hP2 hK.out ((Below.kp hb2.out).trans hk2))
          clear hP2 hk2 hl
          go_wp2
          exact ⟨rfl, hF.out⟩
    · have hR2 : Hid (Res.ok acc (C.l nx') = r) := by have := hR.out; rw [namesF, if_neg hcond] at this; exact this
      have hzb : ((acc.length : Int) == 0) = false := by simp; exact fun e => hcond (.inl e)
      have hnb : atNameB (C.l nx') = false := by rcases hh : atNameB (C.l nx') with _ | _; · rfl
                                                 · exact absurd (.inr hh) hcond
      have hnb := Lib.hid hnb
      clear hcond
      go_wp2_with fail
      refine hA.out.mono ?_
      rw [hnb.out]
      rintro e w1 ⟨rfl, hb1⟩
      have hV1 := Lib.hid (VNds.keep (w' := w1) (fun k h1 h2 => hb1.block k h2) hV.out)
      have hF := Lib.hid (Out.list hR2.out hn hV1.out (hP.out.below hb1) (hK.out.trans (Below.kp hb1)))
      go_wp2
      go_ret
      exact hF.out
end Go.Proofs.YtdaghppcomckbaaGreatDoor

/- The parser: units, amounts. -/
namespace Go.Proofs.YtdaghppcomckbaaGreatDoor
open Go.RowKit
set_option linter.unusedVariables false
set_option linter.unusedSimpArgs false

theorem Kp.blk {R b : Nat} {w w' : World} {o : Obj} (hk : Kp R none w w') (h : w.heap[b]? = some o) (hb : b ≠ R) : w'.heap[b]? = some o :=
  (hk.block b (Array.getElem?_eq_some_iff.1 h).1 hb (by simp)).trans h
theorem blkLt {w : World} {b : Nat} {o : Obj} (h : w.heap[b]? = some o) : b < w.heap.size := (Array.getElem?_eq_some_iff.1 h).1
theorem belowBlk {B b : Nat} {w w' : World} {o : Obj} (hk : Below B w w') (h : w.heap[b]? = some o) (hb : b < B) : w'.heap[b]? = some o := (hk.block b hb).trans h
def s1 : ByteArray := ⟨#[110, 111, 110, 101]⟩
def unitWs : List ByteArray := [⟨#[110, 111, 110, 101]⟩, ⟨#[112, 97, 99, 107, 101, 116, 115]⟩, ⟨#[98, 121, 116, 101, 115]⟩, ⟨#[116, 105, 109, 101]⟩, ⟨#[114, 97, 116, 101]⟩]
abbrev unitArr : Array Value := #[.string ⟨#[110, 111, 110, 101]⟩, .string ⟨#[112, 97, 99, 107, 101, 116, 115]⟩, .string ⟨#[98, 121, 116, 101, 115]⟩, .string ⟨#[116, 105, 109, 101]⟩, .string ⟨#[114, 97, 116, 101]⟩]
theorem unit_strs (W : World) : StrS (W.alloc (.cells unitArr 9)) W.heap.size unitWs := new_strs W _ _ _ rfl

set_option maxHeartbeats 400000 in
set_option maxRecDepth 100000 in
theorem unitWords_any (w : World) : Calls Tryz.prog 75 #[] w fun e w' => e = .returned (.slice (some ⟨w.heap.size, 0, none⟩) 5 5) ∧ w' = w.alloc (.cells unitArr 9) := by
  go_enter Tryz.func75, Tryz.ntmps75
  go_wp2
  go_ret
  exact ⟨rfl, rfl⟩

def amountM (l : List Tk) : Res Nd := (numberM l).bind fun t l1 => if idx unitWs (hd l1).x < 0 then .ok t l1 else .ok (numNd t.n (idx unitWs (hd l1).x) t.at0) l1.tail
theorem numberM_ok {l l1 : List Tk} {t : Nd} (h : numberM l = .ok t l1) : l1 = l.tail ∧ t = numNd (hd l).m 0 (hd l).a := by
  unfold numberM at h
  split at h
  · cases h; exact ⟨rfl, rfl⟩
  · cases h

theorem choiceM_ok {ws : List ByteArray} {l : List Tk} {k : Int} (hk : idx ws (hd l).x = k) (h : 0 ≤ k) : choiceM ws l = .ok k l.tail := by unfold choiceM; rw [hk, if_neg (by omega)]
theorem choiceM_err {ws : List ByteArray} {l : List Tk} (h : idx ws (hd l).x < 0) : choiceM ws l = .err 7 l := by unfold choiceM; rw [if_pos h]
theorem Out.ret {α : Type} {C : Cx} {nx : Nat} {dv : Value} {ds : List (Int × Int)} {w wr : World} {V : Nat → World → Value → α → Prop} {nx' : Nat} {x : α} {l : List Tk} {v : Value} {r : Res α} (hr : Res.ok x l = r) (hl : C.l nx' = l) (hn : nx ≤ nx') (hv : V w.heap.size wr v x) (hPK : PS C wr nx' dv ds ∧ Kp C.R none w wr) :
    Out C nx dv ds w V r (.returned v) wr := by subst hr; exact ⟨nx', v, hl, hn, rfl, hv, hPK.1, hPK.2⟩
theorem idxNe (ws : List ByteArray) (h : ∀ x ∈ ws, x.size ≠ 0) : (⟨#[]⟩ : ByteArray) ∉ ws := fun hm => h _ hm rfl

end Go.Proofs.YtdaghppcomckbaaGreatDoor
