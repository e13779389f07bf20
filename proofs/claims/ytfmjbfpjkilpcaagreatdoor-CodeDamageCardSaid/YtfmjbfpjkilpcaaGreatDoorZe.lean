/- Texts of one proof: KyH, KzI, UxA. -/
import Derived.Test.YtfmjbfpjkilpcaaGreatDoorZc
import Derived.Test.YtfmjbfpjkilpcaaGreatDoorZd
import Derived.Test.YtfmjbfpjkilpcaaGreatDoorRows
set_option linter.unusedVariables false
set_option linter.unusedSimpArgs false
set_option maxRecDepth 100000
set_option maxHeartbeats 8000000
namespace Go.Proofs.YtfmjbfpjkilpcaaGreatDoor
open Go.RowKit
namespace K
structure Hd where
 l : List In
 A : Option Addr
 c : Nat
abbrev hdV (h : Hd) : Value := .slice h.A h.l.length h.c
abbrev cdA (h0 h1 h2 h3 h4 : Hd) : Array Value := #[hdV h0, hdV h1, hdV h2, hdV h3, hdV h4]
def verAll (hs : List Hd) (vars : Int) : Bool := hs.all (fun h => verH h.l vars)
def verC (hs : List Hd) (vars : Int) : Bool := btw2 vars (0, 12) && verAll hs vars
theorem ixC (h0 h1 h2 h3 h4 : Hd) {k : Nat} {h : Hd} (hk : [h0, h1, h2, h3, h4][k]? = some h) (w : World) : (Instr.index 23 (.agg (cdA h0 h1 h2 h3 h4)) (.int .i64 k)).run Tryz.prog w = .ok (hdV h) w := by
 rcases k with _ | _ | _ | _ | _ | k <;> simp at hk
 all_goals
  subst hk
  simp [Instr.index, run_underlying Tryz.underlying23, asIntOf, go_sem]
theorem cells5k {w : World} {b : Nat} {v0 v1 v2 v3 v4 : Value} {T : TypeId} (h : w.heap[b]? = some (.cells #[v0, v1, v2, v3, v4] T (0, 0))) : w.cell? ⟨b, 0, none⟩ = some v0 ∧ w.cell? ⟨b, 1, none⟩ = some v1 ∧ w.cell? ⟨b, 2, none⟩ = some v2 ∧ w.cell? ⟨b, 3, none⟩ = some v3 ∧ w.cell? ⟨b, 4, none⟩ = some v4 := by
 have e : ∀ j, w.cell? ⟨b, j, none⟩ = (#[v0, v1, v2, v3, v4] : Array Value)[j]? := fun j => cell_of_row _ _ j _ _ (0, 0) h
 exact ⟨e 0, e 1, e 2, e 3, e 4⟩
def restB (vars : Int) (many : Nat) (hs : List Int) (i : Nat) (xs : List In) : Bool := match goH vars many hs i xs with
 | some h => decide ((h[many]?).getD 0 = 0)
 | none => false
theorem verH_rest (l : List In) (vars : Int) : verH l vars = (decide (l.length ≤ 4000) && restB vars l.length (0 :: List.replicate l.length (-1)) 0 l) := rfl
theorem rest_form {vars : Int} {many i : Nat} {hs : List Int} {x : In} {xs : List In} (h : formI x i many vars = false) : restB vars many hs i (x :: xs) = false := by
 unfold restB; rw [goH, if_neg (by rw [h]; decide)]
theorem rest_bad {vars : Int} {many i : Nat} {hs h2 : List Int} {x : In} {xs : List In} (h : formI x i many vars = true) (h3 : soundI hs x i = (h2, false)) : restB vars many hs i (x :: xs) = false := by
 unfold restB; rw [goH, if_pos h, h3]
theorem rest_ok {vars : Int} {many i : Nat} {hs h2 : List Int} {x : In} {xs : List In} (h : formI x i many vars = true) (h3 : soundI hs x i = (h2, true)) : restB vars many hs i (x :: xs) = restB vars many h2 (i + 1) xs := by
 unfold restB; rw [goH, if_pos h, h3]
theorem reach_bd {hs h2 : List Int} {i : Nat} {h : Int} (hb : ∀ n ∈ hs, -1 ≤ n ∧ n ≤ 64) (h0 : 0 ≤ h) (e : reach hs i h = (h2, true)) : ∀ n ∈ h2, -1 ≤ n ∧ n ≤ 64 := by
 unfold reach at e
 split at e
 ·obtain ⟨rfl, h3⟩ := Prod.mk.inj e
  intro n hn
  have := of_decide_eq_true h3
  rcases List.mem_or_eq_of_mem_set hn with h | rfl
  ·exact hb n h
  ·omega
 ·obtain ⟨rfl, h3⟩ := Prod.mk.inj e
  exact hb
theorem sound_bd {hs h2 : List Int} {x : In} {i : Nat} (hb : ∀ n ∈ hs, -1 ≤ n ∧ n ≤ 64) (e : soundI hs x i = (h2, true)) : ∀ n ∈ h2, -1 ≤ n ∧ n ≤ 64 := by
 have t2 := pt_pos x.op
 unfold soundI at e
 split at e
 ·cases e
 rename_i h0
 split at e
 ·rcases hr : reach hs (i + 1) ((hs[i]?).getD 0 - tko x.op + pt x.op) with ⟨h3, b⟩
  rw [hr] at e
  cases b with
  | false => cases e
  | true => exact reach_bd (reach_bd hb (by omega) hr) (by omega) e
 ·split at e
  ·exact reach_bd hb (by omega) e
  ·exact reach_bd hb (by omega) e
theorem Verify_all (h0 h1 h2 h3 h4 : Hd) (vars : Int) (w : World) (hR : ∀ h ∈ [h0, h1, h2, h3, h4], InsR w h.l h.A) (hlen : ∀ h ∈ [h0, h1, h2, h3, h4], h.l.length ≤ 4500) (hE : LaidE w) :
  Calls Tryz.prog 7 #[.agg (cdA h0 h1 h2 h3 h4), .int .i64 vars] w (GG (.bool (verC [h0, h1, h2, h3, h4] vars)) w) := by
 obtain ⟨R, hRR⟩ : ∃ R, verC [h0, h1, h2, h3, h4] vars = R := ⟨_, rfl⟩
 rw [hRR]
 obtain ⟨hsL, hhs⟩ : ∃ hsL, hsL = [h0, h1, h2, h3, h4] := ⟨_, rfl⟩
 have hix := Lib.hid (fun (k : Nat) (h : Hd) (hk : hsL[k]? = some h) (wx : World) => ixC h0 h1 h2 h3 h4 (k := k) (h := h) (by rw [← hhs]; exact hk) wx)
 have hll := Lib.hid (show hsL.length = 5 by rw [hhs]; rfl)
 rw [← hhs] at hR hlen hRR
 clear hhs
 have hRH := Lib.hid (show (btw2 vars (0, 12) && verAll (hsL.drop 0) vars) = R from hRR)
 have HR := Lib.hid hR
 have HL := Lib.hid hlen
 have HE := Lib.hid hE
 clear hRR hR hlen hE
 obtain ⟨W1, hW1⟩ : ∃ W1, W1 = w.alloc (.cells (cdA h0 h1 h2 h3 h4) 25) := ⟨_, rfl⟩
 have HG1 := Lib.hid (show Gr w W1 by rw [hW1]; exact grAlloc _ _)
 obtain ⟨c0, c1, c2, c3, c4⟩ := cells5k (show W1.heap[w.heap.size]? = some (.cells (cdA h0 h1 h2 h3 h4) 25 (0, 0)) by rw [hW1]; exact nBlk _ _ _ rfl)
 obtain ⟨v0, hv0⟩ : ∃ v0, btw2 vars (0, 12) = v0 := ⟨_, rfl⟩
 have hvH := Lib.hid (show v0 = true → 0 ≤ vars ∧ vars ≤ 12 from fun h => by
  rw [h] at hv0
  simpa [btw2] using hv0)
 rw [hv0] at hRH
 have hv0H := Lib.hid hv0
 clear hv0
 go_enter Tryz.func7, Tryz.ntmps7
 go_wp2
 go_step3
 go_upto_region 1 with fail
 rw [← hW1]
 clear hW1
 go_cut [5] (fun a5 wx => a5 = .bool v0 ∧ wx = W1)
 case first =>
  by_cases p0 : 0 ≤ vars
  ·have t0 : decide (0 ≤ vars) = true := decide_eq_true p0
   by_cases p1 : vars ≤ 12
   ·have t1 : decide (vars ≤ 12) = true := decide_eq_true p1
    obtain rfl : true = v0 := by rw [← hv0H.out]; unfold btw2; simp [p0, p1]
    go_wp2
    go_meet
    exact ⟨rfl, rfl⟩
   ·have t1 : decide (vars ≤ 12) = false := decide_eq_false p1
    obtain rfl : false = v0 := by rw [← hv0H.out]; unfold btw2; simp [p1]
    go_wp2
    go_meet
    exact ⟨rfl, rfl⟩
  ·have t0 : decide (0 ≤ vars) = false := decide_eq_false p0
   obtain rfl : false = v0 := by rw [← hv0H.out]; unfold btw2; simp [p0]
   go_wp2
   go_meet
   exact ⟨rfl, rfl⟩
 case rest =>
  obtain ⟨rfl, rfl⟩ := hcut
  go_wp2
  go_step3
  go_wp2
  go_loopg [5, 18] (5) (fun gk a5 a18 wr => ∃ (k : Nat) (v : Bool), k + gk = 5 ∧ a18 = .int .i64 k ∧ a5 = .bool v ∧ Hid ((v && verAll (hsL.drop k) vars) = R) ∧ Hid (v = true → 0 ≤ vars ∧ vars ≤ 12) ∧ Hid (Gr w wr))
  case atStart => exact ⟨0, v0, by omega, rfl, rfl, hRH, hvH, HG1⟩
  case round =>
   obtain ⟨k, v, hk, rfl, rfl, hG, hv, hB⟩ := hrel
   by_cases hlt : k < 5
   ·obtain ⟨gq, rfl⟩ : ∃ g, gk = g + 1 := ⟨gk - 1, by omega⟩
    have hkl : k < hsL.length := by rw [hll.out]; exact hlt
    have hke : hsL[k]? = some hsL[k] := List.getElem?_eq_getElem hkl
    have hmem : hsL[k] ∈ hsL := List.getElem_mem hkl
    have hIk := hix.out k _ hke
    have hRk := Lib.hid ((HR.out _ hmem))
    have hLk := HL.out _ hmem
    have hG1 := hG.out
    rw [List.drop_eq_getElem_cons hkl] at hG1
    have hG1 := Lib.hid (show (v && (verH (hsL[k]).l vars && verAll (hsL.drop (k + 1)) vars)) = R from hG1)
    clear hG hke hmem
    generalize hsL[k] = h at *
    clear hkl
    obtain ⟨l, A, c⟩ := h
    simp only at hRk hLk hG1 hIk
    have hIk : ∀ wx : World, (Instr.index 23 (.agg (cdA h0 h1 h2 h3 h4)) (.int .i64 k)).run Tryz.prog wx = .ok (.slice A l.length c) wx := hIk
    have hLkH := Lib.hid hLk
    clear hLk
    obtain ⟨v1, hv1⟩ : ∃ v1, (v && decide (l.length ≤ 4000)) = v1 := ⟨_, rfl⟩
    have hv1H := Lib.hid hv1
    clear hv1
    go_upto_region 5 with fail
    go_cut [5, 7, 18] from 18 to 59 (fun a5 a7 a18 wx => a5 = .bool v1 ∧ a7 = .slice A l.length c ∧ a18 = .int .i64 k ∧ wx = wr)
    case first =>
     cases v with
     | false =>
      obtain rfl : false = v1 := hv1H.out
      go_wp2
      go_meet
      exact ⟨rfl, rfl, rfl, rfl⟩
     | true =>
      by_cases p4 : l.length ≤ 4000
      ·have t4 : decide ((l.length : Int) ≤ 4000) = true := by simp; omega
       obtain rfl : true = v1 := by rw [← hv1H.out]; simp [p4]
       go_wp2
       go_meet
       exact ⟨rfl, rfl, rfl, rfl⟩
      ·have t4 : decide ((l.length : Int) ≤ 4000) = false := by simp; omega
       obtain rfl : false = v1 := by rw [← hv1H.out]; simp [p4]
       go_wp2
       go_meet
       exact ⟨rfl, rfl, rfl, rfl⟩
    case rest =>
     obtain ⟨rfl, rfl, rfl, hwc⟩ := hcut
     subst hwc
     have hN := Lib.hid (fun wx => newHandler_any l.length A c vars (by have := hLkH.out; omega) wx)
     go_wp2_with fail
     refine (hN.out _).mono ?_
     rintro e w3 ⟨⟨g, rfl, hX, hgB⟩, hg3⟩
     obtain ⟨W4, hW4⟩ : ∃ W4, W4 = w3.alloc (.cells (hA l.length A c vars (some ⟨g, 0, none⟩) (l.length + 1) (l.length + 1)) 49) := ⟨_, rfl⟩
     have hg4 : Gr w3 W4 := by rw [hW4]; exact grAlloc _ _
     obtain ⟨hb, hhb⟩ : ∃ hb, hb = w3.heap.size := ⟨_, rfl⟩
     have hgl : g < w3.heap.size := (Array.getElem?_eq_some_iff.1 hX).1
     have HY4 := Lib.hid (show W4.heap[hb]? = some (.cells (hA l.length A c vars (some ⟨g, 0, none⟩) (l.length + 1) (l.length + 1)) 49 (0, 0)) by rw [hW4, hhb]; exact nBlk _ _ _ rfl)
     have HX4 := Lib.hid (grBlk hg4 hX)
     have HB4 := Lib.hid (hB.out.tr (hg3.tr hg4))
     have hgb := Lib.hid (show g ≠ hb by omega)
     have hgw := Lib.hid (show w.heap.size ≤ g from Nat.le_trans hB.out.size hgB)
     go_upto_region 7 with fail
     rw [← hW4, ← hhb]
     clear hW4 hhb hX hg3 hg4 hgl hgB hB hN
     have hG2 : ((v1 && restB vars l.length (0 :: List.replicate l.length (-1)) 0 (l.drop 0)) && verAll (hsL.drop (k + 1)) vars) = R := by
      rw [← hG1.out, verH_rest, ← hv1H.out, List.drop_zero]
      cases v <;> simp [Bool.and_assoc]
     have hG2 := Lib.hid hG2
     have hv1v := Lib.hid (show v1 = true → 0 ≤ vars ∧ vars ≤ 12 from fun h => hv.out (by
      have := hv1H.out
      rw [h, Bool.and_eq_true] at this
      exact this.1))
     have hi0 := Lib.hid (show (∀ n ∈ (0 : Int) :: List.replicate l.length (-1), -1 ≤ n ∧ n ≤ 64) from fun n hn => by
      rcases List.mem_cons.1 hn with rfl | hn
      ·omega
      ·rw [List.eq_of_mem_replicate hn]; omega)
     have hil0 := Lib.hid (show ((0 : Int) :: List.replicate l.length (-1)).length = l.length + 1 by simp)
     clear hG1 hv1H hv
     go_wp2
     go_loopg [5, 32] (l.length) (fun gk a5 a32 wr => ∃ (i : Nat) (f : Bool) (hs : List Int), i + gk = l.length ∧ a32 = .int .i64 i ∧ a5 = .bool f ∧ Hid (((f && restB vars l.length hs i (l.drop i)) && verAll (hsL.drop (k + 1)) vars) = R) ∧ Hid (f = true → 0 ≤ vars ∧ vars ≤ 12) ∧ Hid (hs.length = l.length + 1) ∧ Hid (∀ n ∈ hs, -1 ≤ n ∧ n ≤ 64) ∧
      Hid (wr.heap[g]? = some (.cells (iA hs) 3 (0, 0))) ∧ Hid (wr.heap[hb]? = some (.cells (hA l.length A c vars (some ⟨g, 0, none⟩) (l.length + 1) (l.length + 1)) 49 (0, 0))) ∧ Hid (Gr w wr))
     case atStart => exact ⟨0, v1, _, by omega, rfl, rfl, hG2, hv1v, hil0, hi0, HX4, HY4, HB4⟩
     case round =>
      obtain ⟨i, f, hs, hij, rfl, rfl, hG, hf, hhl, hhb, hX, hY, hB⟩ := hrel
      clear HX4 HY4 HB4 hG2 hv1v hi0 hil0
      by_cases hlt2 : i < l.length
      ·obtain ⟨gp, rfl⟩ : ∃ g, gk = g + 1 := ⟨gk - 1, by omega⟩
       cases f with
       | false =>
        obtain rfl : false = R := by have := hG.out; simpa using this
        clear hG
        go_wp2
        rw [Exit.noGoto_ret]
        go_ret
        exact ⟨rfl, hB.out⟩
       | true =>
        have hx : l[i]? = some l[i] := List.getElem?_eq_getElem hlt2
        have hGd := hG.out
        rw [List.drop_eq_getElem_cons hlt2] at hGd
        have hvr := hf.out rfl
        have HF := Lib.hid (fun (wx : World) (hg : Gr wr wx) => isFormed_any l A c vars (some ⟨g, 0, none⟩) (l.length + 1) (l.length + 1) i l[i] hx (by have := hLkH.out; omega) (by omega) wx (hRk.out.gr (hB.out.tr hg)))
        have HS := Lib.hid (fun (wx : World) (hg : Gr w wx) (hX : wx.heap[g]? = some (.cells (iA hs) 3 (0, 0))) (hfm : formI l[i] i l.length vars = true) => (by
         have := isSound_any w hs l A c vars g (l.length + 1) i l[i] hx hfm hhl.out (by have := hLkH.out; omega) hhb.out wx hg hgw.out hX hRk.out HE.out
         rw [hhl.out] at this
         exact this))
        clear hG hx
        generalize l[i] = x at *
        obtain ⟨x0, x1, x2⟩ := cells3k hY.out
        rcases hfm : formI x i l.length vars with _ | _
        ·rw [hfm] at HF
         rw [rest_form hfm] at hGd
         obtain rfl : false = R := by simpa using hGd
         clear hGd HS hfm
         go_wp2_with fail
         refine (HF.out _ (Below.refl _ _)).mono ?_
         rintro e w6 ⟨rfl, hg6⟩
         have hB6 := Lib.hid (hB.out.tr hg6)
         clear hg6
         go_wp2
         rw [Exit.noGoto_ret]
         go_ret
         exact ⟨rfl, hB6.out⟩
        ·rw [hfm] at HF
         have HS := Lib.hid (fun wx hg hX => HS.out wx hg hX hfm)
         have hfmH := Lib.hid hfm
         have hGH := Lib.hid hGd
         clear hfm hGd
         go_wp2_with fail
         refine (HF.out _ (Below.refl _ _)).mono ?_
         rintro e w6 ⟨rfl, hg6⟩
         have hB6 := Lib.hid (hB.out.tr hg6)
         have hX6 := Lib.hid (grBlk hg6 hX.out)
         have hY6 := Lib.hid (grBlk hg6 hY.out)
         clear hg6 x0 x1 x2 hB hX hY HF
         obtain ⟨x0, x1, x2⟩ := cells3k hY6.out
         go_wp2_with fail
         refine (HS.out _ hB6.out hX6.out).mono ?_
         rcases hsd : soundI hs x i with ⟨h2, b2⟩
         rintro e w7 ⟨he, hX7, hB7, hK7⟩
         simp only at he hX7
         subst he
         have hY7 := Lib.hid ((hK7.block _ (blkLt hY6.out) (fun q => by have := Option.some.inj q; exact hgb.out this.symm)).trans hY6.out)
         have hX7 := Lib.hid hX7
         have hB7 := Lib.hid hB7
         clear hK7 x0 x1 x2 HS hX6 hY6 hB6
         cases b2 with
         | false =>
          obtain rfl : false = R := by
           have := hGH.out
           rw [rest_bad hfmH.out hsd] at this
           simpa using this
          clear hGH hfmH hsd
          go_wp2
          rw [Exit.noGoto_ret]
          go_ret
          exact ⟨rfl, hB7.out⟩
         | true =>
          have hGn := Lib.hid (show ((true && restB vars l.length h2 (i + 1) (l.drop (i + 1))) && verAll (hsL.drop (k + 1)) vars) = R by rw [← rest_ok hfmH.out hsd]; exact hGH.out)
          have hhl2 := Lib.hid (show h2.length = l.length + 1 by rw [← (sound_spec hhl.out hlt2 hfmH.out hsd).1.1]; exact hhl.out)
          have hhb2 := Lib.hid (sound_bd hhb.out hsd)
          have hvrH := Lib.hid hvr
          have qi : IntKind.i64.wrap ((i : Int) + 1) = (i : Int) + 1 := IntWalk.i64_in _ (by have := hLkH.out; omega)
          clear hGH hfmH hsd hhl hhb hf hvr
          go_wp2
          go_roundg gp
          case measure => omega
          case rel => exact ⟨i + 1, true, h2, by omega, by go_num, rfl, hGn, Lib.hid (fun _ => hvrH.out), hhl2, hhb2, hX7, hY7, hB7⟩
      ·have hil : i = l.length := by omega
       have hkl2 : decide ((i : Int) < (l.length : Int)) = false := by simp; omega
       have hGe := hG.out
       rw [hil, List.drop_eq_nil_of_le (Nat.le_refl _)] at hGe
       have hGe : ((f && decide ((hs[l.length]?).getD 0 = 0)) && verAll (hsL.drop (k + 1)) vars) = R := hGe
       obtain ⟨x0, x1, x2⟩ := cells3k hY.out
       have c0 := iA_at hX.out (i := l.length) (by rw [hhl.out]; omega)
       have hGe := Lib.hid hGe
       have hkn := Lib.hid (show k + 1 + gq = 5 by omega)
       clear hG hil
       generalize (hs[l.length]?).getD 0 = q at *
       cases f with
       | false =>
        have hGn := Lib.hid (show (false && verAll (hsL.drop (k + 1)) vars) = R from hGe.out)
        have hvn : Hid (false = true → 0 ≤ vars ∧ vars ≤ 12) := Lib.hid (fun h => by cases h)
        clear hGe hf
        go_wp2
        go_roundg gq
        case measure => omega
        case rel => exact ⟨k + 1, false, hkn.out, by go_num, rfl, hGn, hvn, hB⟩
       | true =>
        have hvn := Lib.hid (fun _ : decide (q = 0) = true => hf.out rfl)
        have hGn := Lib.hid (show (decide (q = 0) && verAll (hsL.drop (k + 1)) vars) = R from hGe.out)
        have tq : (q == 0) = decide (q = 0) := by by_cases h : q = 0 <;> simp [h]
        clear hGe hf
        generalize decide (q = 0) = v2 at *
        go_wp2
        go_roundg gq
        case measure => omega
        case rel => exact ⟨k + 1, v2, hkn.out, by go_num, rfl, hGn, hvn, hB⟩
   ·have hk5 : k = 5 := by omega
    have hGe := hG.out
    rw [List.drop_eq_nil_of_le (by rw [hll.out]; omega)] at hGe
    obtain rfl : v = R := by rw [← hGe]; simp [verAll]
    have hkl2 : decide ((k : Int) < 5) = false := by simp; omega
    clear hGe hG
    go_wp2
    rw [Exit.noGoto_ret]
    go_ret
    exact ⟨rfl, hB.out⟩
theorem Verify_any (h0 h1 h2 h3 h4 : Hd) (vars : Int) (hvw : -1000000 ≤ vars ∧ vars ≤ 1000000) (w : World) (hR : ∀ h ∈ [h0, h1, h2, h3, h4], InsR w h.l h.A) (hlen : ∀ h ∈ [h0, h1, h2, h3, h4], h.l.length ≤ 4500) (hE : LaidE w) :
  Calls Tryz.prog 7 #[.agg (cdA h0 h1 h2 h3 h4), .int .i64 vars] w (GG (.bool (verC [h0, h1, h2, h3, h4] vars)) w) := Verify_all h0 h1 h2 h3 h4 vars w hR hlen hE
end K
end Go.Proofs.YtfmjbfpjkilpcaaGreatDoor
namespace Go.Proofs.YtfmjbfpjkilpcaaGreatDoor
open Go.RowKit
namespace K
theorem cdAt {w : World} {b : Nat} {h0 h1 h2 h3 h4 : Hd} {T : TypeId} (h : w.heap[b]? = some (.cells (cdA h0 h1 h2 h3 h4) T (0, 0))) {k : Nat} {x : Hd} (hk : [h0, h1, h2, h3, h4][k]? = some x) : w.cell? ⟨b, k, none⟩ = some (hdV x) := by
 rw [cell_of_row _ _ k _ _ (0, 0) h]
 rcases k with _ | _ | _ | _ | _ | k <;> simp at hk <;> subst hk <;> rfl
def shortB (hs : List Hd) (most : Int) : Bool := hs.all (fun h => decide ((h.l.length : Int) ≤ most))
theorem Short_any (h0 h1 h2 h3 h4 : Hd) (most : Int) (w : World) :
  Calls Tryz.prog 6 #[.agg (cdA h0 h1 h2 h3 h4), .int .i64 most] w (GG (.bool (shortB [h0, h1, h2, h3, h4] most)) w) := by
 obtain ⟨R, hRR⟩ : ∃ R, shortB [h0, h1, h2, h3, h4] most = R := ⟨_, rfl⟩
 rw [hRR]
 obtain ⟨W1, hW1⟩ : ∃ W1, W1 = w.alloc (.cells (cdA h0 h1 h2 h3 h4) 25) := ⟨_, rfl⟩
 have HG1 := Lib.hid (show Gr w W1 by rw [hW1]; exact grAlloc _ _)
 have HC1 := Lib.hid (show W1.heap[w.heap.size]? = some (.cells (cdA h0 h1 h2 h3 h4) 25 (0, 0)) by rw [hW1]; exact nBlk _ _ _ rfl)
 obtain ⟨hsL, hhs⟩ : ∃ hsL, hsL = [h0, h1, h2, h3, h4] := ⟨_, rfl⟩
 have hcd := Lib.hid (fun (wx : World) (hX : wx.heap[w.heap.size]? = some (.cells (cdA h0 h1 h2 h3 h4) 25 (0, 0))) (k : Nat) (x : Hd) (hk : hsL[k]? = some x) => cdAt hX (k := k) (x := x) (by rw [← hhs]; exact hk))
 have hll := Lib.hid (show hsL.length = 5 by rw [hhs]; rfl)
 rw [← hhs] at hRR
 clear hhs
 have hRH := Lib.hid (show shortB (hsL.drop 0) most = R from hRR)
 clear hRR
 go_enter Tryz.func6, Tryz.ntmps6
 go_upto_region 1 with fail
 rw [← hW1]
 clear hW1
 go_wp2
 go_loopg [5] (5) (fun gk a5 wr => ∃ k : Nat, k + gk = 5 ∧ a5 = .int .i64 k ∧ Hid (shortB (hsL.drop k) most = R) ∧ Hid (wr.heap[w.heap.size]? = some (.cells (cdA h0 h1 h2 h3 h4) 25 (0, 0))) ∧ Hid (Gr w wr))
 case atStart => exact ⟨0, by omega, rfl, hRH, HC1, HG1⟩
 case round =>
  obtain ⟨k, hk, rfl, hG, hC, hB⟩ := hrel
  by_cases hlt : k < 5
  ·obtain ⟨gq, rfl⟩ : ∃ g, gk = g + 1 := ⟨gk - 1, by omega⟩
   have hkl : k < hsL.length := by rw [hll.out]; exact hlt
   have hke : hsL[k]? = some hsL[k] := List.getElem?_eq_getElem hkl
   have ck := hcd.out _ hC.out k _ hke
   have hG1 := hG.out
   rw [List.drop_eq_getElem_cons hkl] at hG1
   have hG1 : (decide (((hsL[k]).l.length : Int) ≤ most) && shortB (hsL.drop (k + 1)) most) = R := hG1
   clear hG hke
   generalize hsL[k] = x at *
   clear hkl
   obtain ⟨l, A, c⟩ := x
   have ck : wr.cell? ⟨w.heap.size, k, none⟩ = some (.slice A l.length c) := ck
   simp only at hG1
   by_cases hv : (l.length : Int) ≤ most
   ·have tv : decide ((l.length : Int) > most) = false := by simp; omega
    have hGn := Lib.hid (show shortB (hsL.drop (k + 1)) most = R by simpa [hv] using hG1)
    clear hG1 hv
    go_wp2
    go_roundg gq
    case measure => omega
    case rel => exact ⟨k + 1, by omega, by go_num, hGn, hC, hB⟩
   ·have tv : decide ((l.length : Int) > most) = true := by simp; omega
    obtain rfl : false = R := by simpa [hv] using hG1
    clear hG1 hv
    go_wp2
    go_ret
    exact ⟨rfl, hB.out⟩
  ·have hk5 : k = 5 := by omega
   have hGe := hG.out
   rw [List.drop_eq_nil_of_le (by rw [hll.out]; omega)] at hGe
   obtain rfl : true = R := hGe
   have hkl2 : decide ((k : Int) < 5) = false := by simp; omega
   clear hG
   go_wp2
   go_ret
   exact ⟨rfl, hB.out⟩
def eqI (x y : In) : Bool := decide (x.op = y.op) && (decide (x.n = y.n) && decide (x.r = y.r))
def sameL : List In → List In → Bool
 | [], [] => true
 | x :: xs, y :: ys => eqI x y && sameL xs ys
 | _, _ => false
theorem eqI_iff {x y : In} : eqI x y = true ↔ x = y := by
 cases x; cases y; simp [eqI]
theorem sameL_iff : ∀ {a b : List In}, sameL a b = true ↔ a = b
 | [], [] => by simp [sameL]
 | x :: xs, y :: ys => by rw [sameL, Bool.and_eq_true, eqI_iff, sameL_iff, List.cons.injEq]
 | [], y :: ys => by simp [sameL]
 | x :: xs, [] => by simp [sameL]
theorem sameL_len : ∀ {a b : List In}, a.length ≠ b.length → sameL a b = false := fun h => by
 rw [Bool.eq_false_iff]
 intro e
 exact h (by rw [sameL_iff.1 e])
theorem run_in_eq (s t : In) (w : World) : (Op.equalIn 10000 30 (.agg #[.int .i64 s.op, .int .i64 s.n, .int .i64 s.r]) (.agg #[.int .i64 t.op, .int .i64 t.n, .int .i64 t.r])).run Tryz.prog w = .ok (eqI s t) w := by
 have hk : Tryz.prog.plainKey 3 = true := by kernel_rfl
 have he : ∀ x y : Int, (Op.equalIn 9999 3 (.int .i64 x) (.int .i64 y)).run Tryz.prog w = .ok (x == y) w := fun x y => run_equalIn_int w 9998 3 .i64 .i64 x y Tryz.underlying3
 have hp : ∀ x y z : Value, (part 3 #[x, y, z] 0).run Tryz.prog w = .ok x w ∧ (part 3 #[x, y, z] 1).run Tryz.prog w = .ok y w ∧ (part 3 #[x, y, z] 2).run Tryz.prog w = .ok z w :=
  fun x y z => ⟨run_part_plain w hk rfl, run_part_plain w hk rfl, run_part_plain w hk rfl⟩
 rw [show (10000 : Nat) = 9999 + 1 from rfl, run_equalIn_struct w 9999 _ _ _ (by kernel_rfl) (by kernel_rfl)]
 simp only [Program.fieldsOf, Tryz.underlying30]
 obtain ⟨a, b, c⟩ := s
 obtain ⟨a', b', c'⟩ := t
 have h0 := (hp (.int .i64 a) (.int .i64 b) (.int .i64 c))
 have h1 := (hp (.int .i64 a') (.int .i64 b') (.int .i64 c'))
 by_cases ea : a = a'
 ·subst ea
  by_cases eb : b = b'
  ·subst eb
   by_cases ec : c = c'
   ·subst ec
    simp [Op.eqFields, Sem.run_bind, h0, h1, he, eqI]
   ·simp [Op.eqFields, Sem.run_bind, h0, h1, he, ec, eqI]
  ·simp [Op.eqFields, Sem.run_bind, h0, h1, he, eb, eqI]
 ·simp [Op.eqFields, Sem.run_bind, h0, h1, he, ea, eqI]
theorem SameInstrs_any (a b : List In) (A B : Option Addr) (c d : Nat) (w : World) (ha : InsR w a A) (hb : InsR w b B) (hlen : a.length ≤ 100000) :
  Calls Tryz.prog 11 #[.slice A a.length c, .slice B b.length d] w (GG (.bool (sameL a b)) w) := by
 by_cases hl : a.length = b.length
 case neg =>
  rw [sameL_len hl]
  have t1 : ((a.length : Int) != (b.length : Int)) = true := by rw [bne_iff_ne]; omega
  have t2 : ((a.length : Int) == (b.length : Int)) = false := by rw [beq_eq_false_iff_ne]; omega
  clear hl ha hb
  go_enter Tryz.func11, Tryz.ntmps11
  go_wp2
  go_ret
  exact ⟨rfl, Below.refl _ _⟩
 case pos =>
  obtain ⟨R, hR⟩ : ∃ R, sameL a b = R := ⟨_, rfl⟩
  rw [hR]
  have hR0 := Lib.hid (show sameL (a.drop 0) (b.drop 0) = R from hR)
  have HA := Lib.hid ha
  have HB := Lib.hid hb
  have hq := run_in_eq
  have hlH := Lib.hid hl
  obtain ⟨n, hn⟩ : ∃ n, a.length = n := ⟨_, rfl⟩
  obtain ⟨m, hm⟩ : ∃ m, b.length = m := ⟨_, rfl⟩
  have hnm : n = m := by omega
  subst hnm
  have hnH := Lib.hid hn
  have hmH := Lib.hid hm
  rw [hn] at hlen
  rw [hn, hm]
  have hg0 := Lib.hid (Below.refl w.heap.size w)
  clear hR hl ha hb hn hm
  go_enter Tryz.func11, Tryz.ntmps11
  go_wp2_with fail
  go_loopg [5] n (fun gk i wr => ∃ k : Nat, k + gk = n ∧ i = .int .i64 k ∧ Hid (sameL (a.drop k) (b.drop k) = R) ∧ Hid (Gr w wr))
  case atStart => exact ⟨0, by omega, rfl, hR0, hg0⟩
  case round =>
   obtain ⟨k, hk, rfl, hE, hG⟩ := hrel
   clear hR0 hg0
   by_cases hlt : k < n
   ·obtain ⟨gq, rfl⟩ : ∃ g, gk = g + 1 := ⟨gk - 1, by omega⟩
    have hka : k < a.length := by have := hnH.out; omega
    have hkb : k < b.length := by have := hmH.out; omega
    obtain ⟨ga, oa, rfl, hat⟩ := (HA.out.gr hG.out).addr (by omega)
    obtain ⟨gb, ob, rfl, hbt⟩ := (HB.out.gr hG.out).addr (by omega)
    have hx := List.getElem?_eq_getElem hka
    have hy := List.getElem?_eq_getElem hkb
    have hE1 := hE.out
    rw [List.drop_eq_getElem_cons hka, List.drop_eq_getElem_cons hkb, sameL] at hE1
    generalize a[k] = x at *
    generalize b[k] = y at *
    obtain ⟨e0, e1, e2⟩ := hat k x hx
    obtain ⟨f0, f1, f2⟩ := hbt k y hy
    have e0 : wr.drew.cell? ⟨ga, oa + k * 3, none⟩ = some (.int .i64 x.op) := e0
    have e1 : wr.drew.cell? ⟨ga, oa + k * 3 + 1, none⟩ = some (.int .i64 x.n) := e1
    have e2 : wr.drew.cell? ⟨ga, oa + k * 3 + 2, none⟩ = some (.int .i64 x.r) := e2
    have f0 : wr.drew.cell? ⟨gb, ob + k * 3, none⟩ = some (.int .i64 y.op) := f0
    have f1 : wr.drew.cell? ⟨gb, ob + k * 3 + 1, none⟩ = some (.int .i64 y.n) := f1
    have f2 : wr.drew.cell? ⟨gb, ob + k * 3 + 2, none⟩ = some (.int .i64 y.r) := f2
    have hG1 := Lib.hid (hG.out.tr (grDrew wr))
    clear hat hbt hx hy hka hkb hE hG
    rcases hxy : eqI x y with _ | _
    ·obtain rfl : false = R := by simpa [hxy] using hE1
     have hq1 : ∀ wx : World, (Op.equalIn 10000 30 (.agg #[.int .i64 x.op, .int .i64 x.n, .int .i64 x.r]) (.agg #[.int .i64 y.op, .int .i64 y.n, .int .i64 y.r])).run Tryz.prog wx = .ok false wx := fun wx => by rw [hq, hxy]
     clear hq hE1 hxy
     go_upto_region 6 with fail
     go_region
     go_wp2
     go_ret
     exact ⟨rfl, hG1.out⟩
    ·have hE2 := Lib.hid (show sameL (a.drop (k + 1)) (b.drop (k + 1)) = R by simpa [hxy] using hE1)
     have hq1 : ∀ wx : World, (Op.equalIn 10000 30 (.agg #[.int .i64 x.op, .int .i64 x.n, .int .i64 x.r]) (.agg #[.int .i64 y.op, .int .i64 y.n, .int .i64 y.r])).run Tryz.prog wx = .ok true wx := fun wx => by rw [hq, hxy]
     clear hq hE1 hxy
     go_upto_region 6 with fail
     go_region
     go_wp2
     go_roundg gq
     case measure => omega
     case rel => exact ⟨k + 1, by omega, by go_num, hE2, hG1⟩
   ·obtain rfl : gk = 0 := by omega
    have hGe := hE.out
    rw [List.drop_eq_nil_of_le (by have := hnH.out; omega), List.drop_eq_nil_of_le (by have := hmH.out; omega)] at hGe
    obtain rfl : true = R := hGe
    have hkl2 : decide ((k : Int) < (n : Int)) = false := by simp; omega
    go_wp2
    go_ret
    exact ⟨rfl, hG.out⟩
end K
end Go.Proofs.YtfmjbfpjkilpcaaGreatDoor
namespace Go.Proofs.YtfmjbfpjkilpcaaGreatDoor.U
inductive Ex where
 | mk (op n unit : Int) (kids : List Ex)
def Ex.op : Ex → Int | .mk o _ _ _ => o
def Ex.n : Ex → Int | .mk _ n _ _ => n
def Ex.unit : Ex → Int | .mk _ _ u _ => u
def Ex.kids : Ex → List Ex | .mk _ _ _ l => l
mutual
def Ex.size : Ex → Nat
 | .mk _ _ _ ks => 1 + szK ks
def szK : List Ex → Nat
 | [] => 0
 | k :: ks => k.size + szK ks
end
mutual
def spE : Ex → Int → Int
 | .mk _ _ _ ks, n => spK ks (n - 1)
def spK : List Ex → Int → Int
 | [], n => n
 | k :: ks, n => if 0 ≤ n then spK ks (spE k n) else n
end
mutual
theorem spE_max : ∀ (t : Ex) (n : Int), 0 ≤ n → spE t n = max (n - t.size) (-1)
 | .mk _ _ _ ks, n, h => by
  rw [spE, spK_max ks (n - 1) (by omega), Ex.size]
  omega
theorem spK_max : ∀ (ks : List Ex) (n : Int), -1 ≤ n → spK ks n = max (n - szK ks) (-1)
 | [], n, h => by rw [spK, szK]; omega
 | k :: ks, n, h => by
  rw [spK, szK]
  by_cases h0 : 0 ≤ n
  ·have h1 := spE_max k n h0
   rw [if_pos h0, spK_max ks _ (by omega)]
   omega
  ·rw [if_neg h0]
   omega
end
theorem Ex.size_pos (t : Ex) : 0 < t.size := by cases t; rw [Ex.size]; omega
structure Pw where
 a : Int
 b : Int
 c : Int
deriving DecidableEq
def btw (n lo hi : Int) : Bool := decide (lo ≤ n) && decide (n ≤ hi)
def kindP (k : Int) : Pw := if k = 1 then ⟨1, 0, 0⟩ else if k = 2 then ⟨0, 1, 0⟩ else if k = 3 then ⟨0, 0, 1⟩ else if k = 4 then ⟨0, 1, -1⟩ else ⟨0, 0, 0⟩
def inpK (n : Int) : Int := if n = 1 then 3 else if n = 2 then 2 else 1
def rgB (p : Pw) : Bool := btw p.a (-4) 4 && (btw p.b (-4) 4 && btw p.c (-4) 4)
def addP (p q : Pw) (z : Int) : Pw := ⟨p.a + z * q.a, p.b + z * q.b, p.c + z * q.c⟩
def limP (p : Pw) : Except Int Pw := if rgB p then .ok p else .error 13
def formB (len : Nat) (op n u : Int) (k : Nat) : Bool :=
 if op = 1 then decide (k = 0) && (btw n 0 1000000000 && btw u 0 4)
 else if op = 2 then decide (k = 0) && btw n 0 ((len : Int) - 1)
 else if op = 3 then decide (k = 0) && btw n 0 3
 else decide (k = 2) && btw op 4 10
def twoP (op : Int) (p q : Pw) : Except Int Pw :=
 if op = 6 then limP (addP p q 1) else if op = 7 ∨ op = 8 then limP (addP p q (-1)) else if p = q then .ok p else .error 13
def nodeP (s : List Pw) (op n u : Int) (ps : List Pw) : Except Int Pw :=
 if formB s.length op n u ps.length then
  if op = 1 then .ok (kindP u) else if op = 2 then .ok (s.getD n.toNat ⟨0, 0, 0⟩) else if op = 3 then .ok (kindP (inpK n))
  else twoP op (ps.getD 0 ⟨0, 0, 0⟩) (ps.getD 1 ⟨0, 0, 0⟩)
 else .error 1
mutual
def inf (s : List Pw) : Ex → Except Int Pw
 | .mk op n u ks => match infK s ks with
  | .error e => .error e
  | .ok ps => nodeP s op n u ps
def infK (s : List Pw) : List Ex → Except Int (List Pw)
 | [] => .ok []
 | k :: ks => match inf s k with
  | .error e => .error e
  | .ok p => match infK s ks with
   | .error e => .error e
   | .ok ps => .ok (p :: ps)
end
def infG (s : List Pw) (op n u : Int) (acc : List Pw) (ks : List Ex) : Except Int Pw :=
 match infK s ks with
 | .error e => .error e
 | .ok ps => nodeP s op n u (acc ++ ps)
theorem inf_G (s : List Pw) (op n u : Int) (ks : List Ex) : inf s (.mk op n u ks) = infG s op n u [] ks := by rw [inf, infG]; rfl
theorem infG_nil (s : List Pw) (op n u : Int) (acc : List Pw) : infG s op n u acc [] = nodeP s op n u acc := by simp [infG, infK]
theorem infG_err {s : List Pw} {op n u : Int} {acc : List Pw} {k : Ex} {ks : List Ex} {e : Int} (h : inf s k = .error e) : infG s op n u acc (k :: ks) = .error e := by
 simp [infG, infK, h]
theorem infG_ok {s : List Pw} {op n u : Int} {acc : List Pw} {k : Ex} {ks : List Ex} {p : Pw} (h : inf s k = .ok p) : infG s op n u acc (k :: ks) = infG s op n u (acc ++ [p]) ks := by
 simp only [infG, infK, h]
 rcases infK s ks with e | ps <;> simp
theorem kindP_rg (k : Int) : rgB (kindP k) = true := by unfold kindP; (repeat' split) <;> rfl
def allRg (s : List Pw) : Prop := ∀ p ∈ s, rgB p = true
theorem getD_rg {s : List Pw} (h : allRg s) (i : Nat) : rgB (s.getD i ⟨0, 0, 0⟩) = true := by
 rw [List.getD_eq_getElem?_getD]
 rcases hi : s[i]? with _ | p
 ·rfl
 ·exact h p (List.mem_of_getElem? hi)
theorem limP_rg {p q : Pw} (h : limP p = .ok q) : rgB q = true := by
 unfold limP at h
 split at h <;> simp at h
 subst h; assumption
theorem nodeP_rg {s : List Pw} (hs : allRg s) {op n u : Int} {ps : List Pw} (hp : allRg ps) {q : Pw} (h : nodeP s op n u ps = .ok q) : rgB q = true := by
 unfold nodeP at h
 split at h
 ·split at h
  ·simp at h; subst h; exact kindP_rg _
  ·split at h
   ·simp only [Except.ok.injEq] at h; subst h; exact getD_rg hs _
   ·split at h
    ·simp at h; subst h; exact kindP_rg _
    ·unfold twoP at h
     split at h
     ·exact limP_rg h
     ·split at h
      ·exact limP_rg h
      ·split at h
       ·simp only [Except.ok.injEq] at h; subst h; exact getD_rg hp _
       ·simp at h
 ·simp at h
mutual
theorem inf_rg {s : List Pw} (hs : allRg s) : ∀ (t : Ex) {q : Pw}, inf s t = .ok q → rgB q = true
 | .mk op n u ks, q, h => by
  rw [inf] at h
  rcases hk : infK s ks with e | ps <;> rw [hk] at h
  ·simp at h
  ·exact nodeP_rg hs (infK_rg hs ks hk) h
theorem infK_rg {s : List Pw} (hs : allRg s) : ∀ (ks : List Ex) {ps : List Pw}, infK s ks = .ok ps → allRg ps
 | [], ps, h => by simp [infK] at h; subst h; intro p hp; cases hp
 | k :: ks, ps, h => by
  simp only [infK] at h
  rcases hk : inf s k with e | p <;> rw [hk] at h <;> simp at h
  rcases hks : infK s ks with e | qs <;> rw [hks] at h <;> simp at h
  subst h
  intro x hx
  rcases List.mem_cons.1 hx with rfl | hx
  ·exact inf_rg hs k hk
  ·exact infK_rg hs ks hks x hx
end
theorem rg_iff {p : Pw} (h : rgB p = true) : (-4 ≤ p.a ∧ p.a ≤ 4) ∧ (-4 ≤ p.b ∧ p.b ≤ 4) ∧ (-4 ≤ p.c ∧ p.c ≤ 4) := by
 simpa [rgB, btw] using h
def scopeM (us : List Int) : Option (List Pw) := if us.length ≤ 12 ∧ us.all (fun u => btw u 0 4) = true then some (us.map kindP) else none
theorem kinds_rg (us : List Int) : allRg (us.map kindP) := by
 intro p hp
 obtain ⟨k, -, rfl⟩ := List.mem_map.1 hp
 exact kindP_rg k
end Go.Proofs.YtfmjbfpjkilpcaaGreatDoor.U
