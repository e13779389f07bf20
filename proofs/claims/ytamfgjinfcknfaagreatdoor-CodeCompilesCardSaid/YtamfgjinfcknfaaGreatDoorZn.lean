/- Texts of one proof: KyH, KzI, KzA, KzB. -/
import Derived.Test.YtamfgjinfcknfaaGreatDoorZg
import Derived.Test.YtamfgjinfcknfaaGreatDoorZh
import Derived.Test.YtamfgjinfcknfaaGreatDoorZa
import Derived.Test.YtamfgjinfcknfaaGreatDoorZi
import Derived.Deep.AppendLies
import Derived.Laws.AppendOwnNone
import Derived.Laws.OwnMore
import Derived.Laws.MakeOwn
set_option linter.unusedVariables false
set_option linter.unusedSimpArgs false
set_option maxRecDepth 100000
set_option maxHeartbeats 8000000
namespace Go.Proofs.YtamfgjinfcknfaaGreatDoor
open Go.RowKit
namespace K
structure Hd where
 l : List In
 A : Option Addr
 c : Nat
abbrev hdV (h : Hd) : Value := .slice h.A h.l.length h.c
abbrev cdA (h0 h1 h2 h3 h4 : Hd) : Array Value := #[hdV h0, hdV h1, hdV h2, hdV h3, hdV h4]
def verAll (hs : List Hd) (vars : Int) : Bool := hs.all (fun h => verH h.l vars)
def verC (hs : List Hd) (vars : Int) : Bool := btw2 vars (0, 12) && verAll hs vars
theorem ixC (h0 h1 h2 h3 h4 : Hd) {k : Nat} {h : Hd} (hk : [h0, h1, h2, h3, h4][k]? = some h) (w : World) : (Instr.index 30 (.agg (cdA h0 h1 h2 h3 h4)) (.int .i64 k)).run Tryz.prog w = .ok (hdV h) w := by
 rcases k with _ | _ | _ | _ | _ | k <;> simp at hk
 all_goals
  subst hk
  simp [Instr.index, run_underlying Tryz.underlying30, asIntOf, go_sem]
theorem cells5k {w : World} {b : Nat} {v0 v1 v2 v3 v4 : Value} {T : TypeId} (h : w.heap[b]? = some (.cells #[v0, v1, v2, v3, v4] T (0, 0))) : w.cell? ⟨b, 0, none⟩ = some v0 ∧ w.cell? ⟨b, 1, none⟩ = some v1 ∧ w.cell? ⟨b, 2, none⟩ = some v2 ∧ w.cell? ⟨b, 3, none⟩ = some v3 ∧ w.cell? ⟨b, 4, none⟩ = some v4 := by
 have e : ∀ j, w.cell? ⟨b, j, none⟩ = (#[v0, v1, v2, v3, v4] : Array Value)[j]? := fun j => cell_of_row _ _ j _ _ (0, 0) h
 exact ⟨e 0, e 1, e 2, e 3, e 4⟩
def restB (vars : Int) (many : Nat) (hs : List Int) (i : Nat) (xs : List In) : Bool := match goH vars many hs i xs with
 | some h => decide ((h[many]?).getD 0 = 0)
 | none => false
theorem verH_rest (l : List In) (vars : Int) : verH l vars = (decide (l.length ≤ 4000) && restB vars l.length (0 :: List.replicate l.length (-1)) 0 l) := rfl
theorem rest_form {vars : Int} {many i : Nat} {hs : List Int} {x : In} {xs : List In} (h : formI x i many vars = false) : restB vars many hs i (x :: xs) = false := by
 unfold restB; rw [goH, if_neg (by rw [h]; decide)]
theorem rest_bad {vars : Int} {many i : Nat} {hs h2 : List Int} {x : In} {xs : List In} (h : formI x i many vars = true) (h3 : soundI hs x i = (h2, false)) : restB vars many hs i (x :: xs) = false := by
 unfold restB; rw [goH, if_pos h, h3]
theorem rest_ok {vars : Int} {many i : Nat} {hs h2 : List Int} {x : In} {xs : List In} (h : formI x i many vars = true) (h3 : soundI hs x i = (h2, true)) : restB vars many hs i (x :: xs) = restB vars many h2 (i + 1) xs := by
 unfold restB; rw [goH, if_pos h, h3]
theorem reach_bd {hs h2 : List Int} {i : Nat} {h : Int} (hb : ∀ n ∈ hs, -1 ≤ n ∧ n ≤ 64) (h0 : 0 ≤ h) (e : reach hs i h = (h2, true)) : ∀ n ∈ h2, -1 ≤ n ∧ n ≤ 64 := by
 unfold reach at e
 split at e
 ·obtain ⟨rfl, h3⟩ := Prod.mk.inj e
  intro n hn
  have := of_decide_eq_true h3
  rcases List.mem_or_eq_of_mem_set hn with h | rfl
  ·exact hb n h
  ·omega
 ·obtain ⟨rfl, h3⟩ := Prod.mk.inj e
  exact hb
theorem sound_bd {hs h2 : List Int} {x : In} {i : Nat} (hb : ∀ n ∈ hs, -1 ≤ n ∧ n ≤ 64) (e : soundI hs x i = (h2, true)) : ∀ n ∈ h2, -1 ≤ n ∧ n ≤ 64 := by
 have t2 := pt_pos x.op
 unfold soundI at e
 split at e
 ·cases e
 rename_i h0
 split at e
 ·rcases hr : reach hs (i + 1) ((hs[i]?).getD 0 - tko x.op + pt x.op) with ⟨h3, b⟩
  rw [hr] at e
  cases b with
  | false => cases e
  | true => exact reach_bd (reach_bd hb (by omega) hr) (by omega) e
 ·split at e
  ·exact reach_bd hb (by omega) e
  ·exact reach_bd hb (by omega) e
theorem Verify_all (h0 h1 h2 h3 h4 : Hd) (vars : Int) (w : World) (hR : ∀ h ∈ [h0, h1, h2, h3, h4], InsR w h.l h.A) (hlen : ∀ h ∈ [h0, h1, h2, h3, h4], h.l.length ≤ 4500) (hE : LaidE w) :
  Calls Tryz.prog 11 #[.agg (cdA h0 h1 h2 h3 h4), .int .i64 vars] w (GG (.bool (verC [h0, h1, h2, h3, h4] vars)) w) := by
 obtain ⟨R, hRR⟩ : ∃ R, verC [h0, h1, h2, h3, h4] vars = R := ⟨_, rfl⟩
 rw [hRR]
 obtain ⟨hsL, hhs⟩ : ∃ hsL, hsL = [h0, h1, h2, h3, h4] := ⟨_, rfl⟩
 have hix := Lib.hid (fun (k : Nat) (h : Hd) (hk : hsL[k]? = some h) (wx : World) => ixC h0 h1 h2 h3 h4 (k := k) (h := h) (by rw [← hhs]; exact hk) wx)
 have hll := Lib.hid (show hsL.length = 5 by rw [hhs]; rfl)
 rw [← hhs] at hR hlen hRR
 clear hhs
 have hRH := Lib.hid (show (btw2 vars (0, 12) && verAll (hsL.drop 0) vars) = R from hRR)
 have HR := Lib.hid hR
 have HL := Lib.hid hlen
 have HE := Lib.hid hE
 clear hRR hR hlen hE
 obtain ⟨W1, hW1⟩ : ∃ W1, W1 = w.alloc (.cells (cdA h0 h1 h2 h3 h4) 32) := ⟨_, rfl⟩
 have HG1 := Lib.hid (show Gr w W1 by rw [hW1]; exact grAlloc _ _)
 obtain ⟨c0, c1, c2, c3, c4⟩ := cells5k (show W1.heap[w.heap.size]? = some (.cells (cdA h0 h1 h2 h3 h4) 32 (0, 0)) by rw [hW1]; exact nBlk _ _ _ rfl)
 obtain ⟨v0, hv0⟩ : ∃ v0, btw2 vars (0, 12) = v0 := ⟨_, rfl⟩
 have hvH := Lib.hid (show v0 = true → 0 ≤ vars ∧ vars ≤ 12 from fun h => by
  rw [h] at hv0
  simpa [btw2] using hv0)
 rw [hv0] at hRH
 have hv0H := Lib.hid hv0
 clear hv0
 go_enter Tryz.func11, Tryz.ntmps11
 go_wp2
 go_step3
 go_upto_region 1 with fail
 rw [← hW1]
 clear hW1
 go_cut [5] (fun a5 wx => a5 = .bool v0 ∧ wx = W1)
 case first =>
  by_cases p0 : 0 ≤ vars
  ·have t0 : decide (0 ≤ vars) = true := decide_eq_true p0
   by_cases p1 : vars ≤ 12
   ·have t1 : decide (vars ≤ 12) = true := decide_eq_true p1
    obtain rfl : true = v0 := by rw [← hv0H.out]; unfold btw2; simp [p0, p1]
    go_wp2
    go_meet
    exact ⟨rfl, rfl⟩
   ·have t1 : decide (vars ≤ 12) = false := decide_eq_false p1
    obtain rfl : false = v0 := by rw [← hv0H.out]; unfold btw2; simp [p1]
    go_wp2
    go_meet
    exact ⟨rfl, rfl⟩
  ·have t0 : decide (0 ≤ vars) = false := decide_eq_false p0
   obtain rfl : false = v0 := by rw [← hv0H.out]; unfold btw2; simp [p0]
   go_wp2
   go_meet
   exact ⟨rfl, rfl⟩
 case rest =>
  obtain ⟨rfl, rfl⟩ := hcut
  go_wp2
  go_step3
  go_wp2
  go_loopg [5, 18] (5) (fun gk a5 a18 wr => ∃ (k : Nat) (v : Bool), k + gk = 5 ∧ a18 = .int .i64 k ∧ a5 = .bool v ∧ Hid ((v && verAll (hsL.drop k) vars) = R) ∧ Hid (v = true → 0 ≤ vars ∧ vars ≤ 12) ∧ Hid (Gr w wr))
  case atStart => exact ⟨0, v0, by omega, rfl, rfl, hRH, hvH, HG1⟩
  case round =>
   obtain ⟨k, v, hk, rfl, rfl, hG, hv, hB⟩ := hrel
   by_cases hlt : k < 5
   ·obtain ⟨gq, rfl⟩ : ∃ g, gk = g + 1 := ⟨gk - 1, by omega⟩
    have hkl : k < hsL.length := by rw [hll.out]; exact hlt
    have hke : hsL[k]? = some hsL[k] := List.getElem?_eq_getElem hkl
    have hmem : hsL[k] ∈ hsL := List.getElem_mem hkl
    have hIk := hix.out k _ hke
    have hRk := Lib.hid ((HR.out _ hmem))
    have hLk := HL.out _ hmem
    have hG1 := hG.out
    rw [List.drop_eq_getElem_cons hkl] at hG1
    have hG1 := Lib.hid (show (v && (verH (hsL[k]).l vars && verAll (hsL.drop (k + 1)) vars)) = R from hG1)
    clear hG hke hmem
    generalize hsL[k] = h at *
    clear hkl
    obtain ⟨l, A, c⟩ := h
    simp only at hRk hLk hG1 hIk
    have hIk : ∀ wx : World, (Instr.index 30 (.agg (cdA h0 h1 h2 h3 h4)) (.int .i64 k)).run Tryz.prog wx = .ok (.slice A l.length c) wx := hIk
    have hLkH := Lib.hid hLk
    clear hLk
    obtain ⟨v1, hv1⟩ : ∃ v1, (v && decide (l.length ≤ 4000)) = v1 := ⟨_, rfl⟩
    have hv1H := Lib.hid hv1
    clear hv1
    go_upto_region 5 with fail
    go_cut [5, 7, 18] from 18 to 59 (fun a5 a7 a18 wx => a5 = .bool v1 ∧ a7 = .slice A l.length c ∧ a18 = .int .i64 k ∧ wx = wr)
    case first =>
     cases v with
     | false =>
      obtain rfl : false = v1 := hv1H.out
      go_wp2
      go_meet
      exact ⟨rfl, rfl, rfl, rfl⟩
     | true =>
      by_cases p4 : l.length ≤ 4000
      ·have t4 : decide ((l.length : Int) ≤ 4000) = true := by simp; omega
       obtain rfl : true = v1 := by rw [← hv1H.out]; simp [p4]
       go_wp2
       go_meet
       exact ⟨rfl, rfl, rfl, rfl⟩
      ·have t4 : decide ((l.length : Int) ≤ 4000) = false := by simp; omega
       obtain rfl : false = v1 := by rw [← hv1H.out]; simp [p4]
       go_wp2
       go_meet
       exact ⟨rfl, rfl, rfl, rfl⟩
    case rest =>
     obtain ⟨rfl, rfl, rfl, hwc⟩ := hcut
     subst hwc
     have hN := Lib.hid (fun wx => newHandler_any l.length A c vars (by have := hLkH.out; omega) wx)
     go_wp2_with fail
     refine (hN.out _).mono ?_
     rintro e w3 ⟨⟨g, rfl, hX, hgB⟩, hg3⟩
     obtain ⟨W4, hW4⟩ : ∃ W4, W4 = w3.alloc (.cells (hA l.length A c vars (some ⟨g, 0, none⟩) (l.length + 1) (l.length + 1)) 58) := ⟨_, rfl⟩
     have hg4 : Gr w3 W4 := by rw [hW4]; exact grAlloc _ _
     obtain ⟨hb, hhb⟩ : ∃ hb, hb = w3.heap.size := ⟨_, rfl⟩
     have hgl : g < w3.heap.size := (Array.getElem?_eq_some_iff.1 hX).1
     have HY4 := Lib.hid (show W4.heap[hb]? = some (.cells (hA l.length A c vars (some ⟨g, 0, none⟩) (l.length + 1) (l.length + 1)) 58 (0, 0)) by rw [hW4, hhb]; exact nBlk _ _ _ rfl)
     have HX4 := Lib.hid (grBlk hg4 hX)
     have HB4 := Lib.hid (hB.out.tr (hg3.tr hg4))
     have hgb := Lib.hid (show g ≠ hb by omega)
     have hgw := Lib.hid (show w.heap.size ≤ g from Nat.le_trans hB.out.size hgB)
     go_upto_region 7 with fail
     rw [← hW4, ← hhb]
     clear hW4 hhb hX hg3 hg4 hgl hgB hB hN
     have hG2 : ((v1 && restB vars l.length (0 :: List.replicate l.length (-1)) 0 (l.drop 0)) && verAll (hsL.drop (k + 1)) vars) = R := by
      rw [← hG1.out, verH_rest, ← hv1H.out, List.drop_zero]
      cases v <;> simp [Bool.and_assoc]
     have hG2 := Lib.hid hG2
     have hv1v := Lib.hid (show v1 = true → 0 ≤ vars ∧ vars ≤ 12 from fun h => hv.out (by
      have := hv1H.out
      rw [h, Bool.and_eq_true] at this
      exact this.1))
     have hi0 := Lib.hid (show (∀ n ∈ (0 : Int) :: List.replicate l.length (-1), -1 ≤ n ∧ n ≤ 64) from fun n hn => by
      rcases List.mem_cons.1 hn with rfl | hn
      ·omega
      ·rw [List.eq_of_mem_replicate hn]; omega)
     have hil0 := Lib.hid (show ((0 : Int) :: List.replicate l.length (-1)).length = l.length + 1 by simp)
     clear hG1 hv1H hv
     go_wp2
     go_loopg [5, 32] (l.length) (fun gk a5 a32 wr => ∃ (i : Nat) (f : Bool) (hs : List Int), i + gk = l.length ∧ a32 = .int .i64 i ∧ a5 = .bool f ∧ Hid (((f && restB vars l.length hs i (l.drop i)) && verAll (hsL.drop (k + 1)) vars) = R) ∧ Hid (f = true → 0 ≤ vars ∧ vars ≤ 12) ∧ Hid (hs.length = l.length + 1) ∧ Hid (∀ n ∈ hs, -1 ≤ n ∧ n ≤ 64) ∧
      Hid (wr.heap[g]? = some (.cells (iA hs) 3 (0, 0))) ∧ Hid (wr.heap[hb]? = some (.cells (hA l.length A c vars (some ⟨g, 0, none⟩) (l.length + 1) (l.length + 1)) 58 (0, 0))) ∧ Hid (Gr w wr))
     case atStart => exact ⟨0, v1, _, by omega, rfl, rfl, hG2, hv1v, hil0, hi0, HX4, HY4, HB4⟩
     case round =>
      obtain ⟨i, f, hs, hij, rfl, rfl, hG, hf, hhl, hhb, hX, hY, hB⟩ := hrel
      clear HX4 HY4 HB4 hG2 hv1v hi0 hil0
      by_cases hlt2 : i < l.length
      ·obtain ⟨gp, rfl⟩ : ∃ g, gk = g + 1 := ⟨gk - 1, by omega⟩
       cases f with
       | false =>
        obtain rfl : false = R := by have := hG.out; simpa using this
        clear hG
        go_wp2
        rw [Exit.noGoto_ret]
        go_ret
        exact ⟨rfl, hB.out⟩
       | true =>
        have hx : l[i]? = some l[i] := List.getElem?_eq_getElem hlt2
        have hGd := hG.out
        rw [List.drop_eq_getElem_cons hlt2] at hGd
        have hvr := hf.out rfl
        have HF := Lib.hid (fun (wx : World) (hg : Gr wr wx) => isFormed_any l A c vars (some ⟨g, 0, none⟩) (l.length + 1) (l.length + 1) i l[i] hx (by have := hLkH.out; omega) (by omega) wx (hRk.out.gr (hB.out.tr hg)))
        have HS := Lib.hid (fun (wx : World) (hg : Gr w wx) (hX : wx.heap[g]? = some (.cells (iA hs) 3 (0, 0))) (hfm : formI l[i] i l.length vars = true) => (by
         have := isSound_any w hs l A c vars g (l.length + 1) i l[i] hx hfm hhl.out (by have := hLkH.out; omega) hhb.out wx hg hgw.out hX hRk.out HE.out
         rw [hhl.out] at this
         exact this))
        clear hG hx
        generalize l[i] = x at *
        obtain ⟨x0, x1, x2⟩ := cells3k hY.out
        rcases hfm : formI x i l.length vars with _ | _
        ·rw [hfm] at HF
         rw [rest_form hfm] at hGd
         obtain rfl : false = R := by simpa using hGd
         clear hGd HS hfm
         go_wp2_with fail
         refine (HF.out _ (Below.refl _ _)).mono ?_
         rintro e w6 ⟨rfl, hg6⟩
         have hB6 := Lib.hid (hB.out.tr hg6)
         clear hg6
         go_wp2
         rw [Exit.noGoto_ret]
         go_ret
         exact ⟨rfl, hB6.out⟩
        ·rw [hfm] at HF
         have HS := Lib.hid (fun wx hg hX => HS.out wx hg hX hfm)
         have hfmH := Lib.hid hfm
         have hGH := Lib.hid hGd
         clear hfm hGd
         go_wp2_with fail
         refine (HF.out _ (Below.refl _ _)).mono ?_
         rintro e w6 ⟨rfl, hg6⟩
         have hB6 := Lib.hid (hB.out.tr hg6)
         have hX6 := Lib.hid (grBlk hg6 hX.out)
         have hY6 := Lib.hid (grBlk hg6 hY.out)
         clear hg6 x0 x1 x2 hB hX hY HF
         obtain ⟨x0, x1, x2⟩ := cells3k hY6.out
         go_wp2_with fail
         refine (HS.out _ hB6.out hX6.out).mono ?_
         rcases hsd : soundI hs x i with ⟨h2, b2⟩
         rintro e w7 ⟨he, hX7, hB7, hK7⟩
         simp only at he hX7
         subst he
         have hY7 := Lib.hid ((hK7.block _ (blkLt hY6.out) (fun q => by have := Option.some.inj q; exact hgb.out this.symm)).trans hY6.out)
         have hX7 := Lib.hid hX7
         have hB7 := Lib.hid hB7
         clear hK7 x0 x1 x2 HS hX6 hY6 hB6
         cases b2 with
         | false =>
          obtain rfl : false = R := by
           have := hGH.out
           rw [rest_bad hfmH.out hsd] at this
           simpa using this
          clear hGH hfmH hsd
          go_wp2
          rw [Exit.noGoto_ret]
          go_ret
          exact ⟨rfl, hB7.out⟩
         | true =>
          have hGn := Lib.hid (show ((true && restB vars l.length h2 (i + 1) (l.drop (i + 1))) && verAll (hsL.drop (k + 1)) vars) = R by rw [← rest_ok hfmH.out hsd]; exact hGH.out)
          have hhl2 := Lib.hid (show h2.length = l.length + 1 by rw [← (sound_spec hhl.out hlt2 hfmH.out hsd).1.1]; exact hhl.out)
          have hhb2 := Lib.hid (sound_bd hhb.out hsd)
          have hvrH := Lib.hid hvr
          have qi : IntKind.i64.wrap ((i : Int) + 1) = (i : Int) + 1 := IntWalk.i64_in _ (by have := hLkH.out; omega)
          clear hGH hfmH hsd hhl hhb hf hvr
          go_wp2
          go_roundg gp
          case measure => omega
          case rel => exact ⟨i + 1, true, h2, by omega, by go_num, rfl, hGn, Lib.hid (fun _ => hvrH.out), hhl2, hhb2, hX7, hY7, hB7⟩
      ·have hil : i = l.length := by omega
       have hkl2 : decide ((i : Int) < (l.length : Int)) = false := by simp; omega
       have hGe := hG.out
       rw [hil, List.drop_eq_nil_of_le (Nat.le_refl _)] at hGe
       have hGe : ((f && decide ((hs[l.length]?).getD 0 = 0)) && verAll (hsL.drop (k + 1)) vars) = R := hGe
       obtain ⟨x0, x1, x2⟩ := cells3k hY.out
       have c0 := iA_at hX.out (i := l.length) (by rw [hhl.out]; omega)
       have hGe := Lib.hid hGe
       have hkn := Lib.hid (show k + 1 + gq = 5 by omega)
       clear hG hil
       generalize (hs[l.length]?).getD 0 = q at *
       cases f with
       | false =>
        have hGn := Lib.hid (show (false && verAll (hsL.drop (k + 1)) vars) = R from hGe.out)
        have hvn : Hid (false = true → 0 ≤ vars ∧ vars ≤ 12) := Lib.hid (fun h => by cases h)
        clear hGe hf
        go_wp2
        go_roundg gq
        case measure => omega
        case rel => exact ⟨k + 1, false, hkn.out, by go_num, rfl, hGn, hvn, hB⟩
       | true =>
        have hvn := Lib.hid (fun _ : decide (q = 0) = true => hf.out rfl)
        have hGn := Lib.hid (show (decide (q = 0) && verAll (hsL.drop (k + 1)) vars) = R from hGe.out)
        have tq : (q == 0) = decide (q = 0) := by by_cases h : q = 0 <;> simp [h]
        clear hGe hf
        generalize decide (q = 0) = v2 at *
        go_wp2
        go_roundg gq
        case measure => omega
        case rel => exact ⟨k + 1, v2, hkn.out, by go_num, rfl, hGn, hvn, hB⟩
   ·have hk5 : k = 5 := by omega
    have hGe := hG.out
    rw [List.drop_eq_nil_of_le (by rw [hll.out]; omega)] at hGe
    obtain rfl : v = R := by rw [← hGe]; simp [verAll]
    have hkl2 : decide ((k : Int) < 5) = false := by simp; omega
    clear hGe hG
    go_wp2
    rw [Exit.noGoto_ret]
    go_ret
    exact ⟨rfl, hB.out⟩
theorem Verify_any (h0 h1 h2 h3 h4 : Hd) (vars : Int) (hvw : -1000000 ≤ vars ∧ vars ≤ 1000000) (w : World) (hR : ∀ h ∈ [h0, h1, h2, h3, h4], InsR w h.l h.A) (hlen : ∀ h ∈ [h0, h1, h2, h3, h4], h.l.length ≤ 4500) (hE : LaidE w) :
  Calls Tryz.prog 11 #[.agg (cdA h0 h1 h2 h3 h4), .int .i64 vars] w (GG (.bool (verC [h0, h1, h2, h3, h4] vars)) w) := Verify_all h0 h1 h2 h3 h4 vars w hR hlen hE
end K
end Go.Proofs.YtamfgjinfcknfaaGreatDoor
namespace Go.Proofs.YtamfgjinfcknfaaGreatDoor
open Go.RowKit
namespace K
theorem cdAt {w : World} {b : Nat} {h0 h1 h2 h3 h4 : Hd} {T : TypeId} (h : w.heap[b]? = some (.cells (cdA h0 h1 h2 h3 h4) T (0, 0))) {k : Nat} {x : Hd} (hk : [h0, h1, h2, h3, h4][k]? = some x) : w.cell? ⟨b, k, none⟩ = some (hdV x) := by
 rw [cell_of_row _ _ k _ _ (0, 0) h]
 rcases k with _ | _ | _ | _ | _ | k <;> simp at hk <;> subst hk <;> rfl
def eqI (x y : In) : Bool := decide (x.op = y.op) && (decide (x.n = y.n) && decide (x.r = y.r))
def sameL : List In → List In → Bool
 | [], [] => true
 | x :: xs, y :: ys => eqI x y && sameL xs ys
 | _, _ => false
theorem eqI_iff {x y : In} : eqI x y = true ↔ x = y := by
 cases x; cases y; simp [eqI]
theorem sameL_iff : ∀ {a b : List In}, sameL a b = true ↔ a = b
 | [], [] => by simp [sameL]
 | x :: xs, y :: ys => by rw [sameL, Bool.and_eq_true, eqI_iff, sameL_iff, List.cons.injEq]
 | [], y :: ys => by simp [sameL]
 | x :: xs, [] => by simp [sameL]
theorem sameL_len : ∀ {a b : List In}, a.length ≠ b.length → sameL a b = false := fun h => by
 rw [Bool.eq_false_iff]
 intro e
 exact h (by rw [sameL_iff.1 e])
theorem run_in_eq (s t : In) (w : World) : (Op.equalIn 10000 43 (.agg #[.int .i64 s.op, .int .i64 s.n, .int .i64 s.r]) (.agg #[.int .i64 t.op, .int .i64 t.n, .int .i64 t.r])).run Tryz.prog w = .ok (eqI s t) w := by
 have hk : Tryz.prog.plainKey 3 = true := by kernel_rfl
 have he : ∀ x y : Int, (Op.equalIn 9999 3 (.int .i64 x) (.int .i64 y)).run Tryz.prog w = .ok (x == y) w := fun x y => run_equalIn_int w 9998 3 .i64 .i64 x y Tryz.underlying3
 have hp : ∀ x y z : Value, (part 3 #[x, y, z] 0).run Tryz.prog w = .ok x w ∧ (part 3 #[x, y, z] 1).run Tryz.prog w = .ok y w ∧ (part 3 #[x, y, z] 2).run Tryz.prog w = .ok z w :=
  fun x y z => ⟨run_part_plain w hk rfl, run_part_plain w hk rfl, run_part_plain w hk rfl⟩
 rw [show (10000 : Nat) = 9999 + 1 from rfl, run_equalIn_struct w 9999 _ _ _ (by kernel_rfl) (by kernel_rfl)]
 simp only [Program.fieldsOf, Tryz.underlying43]
 obtain ⟨a, b, c⟩ := s
 obtain ⟨a', b', c'⟩ := t
 have h0 := (hp (.int .i64 a) (.int .i64 b) (.int .i64 c))
 have h1 := (hp (.int .i64 a') (.int .i64 b') (.int .i64 c'))
 by_cases ea : a = a'
 ·subst ea
  by_cases eb : b = b'
  ·subst eb
   by_cases ec : c = c'
   ·subst ec
    simp [Op.eqFields, Sem.run_bind, h0, h1, he, eqI]
   ·simp [Op.eqFields, Sem.run_bind, h0, h1, he, ec, eqI]
  ·simp [Op.eqFields, Sem.run_bind, h0, h1, he, eb, eqI]
 ·simp [Op.eqFields, Sem.run_bind, h0, h1, he, ea, eqI]
theorem SameInstrs_any (a b : List In) (A B : Option Addr) (c d : Nat) (w : World) (ha : InsR w a A) (hb : InsR w b B) (hlen : a.length ≤ 100000) :
  Calls Tryz.prog 13 #[.slice A a.length c, .slice B b.length d] w (GG (.bool (sameL a b)) w) := by
 by_cases hl : a.length = b.length
 case neg =>
  rw [sameL_len hl]
  have t1 : ((a.length : Int) != (b.length : Int)) = true := by rw [bne_iff_ne]; omega
  have t2 : ((a.length : Int) == (b.length : Int)) = false := by rw [beq_eq_false_iff_ne]; omega
  clear hl ha hb
  go_enter Tryz.func13, Tryz.ntmps13
  go_wp2
  go_ret
  exact ⟨rfl, Below.refl _ _⟩
 case pos =>
  obtain ⟨R, hR⟩ : ∃ R, sameL a b = R := ⟨_, rfl⟩
  rw [hR]
  have hR0 := Lib.hid (show sameL (a.drop 0) (b.drop 0) = R from hR)
  have HA := Lib.hid ha
  have HB := Lib.hid hb
  have hq := run_in_eq
  have hlH := Lib.hid hl
  obtain ⟨n, hn⟩ : ∃ n, a.length = n := ⟨_, rfl⟩
  obtain ⟨m, hm⟩ : ∃ m, b.length = m := ⟨_, rfl⟩
  have hnm : n = m := by omega
  subst hnm
  have hnH := Lib.hid hn
  have hmH := Lib.hid hm
  rw [hn] at hlen
  rw [hn, hm]
  have hg0 := Lib.hid (Below.refl w.heap.size w)
  clear hR hl ha hb hn hm
  go_enter Tryz.func13, Tryz.ntmps13
  go_wp2_with fail
  go_loopg [5] n (fun gk i wr => ∃ k : Nat, k + gk = n ∧ i = .int .i64 k ∧ Hid (sameL (a.drop k) (b.drop k) = R) ∧ Hid (Gr w wr))
  case atStart => exact ⟨0, by omega, rfl, hR0, hg0⟩
  case round =>
   obtain ⟨k, hk, rfl, hE, hG⟩ := hrel
   clear hR0 hg0
   by_cases hlt : k < n
   ·obtain ⟨gq, rfl⟩ : ∃ g, gk = g + 1 := ⟨gk - 1, by omega⟩
    have hka : k < a.length := by have := hnH.out; omega
    have hkb : k < b.length := by have := hmH.out; omega
    obtain ⟨ga, oa, rfl, hat⟩ := (HA.out.gr hG.out).addr (by omega)
    obtain ⟨gb, ob, rfl, hbt⟩ := (HB.out.gr hG.out).addr (by omega)
    have hx := List.getElem?_eq_getElem hka
    have hy := List.getElem?_eq_getElem hkb
    have hE1 := hE.out
    rw [List.drop_eq_getElem_cons hka, List.drop_eq_getElem_cons hkb, sameL] at hE1
    generalize a[k] = x at *
    generalize b[k] = y at *
    obtain ⟨e0, e1, e2⟩ := hat k x hx
    obtain ⟨f0, f1, f2⟩ := hbt k y hy
    have e0 : wr.drew.cell? ⟨ga, oa + k * 3, none⟩ = some (.int .i64 x.op) := e0
    have e1 : wr.drew.cell? ⟨ga, oa + k * 3 + 1, none⟩ = some (.int .i64 x.n) := e1
    have e2 : wr.drew.cell? ⟨ga, oa + k * 3 + 2, none⟩ = some (.int .i64 x.r) := e2
    have f0 : wr.drew.cell? ⟨gb, ob + k * 3, none⟩ = some (.int .i64 y.op) := f0
    have f1 : wr.drew.cell? ⟨gb, ob + k * 3 + 1, none⟩ = some (.int .i64 y.n) := f1
    have f2 : wr.drew.cell? ⟨gb, ob + k * 3 + 2, none⟩ = some (.int .i64 y.r) := f2
    have hG1 := Lib.hid (hG.out.tr (grDrew wr))
    clear hat hbt hx hy hka hkb hE hG
    rcases hxy : eqI x y with _ | _
    ·obtain rfl : false = R := by simpa [hxy] using hE1
     have hq1 : ∀ wx : World, (Op.equalIn 10000 43 (.agg #[.int .i64 x.op, .int .i64 x.n, .int .i64 x.r]) (.agg #[.int .i64 y.op, .int .i64 y.n, .int .i64 y.r])).run Tryz.prog wx = .ok false wx := fun wx => by rw [hq, hxy]
     clear hq hE1 hxy
     go_upto_region 6 with fail
     go_region
     go_wp2
     go_ret
     exact ⟨rfl, hG1.out⟩
    ·have hE2 := Lib.hid (show sameL (a.drop (k + 1)) (b.drop (k + 1)) = R by simpa [hxy] using hE1)
     have hq1 : ∀ wx : World, (Op.equalIn 10000 43 (.agg #[.int .i64 x.op, .int .i64 x.n, .int .i64 x.r]) (.agg #[.int .i64 y.op, .int .i64 y.n, .int .i64 y.r])).run Tryz.prog wx = .ok true wx := fun wx => by rw [hq, hxy]
     clear hq hE1 hxy
     go_upto_region 6 with fail
     go_region
     go_wp2
     go_roundg gq
     case measure => omega
     case rel => exact ⟨k + 1, by omega, by go_num, hE2, hG1⟩
   ·obtain rfl : gk = 0 := by omega
    have hGe := hE.out
    rw [List.drop_eq_nil_of_le (by have := hnH.out; omega), List.drop_eq_nil_of_le (by have := hmH.out; omega)] at hGe
    obtain rfl : true = R := hGe
    have hkl2 : decide ((k : Int) < (n : Int)) = false := by simp; omega
    go_wp2
    go_ret
    exact ⟨rfl, hG.out⟩
end K
end Go.Proofs.YtamfgjinfcknfaaGreatDoor
namespace Go.Proofs.YtamfgjinfcknfaaGreatDoor
namespace K
open U (Ex St szK)
mutual
def cE : Ex → List In
 | .mk op n _ ks => cK ks ++ [⟨op, if ks.length = 0 then n else 0, 0⟩]
def cK : List Ex → List In
 | [] => []
 | k :: ks => cE k ++ cK ks
end
mutual
def lnS : St → Nat
 | .mk k _ _ a b th el => if k = 2 then a.size + (b.size + (1 + (lnL th + (if el.length = 0 then 0 else 1 + lnL el)))) else a.size + 1
def lnL : List St → Nat
 | [] => 0
 | x :: xs => lnS x + lnL xs
end
mutual
def cS : St → Nat → List In
 | .mk k v r a b th el, i =>
  if k = 2 then
   (if el.length = 0 then cE a ++ (cE b ++ (⟨12, ((i + a.size + b.size + 1 + lnL th : Nat) : Int), r⟩ :: cL th (i + a.size + b.size + 1)))
   else cE a ++ (cE b ++ (⟨12, ((i + a.size + b.size + 1 + lnL th + 1 : Nat) : Int), r⟩ :: (cL th (i + a.size + b.size + 1) ++ (⟨13, ((i + a.size + b.size + 1 + lnL th + 1 + lnL el : Nat) : Int), 0⟩ :: cL el (i + a.size + b.size + 1 + lnL th + 1))))))
  else cE a ++ [⟨11, v, 0⟩]
def cL : List St → Nat → List In
 | [], _ => []
 | x :: xs, i => cS x i ++ cL xs (i + lnS x)
end
mutual
theorem cE_len : ∀ t : Ex, (cE t).length = t.size
 | .mk op n u ks => by rw [cE, Ex.size, List.length_append, cK_len ks, List.length_singleton, Nat.add_comm]
theorem cK_len : ∀ ks : List Ex, (cK ks).length = szK ks
 | [] => rfl
 | k :: ks => by rw [cK, szK, List.length_append, cE_len k, cK_len ks]
end
mutual
theorem cS_len : ∀ (x : St) (i : Nat), (cS x i).length = lnS x
 | .mk k v r a b th el, i => by
  rw [cS, lnS]
  by_cases h : k = 2
  ·rw [if_pos h, if_pos h]
   by_cases he : el.length = 0
   ·rw [if_pos he, if_pos he]
    simp only [List.length_append, List.length_cons, cE_len, cL_len th]
    omega
   ·rw [if_neg he, if_neg he]
    simp only [List.length_append, List.length_cons, cE_len, cL_len th, cL_len el]
    omega
  ·rw [if_neg h, if_neg h]
   simp only [List.length_append, List.length_cons, List.length_nil, cE_len]
theorem cL_len : ∀ (l : List St) (i : Nat), (cL l i).length = lnL l
 | [], _ => rfl
 | x :: xs, i => by rw [cL, lnL, List.length_append, cS_len x, cL_len xs]
end
theorem cK_drop {l : List Ex} {k : Nat} (h : k < l.length) : cK (l.drop k) = cE l[k] ++ cK (l.drop (k + 1)) := by
 rw [List.drop_eq_getElem_cons h, cK]
theorem cL_drop {l : List St} {k : Nat} (h : k < l.length) (i : Nat) : cL (l.drop k) i = cS l[k] i ++ cL (l.drop (k + 1)) (i + lnS l[k]) := by
 rw [List.drop_eq_getElem_cons h, cL]
theorem lnL_drop {l : List St} {k : Nat} (h : k < l.length) : lnL (l.drop k) = lnS l[k] + lnL (l.drop (k + 1)) := by
 rw [List.drop_eq_getElem_cons h, lnL]
theorem szK_drop {l : List Ex} {k : Nat} (h : k < l.length) : szK (l.drop k) = l[k].size + szK (l.drop (k + 1)) := by
 rw [List.drop_eq_getElem_cons h, szK]
mutual
def OpX : Ex → Prop
 | .mk op _ _ ks => 1 ≤ op ∧ op ≤ 10 ∧ OpK ks
def OpK : List Ex → Prop
 | [] => True
 | k :: ks => OpX k ∧ OpK ks
end
theorem OpK_get : ∀ {l : List Ex}, OpK l → ∀ x ∈ l, OpX x
 | [], _, x, hx => by cases hx
 | y :: ys, h, x, hx => by
  rw [OpK] at h
  rcases List.mem_cons.1 hx with rfl | hx
  ·exact h.1
  ·exact OpK_get h.2 x hx
mutual
def OpS : St → Prop
 | .mk k _ _ a b th el => OpX a ∧ (k = 2 → OpX b ∧ OpL th ∧ OpL el)
def OpL : List St → Prop
 | [] => True
 | x :: xs => OpS x ∧ OpL xs
end
theorem OpL_get : ∀ {l : List St}, OpL l → ∀ x ∈ l, OpS x
 | [], _, x, hx => by cases hx
 | y :: ys, h, x, hx => by
  rw [OpL] at h
  rcases List.mem_cons.1 hx with rfl | hx
  ·exact h.1
  ·exact OpL_get h.2 x hx
theorem OpS_of {x : St} (h : OpS x) : OpX x.a ∧ (x.kind = 2 → OpX x.b ∧ OpL x.th ∧ OpL x.el) := by
 obtain ⟨k, v, r, a, b, th, el⟩ := x
 rw [OpS] at h
 exact h
theorem OpX_of {t : Ex} (h : OpX t) : 1 ≤ t.op ∧ t.op ≤ 10 ∧ OpK t.kids := by
 obtain ⟨op, n, u, ks⟩ := t
 rw [OpX] at h
 exact h
open U (Pw inf infK nodeP stM stsM handM szS szL evL evS btw formB okS) in
mutual
theorem inf_op {s : List Pw} : ∀ (t : Ex) {q : Pw}, inf s t = .ok q → OpX t
 | .mk op n u ks, q, h => by
  rw [U.inf] at h
  rcases hk : infK s ks with e | ps
  ·rw [hk] at h; cases h
  ·rw [hk] at h
   simp only at h
   rw [OpX]
   have h2 := infK_op ks hk
   unfold U.nodeP at h
   split at h
   ·rename_i g
    unfold U.formB at g
    split at g
    ·exact ⟨by omega, by omega, h2⟩
    split at g
    ·exact ⟨by omega, by omega, h2⟩
    split at g
    ·exact ⟨by omega, by omega, h2⟩
    ·simp only [U.btw, Bool.and_eq_true, decide_eq_true_eq] at g
     exact ⟨by omega, by omega, h2⟩
   ·cases h
theorem infK_op {s : List Pw} : ∀ (ks : List Ex) {ps : List Pw}, infK s ks = .ok ps → OpK ks
 | [], ps, h => by rw [OpK]; trivial
 | k :: ks, ps, h => by
  rw [U.infK] at h
  rw [OpK]
  rcases hk : inf s k with e | p
  ·rw [hk] at h; cases h
  ·rw [hk] at h
   simp only at h
   rcases hks : infK s ks with e | qs
   ·rw [hks] at h; cases h
   ·exact ⟨inf_op k hk, infK_op ks hks⟩
end
open U (Pw inf infK nodeP stM stsM handM szS szL evL evS btw formB okS) in
mutual
theorem st_op {s : List Pw} : ∀ x : St, stM s x = 0 → OpS x
 | .mk k v r a b th el, h => by
  rw [U.stM] at h
  rw [OpS]
  by_cases h1 : k = 1
  ·rw [if_pos h1] at h
   unfold U.assignM at h
   split at h
   ·rcases ha : inf s a with e | p
    ·rw [ha] at h
     have := U.inf_err a ha
     simp only at h
     omega
    ·exact ⟨inf_op a ha, fun h2 => by omega⟩
   ·cases h
  ·rw [if_neg h1] at h
   split at h
   ·rename_i h2
    split at h
    ·split at h
     ·rename_i hc
      unfold U.cmpM at hc
      rcases ha : inf s a with e | p
      ·rw [ha] at hc
       have := U.inf_err a ha
       simp only at hc
       omega
      rw [ha] at hc
      simp only at hc
      rcases hb : inf s b with e | q
      ·rw [hb] at hc
       have := U.inf_err b hb
       simp only at hc
       omega
      split at h
      ·rename_i gt
       exact ⟨inf_op a ha, fun _ => ⟨inf_op b hb, sts_op th gt, sts_op el h⟩⟩
      ·rename_i gt
       exact absurd h gt
     ·rename_i gc
      exact absurd h gc
    ·cases h
   ·cases h
theorem sts_op {s : List Pw} : ∀ l : List St, stsM s l = 0 → OpL l
 | [], _ => by rw [OpL]; trivial
 | x :: xs, h => by
  rw [U.stsM] at h
  rw [OpL]
  split at h
  ·rename_i g
   exact ⟨st_op x g, sts_op xs h⟩
  ·rename_i g
   exact absurd h g
end
mutual
theorem evS_ln : ∀ (x : St) (n m : Int), U.evS x n = (true, m) → (lnS x : Int) ≤ 122 * (n - m)
 | .mk k v r a b th el, n, m, h => by
  rw [U.evS] at h
  rw [lnS]
  split at h
  ·rename_i ho
   unfold U.okS at ho
   simp only [Bool.and_eq_true, Bool.or_eq_true, Bool.not_eq_true', decide_eq_true_eq, decide_eq_false_iff_not] at ho
   split at h
   ·rename_i hk
    rw [if_pos hk]
    rcases ht : U.evL th (n - 1) with ⟨b1, m1⟩
    rw [ht] at h
    cases b1 with
    | false => simp at h
    | true =>
     simp only at h
     have k1 := evL_ln th _ _ ht
     have k2 := evL_ln el _ _ h
     have hb : b.size ≤ 60 := by
      rcases ho.2.2 with g | g
      ·exact absurd hk g
      ·omega
     split <;> omega
   ·rename_i hk
    rw [if_neg hk]
    cases h
    omega
  ·cases h
theorem evL_ln : ∀ (l : List St) (n m : Int), U.evL l n = (true, m) → (lnL l : Int) ≤ 122 * (n - m)
 | [], n, m, h => by rw [U.evL] at h; cases h; rw [lnL]; omega
 | x :: xs, n, m, h => by
  rw [U.evL] at h
  rw [lnL]
  rcases he : U.evS x n with ⟨b1, m1⟩
  rw [he] at h
  cases b1 with
  | false => simp at h
  | true =>
   simp only at h
   have k1 := evS_ln x _ _ he
   have k2 := evL_ln xs _ _ h
   omega
end
theorem hand_op {s : List U.Pw} {l : List St} (h : U.handM s l = 0) : OpL l ∧ lnL l ≤ 12200 := by
 unfold U.handM at h
 split at h
 ·rename_i g
  refine ⟨sts_op l h, ?_⟩
  rcases he : U.evL l 100 with ⟨b, m⟩
  rw [he] at g
  simp only at g
  subst g
  have k1 := evL_ln l _ _ he
  have k2 := (U.evL_range l 100 (by omega)).2.2 (by rw [he])
  rw [he] at k2
  simp only at k2
  omega
 ·cases h
theorem cL_length_le : ∀ l : List St, l.length ≤ lnL l
 | [] => Nat.zero_le _
 | .mk k v r a b th el :: xs => by
  have := cL_length_le xs
  rw [lnL, lnS, List.length_cons]
  split <;> omega
theorem set_mid (P t : List In) (x y : In) : (P ++ x :: t).set P.length y = P ++ y :: t := by simp
theorem get_mid (P t : List In) (x : In) : (P ++ x :: t)[P.length]? = some x := by simp
theorem choice_no {x : St} {l P L3 L4 : List In} (hk : x.kind = 2) (he : x.el.length = 0) (hP : P = l ++ cE x.a ++ cE x.b) (h3 : L3 = P ++ [⟨12, 0, x.rel⟩]) (h4 : L4 = L3 ++ cL x.th L3.length) :
  L4[P.length]? = some ⟨12, 0, x.rel⟩ ∧ L4.length = l.length + lnS x ∧ L4.set P.length ⟨12, L4.length, x.rel⟩ = l ++ cS x l.length := by
 obtain ⟨k, v, r, a, b, th, el⟩ := x
 simp only [St.kind, St.a, St.b, St.rel, St.th, St.el] at *
 have e3 : L3.length = l.length + a.size + b.size + 1 := by rw [h3, hP]; simp only [List.length_append, List.length_singleton, cE_len]
 have e4 : L4 = P ++ (⟨12, 0, r⟩ : In) :: cL th (l.length + a.size + b.size + 1) := by rw [h4, e3, h3, List.append_assoc]; rfl
 have e5 : L4.length = l.length + a.size + b.size + 1 + lnL th := by rw [h4, List.length_append, e3, cL_len]
 refine ⟨by rw [e4]; exact get_mid _ _ _, ?_, ?_⟩
 ·rw [e5, lnS, if_pos hk, if_pos he]; omega
 ·rw [e5, e4, set_mid, cS, if_pos hk, if_pos he, hP]
  simp only [List.append_assoc]
theorem choice_else {x : St} {l P L3 L4 L5 L6 L7 : List In} (hk : x.kind = 2) (he : x.el.length ≠ 0) (hP : P = l ++ cE x.a ++ cE x.b) (h3 : L3 = P ++ [⟨12, 0, x.rel⟩]) (h4 : L4 = L3 ++ cL x.th L3.length) (h5 : L5 = L4 ++ [⟨13, 0, 0⟩])
  (h6 : L6 = L5.set P.length ⟨12, L5.length, x.rel⟩) (h7 : L7 = L6 ++ cL x.el L6.length) :
  L5[P.length]? = some ⟨12, 0, x.rel⟩ ∧ L7[L4.length]? = some ⟨13, 0, 0⟩ ∧ L7.length = l.length + lnS x ∧ L7.set L4.length ⟨13, L7.length, 0⟩ = l ++ cS x l.length ∧ L6.length = L4.length + 1 := by
 obtain ⟨k, v, r, a, b, th, el⟩ := x
 simp only [St.kind, St.a, St.b, St.rel, St.th, St.el] at *
 have e3 : L3.length = l.length + a.size + b.size + 1 := by rw [h3, hP]; simp only [List.length_append, List.length_singleton, cE_len]
 have e4 : L4 = P ++ (⟨12, 0, r⟩ : In) :: cL th (l.length + a.size + b.size + 1) := by rw [h4, e3, h3, List.append_assoc]; rfl
 have n4 : L4.length = l.length + a.size + b.size + 1 + lnL th := by rw [h4, List.length_append, e3, cL_len]
 have n5 : L5.length = l.length + a.size + b.size + 1 + lnL th + 1 := by rw [h5, List.length_append, n4]; rfl
 have e5 : L5 = P ++ (⟨12, 0, r⟩ : In) :: (cL th (l.length + a.size + b.size + 1) ++ [⟨13, 0, 0⟩]) := by rw [h5, e4, List.append_assoc]; rfl
 have e6 : L6 = P ++ (⟨12, L5.length, r⟩ : In) :: (cL th (l.length + a.size + b.size + 1) ++ [⟨13, 0, 0⟩]) := by rw [h6]; generalize (L5.length : Int) = q; rw [e5, set_mid]
 have n6 : L6.length = L5.length := by rw [h6, List.length_set]
 have n7 : L7.length = l.length + a.size + b.size + 1 + lnL th + 1 + lnL el := by rw [h7, List.length_append, n6, n5, cL_len]
 obtain ⟨Q, hQ⟩ : ∃ Q, Q = P ++ (⟨12, L5.length, r⟩ : In) :: cL th (l.length + a.size + b.size + 1) := ⟨_, rfl⟩
 have nQ : Q.length = L4.length := by rw [hQ, e4]; simp
 have e7 : L7 = Q ++ (⟨13, 0, 0⟩ : In) :: cL el (l.length + a.size + b.size + 1 + lnL th + 1) := by rw [h7, n6, n5, e6, hQ]; simp
 refine ⟨by rw [e5]; exact get_mid _ _ _, by rw [e7, ← nQ]; exact get_mid _ _ _, ?_, ?_, by omega⟩
 ·rw [n7, lnS, if_pos hk, if_neg he]; omega
 ·rw [n7]
  rw [e7, ← nQ, set_mid, hQ, n5, cS, if_pos hk, if_neg he, hP]
  simp
theorem lnS_if {x : St} (hk : x.kind = 2) : lnS x = x.a.size + (x.b.size + (1 + (lnL x.th + (if x.el.length = 0 then 0 else 1 + lnL x.el)))) := by
 obtain ⟨k, v, r, a, b, th, el⟩ := x
 have hk : k = 2 := hk
 rw [lnS, if_pos hk]
 rfl
theorem lnS_no {x : St} (hk : x.kind ≠ 2) : lnS x = x.a.size + 1 := by
 obtain ⟨k, v, r, a, b, th, el⟩ := x
 have hk : k ≠ 2 := hk
 rw [lnS, if_neg hk]
 rfl
theorem cS_no {x : St} (hk : x.kind ≠ 2) (i : Nat) : cS x i = cE x.a ++ [⟨11, x.var, 0⟩] := by
 obtain ⟨k, v, r, a, b, th, el⟩ := x
 have hk : k ≠ 2 := hk
 rw [cS, if_neg hk]
 rfl
end K
end Go.Proofs.YtamfgjinfcknfaaGreatDoor
namespace Go.Proofs.YtamfgjinfcknfaaGreatDoor
open Go.RowKit
namespace K
theorem addN (a b : Nat) : (⟨a, b, none⟩ : Addr).add = fun j => ⟨a, b + j, none⟩ := by
 funext j; unfold Addr.add; split <;> simp_all
theorem info_parts2 {i : Option TypeInfo} {z : Value} {s y : Nat} (h : i.map (fun i => (i.zero, i.size, i.bytes)) = some (some z, s, y)) : ∃ x, i = some x ∧ x.zero = some z ∧ x.size = s ∧ x.bytes = y := by
 cases i with
 | none => simp at h
 | some x => simp at h; exact ⟨x, rfl, h.1, h.2.1, h.2.2⟩
def insC (l : List In) : List Value := l.flatMap (fun x => [.int .i64 x.op, .int .i64 x.n, .int .i64 x.r])
theorem insC_cons (x : In) (l : List In) : insC (x :: l) = .int .i64 x.op :: .int .i64 x.n :: .int .i64 x.r :: insC l := by simp [insC]
theorem insC_app (a b : List In) : insC (a ++ b) = insC a ++ insC b := by simp [insC]
theorem insC_at : ∀ (l : List In) (i : Nat) (x : In), l[i]? = some x → (insC l)[i * 3]? = some (.int .i64 x.op) ∧ (insC l)[i * 3 + 1]? = some (.int .i64 x.n) ∧ (insC l)[i * 3 + 2]? = some (.int .i64 x.r)
 | [], i, x, h => by simp at h
 | y :: l, 0, x, h => by simp at h; subst h; rw [insC_cons]; exact ⟨rfl, rfl, rfl⟩
 | y :: l, i + 1, x, h => by
  have := insC_at l i x (by simpa using h)
  rw [insC_cons, show (i + 1) * 3 = i * 3 + 3 by omega]
  exact this
theorem insC_set : ∀ (l : List In) (i : Nat) (x : In) (m : Int), l[i]? = some x → (insC l).set (i * 3 + 1) (.int .i64 m) = insC (l.set i ⟨x.op, m, x.r⟩)
 | [], i, x, m, h => by simp at h
 | y :: l, 0, x, m, h => by simp at h; subst h; rw [List.set_cons_zero, insC_cons, insC_cons]; rfl
 | y :: l, i + 1, x, m, h => by
  have := insC_set l i x m (by simpa using h)
  rw [List.set_cons_succ, insC_cons, insC_cons, show (i + 1) * 3 + 1 = i * 3 + 1 + 3 by omega, List.set_cons_succ, List.set_cons_succ, List.set_cons_succ, this]
theorem own_ins {w : World} {B : Nat} {v : Value} {l : List In} {n : Nat} (h : w.ownsRow B 43 3 v n (insC l)) (hn : n = l.length) : ∃ A c, v = .slice A l.length c ∧ InsR w l A ∧ (∀ a, A = some a → B ≤ a.block) := by
 subst hn
 rcases h.2 with ⟨rfl, h0⟩ | ⟨g, cap, cur, rfl, hb, hg, hn, hc, hs, ht⟩
 ·obtain rfl : l = [] := List.eq_nil_of_length_eq_zero h0
  exact ⟨none, 0, rfl, .inl rfl, fun a h => by cases h⟩
 ·refine ⟨_, cap, rfl, .inr ⟨g, 0, rfl, fun i x hx => ?_⟩, fun a h => by cases h; exact hb⟩
  have hce := World.ownsRow.cells h (g := g) rfl
  obtain ⟨k0, k1, k2⟩ := insC_at l i x hx
  have f : ∀ (j : Nat) (u : Value), (insC l)[j]? = some u → w.cell? ⟨g, j, none⟩ = some u := fun j u hu => by
   have := hce j u hu
   rw [addN] at this
   simpa using this
  rw [Nat.zero_add]
  exact ⟨f _ _ k0, f _ _ k1, f _ _ k2⟩
theorem insInfo : (Tryz.prog.info? 43).map (fun i => (i.zero, i.size, i.bytes)) = some (some (.agg #[.int .i64 0, .int .i64 0, .int .i64 0]), 3, 24) := by kernel_rfl
theorem owns_gr {w w' : World} {B : Nat} {T : TypeId} {sz : Nat} {v : Value} {n : Nat} {xs : List Value} (h : w.ownsRow B T sz v n xs) (hb : Gr w w') : w'.ownsRow B T sz v n xs := by
 refine ⟨h.1, ?_⟩
 rcases h.2 with hn | ⟨g, cap, cur, hv, hg, hh, rest⟩
 ·exact .inl hn
 ·exact .inr ⟨g, cap, cur, hv, hg, grBlk hb hh, rest⟩
theorem insSet {w : World} {l : List In} {A : Option Addr} {b i : Nat} {v : Value} (h : InsR w l A) (hb : ∀ ad, A = some ad → ad.block ≠ b) : InsR (w.setCell ⟨b, i, none⟩ v) l A := by
 rcases h with h | ⟨g, o, rfl, h⟩
 ·exact .inl h
 ·have hne := hb _ rfl
  have f : ∀ (j : Nat) (u : Value), w.cell? ⟨g, j, none⟩ = some u → (w.setCell ⟨b, i, none⟩ v).cell? ⟨g, j, none⟩ = some u := fun j u hu => (World.cell?_of_block (heap_setCell_other w _ g v (by simp only; intro e; exact hne (by first | exact e | exact e.symm)))).trans hu
  exact .inr ⟨g, o, rfl, fun j x hx => ⟨f _ _ (h j x hx).1, f _ _ (h j x hx).2.1, f _ _ (h j x hx).2.2⟩⟩
def WrO (w : World) (B : Nat) (v : Value) (l : List In) : Prop := w.heap[B]? = some (.cells #[v] 48 (0, 0)) ∧ w.ownsRow (B + 1) 43 3 v l.length (insC l)
structure WrT (B : Nat) (w : World) (v : Value) (w' : World) (v' : Value) : Prop where
 os : w'.os = w.os
 tape : w'.tape = w.tape
 output : w'.output = w.output
 size : w.heap.size ≤ w'.heap.size
 block : ∀ k, k < w.heap.size → k ≠ B → v.ownBlock ≠ some k → w'.heap[k]? = w.heap[k]?
 own : ∀ k, v'.ownBlock = some k → v.ownBlock = some k ∨ w.heap.size ≤ k
theorem WrT.refl (B : Nat) (w : World) (v : Value) : WrT B w v w v := ⟨rfl, rfl, rfl, Nat.le_refl _, fun _ _ _ _ => rfl, fun _ h => .inl h⟩
theorem WrT.trans {B : Nat} {a b c : World} {u v x : Value} (h : WrT B a u b v) (k : WrT B b v c x) : WrT B a u c x :=
 ⟨k.os.trans h.os, k.tape.trans h.tape, k.output.trans h.output, Nat.le_trans h.size k.size, fun i hi hb hu => (k.block i (Nat.lt_of_lt_of_le hi h.size) hb (fun e => by
  rcases h.own i e with e | e
  ·exact hu e
  ·omega)).trans (h.block i hi hb hu), fun i e => by
  have := h.size
  rcases k.own i e with e | e
  ·exact h.own i e
  ·exact .inr (by omega)⟩
theorem WrT.of_gr {B : Nat} {a b : World} {v : Value} (h : Gr a b) : WrT B a v b v := ⟨h.os, h.tape, h.output, h.size, fun i hi _ _ => h.block i hi, fun _ h => .inl h⟩
theorem WrO.gr {w w' : World} {B : Nat} {v : Value} {l : List In} (h : WrO w B v l) (hg : Gr w w') : WrO w' B v l := ⟨grBlk hg h.1, owns_gr h.2 hg⟩
theorem WrO.lt {w : World} {B : Nat} {v : Value} {l : List In} (h : WrO w B v l) : B < w.heap.size := blkLt h.1
theorem WrO.own_lt {w : World} {B k : Nat} {v : Value} {l : List In} (h : WrO w B v l) (e : v.ownBlock = some k) : B < k ∧ k < w.heap.size := World.ownsRow.lt h.2 k e
theorem WrT.base {W0 : World} {B : Nat} {w w' : World} {v v' : Value} {l : List In} (h : WrT B w v w' v') (hO : WrO w B v l) (hg : Gr W0 w) (hB : W0.heap.size ≤ B) : Gr W0 w' :=
 hg.trans ⟨h.os, h.tape, h.output, h.size, fun i hi => h.block i (Nat.lt_of_lt_of_le hi hg.size) (by omega) (fun e => by have := (hO.own_lt e).1; omega)⟩
theorem WrT.keep {B k : Nat} {w w' : World} {v v' : Value} {o : Obj} (h : WrT B w v w' v') (hk : w.heap[k]? = some o) (hb : k ≠ B) (hv : v.ownBlock ≠ some k) : w'.heap[k]? = some o := (h.block k (blkLt hk) hb hv).trans hk
def WrP (W : World) (B : Nat) (v : Value) (l : List In) (e : Ending) (w' : World) : Prop := e = .returned (.tuple #[]) ∧ ∃ v', WrO w' B v' l ∧ WrT B W v w' v'
end K
end Go.Proofs.YtamfgjinfcknfaaGreatDoor
