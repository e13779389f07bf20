/- Texts of one proof: KyH, LxA, LxB, LxN. -/
import Derived.Test.YtljknappbnoikaaGreatDoorZi
import Derived.Test.YtljknappbnoikaaGreatDoorZj
import Derived.Test.YtljknappbnoikaaGreatDoorRows
import Derived.WalkKit
import Derived.LoopTactic
import Derived.Outline
import Derived.Deep.QuietTactic
import Derived.BigQuiet
import Derived.Lib.Hide
import Derived.Below
import Derived.Lib.LaidTab
import Derived.Lib.AtoiAll
set_option linter.unusedVariables false
set_option linter.unusedSimpArgs false
set_option maxRecDepth 100000
set_option maxHeartbeats 8000000
namespace Go.Proofs.YtljknappbnoikaaGreatDoor
open Go.RowKit
namespace K
structure Hd where
 l : List In
 A : Option Addr
 c : Nat
abbrev hdV (h : Hd) : Value := .slice h.A h.l.length h.c
abbrev cdA (h0 h1 h2 h3 h4 : Hd) : Array Value := #[hdV h0, hdV h1, hdV h2, hdV h3, hdV h4]
def verAll (hs : List Hd) (vars : Int) : Bool := hs.all (fun h => verH h.l vars)
def verC (hs : List Hd) (vars : Int) : Bool := btw2 vars (0, 12) && verAll hs vars
theorem ixC (h0 h1 h2 h3 h4 : Hd) {k : Nat} {h : Hd} (hk : [h0, h1, h2, h3, h4][k]? = some h) (w : World) : (Instr.index 28 (.agg (cdA h0 h1 h2 h3 h4)) (.int .i64 k)).run Tryz.prog w = .ok (hdV h) w := by
 rcases k with _ | _ | _ | _ | _ | k <;> simp at hk
 all_goals
  subst hk
  simp [Instr.index, run_underlying Tryz.underlying28, asIntOf, go_sem]
theorem cells5k {w : World} {b : Nat} {v0 v1 v2 v3 v4 : Value} {T : TypeId} (h : w.heap[b]? = some (.cells #[v0, v1, v2, v3, v4] T (0, 0))) : w.cell? ⟨b, 0, none⟩ = some v0 ∧ w.cell? ⟨b, 1, none⟩ = some v1 ∧ w.cell? ⟨b, 2, none⟩ = some v2 ∧ w.cell? ⟨b, 3, none⟩ = some v3 ∧ w.cell? ⟨b, 4, none⟩ = some v4 := by
 have e : ∀ j, w.cell? ⟨b, j, none⟩ = (#[v0, v1, v2, v3, v4] : Array Value)[j]? := fun j => cell_of_row _ _ j _ _ (0, 0) h
 exact ⟨e 0, e 1, e 2, e 3, e 4⟩
def restB (vars : Int) (many : Nat) (hs : List Int) (i : Nat) (xs : List In) : Bool := match goH vars many hs i xs with
 | some h => decide ((h[many]?).getD 0 = 0)
 | none => false
theorem verH_rest (l : List In) (vars : Int) : verH l vars = (decide (l.length ≤ 4000) && restB vars l.length (0 :: List.replicate l.length (-1)) 0 l) := rfl
theorem rest_form {vars : Int} {many i : Nat} {hs : List Int} {x : In} {xs : List In} (h : formI x i many vars = false) : restB vars many hs i (x :: xs) = false := by
 unfold restB; rw [goH, if_neg (by rw [h]; decide)]
theorem rest_bad {vars : Int} {many i : Nat} {hs h2 : List Int} {x : In} {xs : List In} (h : formI x i many vars = true) (h3 : soundI hs x i = (h2, false)) : restB vars many hs i (x :: xs) = false := by
 unfold restB; rw [goH, if_pos h, h3]
theorem rest_ok {vars : Int} {many i : Nat} {hs h2 : List Int} {x : In} {xs : List In} (h : formI x i many vars = true) (h3 : soundI hs x i = (h2, true)) : restB vars many hs i (x :: xs) = restB vars many h2 (i + 1) xs := by
 unfold restB; rw [goH, if_pos h, h3]
theorem reach_bd {hs h2 : List Int} {i : Nat} {h : Int} (hb : ∀ n ∈ hs, -1 ≤ n ∧ n ≤ 64) (h0 : 0 ≤ h) (e : reach hs i h = (h2, true)) : ∀ n ∈ h2, -1 ≤ n ∧ n ≤ 64 := by
 unfold reach at e
 split at e
 ·obtain ⟨rfl, h3⟩ := Prod.mk.inj e
  intro n hn
  have := of_decide_eq_true h3
  rcases List.mem_or_eq_of_mem_set hn with h | rfl
  ·exact hb n h
  ·omega
 ·obtain ⟨rfl, h3⟩ := Prod.mk.inj e
  exact hb
theorem sound_bd {hs h2 : List Int} {x : In} {i : Nat} (hb : ∀ n ∈ hs, -1 ≤ n ∧ n ≤ 64) (e : soundI hs x i = (h2, true)) : ∀ n ∈ h2, -1 ≤ n ∧ n ≤ 64 := by
 have t2 := pt_pos x.op
 unfold soundI at e
 split at e
 ·cases e
 rename_i h0
 split at e
 ·rcases hr : reach hs (i + 1) ((hs[i]?).getD 0 - tko x.op + pt x.op) with ⟨h3, b⟩
  rw [hr] at e
  cases b with
  | false => cases e
  | true => exact reach_bd (reach_bd hb (by omega) hr) (by omega) e
 ·split at e
  ·exact reach_bd hb (by omega) e
  ·exact reach_bd hb (by omega) e
theorem Verify_all (h0 h1 h2 h3 h4 : Hd) (vars : Int) (w : World) (hR : ∀ h ∈ [h0, h1, h2, h3, h4], InsR w h.l h.A) (hlen : ∀ h ∈ [h0, h1, h2, h3, h4], h.l.length ≤ 4500) (hE : LaidE w) :
  Calls Tryz.prog 11 #[.agg (cdA h0 h1 h2 h3 h4), .int .i64 vars] w (GG (.bool (verC [h0, h1, h2, h3, h4] vars)) w) := by
 obtain ⟨R, hRR⟩ : ∃ R, verC [h0, h1, h2, h3, h4] vars = R := ⟨_, rfl⟩
 rw [hRR]
 obtain ⟨hsL, hhs⟩ : ∃ hsL, hsL = [h0, h1, h2, h3, h4] := ⟨_, rfl⟩
 have hix := Lib.hid (fun (k : Nat) (h : Hd) (hk : hsL[k]? = some h) (wx : World) => ixC h0 h1 h2 h3 h4 (k := k) (h := h) (by rw [← hhs]; exact hk) wx)
 have hll := Lib.hid (show hsL.length = 5 by rw [hhs]; rfl)
 rw [← hhs] at hR hlen hRR
 clear hhs
 have hRH := Lib.hid (show (btw2 vars (0, 12) && verAll (hsL.drop 0) vars) = R from hRR)
 have HR := Lib.hid hR
 have HL := Lib.hid hlen
 have HE := Lib.hid hE
 clear hRR hR hlen hE
 obtain ⟨W1, hW1⟩ : ∃ W1, W1 = w.alloc (.cells (cdA h0 h1 h2 h3 h4) 30) := ⟨_, rfl⟩
 have HG1 := Lib.hid (show Gr w W1 by rw [hW1]; exact grAlloc _ _)
 obtain ⟨c0, c1, c2, c3, c4⟩ := cells5k (show W1.heap[w.heap.size]? = some (.cells (cdA h0 h1 h2 h3 h4) 30 (0, 0)) by rw [hW1]; exact nBlk _ _ _ rfl)
 obtain ⟨v0, hv0⟩ : ∃ v0, btw2 vars (0, 12) = v0 := ⟨_, rfl⟩
 have hvH := Lib.hid (show v0 = true → 0 ≤ vars ∧ vars ≤ 12 from fun h => by
  rw [h] at hv0
  simpa [btw2] using hv0)
 rw [hv0] at hRH
 have hv0H := Lib.hid hv0
 clear hv0
 go_enter Tryz.func11, Tryz.ntmps11
 go_wp2
 go_step3
 go_upto_region 1 with fail
 rw [← hW1]
 clear hW1
 go_cut [5] (fun a5 wx => a5 = .bool v0 ∧ wx = W1)
 case first =>
  by_cases p0 : 0 ≤ vars
  ·have t0 : decide (0 ≤ vars) = true := decide_eq_true p0
   by_cases p1 : vars ≤ 12
   ·have t1 : decide (vars ≤ 12) = true := decide_eq_true p1
    obtain rfl : true = v0 := by rw [← hv0H.out]; unfold btw2; simp [p0, p1]
    go_wp2
    go_meet
    exact ⟨rfl, rfl⟩
   ·have t1 : decide (vars ≤ 12) = false := decide_eq_false p1
    obtain rfl : false = v0 := by rw [← hv0H.out]; unfold btw2; simp [p1]
    go_wp2
    go_meet
    exact ⟨rfl, rfl⟩
  ·have t0 : decide (0 ≤ vars) = false := decide_eq_false p0
   obtain rfl : false = v0 := by rw [← hv0H.out]; unfold btw2; simp [p0]
   go_wp2
   go_meet
   exact ⟨rfl, rfl⟩
 case rest =>
  obtain ⟨rfl, rfl⟩ := hcut
  go_wp2
  go_step3
  go_wp2
  go_loopg [5, 18] (5) (fun gk a5 a18 wr => ∃ (k : Nat) (v : Bool), k + gk = 5 ∧ a18 = .int .i64 k ∧ a5 = .bool v ∧ Hid ((v && verAll (hsL.drop k) vars) = R) ∧ Hid (v = true → 0 ≤ vars ∧ vars ≤ 12) ∧ Hid (Gr w wr))
  case atStart => exact ⟨0, v0, by omega, rfl, rfl, hRH, hvH, HG1⟩
  case round =>
   obtain ⟨k, v, hk, rfl, rfl, hG, hv, hB⟩ := hrel
   by_cases hlt : k < 5
   ·obtain ⟨gq, rfl⟩ : ∃ g, gk = g + 1 := ⟨gk - 1, by omega⟩
    have hkl : k < hsL.length := by rw [hll.out]; exact hlt
    have hke : hsL[k]? = some hsL[k] := List.getElem?_eq_getElem hkl
    have hmem : hsL[k] ∈ hsL := List.getElem_mem hkl
    have hIk := hix.out k _ hke
    have hRk := Lib.hid ((HR.out _ hmem))
    have hLk := HL.out _ hmem
    have hG1 := hG.out
    rw [List.drop_eq_getElem_cons hkl] at hG1
    have hG1 := Lib.hid (show (v && (verH (hsL[k]).l vars && verAll (hsL.drop (k + 1)) vars)) = R from hG1)
    clear hG hke hmem
    generalize hsL[k] = h at *
    clear hkl
    obtain ⟨l, A, c⟩ := h
    simp only at hRk hLk hG1 hIk
    have hIk : ∀ wx : World, (Instr.index 28 (.agg (cdA h0 h1 h2 h3 h4)) (.int .i64 k)).run Tryz.prog wx = .ok (.slice A l.length c) wx := hIk
    have hLkH := Lib.hid hLk
    clear hLk
    obtain ⟨v1, hv1⟩ : ∃ v1, (v && decide (l.length ≤ 4000)) = v1 := ⟨_, rfl⟩
    have hv1H := Lib.hid hv1
    clear hv1
    go_upto_region 5 with fail
    go_cut [5, 7, 18] from 18 to 59 (fun a5 a7 a18 wx => a5 = .bool v1 ∧ a7 = .slice A l.length c ∧ a18 = .int .i64 k ∧ wx = wr)
    case first =>
     cases v with
     | false =>
      obtain rfl : false = v1 := hv1H.out
      go_wp2
      go_meet
      exact ⟨rfl, rfl, rfl, rfl⟩
     | true =>
      by_cases p4 : l.length ≤ 4000
      ·have t4 : decide ((l.length : Int) ≤ 4000) = true := by simp; omega
       obtain rfl : true = v1 := by rw [← hv1H.out]; simp [p4]
       go_wp2
       go_meet
       exact ⟨rfl, rfl, rfl, rfl⟩
      ·have t4 : decide ((l.length : Int) ≤ 4000) = false := by simp; omega
       obtain rfl : false = v1 := by rw [← hv1H.out]; simp [p4]
       go_wp2
       go_meet
       exact ⟨rfl, rfl, rfl, rfl⟩
    case rest =>
     obtain ⟨rfl, rfl, rfl, hwc⟩ := hcut
     subst hwc
     have hN := Lib.hid (fun wx => newHandler_any l.length A c vars (by have := hLkH.out; omega) wx)
     go_wp2_with fail
     refine (hN.out _).mono ?_
     rintro e w3 ⟨⟨g, rfl, hX, hgB⟩, hg3⟩
     obtain ⟨W4, hW4⟩ : ∃ W4, W4 = w3.alloc (.cells (hA l.length A c vars (some ⟨g, 0, none⟩) (l.length + 1) (l.length + 1)) 54) := ⟨_, rfl⟩
     have hg4 : Gr w3 W4 := by rw [hW4]; exact grAlloc _ _
     obtain ⟨hb, hhb⟩ : ∃ hb, hb = w3.heap.size := ⟨_, rfl⟩
     have hgl : g < w3.heap.size := (Array.getElem?_eq_some_iff.1 hX).1
     have HY4 := Lib.hid (show W4.heap[hb]? = some (.cells (hA l.length A c vars (some ⟨g, 0, none⟩) (l.length + 1) (l.length + 1)) 54 (0, 0)) by rw [hW4, hhb]; exact nBlk _ _ _ rfl)
     have HX4 := Lib.hid (grBlk hg4 hX)
     have HB4 := Lib.hid (hB.out.tr (hg3.tr hg4))
     have hgb := Lib.hid (show g ≠ hb by omega)
     have hgw := Lib.hid (show w.heap.size ≤ g from Nat.le_trans hB.out.size hgB)
     go_upto_region 7 with fail
     rw [← hW4, ← hhb]
     clear hW4 hhb hX hg3 hg4 hgl hgB hB hN
     have hG2 : ((v1 && restB vars l.length (0 :: List.replicate l.length (-1)) 0 (l.drop 0)) && verAll (hsL.drop (k + 1)) vars) = R := by
      rw [← hG1.out, verH_rest, ← hv1H.out, List.drop_zero]
      cases v <;> simp [Bool.and_assoc]
     have hG2 := Lib.hid hG2
     have hv1v := Lib.hid (show v1 = true → 0 ≤ vars ∧ vars ≤ 12 from fun h => hv.out (by
      have := hv1H.out
      rw [h, Bool.and_eq_true] at this
      exact this.1))
     have hi0 := Lib.hid (show (∀ n ∈ (0 : Int) :: List.replicate l.length (-1), -1 ≤ n ∧ n ≤ 64) from fun n hn => by
      rcases List.mem_cons.1 hn with rfl | hn
      ·omega
      ·rw [List.eq_of_mem_replicate hn]; omega)
     have hil0 := Lib.hid (show ((0 : Int) :: List.replicate l.length (-1)).length = l.length + 1 by simp)
     clear hG1 hv1H hv
     go_wp2
     go_loopg [5, 32] (l.length) (fun gk a5 a32 wr => ∃ (i : Nat) (f : Bool) (hs : List Int), i + gk = l.length ∧ a32 = .int .i64 i ∧ a5 = .bool f ∧ Hid (((f && restB vars l.length hs i (l.drop i)) && verAll (hsL.drop (k + 1)) vars) = R) ∧ Hid (f = true → 0 ≤ vars ∧ vars ≤ 12) ∧ Hid (hs.length = l.length + 1) ∧ Hid (∀ n ∈ hs, -1 ≤ n ∧ n ≤ 64) ∧
      Hid (wr.heap[g]? = some (.cells (iA hs) 3 (0, 0))) ∧ Hid (wr.heap[hb]? = some (.cells (hA l.length A c vars (some ⟨g, 0, none⟩) (l.length + 1) (l.length + 1)) 54 (0, 0))) ∧ Hid (Gr w wr))
     case atStart => exact ⟨0, v1, _, by omega, rfl, rfl, hG2, hv1v, hil0, hi0, HX4, HY4, HB4⟩
     case round =>
      obtain ⟨i, f, hs, hij, rfl, rfl, hG, hf, hhl, hhb, hX, hY, hB⟩ := hrel
      clear HX4 HY4 HB4 hG2 hv1v hi0 hil0
      by_cases hlt2 : i < l.length
      ·obtain ⟨gp, rfl⟩ : ∃ g, gk = g + 1 := ⟨gk - 1, by omega⟩
       cases f with
       | false =>
        obtain rfl : false = R := by have := hG.out; simpa using this
        clear hG
        go_wp2
        rw [Exit.noGoto_ret]
        go_ret
        exact ⟨rfl, hB.out⟩
       | true =>
        have hx : l[i]? = some l[i] := List.getElem?_eq_getElem hlt2
        have hGd := hG.out
        rw [List.drop_eq_getElem_cons hlt2] at hGd
        have hvr := hf.out rfl
        have HF := Lib.hid (fun (wx : World) (hg : Gr wr wx) => isFormed_any l A c vars (some ⟨g, 0, none⟩) (l.length + 1) (l.length + 1) i l[i] hx (by have := hLkH.out; omega) (by omega) wx (hRk.out.gr (hB.out.tr hg)))
        have HS := Lib.hid (fun (wx : World) (hg : Gr w wx) (hX : wx.heap[g]? = some (.cells (iA hs) 3 (0, 0))) (hfm : formI l[i] i l.length vars = true) => (by
         have := isSound_any w hs l A c vars g (l.length + 1) i l[i] hx hfm hhl.out (by have := hLkH.out; omega) hhb.out wx hg hgw.out hX hRk.out HE.out
         rw [hhl.out] at this
         exact this))
        clear hG hx
        generalize l[i] = x at *
        obtain ⟨x0, x1, x2⟩ := cells3k hY.out
        rcases hfm : formI x i l.length vars with _ | _
        ·rw [hfm] at HF
         rw [rest_form hfm] at hGd
         obtain rfl : false = R := by simpa using hGd
         clear hGd HS hfm
         go_wp2_with fail
         refine (HF.out _ (Below.refl _ _)).mono ?_
         rintro e w6 ⟨rfl, hg6⟩
         have hB6 := Lib.hid (hB.out.tr hg6)
         clear hg6
         go_wp2
         rw [Exit.noGoto_ret]
         go_ret
         exact ⟨rfl, hB6.out⟩
        ·rw [hfm] at HF
         have HS := Lib.hid (fun wx hg hX => HS.out wx hg hX hfm)
         have hfmH := Lib.hid hfm
         have hGH := Lib.hid hGd
         clear hfm hGd
         go_wp2_with fail
         refine (HF.out _ (Below.refl _ _)).mono ?_
         rintro e w6 ⟨rfl, hg6⟩
         have hB6 := Lib.hid (hB.out.tr hg6)
         have hX6 := Lib.hid (grBlk hg6 hX.out)
         have hY6 := Lib.hid (grBlk hg6 hY.out)
         clear hg6 x0 x1 x2 hB hX hY HF
         obtain ⟨x0, x1, x2⟩ := cells3k hY6.out
         go_wp2_with fail
         refine (HS.out _ hB6.out hX6.out).mono ?_
         rcases hsd : soundI hs x i with ⟨h2, b2⟩
         rintro e w7 ⟨he, hX7, hB7, hK7⟩
         simp only at he hX7
         subst he
         have hY7 := Lib.hid ((hK7.block _ (blkLt hY6.out) (fun q => by have := Option.some.inj q; exact hgb.out this.symm)).trans hY6.out)
         have hX7 := Lib.hid hX7
         have hB7 := Lib.hid hB7
         clear hK7 x0 x1 x2 HS hX6 hY6 hB6
         cases b2 with
         | false =>
          obtain rfl : false = R := by
           have := hGH.out
           rw [rest_bad hfmH.out hsd] at this
           simpa using this
          clear hGH hfmH hsd
          go_wp2
          rw [Exit.noGoto_ret]
          go_ret
          exact ⟨rfl, hB7.out⟩
         | true =>
          have hGn := Lib.hid (show ((true && restB vars l.length h2 (i + 1) (l.drop (i + 1))) && verAll (hsL.drop (k + 1)) vars) = R by rw [← rest_ok hfmH.out hsd]; exact hGH.out)
          have hhl2 := Lib.hid (show h2.length = l.length + 1 by rw [← (sound_spec hhl.out hlt2 hfmH.out hsd).1.1]; exact hhl.out)
          have hhb2 := Lib.hid (sound_bd hhb.out hsd)
          have hvrH := Lib.hid hvr
          have qi : IntKind.i64.wrap ((i : Int) + 1) = (i : Int) + 1 := IntWalk.i64_in _ (by have := hLkH.out; omega)
          clear hGH hfmH hsd hhl hhb hf hvr
          go_wp2
          go_roundg gp
          case measure => omega
          case rel => exact ⟨i + 1, true, h2, by omega, by go_num, rfl, hGn, Lib.hid (fun _ => hvrH.out), hhl2, hhb2, hX7, hY7, hB7⟩
      ·have hil : i = l.length := by omega
       have hkl2 : decide ((i : Int) < (l.length : Int)) = false := by simp; omega
       have hGe := hG.out
       rw [hil, List.drop_eq_nil_of_le (Nat.le_refl _)] at hGe
       have hGe : ((f && decide ((hs[l.length]?).getD 0 = 0)) && verAll (hsL.drop (k + 1)) vars) = R := hGe
       obtain ⟨x0, x1, x2⟩ := cells3k hY.out
       have c0 := iA_at hX.out (i := l.length) (by rw [hhl.out]; omega)
       have hGe := Lib.hid hGe
       have hkn := Lib.hid (show k + 1 + gq = 5 by omega)
       clear hG hil
       generalize (hs[l.length]?).getD 0 = q at *
       cases f with
       | false =>
        have hGn := Lib.hid (show (false && verAll (hsL.drop (k + 1)) vars) = R from hGe.out)
        have hvn : Hid (false = true → 0 ≤ vars ∧ vars ≤ 12) := Lib.hid (fun h => by cases h)
        clear hGe hf
        go_wp2
        go_roundg gq
        case measure => omega
        case rel => exact ⟨k + 1, false, hkn.out, by go_num, rfl, hGn, hvn, hB⟩
       | true =>
        have hvn := Lib.hid (fun _ : decide (q = 0) = true => hf.out rfl)
        have hGn := Lib.hid (show (decide (q = 0) && verAll (hsL.drop (k + 1)) vars) = R from hGe.out)
        have tq : (q == 0) = decide (q = 0) := by by_cases h : q = 0 <;> simp [h]
        clear hGe hf
        generalize decide (q = 0) = v2 at *
        go_wp2
        go_roundg gq
        case measure => omega
        case rel => exact ⟨k + 1, v2, hkn.out, by go_num, rfl, hGn, hvn, hB⟩
   ·have hk5 : k = 5 := by omega
    have hGe := hG.out
    rw [List.drop_eq_nil_of_le (by rw [hll.out]; omega)] at hGe
    obtain rfl : v = R := by rw [← hGe]; simp [verAll]
    have hkl2 : decide ((k : Int) < 5) = false := by simp; omega
    clear hGe hG
    go_wp2
    rw [Exit.noGoto_ret]
    go_ret
    exact ⟨rfl, hB.out⟩
theorem Verify_any (h0 h1 h2 h3 h4 : Hd) (vars : Int) (hvw : -1000000 ≤ vars ∧ vars ≤ 1000000) (w : World) (hR : ∀ h ∈ [h0, h1, h2, h3, h4], InsR w h.l h.A) (hlen : ∀ h ∈ [h0, h1, h2, h3, h4], h.l.length ≤ 4500) (hE : LaidE w) :
  Calls Tryz.prog 11 #[.agg (cdA h0 h1 h2 h3 h4), .int .i64 vars] w (GG (.bool (verC [h0, h1, h2, h3, h4] vars)) w) := Verify_all h0 h1 h2 h3 h4 vars w hR hlen hE
end K
end Go.Proofs.YtljknappbnoikaaGreatDoor
namespace Go.Proofs.YtljknappbnoikaaGreatDoor
open Go.RowKit
def clsTab : List Int := [0, 0, 0, 0, 0, 0, 0, 0, 0, 1, 2, 0, 0, 0, 0, 0, 0, 0, 0, 0, 0, 0, 0, 0, 0, 0, 0, 0, 0, 0, 0, 0, 1, 9, 0, 3, 0, 0, 0, 0, 7, 7, 7, 7, 7, 7, 0, 7, 5, 5, 5, 5, 5, 5, 5, 5, 5, 5, 0, 7, 8, 8, 8, 0, 0, 0, 0, 0, 0, 0, 0, 0, 0, 0, 0, 0, 0, 0, 0, 0, 0, 0, 0, 0, 0, 0, 0, 0, 0, 0, 0, 0, 0, 0, 0, 6, 0, 4, 4, 4, 4, 4, 4, 4, 4, 4, 4, 4, 4, 4, 4, 4, 4, 4, 4, 4, 4, 4, 4, 4, 4, 4, 4, 7, 0, 7, 0, 0]
def cls (n : Nat) : Nat := (clsTab.getD n 0).toNat
def Tab (w : World) : Prop := ∀ i, i < 128 → w.cell? ⟨4, i, none⟩ = some (.int .u8 (cls i))
theorem Tab.cell {w : World} (h : Tab w) (i : Nat) (hi : i < 128) : w.cell? ⟨4, i, none⟩ = some (.int .u8 (cls i)) := h i hi
theorem classOf_any (n : Nat) (w : World) (hT : Tab w) (hn : n < 256) :
  Calls Tryz.prog 143 #[.int .u8 n] w fun e w' => e = .returned (.int .u8 (cls n)) ∧ w = w' := by
 by_cases h : n < 128
 ·have hc := hT.cell n h
  clear hT
  go_enter Tryz.func143, Tryz.ntmps143
  go_wp2
  go_ret
  exact ⟨rfl, rfl⟩
 ·have hz : cls n = 0 := by unfold cls; rw [List.getD_eq_getElem?_getD, List.getElem?_eq_none (by simp [clsTab]; omega)]; rfl
  rw [hz]
  clear hT hz
  go_enter Tryz.func143, Tryz.ntmps143
  go_wp2
  go_ret
  exact ⟨rfl, rfl⟩
theorem clo_feed (n : Nat) (w : World) (_hn : n < 256) :
  Calls Tryz.prog 145 #[.int .u8 n] w fun e w' => e = .returned (.bool ((n : Int) != 2)) ∧ w = w' := by
 go_enter Tryz.func145, Tryz.ntmps145
 go_wp2
 go_ret
 exact ⟨rfl, rfl⟩
theorem clo_digit (n : Nat) (w : World) (_hn : n < 256) :
  Calls Tryz.prog 156 #[.int .u8 n] w fun e w' => e = .returned (.bool ((n : Int) == 5)) ∧ w = w' := by
 go_enter Tryz.func156, Tryz.ntmps156
 go_wp2
 go_ret
 exact ⟨rfl, rfl⟩
def nameB (n : Nat) : Bool := decide (n = 4) || decide (n = 5) || decide (n = 6)
theorem clo_name (n : Nat) (w : World) (_hn : n < 256) :
  Calls Tryz.prog 155 #[.int .u8 n] w fun e w' => e = .returned (.bool (nameB n)) ∧ w = w' := by
 by_cases h4 : n = 4
 ·subst h4
  go_enter Tryz.func155, Tryz.ntmps155
  go_wp2
  go_ret
  exact ⟨rfl, rfl⟩
 by_cases h5 : n = 5
 ·subst h5
  go_enter Tryz.func155, Tryz.ntmps155
  go_wp2
  go_ret
  exact ⟨rfl, rfl⟩
 have e4 : ((n : Int) == 4) = false := by simp; omega
 have e5 : ((n : Int) == 5) = false := by simp; omega
 have hr : nameB n = ((n : Int) == 6) := by simp only [nameB, h4, h5, decide_false, Bool.false_or]; rw [Bool.eq_iff_iff]; simp; omega
 rw [hr]
 clear h4 h5 hr
 go_enter Tryz.func155, Tryz.ntmps155
 go_wp2
 go_ret
 exact ⟨rfl, rfl⟩
def runLen (p : Nat → Bool) : List UInt8 → Nat
 | [] => 0
 | b :: r => if p (cls b.toNat) then runLen p r + 1 else 0
theorem runLen_le (p : Nat → Bool) (l : List UInt8) : runLen p l ≤ l.length := by
 induction l with
 | nil => exact Nat.le_refl _
 | cons b r ih => simp only [runLen, List.length_cons]; split <;> omega
theorem runLen_yes (p : Nat → Bool) (l : List UInt8) (k : Nat) (hk : k < l.length) (hp : p (cls l[k].toNat) = true) : runLen p (l.drop k) = runLen p (l.drop (k + 1)) + 1 := by
 rw [List.drop_eq_getElem_cons hk]
 simp [runLen, hp]
theorem runLen_no (p : Nat → Bool) (l : List UInt8) (k : Nat) (hk : k < l.length) (hp : p (cls l[k].toNat) = false) : runLen p (l.drop k) = 0 := by
 rw [List.drop_eq_getElem_cons hk]
 simp [runLen, hp]
theorem runLen_end (p : Nat → Bool) (l : List UInt8) (k : Nat) (hk : l.length ≤ k) : runLen p (l.drop k) = 0 := by
 rw [List.drop_eq_nil_of_le hk]; rfl
theorem byte_lt (b : UInt8) : b.toNat < 256 := b.toNat_lt
theorem cls_lt (n : Nat) : cls n < 256 := by
 by_cases h : n < 128
 ·have : ∀ n, n < 128 → cls n < 256 := by decide
  exact this n h
 ·unfold cls; rw [List.getD_eq_getElem?_getD, List.getElem?_eq_none (by simp [clsTab]; omega)]; decide
theorem ret_int {k : IntKind} {a b : Int} (h : a = b) : Ending.returned (.int k a) = .returned (.int k b) := by rw [h]
theorem end_feed (s : ByteArray) (at0 : Nat) (w : World) (hT : Tab w) (hat : at0 ≤ s.size) (hs : s.size ≤ maxLen) :
  Calls Tryz.prog 144 #[.string s, .int .i64 at0, .func (.func 145) #[] #[]] w fun e w' => e = .returned (.int .i64 ((at0 + runLen (fun n => (n : Int) != 2) (s.data.toList.drop at0) : Nat) : Int)) ∧ w = w' := by
 unfold maxLen at hs
 go_enter Tryz.func144, Tryz.ntmps144
 go_wp2
 go_loop [1] (fun i => ∃ k : Nat, at0 ≤ k ∧ k ≤ s.size ∧ i = .int .i64 k ∧ Hid (k + runLen (fun n => (n : Int) != 2) (s.data.toList.drop k) = at0 + runLen (fun n => (n : Int) != 2) (s.data.toList.drop at0))) (fun i => s.size - (intOf i).toNat)
 case atStart => exact ⟨at0, Nat.le_refl _, hat, rfl, rfl⟩
 case round =>
  obtain ⟨k, hk0, hk, rfl, hr⟩ := hrel
  by_cases hlt : k < s.size
  ·have hb := byte_lt s[k]
   have hc := cls_lt s[k].toNat
   cases hp : (fun n => (n : Int) != 2) (cls s[k].toNat)
   ·have hq := Lib.hid (runLen_no (fun n => (n : Int) != 2) s.data.toList k (by simpa using hlt) hp)
    have hp' := Lib.hid hp
    clear hp
    go_wp2_with fail
    refine (classOf_any _ _ hT hb).mono ?_
    rintro e w' ⟨rfl, rfl⟩
    go_wp2_with fail
    refine (clo_feed _ _ hc).mono ?_
    have hp2 := hp'.out
    rw [hp2]
    clear hp2
    rintro e w' ⟨rfl, rfl⟩
    go_wp2
    go_ret
    exact ⟨ret_int (by have h1 := hr.out; have h2 := hq.out; omega), rfl⟩
   ·have hq := Lib.hid (runLen_yes (fun n => (n : Int) != 2) s.data.toList k (by simpa using hlt) hp)
    have hp' := Lib.hid hp
    clear hp
    go_wp2_with fail
    refine (classOf_any _ _ hT hb).mono ?_
    rintro e w' ⟨rfl, rfl⟩
    go_wp2_with fail
    refine (clo_feed _ _ hc).mono ?_
    have hp2 := hp'.out
    rw [hp2]
    clear hp2
    rintro e w' ⟨rfl, rfl⟩
    go_wp2
    go_round
    case rel => exact ⟨k + 1, by omega, by omega, by go_num, by have h1 := hr.out; have h2 := hq.out; show _ = _; omega⟩
    case measure => simp [intOf]; omega
  ·have hq := Lib.hid (runLen_end (fun n => (n : Int) != 2) s.data.toList k (by simp; omega))
   go_wp2
   go_ret
   exact ⟨ret_int (by have h1 := hr.out; have h2 := hq.out; omega), rfl⟩
theorem end_digit (s : ByteArray) (at0 : Nat) (w : World) (hT : Tab w) (hat : at0 ≤ s.size) (hs : s.size ≤ maxLen) :
  Calls Tryz.prog 144 #[.string s, .int .i64 at0, .func (.func 156) #[] #[]] w fun e w' => e = .returned (.int .i64 ((at0 + runLen (fun n => (n : Int) == 5) (s.data.toList.drop at0) : Nat) : Int)) ∧ w = w' := by
 unfold maxLen at hs
 go_enter Tryz.func144, Tryz.ntmps144
 go_wp2
 go_loop [1] (fun i => ∃ k : Nat, at0 ≤ k ∧ k ≤ s.size ∧ i = .int .i64 k ∧ Hid (k + runLen (fun n => (n : Int) == 5) (s.data.toList.drop k) = at0 + runLen (fun n => (n : Int) == 5) (s.data.toList.drop at0))) (fun i => s.size - (intOf i).toNat)
 case atStart => exact ⟨at0, Nat.le_refl _, hat, rfl, rfl⟩
 case round =>
  obtain ⟨k, hk0, hk, rfl, hr⟩ := hrel
  by_cases hlt : k < s.size
  ·have hb := byte_lt s[k]
   have hc := cls_lt s[k].toNat
   cases hp : (fun n => (n : Int) == 5) (cls s[k].toNat)
   ·have hq := Lib.hid (runLen_no (fun n => (n : Int) == 5) s.data.toList k (by simpa using hlt) hp)
    have hp' := Lib.hid hp
    clear hp
    go_wp2_with fail
    refine (classOf_any _ _ hT hb).mono ?_
    rintro e w' ⟨rfl, rfl⟩
    go_wp2_with fail
    refine (clo_digit _ _ hc).mono ?_
    have hp2 := hp'.out
    rw [hp2]
    clear hp2
    rintro e w' ⟨rfl, rfl⟩
    go_wp2
    go_ret
    exact ⟨ret_int (by have h1 := hr.out; have h2 := hq.out; omega), rfl⟩
   ·have hq := Lib.hid (runLen_yes (fun n => (n : Int) == 5) s.data.toList k (by simpa using hlt) hp)
    have hp' := Lib.hid hp
    clear hp
    go_wp2_with fail
    refine (classOf_any _ _ hT hb).mono ?_
    rintro e w' ⟨rfl, rfl⟩
    go_wp2_with fail
    refine (clo_digit _ _ hc).mono ?_
    have hp2 := hp'.out
    rw [hp2]
    clear hp2
    rintro e w' ⟨rfl, rfl⟩
    go_wp2
    go_round
    case rel => exact ⟨k + 1, by omega, by omega, by go_num, by have h1 := hr.out; have h2 := hq.out; show _ = _; omega⟩
    case measure => simp [intOf]; omega
  ·have hq := Lib.hid (runLen_end (fun n => (n : Int) == 5) s.data.toList k (by simp; omega))
   go_wp2
   go_ret
   exact ⟨ret_int (by have h1 := hr.out; have h2 := hq.out; omega), rfl⟩
theorem end_name (s : ByteArray) (at0 : Nat) (w : World) (hT : Tab w) (hat : at0 ≤ s.size) (hs : s.size ≤ maxLen) :
  Calls Tryz.prog 144 #[.string s, .int .i64 at0, .func (.func 155) #[] #[]] w fun e w' => e = .returned (.int .i64 ((at0 + runLen nameB (s.data.toList.drop at0) : Nat) : Int)) ∧ w = w' := by
 unfold maxLen at hs
 go_enter Tryz.func144, Tryz.ntmps144
 go_wp2
 go_loop [1] (fun i => ∃ k : Nat, at0 ≤ k ∧ k ≤ s.size ∧ i = .int .i64 k ∧ Hid (k + runLen nameB (s.data.toList.drop k) = at0 + runLen nameB (s.data.toList.drop at0))) (fun i => s.size - (intOf i).toNat)
 case atStart => exact ⟨at0, Nat.le_refl _, hat, rfl, rfl⟩
 case round =>
  obtain ⟨k, hk0, hk, rfl, hr⟩ := hrel
  by_cases hlt : k < s.size
  ·have hb := byte_lt s[k]
   have hc := cls_lt s[k].toNat
   cases hp : nameB (cls s[k].toNat)
   ·have hq := Lib.hid (runLen_no nameB s.data.toList k (by simpa using hlt) hp)
    have hp' := Lib.hid hp
    clear hp
    go_wp2_with fail
    refine (classOf_any _ _ hT hb).mono ?_
    rintro e w' ⟨rfl, rfl⟩
    go_wp2_with fail
    refine (clo_name _ _ hc).mono ?_
    have hp2 := hp'.out
    rw [hp2]
    clear hp2
    rintro e w' ⟨rfl, rfl⟩
    go_wp2
    go_ret
    exact ⟨ret_int (by have h1 := hr.out; have h2 := hq.out; omega), rfl⟩
   ·have hq := Lib.hid (runLen_yes nameB s.data.toList k (by simpa using hlt) hp)
    have hp' := Lib.hid hp
    clear hp
    go_wp2_with fail
    refine (classOf_any _ _ hT hb).mono ?_
    rintro e w' ⟨rfl, rfl⟩
    go_wp2_with fail
    refine (clo_name _ _ hc).mono ?_
    have hp2 := hp'.out
    rw [hp2]
    clear hp2
    rintro e w' ⟨rfl, rfl⟩
    go_wp2
    go_round
    case rel => exact ⟨k + 1, by omega, by omega, by go_num, by have h1 := hr.out; have h2 := hq.out; show _ = _; omega⟩
    case measure => simp [intOf]; omega
  ·have hq := Lib.hid (runLen_end nameB s.data.toList k (by simp; omega))
   go_wp2
   go_ret
   exact ⟨ret_int (by have h1 := hr.out; have h2 := hq.out; omega), rfl⟩
end Go.Proofs.YtljknappbnoikaaGreatDoor
namespace Go.Proofs.YtljknappbnoikaaGreatDoor
open Go.RowKit
def gapLen (c : Bool) : List UInt8 → Nat
 | [] => 0
 | b :: r => if ((b == 35 || c) && b != 10) = false ∧ b ≠ 32 ∧ b ≠ 9 ∧ b ≠ 10 then 0 else gapLen ((b == 35 || c) && b != 10) r + 1
theorem gapLen_le (l : List UInt8) : ∀ c, gapLen c l ≤ l.length := by
 induction l with
 | nil => intro c; exact Nat.le_refl _
 | cons b r ih => intro c; simp only [gapLen, List.length_cons]; split <;> have := ih ((b == 35 || c) && b != 10) <;> omega
theorem cls_1 (b : UInt8) : cls b.toNat = 1 ↔ b = 9 ∨ b = 32 := by
 have h : ∀ n, n < 256 → (cls n = 1 ↔ n = 9 ∨ n = 32) := by decide +kernel
 rw [h _ b.toNat_lt, ← UInt8.toNat_inj, ← UInt8.toNat_inj]; rfl
theorem cls_2 (b : UInt8) : cls b.toNat = 2 ↔ b = 10 := by
 have h : ∀ n, n < 256 → (cls n = 2 ↔ n = 10) := by decide +kernel
 rw [h _ b.toNat_lt, ← UInt8.toNat_inj]; rfl
theorem cls_3 (b : UInt8) : cls b.toNat = 3 ↔ b = 35 := by
 have h : ∀ n, n < 256 → (cls n = 3 ↔ n = 35) := by decide +kernel
 rw [h _ b.toNat_lt, ← UInt8.toNat_inj]; rfl
theorem gapLen_comment (l : List UInt8) : gapLen true l = runLen (fun n => (n : Int) != 2) l + gapLen false (l.drop (runLen (fun n => (n : Int) != 2) l)) := by
 induction l with
 | nil => rfl
 | cons b r ih =>
  by_cases h : b = 10
  ·subst h
   have e : runLen (fun n => (n : Int) != 2) (10 :: r) = 0 := rfl
   rw [e]
   simp [gapLen]
  ·have h2 : ¬ cls b.toNat = 2 := fun hh => h ((cls_2 b).1 hh)
   have e : runLen (fun n => (n : Int) != 2) (b :: r) = runLen (fun n => (n : Int) != 2) r + 1 := by
    simp only [runLen]; rw [if_pos]; simp; omega
   rw [e]
   simp only [gapLen, List.drop_succ_cons]
   have hb : ((b == 35 || true) && b != 10) = true := by simp [h]
   rw [hb, if_neg (by simp), ih]
   omega
theorem gapLen_blank (l : List UInt8) (k : Nat) (hk : k < l.length) (h : cls l[k].toNat = 1 ∨ cls l[k].toNat = 2) : gapLen false (l.drop k) = gapLen false (l.drop (k + 1)) + 1 := by
 rw [List.drop_eq_getElem_cons hk]
 rw [cls_1, cls_2] at h
 simp only [gapLen]
 rcases h with (h | h) | h <;> simp [h]
theorem gapLen_sharp (l : List UInt8) (k : Nat) (hk : k < l.length) (h : cls l[k].toNat = 3) :
  gapLen false (l.drop k) = runLen (fun n => (n : Int) != 2) (l.drop k) + gapLen false (l.drop (k + runLen (fun n => (n : Int) != 2) (l.drop k))) := by
 rw [← List.drop_drop, List.drop_eq_getElem_cons hk]
 rw [cls_3] at h
 have e : runLen (fun n => (n : Int) != 2) (l[k] :: l.drop (k + 1)) = runLen (fun n => (n : Int) != 2) (l.drop (k + 1)) + 1 := by
  simp only [runLen]; rw [if_pos]; rw [h]; rfl
 rw [e]
 simp only [gapLen, List.drop_succ_cons]
 rw [h]
 have hb : (((35 : UInt8) == 35 || false) && (35 : UInt8) != 10) = true := rfl
 rw [hb, if_neg (by simp), gapLen_comment]
 omega
theorem gapLen_other (l : List UInt8) (k : Nat) (hk : k < l.length) (h1 : cls l[k].toNat ≠ 1) (h2 : cls l[k].toNat ≠ 2) (h3 : cls l[k].toNat ≠ 3) : gapLen false (l.drop k) = 0 := by
 rw [List.drop_eq_getElem_cons hk]
 rw [Ne, cls_1] at h1
 rw [Ne, cls_2] at h2
 rw [Ne, cls_3] at h3
 simp only [gapLen]
 rw [if_pos]
 simp_all
theorem gapLen_end (l : List UInt8) (k : Nat) (hk : l.length ≤ k) : gapLen false (l.drop k) = 0 := by
 rw [List.drop_eq_nil_of_le hk]; rfl
theorem gapEnd_any (s : ByteArray) (at0 : Nat) (w : World) (hT : Tab w) (hat : at0 ≤ s.size) (hs : s.size ≤ maxLen) :
  Calls Tryz.prog 132 #[.string s, .int .i64 at0] w fun e w' => e = .returned (.int .i64 ((at0 + gapLen false (s.data.toList.drop at0) : Nat) : Int)) ∧ w = w' := by
 have hsl := Lib.hid hs
 unfold maxLen at hs
 go_enter Tryz.func132, Tryz.ntmps132
 go_wp2
 go_loop [1] (fun i => ∃ k : Nat, at0 ≤ k ∧ k ≤ s.size ∧ i = .int .i64 k ∧ Hid (k + gapLen false (s.data.toList.drop k) = at0 + gapLen false (s.data.toList.drop at0))) (fun i => s.size - (intOf i).toNat)
 case atStart => exact ⟨at0, Nat.le_refl _, hat, rfl, rfl⟩
 case round =>
  obtain ⟨k, hk0, hk, rfl, hr⟩ := hrel
  by_cases hlt : k < s.size
  ·have hb := byte_lt s[k]
   have hkl : k < s.data.toList.length := by simpa using hlt
   by_cases h1 : cls s[k].toNat = 1
   ·have hq := Lib.hid (gapLen_blank s.data.toList k hkl (Or.inl h1))
    have H := Lib.hid h1
    clear h1
    go_wp2_with fail
    refine (classOf_any _ _ hT hb).mono ?_
    rw [H.out]
    rintro e w' ⟨rfl, rfl⟩
    go_wp2
    go_round
    case rel => exact ⟨k + 1, by omega, by omega, by go_num, by have h1 := hr.out; have h2 := hq.out; show _ = _; omega⟩
    case measure => simp [intOf]; omega
   by_cases h2 : cls s[k].toNat = 2
   ·have hq := Lib.hid (gapLen_blank s.data.toList k hkl (Or.inr h2))
    have H := Lib.hid h2
    clear h1 h2
    go_wp2_with fail
    refine (classOf_any _ _ hT hb).mono ?_
    rw [H.out]
    rintro e w' ⟨rfl, rfl⟩
    go_wp2
    go_round
    case rel => exact ⟨k + 1, by omega, by omega, by go_num, by have h1 := hr.out; have h2 := hq.out; show _ = _; omega⟩
    case measure => simp [intOf]; omega
   by_cases h3 : cls s[k].toNat = 3
   ·have hq := Lib.hid (gapLen_sharp s.data.toList k hkl h3)
    have H := Lib.hid h3
    have hpos : 0 < runLen (fun n => (n : Int) != 2) (s.data.toList.drop k) := by
     rw [runLen_yes _ _ _ hkl (by rw [show s.data.toList[k] = s[k] from rfl, h3]; rfl)]; omega
    have hle := runLen_le (fun n => (n : Int) != 2) (s.data.toList.drop k)
    rw [List.length_drop] at hle
    have hle2 : runLen (fun n => (n : Int) != 2) (s.data.toList.drop k) ≤ s.size - k := by simpa using hle
    clear h1 h2 h3 hle
    go_wp2_with fail
    refine (classOf_any _ _ hT hb).mono ?_
    rw [H.out]
    rintro e w' ⟨rfl, rfl⟩
    go_wp2_with fail
    refine (end_feed _ _ _ hT hk hsl.out).mono ?_
    rintro e w' ⟨rfl, rfl⟩
    go_wp2
    go_round
    case rel => exact ⟨k + runLen (fun n => (n : Int) != 2) (s.data.toList.drop k), by omega, by omega, by go_num, by have h1 := hr.out; have h2 := hq.out; show _ = _; omega⟩
    case measure => simp [intOf]; omega
   ·have hq := Lib.hid (gapLen_other s.data.toList k hkl h1 h2 h3)
    have e1 : ((cls s[k].toNat : Int) == 1) = false := by simp; omega
    have e2 : ((cls s[k].toNat : Int) == 2) = false := by simp; omega
    have e3 : ((cls s[k].toNat : Int) == 3) = false := by simp; omega
    clear h1 h2 h3
    go_wp2_with fail
    refine (classOf_any _ _ hT hb).mono ?_
    rintro e w' ⟨rfl, rfl⟩
    go_wp2
    go_ret
    exact ⟨ret_int (by have h1 := hr.out; have h2 := hq.out; omega), rfl⟩
  ·have hq := Lib.hid (gapLen_end s.data.toList k (by simp; omega))
   go_wp2
   go_ret
   exact ⟨ret_int (by have h1 := hr.out; have h2 := hq.out; omega), rfl⟩
end Go.Proofs.YtljknappbnoikaaGreatDoor
namespace Go.Proofs.YtljknappbnoikaaGreatDoor
def decStep (acc : Nat) (b : UInt8) : Nat := acc * 10 + (b.toNat - 48)
theorem decStep_eq (acc : Nat) (b : UInt8) : decStep acc b = acc * 10 + (b.toNat - 48) := by rw [decStep]
attribute [irreducible] decStep
def decVal (acc : Nat) : List UInt8 → Nat
 | [] => acc
 | b :: r => decVal (decStep acc b) r
theorem decVal_cons (acc : Nat) (b : UInt8) (r : List UInt8) : decVal acc (b :: r) = decVal (decStep acc b) r := rfl
theorem le_step (acc d z : Nat) (h : acc * 10 + d ≤ z) : acc ≤ z := by omega
theorem decVal_ge (l : List UInt8) : ∀ acc : Nat, acc ≤ decVal acc l := by
 induction l with
 | nil => intro acc; exact Nat.le_refl _
 | cons b r ih => intro acc; rw [decVal_cons]; exact le_step acc (b.toNat - 48) _ (by rw [← decStep_eq]; exact ih _)
def M64 : Nat := 18446744073709551616
theorem M64_eq : M64 = 18446744073709551616 := by unfold M64; rfl
theorem no_over (acc d : Nat) (h : acc * 10 + d < M64) : ¬ 1844674407370955162 ≤ acc := by rw [M64_eq] at h; omega
theorem parse_nil (acc : Nat) : Lib.parseUint10 acc [] = .ok acc := by rw [Lib.parseUint10]
theorem parse_cons (acc : Nat) (c : UInt8) (r : List UInt8) (h : 48 ≤ c.toNat ∧ c.toNat ≤ 57) : Lib.parseUint10 acc (c :: r) =
  if 1844674407370955162 ≤ acc then .range else if M64 ≤ decStep acc c then .range else Lib.parseUint10 (decStep acc c) r := by
 rw [Lib.parseUint10, if_pos h, M64_eq, decStep_eq]
theorem parse_digits_ok (l : List UInt8) : (∀ b ∈ l, 48 ≤ b.toNat ∧ b.toNat ≤ 57) → ∀ acc : Nat, decVal acc l < M64 → Lib.parseUint10 acc l = .ok (decVal acc l) := by
 induction l with
 | nil => intro _ acc _; rw [parse_nil, decVal]
 | cons b r ih =>
  intro hd acc h
  have hge := decVal_ge r (decStep acc b)
  rw [decVal_cons] at h ⊢
  have h2 : decStep acc b < M64 := Nat.lt_of_le_of_lt hge h
  have h1 : ¬ 1844674407370955162 ≤ acc := no_over acc (b.toNat - 48) (by rw [← decStep_eq]; exact h2)
  rw [parse_cons _ _ _ (hd b (by simp)), if_neg h1, if_neg (Nat.not_le.2 h2)]
  exact ih (fun x hx => hd x (by simp [hx])) _ h
theorem parse_digits_range (l : List UInt8) : (∀ b ∈ l, 48 ≤ b.toNat ∧ b.toNat ≤ 57) → ∀ acc : Nat, acc < M64 → ¬ decVal acc l < M64 → Lib.parseUint10 acc l = .range := by
 induction l with
 | nil => intro _ acc h0 h; rw [decVal] at h; exact absurd h0 h
 | cons b r ih =>
  intro hd acc h0 h
  rw [decVal_cons] at h
  rw [parse_cons _ _ _ (hd b (by simp))]
  by_cases h1 : 1844674407370955162 ≤ acc
  ·rw [if_pos h1]
  ·rw [if_neg h1]
   by_cases h2 : M64 ≤ decStep acc b
   ·rw [if_pos h2]
   ·rw [if_neg h2]
    exact ih (fun x hx => hd x (by simp [hx])) _ (Nat.not_le.1 h2) h
def M63 : Nat := 9223372036854775808
theorem M63_eq : M63 = 9223372036854775808 := by unfold M63; rfl
theorem atoi_head (c : UInt8) (r : List UInt8) (hc : 48 ≤ c.toNat ∧ c.toNat ≤ 57) : Lib.atoiAll (c :: r) = match Lib.parseMag (c :: r) with
  | .syntax => .syntax
  | .range => .range
  | .ok u => if M63 ≤ u then .range else .ok (u : Int) := by
 have h45 : ¬ c.toNat = 45 := by omega
 simp only [Lib.atoiAll]
 rw [if_neg (show ¬ (c.toNat = 43 ∨ c.toNat = 45) by omega)]
 cases Lib.parseMag (c :: r) <;> simp [h45, M63_eq]
theorem mag_eq (c : UInt8) (r : List UInt8) : Lib.parseMag (c :: r) = Lib.parseUint10 0 (c :: r) := by
 unfold Lib.parseMag
 rw [if_neg (by simp)]
theorem atoi_digits_ok (l : List UInt8) (hl : l ≠ []) (hd : ∀ b ∈ l, 48 ≤ b.toNat ∧ b.toNat ≤ 57) (h : decVal 0 l < M63) : Lib.atoiAll l = .ok (decVal 0 l : Int) := by
 match l, hl with
 | c :: r, _ =>
  rw [atoi_head c r (hd c (by simp)), mag_eq, parse_digits_ok (c :: r) hd 0 (by have := M63_eq; have := M64_eq; omega)]
  show (if M63 ≤ decVal 0 (c :: r) then _ else _) = _
  rw [if_neg (by omega)]
theorem atoi_digits_range (l : List UInt8) (hl : l ≠ []) (hd : ∀ b ∈ l, 48 ≤ b.toNat ∧ b.toNat ≤ 57) (h : ¬ decVal 0 l < M63) : Lib.atoiAll l = .range := by
 match l, hl with
 | c :: r, _ =>
  rw [atoi_head c r (hd c (by simp)), mag_eq]
  by_cases h2 : decVal 0 (c :: r) < M64
  ·rw [parse_digits_ok (c :: r) hd 0 h2]
   show (if M63 ≤ decVal 0 (c :: r) then _ else _) = _
   rw [if_pos (by omega)]
  ·rw [parse_digits_range (c :: r) hd 0 (by rw [M64_eq]; omega) h2]
end Go.Proofs.YtljknappbnoikaaGreatDoor
