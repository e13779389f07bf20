/- Texts of one proof: PxM. -/
import Derived.Test.YtdaghppcomckbaaGreatDoorPxL
/- The parser: amounts, variables, policies. -/
namespace Go.Proofs.YtdaghppcomckbaaGreatDoor
open Go.RowKit
set_option linter.unusedVariables false
set_option linter.unusedSimpArgs false
theorem new_strsE (W : World) (arr : Array Value) (T : TypeId) (ws : List ByteArray) (h : arr = (ws.map Value.string).toArray) (g : Nat) (hg : g = W.heap.size) : StrS (W.alloc (.cells arr T)) g ws := by
  subst hg; exact new_strs W arr T ws h
theorem choiceM_bd {ws : List ByteArray} {l l1 : List Tk} {k : Int} (h : choiceM ws l = .ok k l1) : 0 ≤ k ∧ k < ws.length := by
  unfold choiceM at h
  rcases idx_le ws (hd l).x with hi | ⟨h1, h2, _⟩
  · rw [hi] at h; simp at h
  · rw [if_neg (by omega)] at h; cases h; exact ⟨h1, h2⟩
def variableM (l : List Tk) : Res Nd := (wordM ⟨#[118, 97, 114]⟩ l).bind fun _ l1 => (nameM l1).bind fun x l2 => (choiceM unitWs l2).bind fun k l3 => (numbersF 3 [] l3).bind fun ts l4 => (wordM ⟨#[59]⟩ l4).bind fun _ l5 => .ok (.mk 7 x k 0 (hd l).a ts) l5

set_option maxHeartbeats 2000000 in
set_option maxRecDepth 100000 in
theorem variable_any (C : Cx) (w : World) (nx : Nat) (dv : Value) (ds : List (Int × Int))  (h : PS C w nx dv ds) (hds : ds.length ≤ 100) :
    Calls Tryz.prog 63 #[.pointer (some ⟨C.R, 0, none⟩)] w (Out C nx dv ds w VNd (variableM (C.l nx))) := by
  have h0 := Lib.hid h
  have hR0 := h.RLt
  have hA0 := Lib.hid (At.start h)
  have hn0 : nx ≤ nx := Nat.le_refl _
  obtain ⟨r, hr⟩ : ∃ r, variableM (C.l nx) = r := ⟨_, rfl⟩
  rw [hr]
  have f3 := tfield3
  unfold variableM at hr
  have hrH := Lib.hid hr
  clear hr h
  have hr := Lib.hid hrH.out
  clear hrH
  go_enter Tryz.func63, Tryz.ntmps63
  go_wp2_with fail
  refine (token_any C _ nx dv ds (hA0.out.loc h0.out (b := w.heap.size) (by repeat with_reducible first | exact gbRefl _ _ | apply gbAlloc | apply gbDrew | apply gbSet) (Nat.le_refl _)).ps).mono ?_
  rintro e w1 ⟨rfl, hb⟩
  have hP := (hA0.out.loc h0.out (b := w.heap.size) (by repeat with_reducible first | exact gbRefl _ _ | apply gbAlloc | apply gbDrew | apply gbSet) (Nat.le_refl _)).ps.below hb
  have hk := Below.kp (R := C.R) (o := none) hb
  have nx1_ : True := trivial
  have hA1 := Lib.hid ((hA0.out.loc h0.out (b := w.heap.size) (by repeat with_reducible first | exact gbRefl _ _ | apply gbAlloc | apply gbDrew | apply gbSet) (Nat.le_refl _)).step hP hk)
  have hs1 : w.heap.size + 1 ≤ w1.heap.size := by have := hk.size; (try simp at this); omega
  have b2' := Lib.hid (hk.blk (b := w.heap.size) (Eq.trans (gbBlk (row := none) (by repeat with_reducible first | exact gbRefl _ _ | apply gbAlloc | apply gbDrew | apply gbSet) (by simp) (by simp)) (heap_alloc_new _ _)) (by omega))
  have b2 := Lib.hid b2'.out
  clear b2'
  have xb2_1 : w.heap.size < w1.heap.size := blkLt b2.out
  have hr1 : C.R < w1.heap.size := hA1.out.ps.RLt
  have hn1 := hn0
  clear hb hP hk
  go_wp2_with fail
  refine (word_any C _ nx dv ds ⟨#[118, 97, 114]⟩ (hA1.out.loc h0.out (b := w.heap.size) (by repeat with_reducible first | exact gbRefl _ _ | apply gbAlloc | apply gbDrew | apply gbSet) (Nat.le_refl _)).ps hds (by decide)).mono ?_
  intro e w2 ho
  rcases hm : wordM ⟨#[118, 97, 114]⟩ (C.l nx) with ⟨⟨⟩, l2⟩ | ⟨er, l2⟩
  rotate_left
  · have hre : Hid (Res.err er l2 = r) := by have := hr.out; rw [hm] at this; exact this
    rw [hm] at ho
    clear hm
    obtain ⟨nxe, hle, hne, ⟨T, pv, rfl⟩, ⟨dv', hPe⟩, hke⟩ := ho
    have hF := Lib.hid (Out.fail (V := VNd) hre.out hle hn1 hne ⟨T, pv, rfl⟩ hPe (hA1.out.loc h0.out (b := w.heap.size) (by repeat with_reducible first | exact gbRefl _ _ | apply gbAlloc | apply gbDrew | apply gbSet) (Nat.le_refl _)).kp hke)
    clear hPe hke hle
    go_wp2
    exact ⟨rfl, hF.out⟩
  have hrn := hr.out
  rw [hm, Res.bind_ok] at hrn
  clear hr
  have hr := Lib.hid hrn
  clear hrn
  rw [hm] at ho
  clear hm
  obtain ⟨nx2, v2, hl, hn, rfl, hv, hP, hk⟩ := ho
  unfold VUnit at hv
  subst hv hl
  have hn2 : nx ≤ nx2 := Nat.le_trans hn1 hn
  have hA2 := Lib.hid ((hA1.out.loc h0.out (b := w.heap.size) (by repeat with_reducible first | exact gbRefl _ _ | apply gbAlloc | apply gbDrew | apply gbSet) (Nat.le_refl _)).step hP hk)
  have hs2 : w1.heap.size + 1 ≤ w2.heap.size := by have := hk.size; (try simp at this); omega
  have b2' := Lib.hid (hk.blk (b := w.heap.size) (Eq.trans (gbBlk (row := none) (by repeat with_reducible first | exact gbRefl _ _ | apply gbAlloc | apply gbDrew | apply gbSet) (blkLt b2.out) (by simp)) b2.out) (by omega))
  have b3' := Lib.hid (hk.blk (b := w1.heap.size) (Eq.trans (gbBlk (row := none) (by repeat with_reducible first | exact gbRefl _ _ | apply gbAlloc | apply gbDrew | apply gbSet) (by simp) (by simp)) (heap_alloc_new _ _)) (by omega))
  clear b2
  have b2 := Lib.hid b2'.out
  clear b2'
  have xb2_2 : w.heap.size < w2.heap.size := blkLt b2.out
  have b3 := Lib.hid b3'.out
  clear b3'
  have xb3_2 : w1.heap.size < w2.heap.size := blkLt b3.out
  have hr2 : C.R < w2.heap.size := hA2.out.ps.RLt
  clear hP hk hn
  go_wp2_with fail
  refine (name_any C _ nx2 dv ds (hA2.out.loc h0.out (b := w.heap.size) (by repeat with_reducible first | exact gbRefl _ _ | apply gbAlloc | apply gbDrew | apply gbSet) (Nat.le_refl _)).ps hds).mono ?_
  intro e w3 ho
  rcases hm : nameM (C.l nx2) with ⟨x, l3⟩ | ⟨er, l3⟩
  rotate_left
  · have hre : Hid (Res.err er l3 = r) := by have := hr.out; rw [hm] at this; exact this
    rw [hm] at ho
    clear hm
    obtain ⟨nxe, hle, hne, ⟨T, pv, rfl⟩, ⟨dv', hPe⟩, hke⟩ := ho
    have hF := Lib.hid (Out.fail (V := VNd) hre.out hle hn2 hne ⟨T, pv, rfl⟩ hPe (hA2.out.loc h0.out (b := w.heap.size) (by repeat with_reducible first | exact gbRefl _ _ | apply gbAlloc | apply gbDrew | apply gbSet) (Nat.le_refl _)).kp hke)
    clear hPe hke hle
    go_wp2
    exact ⟨rfl, hF.out⟩
  have hrn := hr.out
  rw [hm, Res.bind_ok] at hrn
  clear hr
  have hr := Lib.hid hrn
  clear hrn
  rw [hm] at ho
  clear hm
  obtain ⟨nx3, v3, hl, hn, rfl, hv, hP, hk⟩ := ho
  unfold VStr at hv
  subst hv hl
  have hn3 : nx ≤ nx3 := Nat.le_trans hn2 hn
  have hA3 := Lib.hid ((hA2.out.loc h0.out (b := w.heap.size) (by repeat with_reducible first | exact gbRefl _ _ | apply gbAlloc | apply gbDrew | apply gbSet) (Nat.le_refl _)).step hP hk)
  have hs3 : w2.heap.size + 0 ≤ w3.heap.size := by have := hk.size; (try simp at this); omega
  have b2' := Lib.hid (hk.blk (b := w.heap.size) (Eq.trans (gbBlk (row := none) (by repeat with_reducible first | exact gbRefl _ _ | apply gbAlloc | apply gbDrew | apply gbSet) (blkLt b2.out) (by simp)) b2.out) (by omega))
  have b3' := Lib.hid (hk.blk (b := w1.heap.size) (Eq.trans (gbBlk (row := none) (by repeat with_reducible first | exact gbRefl _ _ | apply gbAlloc | apply gbDrew | apply gbSet) (blkLt b3.out) (by simp)) b3.out) (by omega))
  clear b2
  have b2 := Lib.hid b2'.out
  clear b2'
  have xb2_3 : w.heap.size < w3.heap.size := blkLt b2.out
  clear b3
  have b3 := Lib.hid b3'.out
  clear b3'
  have xb3_3 : w1.heap.size < w3.heap.size := blkLt b3.out
  have hr3 : C.R < w3.heap.size := hA3.out.ps.RLt
  clear hP hk hn
  have yc := (cells6 b3.out).1.2.1
  have yz := (cells6 b3.out).2.2.1
  go_wp2_with fail
  refine (unitWords_any _).mono ?_
  rintro e wq ⟨rfl, rfl⟩
  go_wp2_with fail
  refine (choice_any C _ nx3 dv ds (w3.heap.size) 5 unitWs (hA3.out.loc h0.out (b := w1.heap.size) (by repeat with_reducible first | exact gbRefl _ _ | apply gbAlloc | apply gbDrew | apply gbSet) (by have := hA3.out.kp.size; have := hA0.out.kp.size; have := hA1.out.kp.size; have := hA2.out.kp.size; have := hs1;  have := hs2;  have := hs3; omega)).ps (new_strsE _ _ _ _ rfl _ (by simp)) (by simp) (by decide) hds (idxNe _ (by decide))).mono ?_
  intro e w4 ho
  rcases hm : choiceM unitWs (C.l nx3) with ⟨k, l4⟩ | ⟨er, l4⟩
  rotate_left
  · have hre : Hid (Res.err er l4 = r) := by have := hr.out; rw [hm] at this; exact this
    rw [hm] at ho
    clear hm
    obtain ⟨nxe, hle, hne, ⟨T, pv, rfl⟩, ⟨dv', hPe⟩, hke⟩ := ho
    have hF := Lib.hid (Out.fail (V := VNd) hre.out hle hn3 hne ⟨T, pv, rfl⟩ hPe (hA3.out.loc h0.out (b := w1.heap.size) (by repeat with_reducible first | exact gbRefl _ _ | apply gbAlloc | apply gbDrew | apply gbSet) (by have := hA3.out.kp.size; have := hA0.out.kp.size; have := hA1.out.kp.size; have := hA2.out.kp.size; have := hs1;  have := hs2;  have := hs3; omega)).kp hke)
    clear hPe hke hle
    go_wp2
    exact ⟨rfl, hF.out⟩
  have hrn := hr.out
  rw [hm, Res.bind_ok] at hrn
  clear hr
  have hr := Lib.hid hrn
  clear hrn
  have hk0_k : 0 ≤ k := (choiceM_bd hm).1; have hk1_k : k < 5 := (choiceM_bd hm).2
  rw [hm] at ho
  clear hm
  obtain ⟨nx4, v4, hl, hn, rfl, hv, hP, hk⟩ := ho
  unfold VInt at hv
  subst hv hl
  have hn4 : nx ≤ nx4 := Nat.le_trans hn3 hn
  have hA4 := Lib.hid ((hA3.out.loc h0.out (b := w1.heap.size) (by repeat with_reducible first | exact gbRefl _ _ | apply gbAlloc | apply gbDrew | apply gbSet) (by have := hA3.out.kp.size; have := hA0.out.kp.size; have := hA1.out.kp.size; have := hA2.out.kp.size; have := hs1;  have := hs2;  have := hs3; omega)).step hP hk)
  have hs4 : w3.heap.size + 1 ≤ w4.heap.size := by have := hk.size; (try simp at this); omega
  have b2' := Lib.hid (hk.blk (b := w.heap.size) (Eq.trans (gbBlk (row := some (w1.heap.size)) (by repeat with_reducible first | exact gbRefl _ _ | apply gbAlloc | apply gbDrew | apply gbSet) (blkLt b2.out) (by simp; omega)) b2.out) (by omega))
  have b3' := Lib.hid (hk.blk (b := w1.heap.size) (Eq.trans (gbBlk (row := none) (by repeat with_reducible first | exact gbRefl _ _ | apply gbAlloc | apply gbDrew | apply gbSet) (by simpa using blkLt b3.out) (by simp)) (set6_1 b3.out)) (by omega))
  clear b2
  have b2 := Lib.hid b2'.out
  clear b2'
  have xb2_4 : w.heap.size < w4.heap.size := blkLt b2.out
  clear b3
  have b3 := Lib.hid b3'.out
  clear b3'
  have xb3_4 : w1.heap.size < w4.heap.size := blkLt b3.out
  have hr4 : C.R < w4.heap.size := hA4.out.ps.RLt
  clear yc yz
  clear hP hk hn
  have yc := (cells6 b3.out).1.2.2.1
  have yz := (cells6 b3.out).2.2.2.1
  go_wp2_with fail
  refine (numbers_any C _ nx4 dv ds 3 (by decide) (hA4.out.loc h0.out (b := w1.heap.size) (by repeat with_reducible first | exact gbRefl _ _ | apply gbAlloc | apply gbDrew | apply gbSet) (by have := hA4.out.kp.size; have := hA0.out.kp.size; have := hA1.out.kp.size; have := hA2.out.kp.size; have := hA3.out.kp.size; have := hs1;  have := hs2;  have := hs3;  have := hs4; omega)).ps hds).mono ?_
  intro e w5 ho
  rcases hm : numbersF 3 [] (C.l nx4) with ⟨ts, l5⟩ | ⟨er, l5⟩
  rotate_left
  · have hre : Hid (Res.err er l5 = r) := by have := hr.out; rw [hm] at this; exact this
    rw [hm] at ho
    clear hm
    obtain ⟨nxe, hle, hne, ⟨T, pv, rfl⟩, ⟨dv', hPe⟩, hke⟩ := ho
    have hF := Lib.hid (Out.fail (V := VNd) hre.out hle hn4 hne ⟨T, pv, rfl⟩ hPe (hA4.out.loc h0.out (b := w1.heap.size) (by repeat with_reducible first | exact gbRefl _ _ | apply gbAlloc | apply gbDrew | apply gbSet) (by have := hA4.out.kp.size; have := hA0.out.kp.size; have := hA1.out.kp.size; have := hA2.out.kp.size; have := hA3.out.kp.size; have := hs1;  have := hs2;  have := hs3;  have := hs4; omega)).kp hke)
    clear hPe hke hle
    go_wp2
    exact ⟨rfl, hF.out⟩
  have hrn := hr.out
  rw [hm, Res.bind_ok] at hrn
  clear hr
  have hr := Lib.hid hrn
  clear hrn
  rw [hm] at ho
  clear hm
  obtain ⟨nx5, v5, hl, hn, rfl, hv, hP, hk⟩ := ho
  obtain ⟨A5, c5, hv, hkd⟩ := hv.kids
  subst hv hl
  have hn5 : nx ≤ nx5 := Nat.le_trans hn4 hn
  have hkdH := Lib.hid hkd
  clear hkd
  have hkd := Lib.hid hkdH.out
  clear hkdH
  have hA5 := Lib.hid ((hA4.out.loc h0.out (b := w1.heap.size) (by repeat with_reducible first | exact gbRefl _ _ | apply gbAlloc | apply gbDrew | apply gbSet) (by have := hA4.out.kp.size; have := hA0.out.kp.size; have := hA1.out.kp.size; have := hA2.out.kp.size; have := hA3.out.kp.size; have := hs1;  have := hs2;  have := hs3;  have := hs4; omega)).step hP hk)
  have hs5 : w4.heap.size + 0 ≤ w5.heap.size := by have := hk.size; (try simp at this); omega
  have b2' := Lib.hid (hk.blk (b := w.heap.size) (Eq.trans (gbBlk (row := some (w1.heap.size)) (by repeat with_reducible first | exact gbRefl _ _ | apply gbAlloc | apply gbDrew | apply gbSet) (blkLt b2.out) (by simp; omega)) b2.out) (by omega))
  have b3' := Lib.hid (hk.blk (b := w1.heap.size) (Eq.trans (gbBlk (row := none) (by repeat with_reducible first | exact gbRefl _ _ | apply gbAlloc | apply gbDrew | apply gbSet) (by simpa using blkLt b3.out) (by simp)) (set6_2 b3.out)) (by omega))
  clear b2
  have b2 := Lib.hid b2'.out
  clear b2'
  have xb2_5 : w.heap.size < w5.heap.size := blkLt b2.out
  clear b3
  have b3 := Lib.hid b3'.out
  clear b3'
  have xb3_5 : w1.heap.size < w5.heap.size := blkLt b3.out
  have hr5 : C.R < w5.heap.size := hA5.out.ps.RLt
  clear yc yz
  have K5 : Hid (KidsR w5 (From (w4.heap.size + 0)) ts A5) := hkd.out.keep (fun k h1 h2 => ⟨rfl, by unfold From at h1 ⊢; simp at h1; omega⟩)
  clear hkd
  clear hP hk hn
  have yc := (cells6 b3.out).1.2.2.2.2.2
  have yz := (cells6 b3.out).2.2.2.2.2.2
  go_wp2_with fail
  refine (word_any C _ nx5 dv ds ⟨#[59]⟩ (hA5.out.loc h0.out (b := w1.heap.size) (by repeat with_reducible first | exact gbRefl _ _ | apply gbAlloc | apply gbDrew | apply gbSet) (by have := hA5.out.kp.size; have := hA0.out.kp.size; have := hA1.out.kp.size; have := hA2.out.kp.size; have := hA3.out.kp.size; have := hA4.out.kp.size; have := hs1;  have := hs2;  have := hs3;  have := hs4;  have := hs5; omega)).ps hds (by decide)).mono ?_
  intro e w6 ho
  rcases hm : wordM ⟨#[59]⟩ (C.l nx5) with ⟨⟨⟩, l6⟩ | ⟨er, l6⟩
  rotate_left
  · have hre : Hid (Res.err er l6 = r) := by have := hr.out; rw [hm] at this; exact this
    rw [hm] at ho
    clear hm
    obtain ⟨nxe, hle, hne, ⟨T, pv, rfl⟩, ⟨dv', hPe⟩, hke⟩ := ho
    have hF := Lib.hid (Out.fail (V := VNd) hre.out hle hn5 hne ⟨T, pv, rfl⟩ hPe (hA5.out.loc h0.out (b := w1.heap.size) (by repeat with_reducible first | exact gbRefl _ _ | apply gbAlloc | apply gbDrew | apply gbSet) (by have := hA5.out.kp.size; have := hA0.out.kp.size; have := hA1.out.kp.size; have := hA2.out.kp.size; have := hA3.out.kp.size; have := hA4.out.kp.size; have := hs1;  have := hs2;  have := hs3;  have := hs4;  have := hs5; omega)).kp hke)
    clear hPe hke hle
    go_wp2
    exact ⟨rfl, hF.out⟩
  have hrn := hr.out
  rw [hm, Res.bind_ok] at hrn
  clear hr
  have hr := Lib.hid hrn
  clear hrn
  rw [hm] at ho
  clear hm
  obtain ⟨nx6, v6, hl, hn, rfl, hv, hP, hk⟩ := ho
  unfold VUnit at hv
  subst hv hl
  have hn6 : nx ≤ nx6 := Nat.le_trans hn5 hn
  have hA6 := Lib.hid ((hA5.out.loc h0.out (b := w1.heap.size) (by repeat with_reducible first | exact gbRefl _ _ | apply gbAlloc | apply gbDrew | apply gbSet) (by have := hA5.out.kp.size; have := hA0.out.kp.size; have := hA1.out.kp.size; have := hA2.out.kp.size; have := hA3.out.kp.size; have := hA4.out.kp.size; have := hs1;  have := hs2;  have := hs3;  have := hs4;  have := hs5; omega)).step hP hk)
  have hs6 : w5.heap.size + 0 ≤ w6.heap.size := by have := hk.size; (try simp at this); omega
  have b2' := Lib.hid (hk.blk (b := w.heap.size) (Eq.trans (gbBlk (row := some (w1.heap.size)) (by repeat with_reducible first | exact gbRefl _ _ | apply gbAlloc | apply gbDrew | apply gbSet) (blkLt b2.out) (by simp; omega)) b2.out) (by omega))
  have b3' := Lib.hid (hk.blk (b := w1.heap.size) (Eq.trans (gbBlk (row := none) (by repeat with_reducible first | exact gbRefl _ _ | apply gbAlloc | apply gbDrew | apply gbSet) (by simpa using blkLt b3.out) (by simp)) (set6_5 b3.out)) (by omega))
  clear b2
  have b2 := Lib.hid b2'.out
  clear b2'
  have xb2_6 : w.heap.size < w6.heap.size := blkLt b2.out
  clear b3
  have b3 := Lib.hid b3'.out
  clear b3'
  have xb3_6 : w1.heap.size < w6.heap.size := blkLt b3.out
  have K5' := Lib.hid (KidsR.from (w' := w6) (B' := w4.heap.size + 0) (fun k h1 h2 => (hk.block k (Nat.lt_of_lt_of_le h2 (gbSize (r := some (w1.heap.size)) (by repeat with_reducible first | exact gbRefl _ _ | apply gbAlloc | apply gbDrew | apply gbSet))) (by omega) (by simp)).trans (gbBlk (row := some (w1.heap.size)) (by repeat with_reducible first | exact gbRefl _ _ | apply gbAlloc | apply gbDrew | apply gbSet) h2 (fun e => by cases e; omega))) (Nat.le_refl _) K5.out)
  clear K5
  have K5 := Lib.hid K5'.out
  clear K5'
  have hr6 : C.R < w6.heap.size := hA6.out.ps.RLt
  clear yc yz
  clear hP hk hn
  obtain ⟨⟨a0, a1, a2, a3, a4, a5⟩, d0, d1, d2, d3, d4, d5⟩ := cells6 b2.out
  obtain ⟨⟨f0, f1, f2, f3, f4, f5⟩, e0, e1, e2, e3, e4, e5⟩ := cells6 b3.out
  go_wp2
  refine bodyPost_ret (v := nv (.mk 7 x k 0 (hd (C.l nx)).a ts) A5 c5) (by simp [results, Tryz.results63, go_sem, a0, a1, a2, a3, a4, a5, xb2_6, xb3_6, Nd.kind, Nd.name, Nd.n, Nd.unit, Nd.at0, Nd.kids]) rfl ?_
  exact Out.ret hr.out rfl hn6 ⟨A5, c5, rfl, (KidsR.from (fun k h1 h2 => gbBlk (row := some (w.heap.size)) (by repeat with_reducible first | exact gbRefl _ _ | apply gbAlloc | apply gbDrew | apply gbSet) h2 (fun e => by cases e; omega)) (by omega) K5.out)⟩ ⟨(hA6.out.loc h0.out (b := w.heap.size) (by repeat with_reducible first | exact gbRefl _ _ | apply gbAlloc | apply gbDrew | apply gbSet) (Nat.le_refl _)).ps, (hA6.out.loc h0.out (b := w.heap.size) (by repeat with_reducible first | exact gbRefl _ _ | apply gbAlloc | apply gbDrew | apply gbSet) (Nat.le_refl _)).kp⟩


def psz : Nat → Nat
  | 2 => 3 | 3 => 2 | 4 => 3 | 5 => 1 | 6 => 2 | _ => 0
set_option maxHeartbeats 1000000 in
set_option maxRecDepth 100000 in
theorem policySize_any (n : Nat) (w : World) (h : n ≤ 6) : Calls Tryz.prog 51 #[.int .i64 n] w fun e w' => e = .returned (.int .i64 (psz n : Nat)) ∧ Below w.heap.size w w' := by
  have hn : n = 0 ∨ n = 1 ∨ n = 2 ∨ n = 3 ∨ n = 4 ∨ n = 5 ∨ n = 6 := by omega
  rcases hn with rfl | rfl | rfl | rfl | rfl | rfl | rfl
  all_goals
    go_enter Tryz.func51, Tryz.ntmps51
    go_wp2
    go_ret
    exact ⟨rfl, (Below.refl _ _).alloc (Nat.le_refl _) _⟩

end Go.Proofs.YtdaghppcomckbaaGreatDoor
