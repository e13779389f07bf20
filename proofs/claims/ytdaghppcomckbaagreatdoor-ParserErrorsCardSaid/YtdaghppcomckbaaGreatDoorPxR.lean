/- Texts of one proof: PxR. -/
import Derived.Test.YtdaghppcomckbaaGreatDoorPxQ
/- The parser: assignments, blocks, lists of statements. -/
namespace Go.Proofs.YtdaghppcomckbaaGreatDoor
open Go.RowKit
set_option linter.unusedVariables false
set_option linter.unusedSimpArgs false

def asgM (l : List Tk) : Res Nd := (nameM l).bind fun x l1 => (wordM ⟨#[61]⟩ l1).bind fun _ l2 => (expr1 l2).bind fun t l3 => (wordM ⟨#[59]⟩ l3).bind fun _ l4 => .ok (.mk 10 x 0 0 (hd l).a [t]) l4
def blockM (S : List Tk → Res (List Nd)) (l : List Tk) : Res Nd := (S l).bind fun ts l1 => .ok (.mk 12 ⟨#[]⟩ 0 0 (hd l).a ts) l1
/-- what the reader of statements of the next level answers -/
def SC (C : Cx) (dv : Value) (ds : List (Int × Int)) (level : Nat) (S : List Tk → Res (List Nd)) : Prop :=
  level ≤ 12 → ∀ (wx : World) (n : Nat), PS C wx n dv ds → Calls Tryz.prog 76 #[.pointer (some ⟨C.R, 0, none⟩), .int .i64 ((level : Int) + 1)] wx (Out C n dv ds wx VNds (S (C.l n)))
theorem kids1 {w : World} {P : Nat → Prop} {b : Nat} {t1 : Nd} {A1 : Option Addr} {c1 : Nat} {T : TypeId} (h : w.heap[b]? = some (.cells #[.int .i64 t1.kind, .string t1.name, .int .i64 t1.n, .int .i64 t1.unit, .int .i64 t1.at0, .slice A1 t1.kids.length (t1.kids.length + c1)] T (0, 0)))
    (hP : P b) (k1 : KidsR w P t1.kids A1) : KidsR w P [t1] (some ⟨b, 0, none⟩) := by
  refine RowsR.kids hP [t1] (nCells t1 A1 c1) 0 (RowsR.one t1 A1 c1 k1) (fun j u hu => ?_)
  rw [Nat.zero_add, cell_of_row _ _ j _ _ (0, 0) h]
  rw [← hu]
  simp [nCells]

set_option maxHeartbeats 2000000 in
set_option maxRecDepth 100000 in
theorem block_any (C : Cx) (w : World) (nx : Nat) (dv : Value) (ds : List (Int × Int)) (level : Nat) (S : List Tk → Res (List Nd)) (hS : SC C dv ds level S) (hl12 : level ≤ 12) (h : PS C w nx dv ds) (hds : ds.length ≤ 100) :
    Calls Tryz.prog 101 #[.pointer (some ⟨C.R, 0, none⟩), .int .i64 level] w (Out C nx dv ds w VNd (blockM S (C.l nx))) := by
  have h0 := Lib.hid h
  have hR0 := h.RLt
  have hA0 := Lib.hid (At.start h)
  have hn0 : nx ≤ nx := Nat.le_refl _
  obtain ⟨r, hr⟩ : ∃ r, blockM S (C.l nx) = r := ⟨_, rfl⟩
  rw [hr]
  have f3 := tfield3
  have hSH := Lib.hid hS
  clear hS
  unfold blockM at hr
  have hrH := Lib.hid hr
  clear hr h
  have hr := Lib.hid hrH.out
  clear hrH
  go_enter Tryz.func101, Tryz.ntmps101
  go_wp2_with fail
  refine (token_any C _ nx dv ds (hA0.out.loc h0.out (b := w.heap.size) (by repeat with_reducible first | exact gbRefl _ _ | apply gbAlloc | apply gbDrew | apply gbSet) (Nat.le_refl _)).ps).mono ?_
  rintro e w1 ⟨rfl, hb⟩
  have hP := (hA0.out.loc h0.out (b := w.heap.size) (by repeat with_reducible first | exact gbRefl _ _ | apply gbAlloc | apply gbDrew | apply gbSet) (Nat.le_refl _)).ps.below hb
  have hk := Below.kp (R := C.R) (o := none) hb
  have nx1_ : True := trivial
  have hA1 := Lib.hid ((hA0.out.loc h0.out (b := w.heap.size) (by repeat with_reducible first | exact gbRefl _ _ | apply gbAlloc | apply gbDrew | apply gbSet) (Nat.le_refl _)).step hP hk)
  have hs1 : w.heap.size + 1 ≤ w1.heap.size := (by have := hk.size; (try simp at this); omega)
  have b2' := Lib.hid (hk.blk (b := w.heap.size) (Eq.trans (gbBlk (row := none) (by repeat with_reducible first | exact gbRefl _ _ | apply gbAlloc | apply gbDrew | apply gbSet) (by simp <;> omega) (by simp)) (newBlk w _ _ (by simp))) (by omega))
  have b2 := Lib.hid b2'.out
  clear b2'
  have xb2_1 : w.heap.size < w1.heap.size := blkLt b2.out
  have hr1 : C.R < w1.heap.size := hA1.out.ps.RLt
  have hn1 := hn0
  clear hb hP hk
  go_wp2_with fail
  refine (hSH.out hl12 _ nx (hA1.out.loc h0.out (b := w.heap.size) (by repeat with_reducible first | exact gbRefl _ _ | apply gbAlloc | apply gbDrew | apply gbSet) (Nat.le_refl _)).ps).mono ?_
  intro e w2 ho
  rcases hm : S (C.l nx) with ⟨ts, l2⟩ | ⟨er, l2⟩
  rotate_left
  · have hre : Hid (Res.err er l2 = r) := by have := hr.out; rw [hm] at this; exact this
    rw [hm] at ho
    clear hm
    obtain ⟨nxe, hle, hne, ⟨T, pv, rfl⟩, ⟨dv', hPe⟩, hke⟩ := ho
    have hF := Lib.hid (Out.fail (V := VNd) hre.out hle hn1 hne ⟨T, pv, rfl⟩ hPe (hA1.out.loc h0.out (b := w.heap.size) (by repeat with_reducible first | exact gbRefl _ _ | apply gbAlloc | apply gbDrew | apply gbSet) (Nat.le_refl _)).kp hke)
    clear hPe hke hle
    go_wp2
    exact ⟨rfl, hF.out⟩
  have hrn := hr.out
  rw [hm, Res.bind_ok] at hrn
  clear hr
  have hr := Lib.hid hrn
  clear hrn
  rw [hm] at ho
  clear hm
  obtain ⟨nx2, v2, hl, hn, rfl, hv, hP, hk⟩ := ho
  obtain ⟨A2, c2, hv, hkd⟩ := hv.kids
  subst hv hl
  have hn2 : nx ≤ nx2 := Nat.le_trans hn1 hn
  have hkdH := Lib.hid hkd
  clear hkd
  have hkd := Lib.hid hkdH.out
  clear hkdH
  have hA2 := Lib.hid ((hA1.out.loc h0.out (b := w.heap.size) (by repeat with_reducible first | exact gbRefl _ _ | apply gbAlloc | apply gbDrew | apply gbSet) (Nat.le_refl _)).step hP hk)
  have hs2 : w1.heap.size + 1 ≤ w2.heap.size := (by have := hk.size; (try simp at this); omega)
  have b2' := Lib.hid (hk.blk (b := w.heap.size) (Eq.trans (gbBlk (row := none) (by repeat with_reducible first | exact gbRefl _ _ | apply gbAlloc | apply gbDrew | apply gbSet) (blkLt b2.out) (by simp)) b2.out) (by omega))
  have b3' := Lib.hid (hk.blk (b := w1.heap.size) (Eq.trans (gbBlk (row := none) (by repeat with_reducible first | exact gbRefl _ _ | apply gbAlloc | apply gbDrew | apply gbSet) (by simp <;> omega) (by simp)) (newBlk w1 _ _ (by simp))) (by omega))
  clear b2
  have b2 := Lib.hid b2'.out
  clear b2'
  have xb2_2 : w.heap.size < w2.heap.size := blkLt b2.out
  have b3 := Lib.hid b3'.out
  clear b3'
  have xb3_2 : w1.heap.size < w2.heap.size := blkLt b3.out
  have hr2 : C.R < w2.heap.size := hA2.out.ps.RLt
  have K2 : Hid (KidsR w2 (From (w1.heap.size + 1)) ts A2) := hkd.out.keep (fun k h1 h2 => ⟨rfl, by unfold From at h1 ⊢; (try simp at h1); omega⟩)
  clear hkd
  clear hP hk hn
  obtain ⟨⟨a0, a1, a2, a3, a4, a5⟩, d0, d1, d2, d3, d4, d5⟩ := cells6 b2.out
  obtain ⟨⟨f0, f1, f2, f3, f4, f5⟩, e0, e1, e2, e3, e4, e5⟩ := cells6 b3.out
  go_wp2
  refine bodyPost_ret (v := nv (.mk 12 ⟨#[]⟩ 0 0 (hd (C.l nx)).a ts) A2 c2) (by simp [results, Tryz.results101, go_sem, a0, a1, a2, a3, a4, a5, f0, f1, f2, f3, f4, f5, xb2_2, xb3_2, Nd.kind, Nd.name, Nd.n, Nd.unit, Nd.at0, Nd.kids]) rfl ?_
  exact Out.ret hr.out rfl hn2 ⟨A2, c2, rfl, (KidsR.from (fun kk h1 h2 => (gbBlk (row := some (w.heap.size)) (by repeat with_reducible first | exact gbRefl _ _ | apply gbAlloc | apply gbDrew | apply gbSet) (by simpa using h2) (fun e => by cases e; omega)).trans (gbBlk (row := some (w1.heap.size)) (gbSet (gbRefl w2 _) : w2.grownBy (w2.setCell ⟨w1.heap.size, 5, none⟩ (.slice A2 ts.length (ts.length + c2))) (some (w1.heap.size))) h2 (fun e => by cases e; omega))) (by omega) K2.out)⟩ ⟨((hA2.out.loc h0.out (b := w1.heap.size) (gbSet (gbRefl w2 _) : w2.grownBy (w2.setCell ⟨w1.heap.size, 5, none⟩ (.slice A2 ts.length (ts.length + c2))) (some (w1.heap.size))) (by have := hA2.out.kp.size; have := hs1; have := hs2; omega)).loc h0.out (b := w.heap.size) (by repeat with_reducible first | exact gbRefl _ _ | apply gbAlloc | apply gbDrew | apply gbSet) (Nat.le_refl _)).ps, ((hA2.out.loc h0.out (b := w1.heap.size) (gbSet (gbRefl w2 _) : w2.grownBy (w2.setCell ⟨w1.heap.size, 5, none⟩ (.slice A2 ts.length (ts.length + c2))) (some (w1.heap.size))) (by have := hA2.out.kp.size; have := hs1; have := hs2; omega)).loc h0.out (b := w.heap.size) (by repeat with_reducible first | exact gbRefl _ _ | apply gbAlloc | apply gbDrew | apply gbSet) (Nat.le_refl _)).kp⟩

set_option maxHeartbeats 2000000 in
set_option maxRecDepth 100000 in
theorem stmt_asg (C : Cx) (w : World) (nx : Nat) (dv : Value) (ds : List (Int × Int)) (level : Nat) (hif : isB ⟨#[105, 102]⟩ (C.l nx) = false) (hl12 : level ≤ 12) (h : PS C w nx dv ds) (hds : ds.length ≤ 100) :
    Calls Tryz.prog 87 #[.pointer (some ⟨C.R, 0, none⟩), .int .i64 level] w (Out C nx dv ds w VNd (asgM (C.l nx))) := by
  have h0 := Lib.hid h
  have hR0 := h.RLt
  have hA0 := Lib.hid (At.start h)
  have hn0 : nx ≤ nx := Nat.le_refl _
  obtain ⟨r, hr⟩ : ∃ r, asgM (C.l nx) = r := ⟨_, rfl⟩
  rw [hr]
  have f3 := tfield3
  have hifH := Lib.hid hif
  clear hif
  unfold asgM at hr
  have hrH := Lib.hid hr
  clear hr h
  have hr := Lib.hid hrH.out
  clear hrH
  go_enter Tryz.func87, Tryz.ntmps87
  have hBq := Lib.hid (hifH.out)
  go_wp2_with fail
  refine (is_any C _ nx dv ds ⟨#[105, 102]⟩ (hA0.out.loc h0.out (b := w.heap.size) (by repeat with_reducible first | exact gbRefl _ _ | apply gbAlloc | apply gbDrew | apply gbSet) (Nat.le_refl _)).ps).mono ?_
  rw [hBq.out]
  rintro e w1 ⟨rfl, hb⟩
  have hP := (hA0.out.loc h0.out (b := w.heap.size) (by repeat with_reducible first | exact gbRefl _ _ | apply gbAlloc | apply gbDrew | apply gbSet) (Nat.le_refl _)).ps.below hb
  have hk := Below.kp (R := C.R) (o := none) hb
  have hA1 := Lib.hid ((hA0.out.loc h0.out (b := w.heap.size) (by repeat with_reducible first | exact gbRefl _ _ | apply gbAlloc | apply gbDrew | apply gbSet) (Nat.le_refl _)).step hP hk)
  have hs1 : w.heap.size + 1 ≤ w1.heap.size := (by have := hk.size; (try simp at this); omega)
  have b2' := Lib.hid (hk.blk (b := w.heap.size) (Eq.trans (gbBlk (row := none) (by repeat with_reducible first | exact gbRefl _ _ | apply gbAlloc | apply gbDrew | apply gbSet) (by simp <;> omega) (by simp)) (newBlk w _ _ (by simp))) (by omega))
  have b2 := Lib.hid b2'.out
  clear b2'
  have xb2_1 : w.heap.size < w1.heap.size := blkLt b2.out
  have hr1 : C.R < w1.heap.size := hA1.out.ps.RLt
  have hn1 := hn0
  clear hb hP hk
  clear hBq
  go_wp2_with fail
  refine (token_any C _ nx dv ds (hA1.out.loc h0.out (b := w.heap.size) (by repeat with_reducible first | exact gbRefl _ _ | apply gbAlloc | apply gbDrew | apply gbSet) (Nat.le_refl _)).ps).mono ?_
  rintro e w2 ⟨rfl, hb⟩
  have hP := (hA1.out.loc h0.out (b := w.heap.size) (by repeat with_reducible first | exact gbRefl _ _ | apply gbAlloc | apply gbDrew | apply gbSet) (Nat.le_refl _)).ps.below hb
  have hk := Below.kp (R := C.R) (o := none) hb
  have hA2 := Lib.hid ((hA1.out.loc h0.out (b := w.heap.size) (by repeat with_reducible first | exact gbRefl _ _ | apply gbAlloc | apply gbDrew | apply gbSet) (Nat.le_refl _)).step hP hk)
  have hs2 : w1.heap.size + 0 ≤ w2.heap.size := (by have := hk.size; (try simp at this); omega)
  have b2' := Lib.hid (hk.blk (b := w.heap.size) (Eq.trans (gbBlk (row := none) (by repeat with_reducible first | exact gbRefl _ _ | apply gbAlloc | apply gbDrew | apply gbSet) (blkLt b2.out) (by simp)) b2.out) (by omega))
  clear b2
  have b2 := Lib.hid b2'.out
  clear b2'
  have xb2_2 : w.heap.size < w2.heap.size := blkLt b2.out
  have hr2 : C.R < w2.heap.size := hA2.out.ps.RLt
  have hn2 := hn1
  clear hb hP hk
  go_wp2_with fail
  refine (name_any C _ nx dv ds (hA2.out.loc h0.out (b := w.heap.size) (by repeat with_reducible first | exact gbRefl _ _ | apply gbAlloc | apply gbDrew | apply gbSet) (Nat.le_refl _)).ps hds).mono ?_
  intro e w3 ho
  rcases hm : nameM (C.l nx) with ⟨x, l3⟩ | ⟨er, l3⟩
  rotate_left
  · have hre : Hid (Res.err er l3 = r) := by have := hr.out; rw [hm] at this; exact this
    rw [hm] at ho
    clear hm
    obtain ⟨nxe, hle, hne, ⟨T, pv, rfl⟩, ⟨dv', hPe⟩, hke⟩ := ho
    have hF := Lib.hid (Out.fail (V := VNd) hre.out hle hn2 hne ⟨T, pv, rfl⟩ hPe (hA2.out.loc h0.out (b := w.heap.size) (by repeat with_reducible first | exact gbRefl _ _ | apply gbAlloc | apply gbDrew | apply gbSet) (Nat.le_refl _)).kp hke)
    clear hPe hke hle
    go_wp2
    exact ⟨rfl, hF.out⟩
  have hrn := hr.out
  rw [hm, Res.bind_ok] at hrn
  clear hr
  have hr := Lib.hid hrn
  clear hrn
  rw [hm] at ho
  clear hm
  obtain ⟨nx3, v3, hl, hn, rfl, hv, hP, hk⟩ := ho
  unfold VStr at hv
  subst hv hl
  have hn3 : nx ≤ nx3 := Nat.le_trans hn2 hn
  have hA3 := Lib.hid ((hA2.out.loc h0.out (b := w.heap.size) (by repeat with_reducible first | exact gbRefl _ _ | apply gbAlloc | apply gbDrew | apply gbSet) (Nat.le_refl _)).step hP hk)
  have hs3 : w2.heap.size + 1 ≤ w3.heap.size := (by have := hk.size; (try simp at this); omega)
  have b2' := Lib.hid (hk.blk (b := w.heap.size) (Eq.trans (gbBlk (row := none) (by repeat with_reducible first | exact gbRefl _ _ | apply gbAlloc | apply gbDrew | apply gbSet) (blkLt b2.out) (by simp)) b2.out) (by omega))
  have b5' := Lib.hid (hk.blk (b := w2.heap.size) (Eq.trans (gbBlk (row := none) (by repeat with_reducible first | exact gbRefl _ _ | apply gbAlloc | apply gbDrew | apply gbSet) (by simp <;> omega) (by simp)) (newBlk w2 _ _ (by simp))) (by omega))
  clear b2
  have b2 := Lib.hid b2'.out
  clear b2'
  have xb2_3 : w.heap.size < w3.heap.size := blkLt b2.out
  have b5 := Lib.hid b5'.out
  clear b5'
  have xb5_3 : w2.heap.size < w3.heap.size := blkLt b5.out
  have hr3 : C.R < w3.heap.size := hA3.out.ps.RLt
  clear hP hk hn
  have yc := (cells6 b5.out).1.2.1
  have yz := (cells6 b5.out).2.2.1
  go_wp2_with fail
  refine (word_any C _ nx3 dv ds ⟨#[61]⟩ (hA3.out.loc h0.out (b := w2.heap.size) (by repeat with_reducible first | exact gbRefl _ _ | apply gbAlloc | apply gbDrew | apply gbSet) (by have := hA3.out.kp.size; have := hA0.out.kp.size; have := hA1.out.kp.size; have := hA2.out.kp.size; have := hA3.out.kp.size; omega)).ps hds (by decide)).mono ?_
  intro e w4 ho
  rcases hm : wordM ⟨#[61]⟩ (C.l nx3) with ⟨⟨⟩, l4⟩ | ⟨er, l4⟩
  rotate_left
  · have hre : Hid (Res.err er l4 = r) := by have := hr.out; rw [hm] at this; exact this
    rw [hm] at ho
    clear hm
    obtain ⟨nxe, hle, hne, ⟨T, pv, rfl⟩, ⟨dv', hPe⟩, hke⟩ := ho
    have hF := Lib.hid (Out.fail (V := VNd) hre.out hle hn3 hne ⟨T, pv, rfl⟩ hPe (hA3.out.loc h0.out (b := w2.heap.size) (by repeat with_reducible first | exact gbRefl _ _ | apply gbAlloc | apply gbDrew | apply gbSet) (by have := hA3.out.kp.size; have := hA0.out.kp.size; have := hA1.out.kp.size; have := hA2.out.kp.size; have := hA3.out.kp.size; omega)).kp hke)
    clear hPe hke hle
    go_wp2
    exact ⟨rfl, hF.out⟩
  have hrn := hr.out
  rw [hm, Res.bind_ok] at hrn
  clear hr
  have hr := Lib.hid hrn
  clear hrn
  rw [hm] at ho
  clear hm
  obtain ⟨nx4, v4, hl, hn, rfl, hv, hP, hk⟩ := ho
  unfold VUnit at hv
  subst hv hl
  have hn4 : nx ≤ nx4 := Nat.le_trans hn3 hn
  have hA4 := Lib.hid ((hA3.out.loc h0.out (b := w2.heap.size) (by repeat with_reducible first | exact gbRefl _ _ | apply gbAlloc | apply gbDrew | apply gbSet) (by have := hA3.out.kp.size; have := hA0.out.kp.size; have := hA1.out.kp.size; have := hA2.out.kp.size; have := hA3.out.kp.size; omega)).step hP hk)
  have hs4 : w3.heap.size + 0 ≤ w4.heap.size := (by have := hk.size; (try simp at this); omega)
  have b2' := Lib.hid (hk.blk (b := w.heap.size) (Eq.trans (gbBlk (row := some (w2.heap.size)) (by repeat with_reducible first | exact gbRefl _ _ | apply gbAlloc | apply gbDrew | apply gbSet) (blkLt b2.out) (by simp; omega)) b2.out) (by omega))
  have b5' := Lib.hid (hk.blk (b := w2.heap.size) (Eq.trans (gbBlk (row := none) (by repeat with_reducible first | exact gbRefl _ _ | apply gbAlloc | apply gbDrew | apply gbSet) (by simpa using blkLt b5.out) (by simp)) (set6_1 b5.out)) (by omega))
  clear b2
  have b2 := Lib.hid b2'.out
  clear b2'
  have xb2_4 : w.heap.size < w4.heap.size := blkLt b2.out
  clear b5
  have b5 := Lib.hid b5'.out
  clear b5'
  have xb5_4 : w2.heap.size < w4.heap.size := blkLt b5.out
  have hr4 : C.R < w4.heap.size := hA4.out.ps.RLt
  clear yc yz
  clear hP hk hn
  go_wp2_with fail
  refine (expr1_any C _ nx4 dv ds (hA4.out.loc h0.out (b := w.heap.size) (by repeat with_reducible first | exact gbRefl _ _ | apply gbAlloc | apply gbDrew | apply gbSet) (Nat.le_refl _)).ps hds).mono ?_
  intro e w5 ho
  rcases hm : expr1 (C.l nx4) with ⟨t, l5⟩ | ⟨er, l5⟩
  rotate_left
  · have hre : Hid (Res.err er l5 = r) := by have := hr.out; rw [hm] at this; exact this
    rw [hm] at ho
    clear hm
    obtain ⟨nxe, hle, hne, ⟨T, pv, rfl⟩, ⟨dv', hPe⟩, hke⟩ := ho
    have hF := Lib.hid (Out.fail (V := VNd) hre.out hle hn4 hne ⟨T, pv, rfl⟩ hPe (hA4.out.loc h0.out (b := w.heap.size) (by repeat with_reducible first | exact gbRefl _ _ | apply gbAlloc | apply gbDrew | apply gbSet) (Nat.le_refl _)).kp hke)
    clear hPe hke hle
    go_wp2
    exact ⟨rfl, hF.out⟩
  have hrn := hr.out
  rw [hm, Res.bind_ok] at hrn
  clear hr
  have hr := Lib.hid hrn
  clear hrn
  rw [hm] at ho
  clear hm
  obtain ⟨nx5, v5, hl, hn, rfl, ⟨A5, c5, hv, hkd⟩, hP, hk⟩ := ho
  subst hv hl
  have hn5 : nx ≤ nx5 := Nat.le_trans hn4 hn
  have hkdH := Lib.hid hkd
  clear hkd
  have hkd := Lib.hid hkdH.out
  clear hkdH
  have hA5 := Lib.hid ((hA4.out.loc h0.out (b := w.heap.size) (by repeat with_reducible first | exact gbRefl _ _ | apply gbAlloc | apply gbDrew | apply gbSet) (Nat.le_refl _)).step hP hk)
  have hs5 : w4.heap.size + 0 ≤ w5.heap.size := (by have := hk.size; (try simp at this); omega)
  have b2' := Lib.hid (hk.blk (b := w.heap.size) (Eq.trans (gbBlk (row := none) (by repeat with_reducible first | exact gbRefl _ _ | apply gbAlloc | apply gbDrew | apply gbSet) (blkLt b2.out) (by simp)) b2.out) (by omega))
  have b5' := Lib.hid (hk.blk (b := w2.heap.size) (Eq.trans (gbBlk (row := none) (by repeat with_reducible first | exact gbRefl _ _ | apply gbAlloc | apply gbDrew | apply gbSet) (blkLt b5.out) (by simp)) b5.out) (by omega))
  clear b2
  have b2 := Lib.hid b2'.out
  clear b2'
  have xb2_5 : w.heap.size < w5.heap.size := blkLt b2.out
  clear b5
  have b5 := Lib.hid b5'.out
  clear b5'
  have xb5_5 : w2.heap.size < w5.heap.size := blkLt b5.out
  have hr5 : C.R < w5.heap.size := hA5.out.ps.RLt
  have K5 : Hid (KidsR w5 (From (w4.heap.size + 0)) t.kids A5) := hkd.out.keep (fun k h1 h2 => ⟨rfl, by unfold From at h1 ⊢; (try simp at h1); omega⟩)
  clear hkd
  clear hP hk hn
  have yc := (cells6 b5.out).1.2.2.2.2.2
  have yz := (cells6 b5.out).2.2.2.2.2.2
  go_wp2_with fail
  refine (word_any C _ nx5 dv ds ⟨#[59]⟩ (hA5.out.loc h0.out (b := w2.heap.size) (by repeat with_reducible first | exact gbRefl _ _ | apply gbAlloc | apply gbDrew | apply gbSet) (by have := hA5.out.kp.size; have := hA0.out.kp.size; have := hA1.out.kp.size; have := hA2.out.kp.size; have := hA3.out.kp.size; have := hA4.out.kp.size; have := hA5.out.kp.size; omega)).ps hds (by decide)).mono ?_
  intro e w6 ho
  rcases hm : wordM ⟨#[59]⟩ (C.l nx5) with ⟨⟨⟩, l6⟩ | ⟨er, l6⟩
  rotate_left
  · have hre : Hid (Res.err er l6 = r) := by have := hr.out; rw [hm] at this; exact this
    rw [hm] at ho
    clear hm
    obtain ⟨nxe, hle, hne, ⟨T, pv, rfl⟩, ⟨dv', hPe⟩, hke⟩ := ho
    have hF := Lib.hid (Out.fail (V := VNd) hre.out hle hn5 hne ⟨T, pv, rfl⟩ hPe (hA5.out.loc h0.out (b := w2.heap.size) (by repeat with_reducible first | exact gbRefl _ _ | apply gbAlloc | apply gbDrew | apply gbSet) (by have := hA5.out.kp.size; have := hA0.out.kp.size; have := hA1.out.kp.size; have := hA2.out.kp.size; have := hA3.out.kp.size; have := hA4.out.kp.size; have := hA5.out.kp.size; omega)).kp hke)
    clear hPe hke hle
    go_wp2
    exact ⟨rfl, hF.out⟩
  have hrn := hr.out
  rw [hm, Res.bind_ok] at hrn
  clear hr
  have hr := Lib.hid hrn
  clear hrn
  rw [hm] at ho
  clear hm
  obtain ⟨nx6, v6, hl, hn, rfl, hv, hP, hk⟩ := ho
  unfold VUnit at hv
  subst hv hl
  have hn6 : nx ≤ nx6 := Nat.le_trans hn5 hn
  have hA6 := Lib.hid ((hA5.out.loc h0.out (b := w2.heap.size) (by repeat with_reducible first | exact gbRefl _ _ | apply gbAlloc | apply gbDrew | apply gbSet) (by have := hA5.out.kp.size; have := hA0.out.kp.size; have := hA1.out.kp.size; have := hA2.out.kp.size; have := hA3.out.kp.size; have := hA4.out.kp.size; have := hA5.out.kp.size; omega)).step hP hk)
  have hs6 : w5.heap.size + 1 ≤ w6.heap.size := (by have := hk.size; (try simp at this); omega)
  have b2' := Lib.hid (hk.blk (b := w.heap.size) (Eq.trans (gbBlk (row := some (w2.heap.size)) (by repeat with_reducible first | exact gbRefl _ _ | apply gbAlloc | apply gbDrew | apply gbSet) (blkLt b2.out) (by simp; omega)) b2.out) (by omega))
  have b5' := Lib.hid (hk.blk (b := w2.heap.size) (Eq.trans (gbBlk (row := none) (by repeat with_reducible first | exact gbRefl _ _ | apply gbAlloc | apply gbDrew | apply gbSet) (by simpa using blkLt b5.out) (by simp)) (set6_5 b5.out)) (by omega))
  have b7' := Lib.hid (hk.blk (b := w5.heap.size) (Eq.trans (gbBlk (row := none) (by repeat with_reducible first | exact gbRefl _ _ | apply gbAlloc | apply gbDrew | apply gbSet) (by simp <;> omega) (by simp)) (newBlk (w5.setCell ⟨w2.heap.size, 5, none⟩ _) _ _ (by simp))) (by omega))
  clear b2
  have b2 := Lib.hid b2'.out
  clear b2'
  have xb2_6 : w.heap.size < w6.heap.size := blkLt b2.out
  clear b5
  have b5 := Lib.hid b5'.out
  clear b5'
  have xb5_6 : w2.heap.size < w6.heap.size := blkLt b5.out
  have b7 := Lib.hid b7'.out
  clear b7'
  have xb7_6 : w5.heap.size < w6.heap.size := blkLt b7.out
  have K5' := Lib.hid (KidsR.from (w' := w6) (B' := w4.heap.size + 0) (fun k h1 h2 => (hk.block k (Nat.lt_of_lt_of_le h2 (gbSize (r := some (w2.heap.size)) (by repeat with_reducible first | exact gbRefl _ _ | apply gbAlloc | apply gbDrew | apply gbSet))) (by omega) (by simp)).trans (gbBlk (row := some (w2.heap.size)) (by repeat with_reducible first | exact gbRefl _ _ | apply gbAlloc | apply gbDrew | apply gbSet) h2 (fun e => by cases e; omega))) (Nat.le_refl _) K5.out)
  clear K5
  have K5 := Lib.hid K5'.out
  clear K5'
  have hr6 : C.R < w6.heap.size := hA6.out.ps.RLt
  clear yc yz
  clear hP hk hn
  obtain ⟨⟨a0, a1, a2, a3, a4, a5⟩, d0, d1, d2, d3, d4, d5⟩ := cells6 b2.out
  obtain ⟨⟨f0, f1, f2, f3, f4, f5⟩, e0, e1, e2, e3, e4, e5⟩ := cells6 b5.out
  go_wp2
  refine bodyPost_ret (v := nv (.mk 10 x 0 0 (hd (C.l nx)).a [t]) (some ⟨w5.heap.size, 0, none⟩) 0) (by simp [results, Tryz.results87, go_sem, a0, a1, a2, a3, a4, a5, xb2_6, xb5_6, Nd.kind, Nd.name, Nd.n, Nd.unit, Nd.at0, Nd.kids]) rfl ?_
  exact Out.ret hr.out rfl hn6 ⟨(some ⟨w5.heap.size, 0, none⟩), 0, rfl, (KidsR.from (B := w.heap.size + 1) (fun k h1 h2 => gbBlk (row := some (w.heap.size)) (by repeat with_reducible first | exact gbRefl _ _ | apply gbAlloc | apply gbDrew | apply gbSet) h2 (fun e => by cases e; omega)) (by omega) (kids1 b7.out (by unfold From; omega) (K5.out.keep (fun k h1 h2 => ⟨rfl, by unfold From at h1 ⊢; omega⟩))))⟩ ⟨(hA6.out.loc h0.out (b := w.heap.size) (by repeat with_reducible first | exact gbRefl _ _ | apply gbAlloc | apply gbDrew | apply gbSet) (Nat.le_refl _)).ps, (hA6.out.loc h0.out (b := w.heap.size) (by repeat with_reducible first | exact gbRefl _ _ | apply gbAlloc | apply gbDrew | apply gbSet) (Nat.le_refl _)).kp⟩

end Go.Proofs.YtdaghppcomckbaaGreatDoor
