/- Texts of one proof: PxT. -/
import Derived.Test.YtdaghppcomckbaaGreatDoorPxS
/- The parser: statements of every level. -/
namespace Go.Proofs.YtdaghppcomckbaaGreatDoor
open Go.RowKit
set_option linter.unusedVariables false
set_option linter.unusedSimpArgs false

def ifW : ByteArray := ⟨#[105, 102]⟩
def condR (S : List Tk → Res (List Nd)) (l : List Tk) : Res Nd := (ifM S l).bind fun t l1 => .ok t l1
def stmtM (S : List Tk → Res (List Nd)) (level : Nat) (l : List Tk) : Res Nd :=
  if 12 < level then (if isB ⟨#[105, 102]⟩ l = true ∨ atNameB l = true then .err 2 l else .err 7 l)
  else if isB ⟨#[105, 102]⟩ l = true then condR S l else asgM l

set_option maxHeartbeats 2000000 in
set_option maxRecDepth 100000 in
theorem stmt_if (C : Cx) (w : World) (nx : Nat) (dv : Value) (ds : List (Int × Int)) (level : Nat) (S : List Tk → Res (List Nd)) (hS : SC C dv ds level S) (hif : isB ⟨#[105, 102]⟩ (C.l nx) = true) (hl12 : level ≤ 12) (h : PS C w nx dv ds) (hds : ds.length ≤ 100) :
    Calls Tryz.prog 87 #[.pointer (some ⟨C.R, 0, none⟩), .int .i64 level] w (Out C nx dv ds w VNd (condR S (C.l nx))) := by
  have h0 := Lib.hid h
  have hR0 := h.RLt
  have hA0 := Lib.hid (At.start h)
  have hn0 : nx ≤ nx := Nat.le_refl _
  obtain ⟨r, hr⟩ : ∃ r, condR S (C.l nx) = r := ⟨_, rfl⟩
  rw [hr]
  have hSH := Lib.hid hS
  have hifH := Lib.hid hif
  clear hS hif
  unfold condR at hr
  have hrH := Lib.hid hr
  clear hr h
  have hr := Lib.hid hrH.out
  clear hrH
  go_enter Tryz.func87, Tryz.ntmps87
  have hBq := Lib.hid (hifH.out)
  go_wp2_with fail
  refine (is_any C _ nx dv ds ⟨#[105, 102]⟩ (hA0.out.loc h0.out (b := w.heap.size) (by repeat with_reducible first | exact gbRefl _ _ | apply gbAlloc | apply gbDrew | apply gbSet) (Nat.le_refl _)).ps).mono ?_
  rw [hBq.out]
  rintro e w1 ⟨rfl, hb⟩
  have hP := (hA0.out.loc h0.out (b := w.heap.size) (by repeat with_reducible first | exact gbRefl _ _ | apply gbAlloc | apply gbDrew | apply gbSet) (Nat.le_refl _)).ps.below hb
  have hk := Below.kp (R := C.R) (o := none) hb
  have hA1 := Lib.hid ((hA0.out.loc h0.out (b := w.heap.size) (by repeat with_reducible first | exact gbRefl _ _ | apply gbAlloc | apply gbDrew | apply gbSet) (Nat.le_refl _)).step hP hk)
  have hs1 : w.heap.size + 1 ≤ w1.heap.size := (by have := hk.size; (try simp at this); omega)
  have b2' := Lib.hid (hk.blk (b := w.heap.size) (Eq.trans (gbBlk (row := none) (by repeat with_reducible first | exact gbRefl _ _ | apply gbAlloc | apply gbDrew | apply gbSet) (by simp <;> omega) (by simp)) (newBlk w _ _ (by simp))) (by omega))
  have b2 := Lib.hid b2'.out
  clear b2'
  have xb2_1 : w.heap.size < w1.heap.size := blkLt b2.out
  have hr1 : C.R < w1.heap.size := hA1.out.ps.RLt
  have hn1 := hn0
  clear hb hP hk
  clear hBq
  go_wp2_with fail
  refine (condition_any C _ nx dv ds level S hSH.out hl12 (hA1.out.loc h0.out (b := w.heap.size) (by repeat with_reducible first | exact gbRefl _ _ | apply gbAlloc | apply gbDrew | apply gbSet) (Nat.le_refl _)).ps hds).mono ?_
  intro e w2 ho
  rcases hm : ifM S (C.l nx) with ⟨t, l2⟩ | ⟨er, l2⟩
  rotate_left
  · have hre : Hid (Res.err er l2 = r) := by have := hr.out; rw [hm] at this; exact this
    rw [hm] at ho
    clear hm
    obtain ⟨nxe, hle, hne, ⟨T, pv, rfl⟩, ⟨dv', hPe⟩, hke⟩ := ho
    have hF := Lib.hid (Out.fail (V := VNd) hre.out hle hn1 hne ⟨T, pv, rfl⟩ hPe (hA1.out.loc h0.out (b := w.heap.size) (by repeat with_reducible first | exact gbRefl _ _ | apply gbAlloc | apply gbDrew | apply gbSet) (Nat.le_refl _)).kp hke)
    clear hPe hke hle
    go_wp2
    exact ⟨rfl, hF.out⟩
  have hrn := hr.out
  rw [hm, Res.bind_ok] at hrn
  clear hr
  have hr := Lib.hid hrn
  clear hrn
  rw [hm] at ho
  clear hm
  obtain ⟨nx2, v2, hl, hn, rfl, ⟨A2, c2, hv, hkd⟩, hP, hk⟩ := ho
  subst hv hl
  have hn2 : nx ≤ nx2 := Nat.le_trans hn1 hn
  have hkdH := Lib.hid hkd
  clear hkd
  have hkd := Lib.hid hkdH.out
  clear hkdH
  have hA2 := Lib.hid ((hA1.out.loc h0.out (b := w.heap.size) (by repeat with_reducible first | exact gbRefl _ _ | apply gbAlloc | apply gbDrew | apply gbSet) (Nat.le_refl _)).step hP hk)
  have hs2 : w1.heap.size + 0 ≤ w2.heap.size := (by have := hk.size; (try simp at this); omega)
  have b2' := Lib.hid (hk.blk (b := w.heap.size) (Eq.trans (gbBlk (row := none) (by repeat with_reducible first | exact gbRefl _ _ | apply gbAlloc | apply gbDrew | apply gbSet) (blkLt b2.out) (by simp)) b2.out) (by omega))
  clear b2
  have b2 := Lib.hid b2'.out
  clear b2'
  have xb2_2 : w.heap.size < w2.heap.size := blkLt b2.out
  have hr2 : C.R < w2.heap.size := hA2.out.ps.RLt
  have K2 : Hid (KidsR w2 (From (w1.heap.size + 0)) t.kids A2) := hkd.out.keep (fun k h1 h2 => ⟨rfl, by unfold From at h1 ⊢; (try simp at h1); omega⟩)
  clear hkd
  clear hP hk hn
  obtain ⟨⟨a0, a1, a2, a3, a4, a5⟩, d0, d1, d2, d3, d4, d5⟩ := cells6 b2.out
  go_wp2
  refine bodyPost_ret (v := nv (t) A2 c2) (by simp [results, Tryz.results87, go_sem, a0, a1, a2, a3, a4, a5, xb2_2, Nd.kind, Nd.name, Nd.n, Nd.unit, Nd.at0, Nd.kids]) rfl ?_
  exact Out.ret hr.out rfl hn2 ⟨A2, c2, rfl, (KidsR.from (fun k h1 h2 => gbBlk (row := some (w.heap.size)) (by repeat with_reducible first | exact gbRefl _ _ | apply gbAlloc | apply gbDrew | apply gbSet) h2 (fun e => by cases e; omega)) (by omega) K2.out)⟩ ⟨(hA2.out.loc h0.out (b := w.heap.size) (by repeat with_reducible first | exact gbRefl _ _ | apply gbAlloc | apply gbDrew | apply gbSet) (Nat.le_refl _)).ps, (hA2.out.loc h0.out (b := w.heap.size) (by repeat with_reducible first | exact gbRefl _ _ | apply gbAlloc | apply gbDrew | apply gbSet) (Nat.le_refl _)).kp⟩


def err2 (l : List Tk) : Res Nd := .err 2 l
def err7 (l : List Tk) : Res Nd := .err 7 l

set_option maxHeartbeats 2000000 in
set_option maxRecDepth 100000 in
theorem stmt_deep1 (C : Cx) (w : World) (nx : Nat) (dv : Value) (ds : List (Int × Int)) (hif : isB ⟨#[105, 102]⟩ (C.l nx) = true) (h : PS C w nx dv ds) (hds : ds.length ≤ 100) :
    Calls Tryz.prog 87 #[.pointer (some ⟨C.R, 0, none⟩), .int .i64 13] w (Out C nx dv ds w VNd (err2 (C.l nx))) := by
  have h0 := Lib.hid h
  have hR0 := h.RLt
  have hA0 := Lib.hid (At.start h)
  have hn0 : nx ≤ nx := Nat.le_refl _
  obtain ⟨r, hr⟩ : ∃ r, err2 (C.l nx) = r := ⟨_, rfl⟩
  rw [hr]
  have hifH := Lib.hid hif
  clear hif
  unfold err2 at hr
  have hrH := Lib.hid hr
  clear hr h
  have hr := Lib.hid hrH.out
  clear hrH
  go_enter Tryz.func87, Tryz.ntmps87
  have hBq := Lib.hid (hifH.out)
  go_wp2_with fail
  refine (is_any C _ nx dv ds ⟨#[105, 102]⟩ (hA0.out.loc h0.out (b := w.heap.size) (by repeat with_reducible first | exact gbRefl _ _ | apply gbAlloc | apply gbDrew | apply gbSet) (Nat.le_refl _)).ps).mono ?_
  rw [hBq.out]
  rintro e w1 ⟨rfl, hb⟩
  have hP := (hA0.out.loc h0.out (b := w.heap.size) (by repeat with_reducible first | exact gbRefl _ _ | apply gbAlloc | apply gbDrew | apply gbSet) (Nat.le_refl _)).ps.below hb
  have hk := Below.kp (R := C.R) (o := none) hb
  have hA1 := Lib.hid ((hA0.out.loc h0.out (b := w.heap.size) (by repeat with_reducible first | exact gbRefl _ _ | apply gbAlloc | apply gbDrew | apply gbSet) (Nat.le_refl _)).step hP hk)
  have hs1 : w.heap.size + 1 ≤ w1.heap.size := (by have := hk.size; (try simp at this); omega)
  have b2' := Lib.hid (hk.blk (b := w.heap.size) (Eq.trans (gbBlk (row := none) (by repeat with_reducible first | exact gbRefl _ _ | apply gbAlloc | apply gbDrew | apply gbSet) (by simp <;> omega) (by simp)) (newBlk w _ _ (by simp))) (by omega))
  have b2 := Lib.hid b2'.out
  clear b2'
  have xb2_1 : w.heap.size < w1.heap.size := blkLt b2.out
  have hr1 : C.R < w1.heap.size := hA1.out.ps.RLt
  have hn1 := hn0
  clear hb hP hk
  clear hBq
  have hF := Lib.hid (fail_any C w1 nx dv ds 2 hA1.out.ps hds)
  go_wp2_with fail
  refine hF.out.mono ?_
  rintro e we ⟨⟨T, pv, rfl⟩, ⟨dv', hd'⟩, hk⟩
  have hO := Lib.hid (Out.fail (r := Res.err 2 (C.l nx)) (V := VNd) rfl rfl hn1 (Nat.le_refl _) ⟨T, pv, rfl⟩ hd' hA1.out.kp hk)
  clear hd' hk
  go_wp2
  exact ⟨rfl, hr.out ▸ hO.out⟩

set_option maxHeartbeats 2000000 in
set_option maxRecDepth 100000 in
theorem stmt_deep2 (C : Cx) (w : World) (nx : Nat) (dv : Value) (ds : List (Int × Int)) (hif : isB ⟨#[105, 102]⟩ (C.l nx) = false) (hn1 : atNameB (C.l nx) = true) (h : PS C w nx dv ds) (hds : ds.length ≤ 100) :
    Calls Tryz.prog 87 #[.pointer (some ⟨C.R, 0, none⟩), .int .i64 13] w (Out C nx dv ds w VNd (err2 (C.l nx))) := by
  have h0 := Lib.hid h
  have hR0 := h.RLt
  have hA0 := Lib.hid (At.start h)
  have hn0 : nx ≤ nx := Nat.le_refl _
  obtain ⟨r, hr⟩ : ∃ r, err2 (C.l nx) = r := ⟨_, rfl⟩
  rw [hr]
  have hifH := Lib.hid hif
  have hn1H := Lib.hid hn1
  clear hif hn1
  unfold err2 at hr
  have hrH := Lib.hid hr
  clear hr h
  have hr := Lib.hid hrH.out
  clear hrH
  go_enter Tryz.func87, Tryz.ntmps87
  have hBq := Lib.hid (hifH.out)
  go_wp2_with fail
  refine (is_any C _ nx dv ds ⟨#[105, 102]⟩ (hA0.out.loc h0.out (b := w.heap.size) (by repeat with_reducible first | exact gbRefl _ _ | apply gbAlloc | apply gbDrew | apply gbSet) (Nat.le_refl _)).ps).mono ?_
  rw [hBq.out]
  rintro e w1 ⟨rfl, hb⟩
  have hP := (hA0.out.loc h0.out (b := w.heap.size) (by repeat with_reducible first | exact gbRefl _ _ | apply gbAlloc | apply gbDrew | apply gbSet) (Nat.le_refl _)).ps.below hb
  have hk := Below.kp (R := C.R) (o := none) hb
  have hA1 := Lib.hid ((hA0.out.loc h0.out (b := w.heap.size) (by repeat with_reducible first | exact gbRefl _ _ | apply gbAlloc | apply gbDrew | apply gbSet) (Nat.le_refl _)).step hP hk)
  have hs1 : w.heap.size + 1 ≤ w1.heap.size := (by have := hk.size; (try simp at this); omega)
  have b2' := Lib.hid (hk.blk (b := w.heap.size) (Eq.trans (gbBlk (row := none) (by repeat with_reducible first | exact gbRefl _ _ | apply gbAlloc | apply gbDrew | apply gbSet) (by simp <;> omega) (by simp)) (newBlk w _ _ (by simp))) (by omega))
  have b2 := Lib.hid b2'.out
  clear b2'
  have xb2_1 : w.heap.size < w1.heap.size := blkLt b2.out
  have hr1 : C.R < w1.heap.size := hA1.out.ps.RLt
  have hn1 := hn0
  clear hb hP hk
  clear hBq
  have hBq := Lib.hid (hn1H.out)
  go_wp2_with fail
  refine (atName_any C _ nx dv ds (hA1.out.loc h0.out (b := w.heap.size) (by repeat with_reducible first | exact gbRefl _ _ | apply gbAlloc | apply gbDrew | apply gbSet) (Nat.le_refl _)).ps).mono ?_
  rw [hBq.out]
  rintro e w2 ⟨rfl, hb⟩
  have hP := (hA1.out.loc h0.out (b := w.heap.size) (by repeat with_reducible first | exact gbRefl _ _ | apply gbAlloc | apply gbDrew | apply gbSet) (Nat.le_refl _)).ps.below hb
  have hk := Below.kp (R := C.R) (o := none) hb
  have hA2 := Lib.hid ((hA1.out.loc h0.out (b := w.heap.size) (by repeat with_reducible first | exact gbRefl _ _ | apply gbAlloc | apply gbDrew | apply gbSet) (Nat.le_refl _)).step hP hk)
  have hs2 : w1.heap.size + 0 ≤ w2.heap.size := (by have := hk.size; (try simp at this); omega)
  have b2' := Lib.hid (hk.blk (b := w.heap.size) (Eq.trans (gbBlk (row := none) (by repeat with_reducible first | exact gbRefl _ _ | apply gbAlloc | apply gbDrew | apply gbSet) (blkLt b2.out) (by simp)) b2.out) (by omega))
  clear b2
  have b2 := Lib.hid b2'.out
  clear b2'
  have xb2_2 : w.heap.size < w2.heap.size := blkLt b2.out
  have hr2 : C.R < w2.heap.size := hA2.out.ps.RLt
  have hn2 := hn1
  clear hb hP hk
  clear hBq
  have hF := Lib.hid (fail_any C w2 nx dv ds 2 hA2.out.ps hds)
  go_wp2_with fail
  refine hF.out.mono ?_
  rintro e we ⟨⟨T, pv, rfl⟩, ⟨dv', hd'⟩, hk⟩
  have hO := Lib.hid (Out.fail (r := Res.err 2 (C.l nx)) (V := VNd) rfl rfl hn2 (Nat.le_refl _) ⟨T, pv, rfl⟩ hd' hA2.out.kp hk)
  clear hd' hk
  go_wp2
  exact ⟨rfl, hr.out ▸ hO.out⟩

set_option maxHeartbeats 2000000 in
set_option maxRecDepth 100000 in
theorem stmt_deep3 (C : Cx) (w : World) (nx : Nat) (dv : Value) (ds : List (Int × Int)) (hif : isB ⟨#[105, 102]⟩ (C.l nx) = false) (hn1 : atNameB (C.l nx) = false) (h : PS C w nx dv ds) (hds : ds.length ≤ 100) :
    Calls Tryz.prog 87 #[.pointer (some ⟨C.R, 0, none⟩), .int .i64 13] w (Out C nx dv ds w VNd (err7 (C.l nx))) := by
  have h0 := Lib.hid h
  have hR0 := h.RLt
  have hA0 := Lib.hid (At.start h)
  have hn0 : nx ≤ nx := Nat.le_refl _
  obtain ⟨r, hr⟩ : ∃ r, err7 (C.l nx) = r := ⟨_, rfl⟩
  rw [hr]
  have f3 := tfield3
  have hifH := Lib.hid hif
  have hn1H := Lib.hid hn1
  have hnm := Lib.hid (show nameM (C.l nx) = .err 7 (C.l nx) by unfold nameM; rw [hn1]; rfl)
  clear hif hn1
  unfold err7 at hr
  have hrH := Lib.hid hr
  clear hr h
  have hr := Lib.hid hrH.out
  clear hrH
  go_enter Tryz.func87, Tryz.ntmps87
  have hBq := Lib.hid (hifH.out)
  go_wp2_with fail
  refine (is_any C _ nx dv ds ⟨#[105, 102]⟩ (hA0.out.loc h0.out (b := w.heap.size) (by repeat with_reducible first | exact gbRefl _ _ | apply gbAlloc | apply gbDrew | apply gbSet) (Nat.le_refl _)).ps).mono ?_
  rw [hBq.out]
  rintro e w1 ⟨rfl, hb⟩
  have hP := (hA0.out.loc h0.out (b := w.heap.size) (by repeat with_reducible first | exact gbRefl _ _ | apply gbAlloc | apply gbDrew | apply gbSet) (Nat.le_refl _)).ps.below hb
  have hk := Below.kp (R := C.R) (o := none) hb
  have hA1 := Lib.hid ((hA0.out.loc h0.out (b := w.heap.size) (by repeat with_reducible first | exact gbRefl _ _ | apply gbAlloc | apply gbDrew | apply gbSet) (Nat.le_refl _)).step hP hk)
  have hs1 : w.heap.size + 1 ≤ w1.heap.size := (by have := hk.size; (try simp at this); omega)
  have b2' := Lib.hid (hk.blk (b := w.heap.size) (Eq.trans (gbBlk (row := none) (by repeat with_reducible first | exact gbRefl _ _ | apply gbAlloc | apply gbDrew | apply gbSet) (by simp <;> omega) (by simp)) (newBlk w _ _ (by simp))) (by omega))
  have b2 := Lib.hid b2'.out
  clear b2'
  have xb2_1 : w.heap.size < w1.heap.size := blkLt b2.out
  have hr1 : C.R < w1.heap.size := hA1.out.ps.RLt
  have hn1 := hn0
  clear hb hP hk
  clear hBq
  have hBq := Lib.hid (hn1H.out)
  go_wp2_with fail
  refine (atName_any C _ nx dv ds (hA1.out.loc h0.out (b := w.heap.size) (by repeat with_reducible first | exact gbRefl _ _ | apply gbAlloc | apply gbDrew | apply gbSet) (Nat.le_refl _)).ps).mono ?_
  rw [hBq.out]
  rintro e w2 ⟨rfl, hb⟩
  have hP := (hA1.out.loc h0.out (b := w.heap.size) (by repeat with_reducible first | exact gbRefl _ _ | apply gbAlloc | apply gbDrew | apply gbSet) (Nat.le_refl _)).ps.below hb
  have hk := Below.kp (R := C.R) (o := none) hb
  have hA2 := Lib.hid ((hA1.out.loc h0.out (b := w.heap.size) (by repeat with_reducible first | exact gbRefl _ _ | apply gbAlloc | apply gbDrew | apply gbSet) (Nat.le_refl _)).step hP hk)
  have hs2 : w1.heap.size + 0 ≤ w2.heap.size := (by have := hk.size; (try simp at this); omega)
  have b2' := Lib.hid (hk.blk (b := w.heap.size) (Eq.trans (gbBlk (row := none) (by repeat with_reducible first | exact gbRefl _ _ | apply gbAlloc | apply gbDrew | apply gbSet) (blkLt b2.out) (by simp)) b2.out) (by omega))
  clear b2
  have b2 := Lib.hid b2'.out
  clear b2'
  have xb2_2 : w.heap.size < w2.heap.size := blkLt b2.out
  have hr2 : C.R < w2.heap.size := hA2.out.ps.RLt
  have hn2 := hn1
  clear hb hP hk
  clear hBq
  have hBq := Lib.hid (hifH.out)
  go_wp2_with fail
  refine (is_any C _ nx dv ds ⟨#[105, 102]⟩ (hA2.out.loc h0.out (b := w.heap.size) (by repeat with_reducible first | exact gbRefl _ _ | apply gbAlloc | apply gbDrew | apply gbSet) (Nat.le_refl _)).ps).mono ?_
  rw [hBq.out]
  rintro e w3 ⟨rfl, hb⟩
  have hP := (hA2.out.loc h0.out (b := w.heap.size) (by repeat with_reducible first | exact gbRefl _ _ | apply gbAlloc | apply gbDrew | apply gbSet) (Nat.le_refl _)).ps.below hb
  have hk := Below.kp (R := C.R) (o := none) hb
  have hA3 := Lib.hid ((hA2.out.loc h0.out (b := w.heap.size) (by repeat with_reducible first | exact gbRefl _ _ | apply gbAlloc | apply gbDrew | apply gbSet) (Nat.le_refl _)).step hP hk)
  have hs3 : w2.heap.size + 0 ≤ w3.heap.size := (by have := hk.size; (try simp at this); omega)
  have b2' := Lib.hid (hk.blk (b := w.heap.size) (Eq.trans (gbBlk (row := none) (by repeat with_reducible first | exact gbRefl _ _ | apply gbAlloc | apply gbDrew | apply gbSet) (blkLt b2.out) (by simp)) b2.out) (by omega))
  clear b2
  have b2 := Lib.hid b2'.out
  clear b2'
  have xb2_3 : w.heap.size < w3.heap.size := blkLt b2.out
  have hr3 : C.R < w3.heap.size := hA3.out.ps.RLt
  have hn3 := hn2
  clear hb hP hk
  clear hBq
  go_wp2_with fail
  refine (token_any C _ nx dv ds (hA3.out.loc h0.out (b := w.heap.size) (by repeat with_reducible first | exact gbRefl _ _ | apply gbAlloc | apply gbDrew | apply gbSet) (Nat.le_refl _)).ps).mono ?_
  rintro e w4 ⟨rfl, hb⟩
  have hP := (hA3.out.loc h0.out (b := w.heap.size) (by repeat with_reducible first | exact gbRefl _ _ | apply gbAlloc | apply gbDrew | apply gbSet) (Nat.le_refl _)).ps.below hb
  have hk := Below.kp (R := C.R) (o := none) hb
  have hA4 := Lib.hid ((hA3.out.loc h0.out (b := w.heap.size) (by repeat with_reducible first | exact gbRefl _ _ | apply gbAlloc | apply gbDrew | apply gbSet) (Nat.le_refl _)).step hP hk)
  have hs4 : w3.heap.size + 0 ≤ w4.heap.size := (by have := hk.size; (try simp at this); omega)
  have b2' := Lib.hid (hk.blk (b := w.heap.size) (Eq.trans (gbBlk (row := none) (by repeat with_reducible first | exact gbRefl _ _ | apply gbAlloc | apply gbDrew | apply gbSet) (blkLt b2.out) (by simp)) b2.out) (by omega))
  clear b2
  have b2 := Lib.hid b2'.out
  clear b2'
  have xb2_4 : w.heap.size < w4.heap.size := blkLt b2.out
  have hr4 : C.R < w4.heap.size := hA4.out.ps.RLt
  have hn4 := hn3
  clear hb hP hk
  go_wp2_with fail
  refine (name_any C _ nx dv ds (hA4.out.loc h0.out (b := w.heap.size) (by repeat with_reducible first | exact gbRefl _ _ | apply gbAlloc | apply gbDrew | apply gbSet) (Nat.le_refl _)).ps hds).mono ?_
  intro e we ho
  rw [hnm.out] at ho
  obtain ⟨nxe, hle, hne, ⟨T, pv, rfl⟩, ⟨dv', hPe⟩, hke⟩ := ho
  have hO := Lib.hid (Out.fail (V := VNd) hr.out hle hn4 hne ⟨T, pv, rfl⟩ hPe (hA4.out.loc h0.out (b := w.heap.size) (by repeat with_reducible first | exact gbRefl _ _ | apply gbAlloc | apply gbDrew | apply gbSet) (Nat.le_refl _)).kp hke)
  clear hPe hke hle
  go_wp2
  exact ⟨rfl, hO.out⟩


theorem stmt_any (C : Cx) (w : World) (nx : Nat) (dv : Value) (ds : List (Int × Int)) (level : Nat) (S : List Tk → Res (List Nd)) (hS : SC C dv ds level S) (hl : level ≤ 13) (h : PS C w nx dv ds) (hds : ds.length ≤ 100) :
    Calls Tryz.prog 87 #[.pointer (some ⟨C.R, 0, none⟩), .int .i64 level] w (Out C nx dv ds w VNd (stmtM S level (C.l nx))) := by
  unfold stmtM
  by_cases h12 : 12 < level
  · obtain rfl : level = 13 := by omega
    rw [if_pos h12]
    rcases h1 : isB ⟨#[105, 102]⟩ (C.l nx) with _ | _
    · rcases h2 : atNameB (C.l nx) with _ | _
      · rw [if_neg (by simp)]; exact stmt_deep3 C w nx dv ds h1 h2 h hds
      · rw [if_pos (.inr rfl)]; exact stmt_deep2 C w nx dv ds h1 h2 h hds
    · rw [if_pos (.inl rfl)]; exact stmt_deep1 C w nx dv ds h1 h hds
  · rw [if_neg h12]
    rcases h1 : isB ⟨#[105, 102]⟩ (C.l nx) with _ | _
    · rw [if_neg (by simp)]; exact stmt_asg C w nx dv ds level h1 (by omega) h hds
    · rw [if_pos rfl]; exact stmt_if C w nx dv ds level S hS h1 (by omega) h hds

def listF (P : List Tk → Res Nd) : Nat → List Nd → List Tk → Res (List Nd)
  | 0, acc, l => .ok acc l
  | f + 1, acc, l => if isB ⟨#[125]⟩ l = true then .ok acc l else (P l).bind fun t l1 => listF P f (acc ++ [t]) l1
def stmtsM (P : List Tk → Res Nd) (l : List Tk) : Res (List Nd) := (wordM ⟨#[123]⟩ l).bind fun _ l1 => (listF P (l1.length + 1) [] l1).bind fun ts l2 => (wordM ⟨#[125]⟩ l2).bind fun _ l3 => .ok ts l3

set_option maxHeartbeats 2000000 in
set_option maxRecDepth 100000 in
theorem stmts_any (C : Cx) (w : World) (nx : Nat) (dv : Value) (ds : List (Int × Int)) (level : Nat) (P : List Tk → Res Nd)
    (hP : ∀ (wx : World) (n : Nat), PS C wx n dv ds → Calls Tryz.prog 87 #[.pointer (some ⟨C.R, 0, none⟩), .int .i64 level] wx (Out C n dv ds wx VNd (P (C.l n))))
    (hdec : ∀ l t l1, P l = .ok t l1 → l1.length < l.length) (h : PS C w nx dv ds) (hds : ds.length ≤ 100) :
    Calls Tryz.prog 76 #[.pointer (some ⟨C.R, 0, none⟩), .int .i64 level] w (Out C nx dv ds w VNds (stmtsM P (C.l nx))) := by
  have h0 := Lib.hid h
  have hR0 := h.RLt
  have hPH := Lib.hid hP
  have hdecH := Lib.hid hdec
  obtain ⟨i0, hi, hz0, hz1, hz2⟩ := info_parts nodeInfo
  obtain ⟨r, hr⟩ : ∃ r, stmtsM P (C.l nx) = r := ⟨_, rfl⟩
  rw [hr]
  unfold stmtsM at hr
  have HR := Lib.hid hr
  clear hr hP hdec h
  go_enter Tryz.func76, Tryz.ntmps76
  go_wp2_with fail
  refine (word_any C _ nx dv ds ⟨#[123]⟩ h0.out hds (by decide)).mono ?_
  intro e w1 ho
  rcases hm : wordM ⟨#[123]⟩ (C.l nx) with ⟨⟨⟩, l1⟩ | ⟨er, l1⟩
  rotate_left
  · have hre : Hid (Res.err er l1 = r) := by have := HR.out; rw [hm] at this; exact this
    rw [hm] at ho
    clear hm
    obtain ⟨nxe, hle, hne, ⟨T, pv, rfl⟩, ⟨dv', hPe⟩, hke⟩ := ho
    have hF := Lib.hid (Out.fail (V := VNds) hre.out hle (Nat.le_refl _) hne ⟨T, pv, rfl⟩ hPe (Kp.refl _ _ _) hke)
    clear hPe hke hle
    go_wp2
    exact ⟨rfl, hF.out⟩
  have HR1 := HR.out
  rw [hm, Res.bind_ok] at HR1
  rw [hm] at ho
  clear hm HR
  obtain ⟨nx1, v1, hl, hn1, rfl, hv, hP1, hk1⟩ := ho
  unfold VUnit at hv
  subst hv hl
  have HR := Lib.hid HR1
  have hP1 := Lib.hid hP1
  have hk1 := Lib.hid hk1
  clear HR1
  go_wp2
  go_loopg [5] ((C.l nx1).length + 1) (fun gk v wr => ∃ (nx' : Nat) (acc : List Nd), (C.l nx').length < gk ∧ acc.length ≤ nx' ∧ nx' ≤ 3001 ∧ nx ≤ nx' ∧ Hid ((listF P gk acc (C.l nx')).bind (fun ts l2 => (wordM ⟨#[125]⟩ l2).bind fun _ l3 => .ok ts l3) = r) ∧ Hid (VNds w.heap.size wr v acc) ∧ Hid (PS C wr nx' dv ds) ∧ Hid (Kp C.R none w wr))
  case atStart => exact ⟨nx1, [], by omega, by simp, by have := hP1.out.lt; have := hP1.out.le; omega, hn1, HR.out, VNds.nil _ _, hP1.out, hk1.out⟩
  case round =>
    obtain ⟨nx', acc, hc, hal, hnx, hn, hR, hV, hP, hK⟩ := hrel
    obtain ⟨g, rfl⟩ : ∃ g, gk = g + 1 := ⟨gk - 1, by omega⟩
    obtain ⟨Av, cv, rfl⟩ := hV.out.own
    have hA := Lib.hid (is_any C wr nx' dv ds ⟨#[125]⟩ hP.out)
    rcases hcl : isB ⟨#[125]⟩ (C.l nx') with _ | _
    · have hR1 : Hid (((P (C.l nx')).bind fun t l1 => listF P g (acc ++ [t]) l1).bind (fun ts l2 => (wordM ⟨#[125]⟩ l2).bind fun _ l3 => .ok ts l3) = r) := by have := hR.out; rw [listF, if_neg (by rw [hcl]; decide)] at this; exact this
      have hclH := Lib.hid hcl
      clear hcl
      go_wp2_with fail
      refine hA.out.mono ?_
      rw [hclH.out]
      rintro e w2 ⟨rfl, hb2⟩
      have hb2 := Lib.hid hb2
      have hS := Lib.hid (hPH.out w2 nx' (hP.out.below hb2.out))
      rcases hm : P (C.l nx') with ⟨t, l⟩ | ⟨er, l⟩
      · have hR2 : Hid ((listF P g (acc ++ [t]) l).bind (fun ts l2 => (wordM ⟨#[125]⟩ l2).bind fun _ l3 => .ok ts l3) = r) := by have := hR1.out; rw [hm] at this; exact this
        have hlt := Lib.hid (hdecH.out _ _ _ hm)
        have hm := Lib.hid hm
        go_wp2_with fail
        refine hS.out.mono ?_
        rw [hm.out]
        rintro e w3 ⟨nx2, v2, hl2, hn2, rfl, ⟨A, c, rfl, hkd⟩, hP2, hk2⟩
        subst hl2
        have hKd := Lib.hid hkd
        have hP2 := Lib.hid hP2
        have hk2 := Lib.hid ((Below.kp (R := C.R) (o := none) hb2.out).trans hk2)
        clear hkd
        have hn3 : nx' < nx2 := by have e1 := hlt.out; rw [Cx.llen, Cx.llen] at e1; omega
        have hV1 := Lib.hid (VNds.keep (w' := w3) (fun k h1 h2 => hk2.out.block k h2 (by omega) (by simp)) hV.out)
        have hKd' : Hid (KidsR w3 (From wr.heap.size) t.kids A) := hKd.out.keep (fun k h1 h2 => ⟨rfl, Nat.le_trans hb2.out.size h1⟩)
        obtain ⟨vs, hown, hrows⟩ := hV1.out
        have hrows := Lib.hid hrows
        go_wp2_with (at_builtin; refine wpList_append_lies _ rfl _ _ 23 rfl w.heap.size 25 i0 (.agg zeroNd) 6 72 Tryz.underlying23 hi hz0 hz1 hz2 rfl (by decide) _ _ vs rfl (hown.alloc _) ⟨w3.heap.size, 0, none⟩ 1 1 (nCells t A c) rfl rfl ?c1 ?c2 (by decide) ?c3 ?c4 ?c5 (w3.heap.size + 1) ?c6 ?_)
        case c1 => exact new_cells _ (ndArr t A c) _ _ rfl
        case c2 => exact nd_one t A c
        case c3 => unfold maxLen; omega
        case c4 => omega
        case c5 => have := hK.out.size; have := hk2.out.size; simp; omega
        case c6 => simp
        intro gb cap w4 hown2 hgrow hat hlt2
        have hV2 := Lib.hid (VNds.snoc hown hrows.out hKd'.out (fun k hk => by have := hV.out; obtain ⟨vs', ho', _⟩ := this; exact (ho'.lt k hk).2) hK.out.size hgrow hown2 hat (Nat.lt_succ_self _))
        have hPK := Lib.hid (h0.out.lastR (hK.out.trans hk2.out) hP2.out (gbTrans (gbAlloc (gbRefl _ _)) hgrow) (fun k hk => (hown.lt k hk).1))
        have hlen : (C.l nx2).length < g := by rw [Cx.llen] at hc ⊢; have := hP2.out.lt; omega
        have hnx2 : nx2 ≤ 3001 := by have := hP2.out.lt; have := hP2.out.le; omega
        clear hgrow hown hown2
        go_wp2
        go_roundg g
        case measure => omega
        case rel => exact ⟨nx2, acc ++ [t], hlen, by simp; omega, hnx2, by omega, hR2, hV2, hPK.out.1, hPK.out.2⟩
      · have hR2 : Hid (Res.err er l = r) := by have := hR1.out; rw [hm] at this; exact this
        have hm := Lib.hid hm
        go_wp2_with fail
        refine hS.out.mono ?_
        rw [hm.out]
        rintro e w3 ⟨nx2, hl, hn2, ⟨T, pv, rfl⟩, ⟨dv', hP2⟩, hk2⟩
        have hF := Lib.hid (Out.fail (V := VNds) hR2.out hl hn hn2 ⟨T, pv, rfl⟩ hP2 hK.out ((Below.kp hb2.out).trans hk2))
        clear hP2 hk2 hl
        go_wp2
        exact ⟨rfl, hF.out⟩
    · have hR1 : Hid ((wordM ⟨#[125]⟩ (C.l nx')).bind (fun _ l3 => Res.ok acc l3) = r) := by have := hR.out; rw [listF, if_pos hcl] at this; exact this
      have hclH := Lib.hid hcl
      clear hcl
      go_wp2_with fail
      refine hA.out.mono ?_
      rw [hclH.out]
      rintro e w2 ⟨rfl, hb2⟩
      have hb2 := Lib.hid hb2
      have hW := Lib.hid (word_any C w2 nx' dv ds ⟨#[125]⟩ (hP.out.below hb2.out) hds (by decide))
      rcases hm : wordM ⟨#[125]⟩ (C.l nx') with ⟨⟨⟩, l⟩ | ⟨er, l⟩
      · have hR2 : Hid (Res.ok acc l = r) := by have := hR1.out; rw [hm] at this; exact this
        have hm := Lib.hid hm
        go_wp2_with fail
        refine hW.out.mono ?_
        rw [hm.out]
        rintro e w3 ⟨nx2, v2, hl2, hn2, rfl, hv2, hP2, hk2⟩
        unfold VUnit at hv2
        subst hv2 hl2
        have hk3 := Lib.hid ((Below.kp (R := C.R) (o := none) hb2.out).trans hk2)
        have hV1 := Lib.hid (VNds.keep (w' := w3) (fun k h1 h2 => hk3.out.block k h2 (by omega) (by simp)) hV.out)
        have hF := Lib.hid (Out.list hR2.out (Nat.le_trans hn hn2) hV1.out hP2 (hK.out.trans hk3.out))
        clear hP2 hk2
        go_wp2
        go_ret
        exact hF.out
      · have hR2 : Hid (Res.err er l = r) := by have := hR1.out; rw [hm] at this; exact this
        have hm := Lib.hid hm
        go_wp2_with fail
        refine hW.out.mono ?_
        rw [hm.out]
        rintro e w3 ⟨nx2, hl, hn2, ⟨T, pv, rfl⟩, ⟨dv', hP2⟩, hk2⟩
        have hF := Lib.hid (Out.fail (V := VNds) hR2.out hl hn hn2 ⟨T, pv, rfl⟩ hP2 hK.out ((Below.kp hb2.out).trans hk2))
        clear hP2 hk2 hl
        go_wp2
        exact ⟨rfl, hF.out⟩
end Go.Proofs.YtdaghppcomckbaaGreatDoor
