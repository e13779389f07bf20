/- Texts of one proof: PxS. -/
import Derived.Test.YtdaghppcomckbaaGreatDoorPxR
/- The parser: conditions. -/
namespace Go.Proofs.YtdaghppcomckbaaGreatDoor
open Go.RowKit
set_option linter.unusedVariables false
set_option linter.unusedSimpArgs false

def relWs : List ByteArray := [⟨#[60]⟩, ⟨#[60, 61]⟩, ⟨#[62]⟩, ⟨#[62, 61]⟩, ⟨#[61, 61]⟩, ⟨#[33, 61]⟩]
theorem kids3 {w : World} {P : Nat → Prop} {b : Nat} {t1 t2 t3 : Nd} {A1 A2 A3 : Option Addr} {c1 c2 c3 : Nat} {T : TypeId} (h : w.heap[b]? = some (.cells #[.int .i64 t1.kind, .string t1.name, .int .i64 t1.n, .int .i64 t1.unit, .int .i64 t1.at0, .slice A1 t1.kids.length (t1.kids.length + c1), .int .i64 t2.kind, .string t2.name, .int .i64 t2.n, .int .i64 t2.unit, .int .i64 t2.at0, .slice A2 t2.kids.length (t2.kids.length + c2), .int .i64 t3.kind, .string t3.name, .int .i64 t3.n, .int .i64 t3.unit, .int .i64 t3.at0, .slice A3 t3.kids.length (t3.kids.length + c3)] T (0, 0)))
    (hP : P b) (k1 : KidsR w P t1.kids A1) (k2 : KidsR w P t2.kids A2) (k3 : KidsR w P t3.kids A3) : KidsR w P [t1, t2, t3] (some ⟨b, 0, none⟩) := by
  refine RowsR.kids hP [t1, t2, t3] (nCells t1 A1 c1 ++ (nCells t2 A2 c2 ++ nCells t3 A3 c3)) 0 (RowsR.app (RowsR.app (RowsR.one t3 A3 c3 k3) [t2] _ (RowsR.one t2 A2 c2 k2)) [t1] _ (RowsR.one t1 A1 c1 k1)) (fun j u hu => ?_)
  rw [Nat.zero_add, cell_of_row _ _ j _ _ (0, 0) h]
  rw [← hu]
  simp [nCells]
theorem own3 {w : World} {B b : Nat} {t1 t2 t3 : Nd} {A1 A2 A3 : Option Addr} {c1 c2 c3 : Nat} (h : w.heap[b]? = some (.cells #[.int .i64 t1.kind, .string t1.name, .int .i64 t1.n, .int .i64 t1.unit, .int .i64 t1.at0, .slice A1 t1.kids.length (t1.kids.length + c1), .int .i64 t2.kind, .string t2.name, .int .i64 t2.n, .int .i64 t2.unit, .int .i64 t2.at0, .slice A2 t2.kids.length (t2.kids.length + c2), .int .i64 t3.kind, .string t3.name, .int .i64 t3.n, .int .i64 t3.unit, .int .i64 t3.at0, .slice A3 t3.kids.length (t3.kids.length + c3)] 25 (0, 0)))
    (hB : B ≤ b) (k1 : KidsR w (Beside B (.slice (some ⟨b, 0, none⟩) 3 3)) t1.kids A1) (k2 : KidsR w (Beside B (.slice (some ⟨b, 0, none⟩) 3 3)) t2.kids A2) (k3 : KidsR w (Beside B (.slice (some ⟨b, 0, none⟩) 3 3)) t3.kids A3) : VNds B w (.slice (some ⟨b, 0, none⟩) 3 3) [t1, t2, t3] := by
  refine ⟨nCells t1 A1 c1 ++ (nCells t2 A2 c2 ++ nCells t3 A3 c3), ⟨rfl, .inr ⟨b, 3, _, rfl, hB, h, Nat.le_refl _, by unfold maxLen; decide, rfl, rfl⟩⟩, ?_⟩
  exact RowsR.app (RowsR.app (RowsR.one t3 A3 c3 k3) [t2] _ (RowsR.one t2 A2 c2 k2)) [t1] _ (RowsR.one t1 A1 c1 k1)
theorem kidsOf {B : Nat} {w : World} {A : Option Addr} {n c : Nat} {ts : List Nd} (h : VNds B w (.slice A n c) ts) : KidsR w (From B) ts A := by
  obtain ⟨A', c', e, hk⟩ := h.kids
  cases e
  exact hk
theorem At.locR {C : Cx} {dv : Value} {ds : List (Int × Int)} {w wi cur : World} {n nx : Nat} {row : Option Nat} (a : At C dv ds w wi n) (h0 : PS C w nx dv ds) (hg : wi.grownBy cur row) (hb : ∀ k, row = some k → w.heap.size ≤ k) : At C dv ds w cur n := by
  obtain ⟨h1, h2⟩ := h0.lastR a.kp a.ps hg hb
  exact ⟨h1, h2⟩
def ifM (S : List Tk → Res (List Nd)) (l : List Tk) : Res Nd := (wordM ⟨#[105, 102]⟩ l).bind fun _ l1 => (expr1 l1).bind fun t1 l2 => (choiceM relWs l2).bind fun k l3 => (expr1 l3).bind fun t2 l4 => (blockM S l4).bind fun t3 l5 =>
  if isB ⟨#[101, 108, 115, 101]⟩ l5 = true then (wordM ⟨#[101, 108, 115, 101]⟩ l5).bind fun _ l6 => (blockM S l6).bind fun t4 l7 => .ok (.mk 11 ⟨#[]⟩ (1 + k) 0 (hd l).a [t1, t2, t3, t4]) l7
  else .ok (.mk 11 ⟨#[]⟩ (1 + k) 0 (hd l).a [t1, t2, t3]) l5

set_option maxHeartbeats 8000000 in
set_option maxRecDepth 100000 in
theorem condition_any (C : Cx) (w : World) (nx : Nat) (dv : Value) (ds : List (Int × Int)) (level : Nat) (S : List Tk → Res (List Nd)) (hS : SC C dv ds level S) (hl12 : level ≤ 12) (h : PS C w nx dv ds) (hds : ds.length ≤ 100) :
    Calls Tryz.prog 95 #[.pointer (some ⟨C.R, 0, none⟩), .int .i64 level] w (Out C nx dv ds w VNd (ifM S (C.l nx))) := by
  have h0 := Lib.hid h
  have hR0 := h.RLt
  have hA0 := Lib.hid (At.start h)
  have hn0 : nx ≤ nx := Nat.le_refl _
  obtain ⟨r, hr⟩ : ∃ r, ifM S (C.l nx) = r := ⟨_, rfl⟩
  rw [hr]
  have f3 := tfield3
  have hSH := Lib.hid hS
  clear hS
  unfold ifM at hr
  have hrH := Lib.hid hr
  clear hr h
  have hr := Lib.hid hrH.out
  clear hrH
  go_enter Tryz.func95, Tryz.ntmps95
  go_wp2_with fail
  refine (token_any C _ nx dv ds (hA0.out.loc h0.out (b := w.heap.size) (by repeat with_reducible first | exact gbRefl _ _ | apply gbAlloc | apply gbDrew | apply gbSet) (Nat.le_refl _)).ps).mono ?_
  rintro e w1 ⟨rfl, hb⟩
  have hP := (hA0.out.loc h0.out (b := w.heap.size) (by repeat with_reducible first | exact gbRefl _ _ | apply gbAlloc | apply gbDrew | apply gbSet) (Nat.le_refl _)).ps.below hb
  have hk := Below.kp (R := C.R) (o := none) hb
  have nx1_ : True := trivial
  have hA1 := Lib.hid ((hA0.out.loc h0.out (b := w.heap.size) (by repeat with_reducible first | exact gbRefl _ _ | apply gbAlloc | apply gbDrew | apply gbSet) (Nat.le_refl _)).step hP hk)
  have hs1 : w.heap.size + 1 ≤ w1.heap.size := (by have := hk.size; (try simp at this); omega)
  have b2' := Lib.hid (hk.blk (b := w.heap.size) (Eq.trans (gbBlk (row := none) (by repeat with_reducible first | exact gbRefl _ _ | apply gbAlloc | apply gbDrew | apply gbSet) (by simp <;> omega) (by simp)) (newBlk w _ _ (by simp))) (by omega))
  have b2 := Lib.hid b2'.out
  clear b2'
  have xb2_1 : w.heap.size < w1.heap.size := blkLt b2.out
  have hr1 : C.R < w1.heap.size := hA1.out.ps.RLt
  have hn1 := hn0
  clear hb hP hk
  go_wp2_with fail
  refine (word_any C _ nx dv ds ⟨#[105, 102]⟩ (hA1.out.loc h0.out (b := w.heap.size) (by repeat with_reducible first | exact gbRefl _ _ | apply gbAlloc | apply gbDrew | apply gbSet) (Nat.le_refl _)).ps hds (by decide)).mono ?_
  intro e w2 ho
  rcases hm : wordM ⟨#[105, 102]⟩ (C.l nx) with ⟨⟨⟩, l2⟩ | ⟨er, l2⟩
  rotate_left
  · have hre : Hid (Res.err er l2 = r) := by have := hr.out; rw [hm] at this; exact this
    rw [hm] at ho
    clear hm
    obtain ⟨nxe, hle, hne, ⟨T, pv, rfl⟩, ⟨dv', hPe⟩, hke⟩ := ho
    have hF := Lib.hid (Out.fail (V := VNd) hre.out hle hn1 hne ⟨T, pv, rfl⟩ hPe (hA1.out.loc h0.out (b := w.heap.size) (by repeat with_reducible first | exact gbRefl _ _ | apply gbAlloc | apply gbDrew | apply gbSet) (Nat.le_refl _)).kp hke)
    clear hPe hke hle
    go_wp2
    exact ⟨rfl, hF.out⟩
  have hrn := hr.out
  rw [hm, Res.bind_ok] at hrn
  clear hr
  have hr := Lib.hid hrn
  clear hrn
  rw [hm] at ho
  clear hm
  obtain ⟨nx2, v2, hl, hn, rfl, hv, hP, hk⟩ := ho
  unfold VUnit at hv
  subst hv hl
  have hn2 : nx ≤ nx2 := Nat.le_trans hn1 hn
  have hA2 := Lib.hid ((hA1.out.loc h0.out (b := w.heap.size) (by repeat with_reducible first | exact gbRefl _ _ | apply gbAlloc | apply gbDrew | apply gbSet) (Nat.le_refl _)).step hP hk)
  have hs2 : w1.heap.size + 1 ≤ w2.heap.size := (by have := hk.size; (try simp at this); omega)
  have b2' := Lib.hid (hk.blk (b := w.heap.size) (Eq.trans (gbBlk (row := none) (by repeat with_reducible first | exact gbRefl _ _ | apply gbAlloc | apply gbDrew | apply gbSet) (blkLt b2.out) (by simp)) b2.out) (by omega))
  have b3' := Lib.hid (hk.blk (b := w1.heap.size) (Eq.trans (gbBlk (row := none) (by repeat with_reducible first | exact gbRefl _ _ | apply gbAlloc | apply gbDrew | apply gbSet) (by simp <;> omega) (by simp)) (newBlk w1 _ _ (by simp))) (by omega))
  clear b2
  have b2 := Lib.hid b2'.out
  clear b2'
  have xb2_2 : w.heap.size < w2.heap.size := blkLt b2.out
  have b3 := Lib.hid b3'.out
  clear b3'
  have xb3_2 : w1.heap.size < w2.heap.size := blkLt b3.out
  have hr2 : C.R < w2.heap.size := hA2.out.ps.RLt
  clear hP hk hn
  go_wp2_with fail
  refine (expr1_any C _ nx2 dv ds (hA2.out.loc h0.out (b := w.heap.size) (by repeat with_reducible first | exact gbRefl _ _ | apply gbAlloc | apply gbDrew | apply gbSet) (Nat.le_refl _)).ps hds).mono ?_
  intro e w3 ho
  rcases hm : expr1 (C.l nx2) with ⟨t1, l3⟩ | ⟨er, l3⟩
  rotate_left
  · have hre : Hid (Res.err er l3 = r) := by have := hr.out; rw [hm] at this; exact this
    rw [hm] at ho
    clear hm
    obtain ⟨nxe, hle, hne, ⟨T, pv, rfl⟩, ⟨dv', hPe⟩, hke⟩ := ho
    have hF := Lib.hid (Out.fail (V := VNd) hre.out hle hn2 hne ⟨T, pv, rfl⟩ hPe (hA2.out.loc h0.out (b := w.heap.size) (by repeat with_reducible first | exact gbRefl _ _ | apply gbAlloc | apply gbDrew | apply gbSet) (Nat.le_refl _)).kp hke)
    clear hPe hke hle
    go_wp2
    exact ⟨rfl, hF.out⟩
  have hrn := hr.out
  rw [hm, Res.bind_ok] at hrn
  clear hr
  have hr := Lib.hid hrn
  clear hrn
  rw [hm] at ho
  clear hm
  obtain ⟨nx3, v3, hl, hn, rfl, ⟨A3, c3, hv, hkd⟩, hP, hk⟩ := ho
  subst hv hl
  have hn3 : nx ≤ nx3 := Nat.le_trans hn2 hn
  have hkdH := Lib.hid hkd
  clear hkd
  have hkd := Lib.hid hkdH.out
  clear hkdH
  have hA3 := Lib.hid ((hA2.out.loc h0.out (b := w.heap.size) (by repeat with_reducible first | exact gbRefl _ _ | apply gbAlloc | apply gbDrew | apply gbSet) (Nat.le_refl _)).step hP hk)
  have hs3 : w2.heap.size + 0 ≤ w3.heap.size := (by have := hk.size; (try simp at this); omega)
  have b2' := Lib.hid (hk.blk (b := w.heap.size) (Eq.trans (gbBlk (row := none) (by repeat with_reducible first | exact gbRefl _ _ | apply gbAlloc | apply gbDrew | apply gbSet) (blkLt b2.out) (by simp)) b2.out) (by omega))
  have b3' := Lib.hid (hk.blk (b := w1.heap.size) (Eq.trans (gbBlk (row := none) (by repeat with_reducible first | exact gbRefl _ _ | apply gbAlloc | apply gbDrew | apply gbSet) (blkLt b3.out) (by simp)) b3.out) (by omega))
  clear b2
  have b2 := Lib.hid b2'.out
  clear b2'
  have xb2_3 : w.heap.size < w3.heap.size := blkLt b2.out
  clear b3
  have b3 := Lib.hid b3'.out
  clear b3'
  have xb3_3 : w1.heap.size < w3.heap.size := blkLt b3.out
  have hr3 : C.R < w3.heap.size := hA3.out.ps.RLt
  have K3 : Hid (KidsR w3 (From (w2.heap.size + 0)) t1.kids A3) := hkd.out.keep (fun k h1 h2 => ⟨rfl, by unfold From at h1 ⊢; (try simp at h1); omega⟩)
  clear hkd
  clear hP hk hn
  go_wp2_with fail
  refine (choice_any C _ nx3 dv ds (w3.heap.size + 1) 6 relWs (hA3.out.loc h0.out (b := w.heap.size) (by repeat with_reducible first | exact gbRefl _ _ | apply gbAlloc | apply gbDrew | apply gbSet) (Nat.le_refl _)).ps (new_strsE _ _ _ _ rfl _ (by simp)) (by simp) (by decide) hds (idxNe _ (by decide))).mono ?_
  intro e w4 ho
  rcases hm : choiceM relWs (C.l nx3) with ⟨k, l4⟩ | ⟨er, l4⟩
  rotate_left
  · have hre : Hid (Res.err er l4 = r) := by have := hr.out; rw [hm] at this; exact this
    rw [hm] at ho
    clear hm
    obtain ⟨nxe, hle, hne, ⟨T, pv, rfl⟩, ⟨dv', hPe⟩, hke⟩ := ho
    have hF := Lib.hid (Out.fail (V := VNd) hre.out hle hn3 hne ⟨T, pv, rfl⟩ hPe (hA3.out.loc h0.out (b := w.heap.size) (by repeat with_reducible first | exact gbRefl _ _ | apply gbAlloc | apply gbDrew | apply gbSet) (Nat.le_refl _)).kp hke)
    clear hPe hke hle
    go_wp2
    exact ⟨rfl, hF.out⟩
  have hrn := hr.out
  rw [hm, Res.bind_ok] at hrn
  clear hr
  have hr := Lib.hid hrn
  clear hrn
  have hk0_k : 0 ≤ k := (choiceM_bd hm).1; have hk1_k : k < 6 := (choiceM_bd hm).2
  rw [hm] at ho
  clear hm
  obtain ⟨nx4, v4, hl, hn, rfl, hv, hP, hk⟩ := ho
  unfold VInt at hv
  subst hv hl
  have hn4 : nx ≤ nx4 := Nat.le_trans hn3 hn
  have hA4 := Lib.hid ((hA3.out.loc h0.out (b := w.heap.size) (by repeat with_reducible first | exact gbRefl _ _ | apply gbAlloc | apply gbDrew | apply gbSet) (Nat.le_refl _)).step hP hk)
  have hs4 : w3.heap.size + 2 ≤ w4.heap.size := (by have := hk.size; (try simp at this); omega)
  have b2' := Lib.hid (hk.blk (b := w.heap.size) (Eq.trans (gbBlk (row := none) (by repeat with_reducible first | exact gbRefl _ _ | apply gbAlloc | apply gbDrew | apply gbSet) (blkLt b2.out) (by simp)) b2.out) (by omega))
  have b3' := Lib.hid (hk.blk (b := w1.heap.size) (Eq.trans (gbBlk (row := none) (by repeat with_reducible first | exact gbRefl _ _ | apply gbAlloc | apply gbDrew | apply gbSet) (blkLt b3.out) (by simp)) b3.out) (by omega))
  have b6' := Lib.hid (hk.blk (b := w3.heap.size) (Eq.trans (gbBlk (row := none) (by repeat with_reducible first | exact gbRefl _ _ | apply gbAlloc | apply gbDrew | apply gbSet) (by simp <;> omega) (by simp)) (newBlk w3 _ _ (by simp))) (by omega))
  clear b2
  have b2 := Lib.hid b2'.out
  clear b2'
  have xb2_4 : w.heap.size < w4.heap.size := blkLt b2.out
  clear b3
  have b3 := Lib.hid b3'.out
  clear b3'
  have xb3_4 : w1.heap.size < w4.heap.size := blkLt b3.out
  have b6 := Lib.hid b6'.out
  clear b6'
  have xb6_4 : w3.heap.size < w4.heap.size := blkLt b6.out
  have K3' := Lib.hid (KidsR.from (w' := w4) (B' := w2.heap.size + 0) (fun k h1 h2 => (hk.block k (Nat.lt_of_lt_of_le h2 (gbSize (r := none) (by repeat with_reducible first | exact gbRefl _ _ | apply gbAlloc | apply gbDrew | apply gbSet))) (by omega) (by simp)).trans (gbBlk (row := none) (by repeat with_reducible first | exact gbRefl _ _ | apply gbAlloc | apply gbDrew | apply gbSet) h2 (by simp))) (Nat.le_refl _) K3.out)
  clear K3
  have K3 := Lib.hid K3'.out
  clear K3'
  have hr4 : C.R < w4.heap.size := hA4.out.ps.RLt
  clear hP hk hn
  have yc := (cells6 b3.out).1.2.2.1
  have yz := (cells6 b3.out).2.2.2.1
  obtain ⟨⟨q00, q01, q02, q03, q04, q05⟩, -⟩ := cells6 b6.out
  rcases hm : expr1 (C.l nx4) with ⟨t2, l5⟩ | ⟨er, l5⟩
  rotate_left
  · have hre : Hid (Res.err er l5 = r) := by have := hr.out; rw [hm] at this; exact this
    have hmE := Lib.hid hm
    clear hm
    go_wp2_with fail
    go_region_with (go_at_call 96; refine (expr1_any C _ nx4 dv ds (hA4.out.loc h0.out (b := w1.heap.size) (by repeat with_reducible first | exact gbRefl _ _ | apply gbAlloc | apply gbDrew | apply gbSet) (by have := hA4.out.kp.size; have := hA0.out.kp.size; have := hA1.out.kp.size; have := hA2.out.kp.size; have := hA3.out.kp.size; have := hA4.out.kp.size; omega)).ps hds).mono ?_; intro e we ho; rw [hmE.out] at ho; obtain ⟨nxe, hle, hne, ⟨T, pv, rfl⟩, ⟨dv', hPe⟩, hke⟩ := ho; suffices hz : wpAny Tryz.prog .any #[] (fun _ _ _ => True) 0 #[] ⟨#[], []⟩ we from ⟨rfl, Out.fail (V := VNd) hre.out hle hn4 hne ⟨T, pv, rfl⟩ hPe (hA4.out.loc h0.out (b := w1.heap.size) (by repeat with_reducible first | exact gbRefl _ _ | apply gbAlloc | apply gbDrew | apply gbSet) (by have := hA4.out.kp.size; have := hA0.out.kp.size; have := hA1.out.kp.size; have := hA2.out.kp.size; have := hA3.out.kp.size; have := hA4.out.kp.size; omega)).kp hke⟩)
    all_goals trivial
  have hrn := hr.out
  rw [hm, Res.bind_ok] at hrn
  clear hr
  have hr := Lib.hid hrn
  clear hrn
  have hmA := Lib.hid hm
  clear hm
  rcases hm : blockM S l5 with ⟨t3, l6⟩ | ⟨er, l6⟩
  rotate_left
  · have hre : Hid (Res.err er l6 = r) := by have := hr.out; rw [hm] at this; exact this
    have hmE := Lib.hid hm
    clear hm
    go_wp2_with fail
    go_region_with (first | (go_at_call 96; refine (expr1_any C _ nx4 dv ds (hA4.out.loc h0.out (b := w1.heap.size) (by repeat with_reducible first | exact gbRefl _ _ | apply gbAlloc | apply gbDrew | apply gbSet) (by have := hA4.out.kp.size; have := hA0.out.kp.size; have := hA1.out.kp.size; have := hA2.out.kp.size; have := hA3.out.kp.size; have := hA4.out.kp.size; omega)).ps hds).mono ?_; intro e w5 ho; rw [hmA.out] at ho; obtain ⟨nx5, v5, hl, hn, rfl, ⟨A5, c5, hv, hkd⟩, hP, hk⟩ := ho; subst hv hl; have hn5 : nx ≤ nx5 := Nat.le_trans hn4 hn; have hkdH := Lib.hid hkd; clear hkd; have hkd := Lib.hid hkdH.out; clear hkdH; have hA5 := Lib.hid ((hA4.out.loc h0.out (b := w1.heap.size) (by repeat with_reducible first | exact gbRefl _ _ | apply gbAlloc | apply gbDrew | apply gbSet) (by have := hA4.out.kp.size; have := hA0.out.kp.size; have := hA1.out.kp.size; have := hA2.out.kp.size; have := hA3.out.kp.size; have := hA4.out.kp.size; omega)).step hP hk); have hs5 : w4.heap.size + 0 ≤ w5.heap.size := (by have := hk.size; (try simp at this); omega); have b2' := Lib.hid (hk.blk (b := w.heap.size) (Eq.trans (gbBlk (row := some (w1.heap.size)) (by repeat with_reducible first | exact gbRefl _ _ | apply gbAlloc | apply gbDrew | apply gbSet) (blkLt b2.out) (by simp; omega)) b2.out) (by omega)); have b3' := Lib.hid (hk.blk (b := w1.heap.size) (Eq.trans (gbBlk (row := none) (by repeat with_reducible first | exact gbRefl _ _ | apply gbAlloc | apply gbDrew | apply gbSet) (by simpa using blkLt b3.out) (by simp)) (set6_2 b3.out)) (by omega)); have b6' := Lib.hid (hk.blk (b := w3.heap.size) (Eq.trans (gbBlk (row := some (w1.heap.size)) (by repeat with_reducible first | exact gbRefl _ _ | apply gbAlloc | apply gbDrew | apply gbSet) (blkLt b6.out) (by simp; omega)) b6.out) (by omega)); clear b2; have b2 := Lib.hid b2'.out; clear b2'; have xb2_5 : w.heap.size < w5.heap.size := blkLt b2.out; clear b3; have b3 := Lib.hid b3'.out; clear b3'; have xb3_5 : w1.heap.size < w5.heap.size := blkLt b3.out; clear b6; have b6 := Lib.hid b6'.out; clear b6'; have xb6_5 : w3.heap.size < w5.heap.size := blkLt b6.out; have K3' := Lib.hid (KidsR.from (w' := w5) (B' := w2.heap.size + 0) (fun k h1 h2 => (hk.block k (Nat.lt_of_lt_of_le h2 (gbSize (r := some (w1.heap.size)) (by repeat with_reducible first | exact gbRefl _ _ | apply gbAlloc | apply gbDrew | apply gbSet))) (by omega) (by simp)).trans (gbBlk (row := some (w1.heap.size)) (by repeat with_reducible first | exact gbRefl _ _ | apply gbAlloc | apply gbDrew | apply gbSet) h2 (fun e => by cases e; omega))) (Nat.le_refl _) K3.out); clear K3; have K3 := Lib.hid K3'.out; clear K3'; have hr5 : C.R < w5.heap.size := hA5.out.ps.RLt; clear yc yz; have K5 : Hid (KidsR w5 (From (w4.heap.size + 0)) t2.kids A5) := hkd.out.keep (fun k h1 h2 => ⟨rfl, by unfold From at h1 ⊢; (try simp at h1); omega⟩); clear hkd hP hk hn; obtain ⟨⟨p00, p01, p02, p03, p04, p05⟩, -⟩ := cells6 b6.out) | (go_at_call 101; refine (block_any C _ nx5 dv ds level S hSH.out hl12 (hA5.out.loc h0.out (b := w.heap.size) (by repeat with_reducible first | exact gbRefl _ _ | apply gbAlloc | apply gbDrew | apply gbSet) (Nat.le_refl _)).ps hds).mono ?_; intro e we ho; rw [hmE.out] at ho; obtain ⟨nxe, hle, hne, ⟨T, pv, rfl⟩, ⟨dv', hPe⟩, hke⟩ := ho; suffices hz : wpAny Tryz.prog .any #[] (fun _ _ _ => True) 0 #[] ⟨#[], []⟩ we from ⟨rfl, Out.fail (V := VNd) hre.out hle hn5 hne ⟨T, pv, rfl⟩ hPe (hA5.out.loc h0.out (b := w.heap.size) (by repeat with_reducible first | exact gbRefl _ _ | apply gbAlloc | apply gbDrew | apply gbSet) (Nat.le_refl _)).kp hke⟩))
    all_goals trivial
  have hrn := hr.out
  rw [hm, Res.bind_ok] at hrn
  clear hr
  have hr := Lib.hid hrn
  clear hrn
  have hmB := Lib.hid hm
  clear hm
  go_wp2_with fail
  go_region_with (first | (go_at_call 96; refine (expr1_any C _ nx4 dv ds (hA4.out.loc h0.out (b := w1.heap.size) (by repeat with_reducible first | exact gbRefl _ _ | apply gbAlloc | apply gbDrew | apply gbSet) (by have := hA4.out.kp.size; have := hA0.out.kp.size; have := hA1.out.kp.size; have := hA2.out.kp.size; have := hA3.out.kp.size; have := hA4.out.kp.size; omega)).ps hds).mono ?_; intro e w5 ho; rw [hmA.out] at ho; obtain ⟨nx5, v5, hl, hn, rfl, ⟨A5, c5, hv, hkd⟩, hP, hk⟩ := ho; subst hv hl; have hn5 : nx ≤ nx5 := Nat.le_trans hn4 hn; have hkdH := Lib.hid hkd; clear hkd; have hkd := Lib.hid hkdH.out; clear hkdH; have hA5 := Lib.hid ((hA4.out.loc h0.out (b := w1.heap.size) (by repeat with_reducible first | exact gbRefl _ _ | apply gbAlloc | apply gbDrew | apply gbSet) (by have := hA4.out.kp.size; have := hA0.out.kp.size; have := hA1.out.kp.size; have := hA2.out.kp.size; have := hA3.out.kp.size; have := hA4.out.kp.size; omega)).step hP hk); have hs5 : w4.heap.size + 0 ≤ w5.heap.size := (by have := hk.size; (try simp at this); omega); have b2' := Lib.hid (hk.blk (b := w.heap.size) (Eq.trans (gbBlk (row := some (w1.heap.size)) (by repeat with_reducible first | exact gbRefl _ _ | apply gbAlloc | apply gbDrew | apply gbSet) (blkLt b2.out) (by simp; omega)) b2.out) (by omega)); have b3' := Lib.hid (hk.blk (b := w1.heap.size) (Eq.trans (gbBlk (row := none) (by repeat with_reducible first | exact gbRefl _ _ | apply gbAlloc | apply gbDrew | apply gbSet) (by simpa using blkLt b3.out) (by simp)) (set6_2 b3.out)) (by omega)); have b6' := Lib.hid (hk.blk (b := w3.heap.size) (Eq.trans (gbBlk (row := some (w1.heap.size)) (by repeat with_reducible first | exact gbRefl _ _ | apply gbAlloc | apply gbDrew | apply gbSet) (blkLt b6.out) (by simp; omega)) b6.out) (by omega)); clear b2; have b2 := Lib.hid b2'.out; clear b2'; have xb2_5 : w.heap.size < w5.heap.size := blkLt b2.out; clear b3; have b3 := Lib.hid b3'.out; clear b3'; have xb3_5 : w1.heap.size < w5.heap.size := blkLt b3.out; clear b6; have b6 := Lib.hid b6'.out; clear b6'; have xb6_5 : w3.heap.size < w5.heap.size := blkLt b6.out; have K3' := Lib.hid (KidsR.from (w' := w5) (B' := w2.heap.size + 0) (fun k h1 h2 => (hk.block k (Nat.lt_of_lt_of_le h2 (gbSize (r := some (w1.heap.size)) (by repeat with_reducible first | exact gbRefl _ _ | apply gbAlloc | apply gbDrew | apply gbSet))) (by omega) (by simp)).trans (gbBlk (row := some (w1.heap.size)) (by repeat with_reducible first | exact gbRefl _ _ | apply gbAlloc | apply gbDrew | apply gbSet) h2 (fun e => by cases e; omega))) (Nat.le_refl _) K3.out); clear K3; have K3 := Lib.hid K3'.out; clear K3'; have hr5 : C.R < w5.heap.size := hA5.out.ps.RLt; clear yc yz; have K5 : Hid (KidsR w5 (From (w4.heap.size + 0)) t2.kids A5) := hkd.out.keep (fun k h1 h2 => ⟨rfl, by unfold From at h1 ⊢; (try simp at h1); omega⟩); clear hkd hP hk hn; obtain ⟨⟨p00, p01, p02, p03, p04, p05⟩, -⟩ := cells6 b6.out) | (go_at_call 101; refine (block_any C _ nx5 dv ds level S hSH.out hl12 (hA5.out.loc h0.out (b := w.heap.size) (by repeat with_reducible first | exact gbRefl _ _ | apply gbAlloc | apply gbDrew | apply gbSet) (Nat.le_refl _)).ps hds).mono ?_; intro e w6 ho; rw [hmB.out] at ho; obtain ⟨nx6, v6, hl, hn, rfl, ⟨A6, c6, hv, hkd⟩, hP, hk⟩ := ho; subst hv hl; have hn6 : nx ≤ nx6 := Nat.le_trans hn5 hn; have hkdH := Lib.hid hkd; clear hkd; have hkd := Lib.hid hkdH.out; clear hkdH; have hA6 := Lib.hid ((hA5.out.loc h0.out (b := w.heap.size) (by repeat with_reducible first | exact gbRefl _ _ | apply gbAlloc | apply gbDrew | apply gbSet) (Nat.le_refl _)).step hP hk); have hs6 : w5.heap.size + 0 ≤ w6.heap.size := (by have := hk.size; (try simp at this); omega); have b2' := Lib.hid (hk.blk (b := w.heap.size) (Eq.trans (gbBlk (row := none) (by repeat with_reducible first | exact gbRefl _ _ | apply gbAlloc | apply gbDrew | apply gbSet) (blkLt b2.out) (by simp)) b2.out) (by omega)); have b3' := Lib.hid (hk.blk (b := w1.heap.size) (Eq.trans (gbBlk (row := none) (by repeat with_reducible first | exact gbRefl _ _ | apply gbAlloc | apply gbDrew | apply gbSet) (blkLt b3.out) (by simp)) b3.out) (by omega)); have b6' := Lib.hid (hk.blk (b := w3.heap.size) (Eq.trans (gbBlk (row := none) (by repeat with_reducible first | exact gbRefl _ _ | apply gbAlloc | apply gbDrew | apply gbSet) (blkLt b6.out) (by simp)) b6.out) (by omega)); clear b2; have b2 := Lib.hid b2'.out; clear b2'; have xb2_6 : w.heap.size < w6.heap.size := blkLt b2.out; clear b3; have b3 := Lib.hid b3'.out; clear b3'; have xb3_6 : w1.heap.size < w6.heap.size := blkLt b3.out; clear b6; have b6 := Lib.hid b6'.out; clear b6'; have xb6_6 : w3.heap.size < w6.heap.size := blkLt b6.out; have K3' := Lib.hid (KidsR.from (w' := w6) (B' := w2.heap.size + 0) (fun k h1 h2 => (hk.block k (Nat.lt_of_lt_of_le h2 (gbSize (r := none) (by repeat with_reducible first | exact gbRefl _ _ | apply gbAlloc | apply gbDrew | apply gbSet))) (by omega) (by simp)).trans (gbBlk (row := none) (by repeat with_reducible first | exact gbRefl _ _ | apply gbAlloc | apply gbDrew | apply gbSet) h2 (by simp))) (Nat.le_refl _) K3.out); clear K3; have K3 := Lib.hid K3'.out; clear K3'; have K5' := Lib.hid (KidsR.from (w' := w6) (B' := w4.heap.size + 0) (fun k h1 h2 => (hk.block k (Nat.lt_of_lt_of_le h2 (gbSize (r := none) (by repeat with_reducible first | exact gbRefl _ _ | apply gbAlloc | apply gbDrew | apply gbSet))) (by omega) (by simp)).trans (gbBlk (row := none) (by repeat with_reducible first | exact gbRefl _ _ | apply gbAlloc | apply gbDrew | apply gbSet) h2 (by simp))) (Nat.le_refl _) K5.out); clear K5; have K5 := Lib.hid K5'.out; clear K5'; have hr6 : C.R < w6.heap.size := hA6.out.ps.RLt; have K6 : Hid (KidsR w6 (From (w5.heap.size + 0)) t3.kids A6) := hkd.out.keep (fun k h1 h2 => ⟨rfl, by unfold From at h1 ⊢; (try simp at h1); omega⟩); clear hkd hP hk hn; obtain ⟨⟨r00, r01, r02, r03, r04, r05⟩, -⟩ := cells6 b6.out; have yc := (cells6 b3.out).1.2.2.2.2.2; have yz := (cells6 b3.out).2.2.2.2.2.2))
  all_goals
    clear q00 q01 q02 q03 q04 q05 p00 p01 p02 p03 p04 p05 r00 r01 r02 r03 r04 r05
    rcases hel : isB ⟨#[101, 108, 115, 101]⟩ (C.l nx6) with _ | _
    · have hrn := hr.out
      rw [if_neg (by rw [hel]; decide)] at hrn
      clear hr
      have hr := Lib.hid hrn
      clear hrn
      have helH := Lib.hid hel
      clear hel
      have hBq := Lib.hid (helH.out)
      go_wp2_with fail
      refine (is_any C _ nx6 dv ds ⟨#[101, 108, 115, 101]⟩ (hA6.out.loc h0.out (b := w1.heap.size) (by repeat with_reducible first | exact gbRefl _ _ | apply gbAlloc | apply gbDrew | apply gbSet) (by have := hA6.out.kp.size; have := hA0.out.kp.size; have := hA1.out.kp.size; have := hA2.out.kp.size; have := hA3.out.kp.size; have := hA4.out.kp.size; have := hA5.out.kp.size; have := hA6.out.kp.size; omega)).ps).mono ?_
      rw [hBq.out]
      rintro e w7 ⟨rfl, hb⟩
      have hP := (hA6.out.loc h0.out (b := w1.heap.size) (by repeat with_reducible first | exact gbRefl _ _ | apply gbAlloc | apply gbDrew | apply gbSet) (by have := hA6.out.kp.size; have := hA0.out.kp.size; have := hA1.out.kp.size; have := hA2.out.kp.size; have := hA3.out.kp.size; have := hA4.out.kp.size; have := hA5.out.kp.size; have := hA6.out.kp.size; omega)).ps.below hb
      have hk := Below.kp (R := C.R) (o := none) hb
      have hA7 := Lib.hid ((hA6.out.loc h0.out (b := w1.heap.size) (by repeat with_reducible first | exact gbRefl _ _ | apply gbAlloc | apply gbDrew | apply gbSet) (by have := hA6.out.kp.size; have := hA0.out.kp.size; have := hA1.out.kp.size; have := hA2.out.kp.size; have := hA3.out.kp.size; have := hA4.out.kp.size; have := hA5.out.kp.size; have := hA6.out.kp.size; omega)).step hP hk)
      have hs7 : w6.heap.size + 1 ≤ w7.heap.size := (by have := hk.size; (try simp at this); omega)
      have b2' := Lib.hid (hk.blk (b := w.heap.size) (Eq.trans (gbBlk (row := some (w1.heap.size)) (by repeat with_reducible first | exact gbRefl _ _ | apply gbAlloc | apply gbDrew | apply gbSet) (blkLt b2.out) (by simp; omega)) b2.out) (by omega))
      have b3' := Lib.hid (hk.blk (b := w1.heap.size) (Eq.trans (gbBlk (row := none) (by repeat with_reducible first | exact gbRefl _ _ | apply gbAlloc | apply gbDrew | apply gbSet) (by simpa using blkLt b3.out) (by simp)) (set6_5 b3.out)) (by omega))
      have b6' := Lib.hid (hk.blk (b := w3.heap.size) (Eq.trans (gbBlk (row := some (w1.heap.size)) (by repeat with_reducible first | exact gbRefl _ _ | apply gbAlloc | apply gbDrew | apply gbSet) (blkLt b6.out) (by simp; omega)) b6.out) (by omega))
      have b7' := Lib.hid (hk.blk (b := w6.heap.size) (Eq.trans (gbBlk (row := none) (by repeat with_reducible first | exact gbRefl _ _ | apply gbAlloc | apply gbDrew | apply gbSet) (by simp <;> omega) (by simp)) (newBlk (w6.setCell ⟨w1.heap.size, 5, none⟩ _) _ _ (by simp))) (by omega))
      clear b2
      have b2 := Lib.hid b2'.out
      clear b2'
      have xb2_7 : w.heap.size < w7.heap.size := blkLt b2.out
      clear b3
      have b3 := Lib.hid b3'.out
      clear b3'
      have xb3_7 : w1.heap.size < w7.heap.size := blkLt b3.out
      clear b6
      have b6 := Lib.hid b6'.out
      clear b6'
      have xb6_7 : w3.heap.size < w7.heap.size := blkLt b6.out
      have b7 := Lib.hid b7'.out
      clear b7'
      have xb7_7 : w6.heap.size < w7.heap.size := blkLt b7.out
      have K3' := Lib.hid (KidsR.from (w' := w7) (B' := w2.heap.size + 0) (fun k h1 h2 => (hk.block k (Nat.lt_of_lt_of_le h2 (gbSize (r := some (w1.heap.size)) (by repeat with_reducible first | exact gbRefl _ _ | apply gbAlloc | apply gbDrew | apply gbSet))) (by omega) (by simp)).trans (gbBlk (row := some (w1.heap.size)) (by repeat with_reducible first | exact gbRefl _ _ | apply gbAlloc | apply gbDrew | apply gbSet) h2 (fun e => by cases e; omega))) (Nat.le_refl _) K3.out)
      clear K3
      have K3 := Lib.hid K3'.out
      clear K3'
      have K5' := Lib.hid (KidsR.from (w' := w7) (B' := w4.heap.size + 0) (fun k h1 h2 => (hk.block k (Nat.lt_of_lt_of_le h2 (gbSize (r := some (w1.heap.size)) (by repeat with_reducible first | exact gbRefl _ _ | apply gbAlloc | apply gbDrew | apply gbSet))) (by omega) (by simp)).trans (gbBlk (row := some (w1.heap.size)) (by repeat with_reducible first | exact gbRefl _ _ | apply gbAlloc | apply gbDrew | apply gbSet) h2 (fun e => by cases e; omega))) (Nat.le_refl _) K5.out)
      clear K5
      have K5 := Lib.hid K5'.out
      clear K5'
      have K6' := Lib.hid (KidsR.from (w' := w7) (B' := w5.heap.size + 0) (fun k h1 h2 => (hk.block k (Nat.lt_of_lt_of_le h2 (gbSize (r := some (w1.heap.size)) (by repeat with_reducible first | exact gbRefl _ _ | apply gbAlloc | apply gbDrew | apply gbSet))) (by omega) (by simp)).trans (gbBlk (row := some (w1.heap.size)) (by repeat with_reducible first | exact gbRefl _ _ | apply gbAlloc | apply gbDrew | apply gbSet) h2 (fun e => by cases e; omega))) (Nat.le_refl _) K6.out)
      clear K6
      have K6 := Lib.hid K6'.out
      clear K6'
      have hr7 : C.R < w7.heap.size := hA7.out.ps.RLt
      clear yc yz
      have hn7 := hn6
      clear hb hP hk
      clear hBq
      obtain ⟨⟨a0, a1, a2, a3, a4, a5⟩, d0, d1, d2, d3, d4, d5⟩ := cells6 b2.out
      obtain ⟨⟨f0, f1, f2, f3, f4, f5⟩, e0, e1, e2, e3, e4, e5⟩ := cells6 b3.out
      go_wp2
      refine bodyPost_ret (v := nv (.mk 11 ⟨#[]⟩ (1 + k) 0 (hd (C.l nx)).a [t1, t2, t3]) (some ⟨w6.heap.size, 0, none⟩) 0) (by simp [results, Tryz.results95, go_sem, a0, a1, a2, a3, a4, a5, xb2_7, xb3_7, Nd.kind, Nd.name, Nd.n, Nd.unit, Nd.at0, Nd.kids]) rfl ?_
      exact Out.ret hr.out rfl hn7 ⟨(some ⟨w6.heap.size, 0, none⟩), 0, rfl, (KidsR.from (B := w.heap.size + 1) (fun k h1 h2 => gbBlk (row := some (w.heap.size)) (by repeat with_reducible first | exact gbRefl _ _ | apply gbAlloc | apply gbDrew | apply gbSet) h2 (fun e => by cases e; omega)) (by omega) (kids3 b7.out (by unfold From; omega) (K3.out.keep (fun k h1 h2 => ⟨rfl, by unfold From at h1 ⊢; omega⟩)) (K5.out.keep (fun k h1 h2 => ⟨rfl, by unfold From at h1 ⊢; omega⟩)) (K6.out.keep (fun k h1 h2 => ⟨rfl, by unfold From at h1 ⊢; omega⟩))))⟩ ⟨(hA7.out.loc h0.out (b := w.heap.size) (by repeat with_reducible first | exact gbRefl _ _ | apply gbAlloc | apply gbDrew | apply gbSet) (Nat.le_refl _)).ps, (hA7.out.loc h0.out (b := w.heap.size) (by repeat with_reducible first | exact gbRefl _ _ | apply gbAlloc | apply gbDrew | apply gbSet) (Nat.le_refl _)).kp⟩
    · have hrn := hr.out
      rw [if_pos hel] at hrn
      clear hr
      have hr := Lib.hid hrn
      clear hrn
      have helH := Lib.hid hel
      clear hel
      have hBq := Lib.hid (helH.out)
      go_wp2_with fail
      refine (is_any C _ nx6 dv ds ⟨#[101, 108, 115, 101]⟩ (hA6.out.loc h0.out (b := w1.heap.size) (by repeat with_reducible first | exact gbRefl _ _ | apply gbAlloc | apply gbDrew | apply gbSet) (by have := hA6.out.kp.size; have := hA0.out.kp.size; have := hA1.out.kp.size; have := hA2.out.kp.size; have := hA3.out.kp.size; have := hA4.out.kp.size; have := hA5.out.kp.size; have := hA6.out.kp.size; omega)).ps).mono ?_
      rw [hBq.out]
      rintro e w7 ⟨rfl, hb⟩
      have hP := (hA6.out.loc h0.out (b := w1.heap.size) (by repeat with_reducible first | exact gbRefl _ _ | apply gbAlloc | apply gbDrew | apply gbSet) (by have := hA6.out.kp.size; have := hA0.out.kp.size; have := hA1.out.kp.size; have := hA2.out.kp.size; have := hA3.out.kp.size; have := hA4.out.kp.size; have := hA5.out.kp.size; have := hA6.out.kp.size; omega)).ps.below hb
      have hk := Below.kp (R := C.R) (o := none) hb
      have hA7 := Lib.hid ((hA6.out.loc h0.out (b := w1.heap.size) (by repeat with_reducible first | exact gbRefl _ _ | apply gbAlloc | apply gbDrew | apply gbSet) (by have := hA6.out.kp.size; have := hA0.out.kp.size; have := hA1.out.kp.size; have := hA2.out.kp.size; have := hA3.out.kp.size; have := hA4.out.kp.size; have := hA5.out.kp.size; have := hA6.out.kp.size; omega)).step hP hk)
      have hs7 : w6.heap.size + 1 ≤ w7.heap.size := (by have := hk.size; (try simp at this); omega)
      have b2' := Lib.hid (hk.blk (b := w.heap.size) (Eq.trans (gbBlk (row := some (w1.heap.size)) (by repeat with_reducible first | exact gbRefl _ _ | apply gbAlloc | apply gbDrew | apply gbSet) (blkLt b2.out) (by simp; omega)) b2.out) (by omega))
      have b3' := Lib.hid (hk.blk (b := w1.heap.size) (Eq.trans (gbBlk (row := none) (by repeat with_reducible first | exact gbRefl _ _ | apply gbAlloc | apply gbDrew | apply gbSet) (by simpa using blkLt b3.out) (by simp)) (set6_5 b3.out)) (by omega))
      have b6' := Lib.hid (hk.blk (b := w3.heap.size) (Eq.trans (gbBlk (row := some (w1.heap.size)) (by repeat with_reducible first | exact gbRefl _ _ | apply gbAlloc | apply gbDrew | apply gbSet) (blkLt b6.out) (by simp; omega)) b6.out) (by omega))
      have b7' := Lib.hid (hk.blk (b := w6.heap.size) (Eq.trans (gbBlk (row := none) (by repeat with_reducible first | exact gbRefl _ _ | apply gbAlloc | apply gbDrew | apply gbSet) (by simp <;> omega) (by simp)) (newBlk (w6.setCell ⟨w1.heap.size, 5, none⟩ _) _ _ (by simp))) (by omega))
      clear b2
      have b2 := Lib.hid b2'.out
      clear b2'
      have xb2_7 : w.heap.size < w7.heap.size := blkLt b2.out
      clear b3
      have b3 := Lib.hid b3'.out
      clear b3'
      have xb3_7 : w1.heap.size < w7.heap.size := blkLt b3.out
      clear b6
      have b6 := Lib.hid b6'.out
      clear b6'
      have xb6_7 : w3.heap.size < w7.heap.size := blkLt b6.out
      have b7 := Lib.hid b7'.out
      clear b7'
      have xb7_7 : w6.heap.size < w7.heap.size := blkLt b7.out
      have K3' := Lib.hid (K3.out.keep (w' := w7) (P' := Bes (w2.heap.size + 0) (w6.heap.size)) (fun k h1 h2 => ⟨(hk.block k (Nat.lt_of_lt_of_le h2 (gbSize (r := some (w1.heap.size)) (by repeat with_reducible first | exact gbRefl _ _ | apply gbAlloc | apply gbDrew | apply gbSet))) (by unfold From at h1; omega) (by simp)).trans (gbBlk (row := some (w1.heap.size)) (by repeat with_reducible first | exact gbRefl _ _ | apply gbAlloc | apply gbDrew | apply gbSet) h2 (by unfold From at h1; intro e; cases e; omega)), by unfold From at h1; unfold Bes; omega⟩))
      clear K3
      have K3 := Lib.hid K3'.out
      clear K3'
      have K5' := Lib.hid (K5.out.keep (w' := w7) (P' := Bes (w4.heap.size + 0) (w6.heap.size)) (fun k h1 h2 => ⟨(hk.block k (Nat.lt_of_lt_of_le h2 (gbSize (r := some (w1.heap.size)) (by repeat with_reducible first | exact gbRefl _ _ | apply gbAlloc | apply gbDrew | apply gbSet))) (by unfold From at h1; omega) (by simp)).trans (gbBlk (row := some (w1.heap.size)) (by repeat with_reducible first | exact gbRefl _ _ | apply gbAlloc | apply gbDrew | apply gbSet) h2 (by unfold From at h1; intro e; cases e; omega)), by unfold From at h1; unfold Bes; omega⟩))
      clear K5
      have K5 := Lib.hid K5'.out
      clear K5'
      have K6' := Lib.hid (K6.out.keep (w' := w7) (P' := Bes (w5.heap.size + 0) (w6.heap.size)) (fun k h1 h2 => ⟨(hk.block k (Nat.lt_of_lt_of_le h2 (gbSize (r := some (w1.heap.size)) (by repeat with_reducible first | exact gbRefl _ _ | apply gbAlloc | apply gbDrew | apply gbSet))) (by unfold From at h1; omega) (by simp)).trans (gbBlk (row := some (w1.heap.size)) (by repeat with_reducible first | exact gbRefl _ _ | apply gbAlloc | apply gbDrew | apply gbSet) h2 (by unfold From at h1; intro e; cases e; omega)), by unfold From at h1; unfold Bes; omega⟩))
      clear K6
      have K6 := Lib.hid K6'.out
      clear K6'
      have hr7 : C.R < w7.heap.size := hA7.out.ps.RLt
      clear yc yz
      have hn7 := hn6
      clear hb hP hk
      clear hBq
      go_wp2_with fail
      refine (word_any C _ nx6 dv ds ⟨#[101, 108, 115, 101]⟩ (hA7.out.loc h0.out (b := w.heap.size) (by repeat with_reducible first | exact gbRefl _ _ | apply gbAlloc | apply gbDrew | apply gbSet) (Nat.le_refl _)).ps hds (by decide)).mono ?_
      intro e w8 ho
      rcases hm : wordM ⟨#[101, 108, 115, 101]⟩ (C.l nx6) with ⟨⟨⟩, l8⟩ | ⟨er, l8⟩
      rotate_left
      · have hre : Hid (Res.err er l8 = r) := by have := hr.out; rw [hm] at this; exact this
        rw [hm] at ho
        clear hm
        obtain ⟨nxe, hle, hne, ⟨T, pv, rfl⟩, ⟨dv', hPe⟩, hke⟩ := ho
        have hF := Lib.hid (Out.fail (V := VNd) hre.out hle hn7 hne ⟨T, pv, rfl⟩ hPe (hA7.out.loc h0.out (b := w.heap.size) (by repeat with_reducible first | exact gbRefl _ _ | apply gbAlloc | apply gbDrew | apply gbSet) (Nat.le_refl _)).kp hke)
        clear hPe hke hle
        go_wp2
        exact ⟨rfl, hF.out⟩
      have hrn := hr.out
      rw [hm, Res.bind_ok] at hrn
      clear hr
      have hr := Lib.hid hrn
      clear hrn
      rw [hm] at ho
      clear hm
      obtain ⟨nx8, v8, hl, hn, rfl, hv, hP, hk⟩ := ho
      unfold VUnit at hv
      subst hv hl
      have hn8 : nx ≤ nx8 := Nat.le_trans hn7 hn
      have hA8 := Lib.hid ((hA7.out.loc h0.out (b := w.heap.size) (by repeat with_reducible first | exact gbRefl _ _ | apply gbAlloc | apply gbDrew | apply gbSet) (Nat.le_refl _)).step hP hk)
      have hs8 : w7.heap.size + 0 ≤ w8.heap.size := (by have := hk.size; (try simp at this); omega)
      have b2' := Lib.hid (hk.blk (b := w.heap.size) (Eq.trans (gbBlk (row := none) (by repeat with_reducible first | exact gbRefl _ _ | apply gbAlloc | apply gbDrew | apply gbSet) (blkLt b2.out) (by simp)) b2.out) (by omega))
      have b3' := Lib.hid (hk.blk (b := w1.heap.size) (Eq.trans (gbBlk (row := none) (by repeat with_reducible first | exact gbRefl _ _ | apply gbAlloc | apply gbDrew | apply gbSet) (blkLt b3.out) (by simp)) b3.out) (by omega))
      have b6' := Lib.hid (hk.blk (b := w3.heap.size) (Eq.trans (gbBlk (row := none) (by repeat with_reducible first | exact gbRefl _ _ | apply gbAlloc | apply gbDrew | apply gbSet) (blkLt b6.out) (by simp)) b6.out) (by omega))
      have b7' := Lib.hid (hk.blk (b := w6.heap.size) (Eq.trans (gbBlk (row := none) (by repeat with_reducible first | exact gbRefl _ _ | apply gbAlloc | apply gbDrew | apply gbSet) (blkLt b7.out) (by simp)) b7.out) (by omega))
      clear b2
      have b2 := Lib.hid b2'.out
      clear b2'
      have xb2_8 : w.heap.size < w8.heap.size := blkLt b2.out
      clear b3
      have b3 := Lib.hid b3'.out
      clear b3'
      have xb3_8 : w1.heap.size < w8.heap.size := blkLt b3.out
      clear b6
      have b6 := Lib.hid b6'.out
      clear b6'
      have xb6_8 : w3.heap.size < w8.heap.size := blkLt b6.out
      clear b7
      have b7 := Lib.hid b7'.out
      clear b7'
      have xb7_8 : w6.heap.size < w8.heap.size := blkLt b7.out
      have K3' := Lib.hid (K3.out.keep (w' := w8) (P' := Bes (w2.heap.size + 0) (w6.heap.size)) (fun k h1 h2 => ⟨(hk.block k (Nat.lt_of_lt_of_le h2 (gbSize (r := none) (by repeat with_reducible first | exact gbRefl _ _ | apply gbAlloc | apply gbDrew | apply gbSet))) (by have := h1.1; omega) (by simp)).trans (gbBlk (row := none) (by repeat with_reducible first | exact gbRefl _ _ | apply gbAlloc | apply gbDrew | apply gbSet) h2 (by simp)), h1⟩))
      clear K3
      have K3 := Lib.hid K3'.out
      clear K3'
      have K5' := Lib.hid (K5.out.keep (w' := w8) (P' := Bes (w4.heap.size + 0) (w6.heap.size)) (fun k h1 h2 => ⟨(hk.block k (Nat.lt_of_lt_of_le h2 (gbSize (r := none) (by repeat with_reducible first | exact gbRefl _ _ | apply gbAlloc | apply gbDrew | apply gbSet))) (by have := h1.1; omega) (by simp)).trans (gbBlk (row := none) (by repeat with_reducible first | exact gbRefl _ _ | apply gbAlloc | apply gbDrew | apply gbSet) h2 (by simp)), h1⟩))
      clear K5
      have K5 := Lib.hid K5'.out
      clear K5'
      have K6' := Lib.hid (K6.out.keep (w' := w8) (P' := Bes (w5.heap.size + 0) (w6.heap.size)) (fun k h1 h2 => ⟨(hk.block k (Nat.lt_of_lt_of_le h2 (gbSize (r := none) (by repeat with_reducible first | exact gbRefl _ _ | apply gbAlloc | apply gbDrew | apply gbSet))) (by have := h1.1; omega) (by simp)).trans (gbBlk (row := none) (by repeat with_reducible first | exact gbRefl _ _ | apply gbAlloc | apply gbDrew | apply gbSet) h2 (by simp)), h1⟩))
      clear K6
      have K6 := Lib.hid K6'.out
      clear K6'
      have hr8 : C.R < w8.heap.size := hA8.out.ps.RLt
      clear hP hk hn
      have OL := Lib.hid (own3 (B := w1.heap.size + 1) b7.out (by omega) (K3.out.keep (fun k h1 h2 => ⟨rfl, by unfold Bes at h1; unfold Beside; simp [Value.ownBlock]; omega⟩)) (K5.out.keep (fun k h1 h2 => ⟨rfl, by unfold Bes at h1; unfold Beside; simp [Value.ownBlock]; omega⟩)) (K6.out.keep (fun k h1 h2 => ⟨rfl, by unfold Bes at h1; unfold Beside; simp [Value.ownBlock]; omega⟩)))
      clear b7 K3 K5 K6
      obtain ⟨i0, hi, hz0, hz1, hz2⟩ := info_parts nodeInfo
      have cq5 := (cells6 b3.out).1.2.2.2.2.2
      rcases hm : blockM S (C.l nx8) with ⟨t4, l9⟩ | ⟨er, l9⟩
      rotate_left
      · have hre : Hid (Res.err er l9 = r) := by have := hr.out; rw [hm] at this; exact this
        have hmE := Lib.hid hm
        clear hm
        go_wp2_with fail
        go_region_law (go_simp; go_at_call 101; refine (block_any C _ nx8 dv ds level S hSH.out hl12 (hA8.out.loc h0.out (b := w.heap.size) (by repeat with_reducible first | exact gbRefl _ _ | apply gbAlloc | apply gbDrew | apply gbSet) (Nat.le_refl _)).ps hds).mono ?_; intro e we ho; rw [hmE.out] at ho; obtain ⟨nxe, hle, hne, ⟨T, pv, rfl⟩, ⟨dv', hPe⟩, hke⟩ := ho; suffices hz : wpAny Tryz.prog .any #[] (fun _ _ _ => True) 0 #[] ⟨#[], []⟩ we from ⟨rfl, Out.fail (V := VNd) hre.out hle hn8 hne ⟨T, pv, rfl⟩ hPe (hA8.out.loc h0.out (b := w.heap.size) (by repeat with_reducible first | exact gbRefl _ _ | apply gbAlloc | apply gbDrew | apply gbSet) (Nat.le_refl _)).kp hke⟩)
        all_goals trivial
      have hrn := hr.out
      rw [hm, Res.bind_ok] at hrn
      clear hr
      have hr := Lib.hid hrn
      clear hrn
      have hmA := Lib.hid hm
      clear hm
      go_wp2_with fail
      go_region_law (first | (refine step_append_lies _ (by rfl) _ _ _ (by rfl) (w1.heap.size + 1) 25 i0 _ 6 72 Tryz.underlying23 hi hz0 hz1 hz2 rfl (by decide) (.slice (some ⟨w6.heap.size, 0, none⟩) 3 3) [t1, t2, t3].length vs (by rfl) (hown.alloc _) _ 1 1 (nCells t4 A9 c9) (by rfl) (by rfl) (new_cells w9 #[.int .i64 t4.kind, .string t4.name, .int .i64 t4.n, .int .i64 t4.unit, .int .i64 t4.at0, .slice A9 t4.kids.length (t4.kids.length + c9)] _ _ rfl) (nd_one _ _ _) (by decide) (by simp only [List.length_cons, List.length_nil]; unfold maxLen; omega) (by simp only [List.length_cons, List.length_nil]; omega) (by have := hA9.out.kp.size; simp; omega) _ rfl ?_; intro gq10 cap10 w10 hown2 hgrow hat hlt2; have OLq := Lib.hid (VNds.snoc hown hrowsH.out K9.out hovl.out (by omega) hgrow hown2 hat (by simp)); have hAq := Lib.hid (hA9.out.locR h0.out (gbTrans (gbAlloc (gbRefl _ _)) hgrow) (fun kk hkk => Nat.le_trans (by omega) (hown.lt kk hkk).1)); have b2q := Lib.hid (((hgrow.block (w.heap.size) (by simp; omega) (fun e => by have := (hown.lt _ e.symm).1; omega)).trans (Below.heap_alloc _ _ _ (blkLt b2.out))).trans b2.out); have b3q := Lib.hid (((hgrow.block (w1.heap.size) (by simp; omega) (fun e => by have := (hown.lt _ e.symm).1; omega)).trans (Below.heap_alloc _ _ _ (blkLt b3.out))).trans b3.out); have hsq : w9.heap.size + 1 ≤ w10.heap.size := (by have := hgrow.size; simp at this; omega); have yc := (cells6 b3q.out).1.2.2.2.2.2; have yz := (cells6 b3q.out).2.2.2.2.2.2; have hrq : C.R < w10.heap.size := hAq.out.ps.RLt; have xb2_10 : w.heap.size < w10.heap.size := blkLt b2q.out; have xb3_10 : w1.heap.size < w10.heap.size := blkLt b3q.out) | (go_simp; go_at_call 101; refine (block_any C _ nx8 dv ds level S hSH.out hl12 (hA8.out.loc h0.out (b := w.heap.size) (by repeat with_reducible first | exact gbRefl _ _ | apply gbAlloc | apply gbDrew | apply gbSet) (Nat.le_refl _)).ps hds).mono ?_; intro e w9 ho; rw [hmA.out] at ho; obtain ⟨nx9, v9, hl, hn, rfl, ⟨A9, c9, hv, hkd⟩, hP, hk⟩ := ho; subst hv hl; have hn9 : nx ≤ nx9 := Nat.le_trans hn8 hn; have hkdH := Lib.hid hkd; clear hkd; have hkd := Lib.hid hkdH.out; clear hkdH; have hovl := Lib.hid (fun kk (hkk : Value.ownBlock (.slice (some ⟨w6.heap.size, 0, none⟩) 3 3) = some kk) => (let ⟨vs0, ho0, _⟩ := OL.out; (ho0.lt kk hkk).2)); have hA9 := Lib.hid ((hA8.out.loc h0.out (b := w.heap.size) (by repeat with_reducible first | exact gbRefl _ _ | apply gbAlloc | apply gbDrew | apply gbSet) (Nat.le_refl _)).step hP hk); have hs9 : w8.heap.size + 0 ≤ w9.heap.size := (by have := hk.size; (try simp at this); omega); have b2' := Lib.hid (hk.blk (b := w.heap.size) (Eq.trans (gbBlk (row := none) (by repeat with_reducible first | exact gbRefl _ _ | apply gbAlloc | apply gbDrew | apply gbSet) (blkLt b2.out) (by simp)) b2.out) (by omega)); have b3' := Lib.hid (hk.blk (b := w1.heap.size) (Eq.trans (gbBlk (row := none) (by repeat with_reducible first | exact gbRefl _ _ | apply gbAlloc | apply gbDrew | apply gbSet) (blkLt b3.out) (by simp)) b3.out) (by omega)); clear b2; have b2 := Lib.hid b2'.out; clear b2'; have xb2_9 : w.heap.size < w9.heap.size := blkLt b2.out; clear b3; have b3 := Lib.hid b3'.out; clear b3'; have xb3_9 : w1.heap.size < w9.heap.size := blkLt b3.out; have OL' := Lib.hid (VNds.keep (w' := w9) (fun k h1 h2 => (hk.block k (Nat.lt_of_lt_of_le h2 (gbSize (r := none) (by repeat with_reducible first | exact gbRefl _ _ | apply gbAlloc | apply gbDrew | apply gbSet))) (by omega) (by simp)).trans (gbBlk (row := none) (by repeat with_reducible first | exact gbRefl _ _ | apply gbAlloc | apply gbDrew | apply gbSet) h2 (by simp))) OL.out); clear OL; have OL := Lib.hid OL'.out; clear OL'; have hr9 : C.R < w9.heap.size := hA9.out.ps.RLt; have K9 : Hid (KidsR w9 (From (w8.heap.size)) t4.kids A9) := hkd.out.keep (fun k h1 h2 => ⟨rfl, by unfold From at h1 ⊢; (try simp at h1); omega⟩); clear hkd hP hk hn; have cp5 := (cells6 b3.out).1.2.2.2.2.2; obtain ⟨vs, hown, hrows⟩ := OL.out; have hrowsH := Lib.hid hrows; clear hrows))
      all_goals
        clear cq5 cp5 hgrow hown hown2
        have hA10 := Lib.hid hAq.out
        clear hAq
        have hs10 := hsq
        have hr10 := hrq
        have hn10 := hn9
        clear OL
        have OL := Lib.hid OLq.out
        clear OLq K9
        clear b2
        have b2 := Lib.hid b2q.out
        clear b2q
        clear b3
        have b3 := Lib.hid b3q.out
        clear b3q
        have KL := Lib.hid (kidsOf OL.out)
        obtain ⟨cx10, hcx10⟩ := capOf OL.out
        subst hcx10
        obtain ⟨⟨a0, a1, a2, a3, a4, a5⟩, d0, d1, d2, d3, d4, d5⟩ := cells6 b2.out
        obtain ⟨⟨f0, f1, f2, f3, f4, f5⟩, e0, e1, e2, e3, e4, e5⟩ := cells6 b3.out
        go_wp2
        refine bodyPost_ret (v := nv (.mk 11 ⟨#[]⟩ (1 + k) 0 (hd (C.l nx)).a [t1, t2, t3, t4]) (some ⟨gq10, 0, none⟩) cx10) (by simp [results, Tryz.results95, go_sem, a0, a1, a2, a3, a4, a5, f0, f1, f2, f3, f4, f5, xb2_10, xb3_10, Nd.kind, Nd.name, Nd.n, Nd.unit, Nd.at0, Nd.kids]) rfl ?_
        exact Out.ret hr.out rfl hn10 ⟨(some ⟨gq10, 0, none⟩), cx10, rfl, (KidsR.from (fun kk h1 h2 => (gbBlk (row := some (w.heap.size)) (by repeat with_reducible first | exact gbRefl _ _ | apply gbAlloc | apply gbDrew | apply gbSet) (by simpa using h2) (fun e => by cases e; omega)).trans (gbBlk (row := some (w1.heap.size)) (gbSet (gbRefl w10 _) : w10.grownBy (w10.setCell ⟨w1.heap.size, 5, none⟩ (_)) (some (w1.heap.size))) h2 (fun e => by cases e; omega))) (by omega) KL.out)⟩ ⟨((hA10.out.loc h0.out (b := w1.heap.size) (gbSet (gbRefl w10 _) : w10.grownBy (w10.setCell ⟨w1.heap.size, 5, none⟩ (_)) (some (w1.heap.size))) (by have := hA10.out.kp.size; have := hs1; have := hs2; have := hs3; have := hs4; have := hs5; have := hs6; have := hs7; have := hs8; have := hs9; have := hs10; omega)).loc h0.out (b := w.heap.size) (by repeat with_reducible first | exact gbRefl _ _ | apply gbAlloc | apply gbDrew | apply gbSet) (Nat.le_refl _)).ps, ((hA10.out.loc h0.out (b := w1.heap.size) (gbSet (gbRefl w10 _) : w10.grownBy (w10.setCell ⟨w1.heap.size, 5, none⟩ (_)) (some (w1.heap.size))) (by have := hA10.out.kp.size; have := hs1; have := hs2; have := hs3; have := hs4; have := hs5; have := hs6; have := hs7; have := hs8; have := hs9; have := hs10; omega)).loc h0.out (b := w.heap.size) (by repeat with_reducible first | exact gbRefl _ _ | apply gbAlloc | apply gbDrew | apply gbSet) (Nat.le_refl _)).kp⟩

end Go.Proofs.YtdaghppcomckbaaGreatDoor
