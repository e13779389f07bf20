/- Texts of one proof: PxN. -/
import Derived.Test.YtdaghppcomckbaaGreatDoorPxM
import Derived.Deep.RegionWith
import Derived.IntWalk
/- The parser: functions in expressions. -/
namespace Go.Proofs.YtdaghppcomckbaaGreatDoor
open Go.RowKit
set_option linter.unusedVariables false
set_option linter.unusedSimpArgs false
theorem newBlk (w : World) (o : Obj) (b : Nat) (h : b = w.heap.size) : (w.alloc o).heap[b]? = some o := by subst h; exact heap_alloc_new w o
def fnWs : List ByteArray := [⟨#[117, 112]⟩, ⟨#[109, 105, 110]⟩, ⟨#[109, 97, 120]⟩]
def beginWs : List ByteArray := [⟨#[117, 112]⟩, ⟨#[109, 105, 110]⟩, ⟨#[109, 97, 120]⟩, ⟨#[40]⟩]
def atExprB (l : List Tk) : Bool := (hd l).k == 2 || atNameB l || inpB (hd l).x || decide (0 ≤ idx beginWs (hd l).x)
theorem atExpr_choice {l l1 : List Tk} {k : Int} (h : choiceM fnWs l = .ok k l1) : atExprB l = true := by
  have h1 : 0 ≤ idx beginWs (hd l).x := by
    unfold choiceM at h
    rcases idx_le fnWs (hd l).x with hi | ⟨_, _, hm⟩
    · rw [hi] at h; simp at h
    · simp only [fnWs, List.mem_cons, List.not_mem_nil, or_false] at hm
      rcases hm with hm | hm | hm <;> rw [hm] <;> decide
  simp [atExprB, h1]
/-- what an expression's reader at the next level answers -/
def EC (C : Cx) (dv : Value) (ds : List (Int × Int)) (level : Nat) (E : List Tk → Res Nd) : Prop :=
  level ≤ 12 → ∀ (wx : World) (n : Nat), PS C wx n dv ds → Calls Tryz.prog 96 #[.pointer (some ⟨C.R, 0, none⟩), .int .i64 ((level : Int) + 1)] wx (Out C n dv ds wx VNd (E (C.l n)))
theorem kids2 {w : World} {P : Nat → Prop} {b : Nat} {t1 t2 : Nd} {A1 A2 : Option Addr} {c1 c2 : Nat} {T : TypeId} (h : w.heap[b]? = some (.cells #[.int .i64 t1.kind, .string t1.name, .int .i64 t1.n, .int .i64 t1.unit, .int .i64 t1.at0, .slice A1 t1.kids.length (t1.kids.length + c1), .int .i64 t2.kind, .string t2.name, .int .i64 t2.n, .int .i64 t2.unit, .int .i64 t2.at0, .slice A2 t2.kids.length (t2.kids.length + c2)] T (0, 0)))
    (hP : P b) (k1 : KidsR w P t1.kids A1) (k2 : KidsR w P t2.kids A2) : KidsR w P [t1, t2] (some ⟨b, 0, none⟩) := by
  refine RowsR.kids hP [t1, t2] (nCells t1 A1 c1 ++ nCells t2 A2 c2) 0 (RowsR.app (RowsR.one t2 A2 c2 k2) [t1] _ (RowsR.one t1 A1 c1 k1)) (fun j u hu => ?_)
  rw [Nat.zero_add, cell_of_row _ _ j _ _ (0, 0) h]
  rw [← hu]
  simp [nCells]

def functionM (E : List Tk → Res Nd) (l : List Tk) : Res Nd := (choiceM fnWs l).bind fun k l1 => (wordM ⟨#[40]⟩ l1).bind fun _ l2 => (E l2).bind fun t1 l3 => (wordM ⟨#[44]⟩ l3).bind fun _ l4 => (E l4).bind fun t2 l5 => (wordM ⟨#[41]⟩ l5).bind fun _ l6 => .ok (.mk (19 + k) ⟨#[]⟩ 0 0 (hd l).a [t1, t2]) l6

set_option maxHeartbeats 4000000 in
set_option maxRecDepth 100000 in
theorem function_any (C : Cx) (w : World) (nx : Nat) (dv : Value) (ds : List (Int × Int)) (level : Nat) (E : List Tk → Res Nd) (hE : EC C dv ds level E) (hlv : level ≤ 12 ∨ atExprB (C.l nx) = false) (h : PS C w nx dv ds) (hds : ds.length ≤ 100) :
    Calls Tryz.prog 112 #[.pointer (some ⟨C.R, 0, none⟩), .int .i64 level] w (Out C nx dv ds w VNd (functionM E (C.l nx))) := by
  have h0 := Lib.hid h
  have hR0 := h.RLt
  have hA0 := Lib.hid (At.start h)
  have hn0 : nx ≤ nx := Nat.le_refl _
  obtain ⟨r, hr⟩ : ∃ r, functionM E (C.l nx) = r := ⟨_, rfl⟩
  rw [hr]
  have f3 := tfield3; have hEH := Lib.hid hE; have hlvH := Lib.hid hlv; clear hE hlv
  unfold functionM at hr
  have hrH := Lib.hid hr
  clear hr h
  have hr := Lib.hid hrH.out
  clear hrH
  go_enter Tryz.func112, Tryz.ntmps112
  go_wp2_with fail
  refine (token_any C _ nx dv ds (hA0.out.loc h0.out (b := w.heap.size) (by repeat with_reducible first | exact gbRefl _ _ | apply gbAlloc | apply gbDrew | apply gbSet) (Nat.le_refl _)).ps).mono ?_
  rintro e w1 ⟨rfl, hb⟩
  have hP := (hA0.out.loc h0.out (b := w.heap.size) (by repeat with_reducible first | exact gbRefl _ _ | apply gbAlloc | apply gbDrew | apply gbSet) (Nat.le_refl _)).ps.below hb
  have hk := Below.kp (R := C.R) (o := none) hb
  have nx1_ : True := trivial
  have hA1 := Lib.hid ((hA0.out.loc h0.out (b := w.heap.size) (by repeat with_reducible first | exact gbRefl _ _ | apply gbAlloc | apply gbDrew | apply gbSet) (Nat.le_refl _)).step hP hk)
  have hs1 : w.heap.size + 1 ≤ w1.heap.size := (by have := hk.size; (try simp at this); omega)
  have b2' := Lib.hid (hk.blk (b := w.heap.size) (Eq.trans (gbBlk (row := none) (by repeat with_reducible first | exact gbRefl _ _ | apply gbAlloc | apply gbDrew | apply gbSet) (by simp <;> omega) (by simp)) (newBlk w _ _ (by simp))) (by omega))
  have b2 := Lib.hid b2'.out
  clear b2'
  have xb2_1 : w.heap.size < w1.heap.size := blkLt b2.out
  have hr1 : C.R < w1.heap.size := hA1.out.ps.RLt
  have hn1 := hn0
  clear hb hP hk
  go_wp2_with fail
  refine (choice_any C _ nx dv ds (w1.heap.size + 1) 3 fnWs (hA1.out.loc h0.out (b := w.heap.size) (by repeat with_reducible first | exact gbRefl _ _ | apply gbAlloc | apply gbDrew | apply gbSet) (Nat.le_refl _)).ps (new_strsE _ _ _ _ rfl _ (by simp)) (by simp) (by decide) hds (idxNe _ (by decide))).mono ?_
  intro e w2 ho
  rcases hm : choiceM fnWs (C.l nx) with ⟨k, l2⟩ | ⟨er, l2⟩
  rotate_left
  · have hre : Hid (Res.err er l2 = r) := by have := hr.out; rw [hm] at this; exact this
    rw [hm] at ho
    clear hm
    obtain ⟨nxe, hle, hne, ⟨T, pv, rfl⟩, ⟨dv', hPe⟩, hke⟩ := ho
    have hF := Lib.hid (Out.fail (V := VNd) hre.out hle hn1 hne ⟨T, pv, rfl⟩ hPe (hA1.out.loc h0.out (b := w.heap.size) (by repeat with_reducible first | exact gbRefl _ _ | apply gbAlloc | apply gbDrew | apply gbSet) (Nat.le_refl _)).kp hke)
    clear hPe hke hle
    go_wp2
    exact ⟨rfl, hF.out⟩
  have hrn := hr.out
  rw [hm, Res.bind_ok] at hrn
  clear hr
  have hr := Lib.hid hrn
  clear hrn
  have hk0_k : 0 ≤ k := (choiceM_bd hm).1; have hk1_k : k < 3 := (choiceM_bd hm).2; have hl12 : level ≤ 12 := hlvH.out.resolve_right (fun e => by rw [atExpr_choice hm] at e; cases e)
  rw [hm] at ho
  clear hm
  obtain ⟨nx2, v2, hl, hn, rfl, hv, hP, hk⟩ := ho
  unfold VInt at hv
  subst hv hl
  have hn2 : nx ≤ nx2 := Nat.le_trans hn1 hn
  have hA2 := Lib.hid ((hA1.out.loc h0.out (b := w.heap.size) (by repeat with_reducible first | exact gbRefl _ _ | apply gbAlloc | apply gbDrew | apply gbSet) (Nat.le_refl _)).step hP hk)
  have hs2 : w1.heap.size + 2 ≤ w2.heap.size := (by have := hk.size; (try simp at this); omega)
  have b2' := Lib.hid (hk.blk (b := w.heap.size) (Eq.trans (gbBlk (row := none) (by repeat with_reducible first | exact gbRefl _ _ | apply gbAlloc | apply gbDrew | apply gbSet) (blkLt b2.out) (by simp)) b2.out) (by omega))
  have b3' := Lib.hid (hk.blk (b := w1.heap.size) (Eq.trans (gbBlk (row := none) (by repeat with_reducible first | exact gbRefl _ _ | apply gbAlloc | apply gbDrew | apply gbSet) (by simp <;> omega) (by simp)) (newBlk w1 _ _ (by simp))) (by omega))
  clear b2
  have b2 := Lib.hid b2'.out
  clear b2'
  have xb2_2 : w.heap.size < w2.heap.size := blkLt b2.out
  have b3 := Lib.hid b3'.out
  clear b3'
  have xb3_2 : w1.heap.size < w2.heap.size := blkLt b3.out
  have hr2 : C.R < w2.heap.size := hA2.out.ps.RLt
  clear hP hk hn
  have yc := (cells6 b3.out).1.1
  have yz := (cells6 b3.out).2.1
  go_wp2_with fail
  refine (word_any C _ nx2 dv ds ⟨#[40]⟩ (hA2.out.loc h0.out (b := w1.heap.size) (by repeat with_reducible first | exact gbRefl _ _ | apply gbAlloc | apply gbDrew | apply gbSet) (by have := hA2.out.kp.size; have := hA0.out.kp.size; have := hA1.out.kp.size; have := hs1;  have := hs2; omega)).ps hds (by decide)).mono ?_
  intro e w3 ho
  rcases hm : wordM ⟨#[40]⟩ (C.l nx2) with ⟨⟨⟩, l3⟩ | ⟨er, l3⟩
  rotate_left
  · have hre : Hid (Res.err er l3 = r) := by have := hr.out; rw [hm] at this; exact this
    rw [hm] at ho
    clear hm
    obtain ⟨nxe, hle, hne, ⟨T, pv, rfl⟩, ⟨dv', hPe⟩, hke⟩ := ho
    have hF := Lib.hid (Out.fail (V := VNd) hre.out hle hn2 hne ⟨T, pv, rfl⟩ hPe (hA2.out.loc h0.out (b := w1.heap.size) (by repeat with_reducible first | exact gbRefl _ _ | apply gbAlloc | apply gbDrew | apply gbSet) (by have := hA2.out.kp.size; have := hA0.out.kp.size; have := hA1.out.kp.size; have := hs1;  have := hs2; omega)).kp hke)
    clear hPe hke hle
    go_wp2
    exact ⟨rfl, hF.out⟩
  have hrn := hr.out
  rw [hm, Res.bind_ok] at hrn
  clear hr
  have hr := Lib.hid hrn
  clear hrn
  rw [hm] at ho
  clear hm
  obtain ⟨nx3, v3, hl, hn, rfl, hv, hP, hk⟩ := ho
  unfold VUnit at hv
  subst hv hl
  have hn3 : nx ≤ nx3 := Nat.le_trans hn2 hn
  have hA3 := Lib.hid ((hA2.out.loc h0.out (b := w1.heap.size) (by repeat with_reducible first | exact gbRefl _ _ | apply gbAlloc | apply gbDrew | apply gbSet) (by have := hA2.out.kp.size; have := hA0.out.kp.size; have := hA1.out.kp.size; have := hs1;  have := hs2; omega)).step hP hk)
  have hs3 : w2.heap.size + 0 ≤ w3.heap.size := (by have := hk.size; (try simp at this); omega)
  have b2' := Lib.hid (hk.blk (b := w.heap.size) (Eq.trans (gbBlk (row := some (w1.heap.size)) (by repeat with_reducible first | exact gbRefl _ _ | apply gbAlloc | apply gbDrew | apply gbSet) (blkLt b2.out) (by simp; omega)) b2.out) (by omega))
  have b3' := Lib.hid (hk.blk (b := w1.heap.size) (Eq.trans (gbBlk (row := none) (by repeat with_reducible first | exact gbRefl _ _ | apply gbAlloc | apply gbDrew | apply gbSet) (by simpa using blkLt b3.out) (by simp)) (set6_0 b3.out)) (by omega))
  clear b2
  have b2 := Lib.hid b2'.out
  clear b2'
  have xb2_3 : w.heap.size < w3.heap.size := blkLt b2.out
  clear b3
  have b3 := Lib.hid b3'.out
  clear b3'
  have xb3_3 : w1.heap.size < w3.heap.size := blkLt b3.out
  have hr3 : C.R < w3.heap.size := hA3.out.ps.RLt
  clear yc yz
  clear hP hk hn
  go_wp2_with fail
  refine (hEH.out hl12 _ nx3 (hA3.out.loc h0.out (b := w.heap.size) (by repeat with_reducible first | exact gbRefl _ _ | apply gbAlloc | apply gbDrew | apply gbSet) (Nat.le_refl _)).ps).mono ?_
  intro e w4 ho
  rcases hm : E (C.l nx3) with ⟨t1, l4⟩ | ⟨er, l4⟩
  rotate_left
  · have hre : Hid (Res.err er l4 = r) := by have := hr.out; rw [hm] at this; exact this
    rw [hm] at ho
    clear hm
    obtain ⟨nxe, hle, hne, ⟨T, pv, rfl⟩, ⟨dv', hPe⟩, hke⟩ := ho
    have hF := Lib.hid (Out.fail (V := VNd) hre.out hle hn3 hne ⟨T, pv, rfl⟩ hPe (hA3.out.loc h0.out (b := w.heap.size) (by repeat with_reducible first | exact gbRefl _ _ | apply gbAlloc | apply gbDrew | apply gbSet) (Nat.le_refl _)).kp hke)
    clear hPe hke hle
    go_wp2
    exact ⟨rfl, hF.out⟩
  have hrn := hr.out
  rw [hm, Res.bind_ok] at hrn
  clear hr
  have hr := Lib.hid hrn
  clear hrn
  rw [hm] at ho
  clear hm
  obtain ⟨nx4, v4, hl, hn, rfl, ⟨A4, c4, hv, hkd⟩, hP, hk⟩ := ho
  subst hv hl
  have hn4 : nx ≤ nx4 := Nat.le_trans hn3 hn
  have hkdH := Lib.hid hkd
  clear hkd
  have hkd := Lib.hid hkdH.out
  clear hkdH
  have hA4 := Lib.hid ((hA3.out.loc h0.out (b := w.heap.size) (by repeat with_reducible first | exact gbRefl _ _ | apply gbAlloc | apply gbDrew | apply gbSet) (Nat.le_refl _)).step hP hk)
  have hs4 : w3.heap.size + 0 ≤ w4.heap.size := (by have := hk.size; (try simp at this); omega)
  have b2' := Lib.hid (hk.blk (b := w.heap.size) (Eq.trans (gbBlk (row := none) (by repeat with_reducible first | exact gbRefl _ _ | apply gbAlloc | apply gbDrew | apply gbSet) (blkLt b2.out) (by simp)) b2.out) (by omega))
  have b3' := Lib.hid (hk.blk (b := w1.heap.size) (Eq.trans (gbBlk (row := none) (by repeat with_reducible first | exact gbRefl _ _ | apply gbAlloc | apply gbDrew | apply gbSet) (blkLt b3.out) (by simp)) b3.out) (by omega))
  clear b2
  have b2 := Lib.hid b2'.out
  clear b2'
  have xb2_4 : w.heap.size < w4.heap.size := blkLt b2.out
  clear b3
  have b3 := Lib.hid b3'.out
  clear b3'
  have xb3_4 : w1.heap.size < w4.heap.size := blkLt b3.out
  have hr4 : C.R < w4.heap.size := hA4.out.ps.RLt
  have K4 : Hid (KidsR w4 (From (w3.heap.size + 0)) t1.kids A4) := hkd.out.keep (fun k h1 h2 => ⟨rfl, by unfold From at h1 ⊢; (try simp at h1); omega⟩)
  clear hkd
  clear hP hk hn
  go_wp2_with fail
  refine (word_any C _ nx4 dv ds ⟨#[44]⟩ (hA4.out.loc h0.out (b := w.heap.size) (by repeat with_reducible first | exact gbRefl _ _ | apply gbAlloc | apply gbDrew | apply gbSet) (Nat.le_refl _)).ps hds (by decide)).mono ?_
  intro e w5 ho
  rcases hm : wordM ⟨#[44]⟩ (C.l nx4) with ⟨⟨⟩, l5⟩ | ⟨er, l5⟩
  rotate_left
  · have hre : Hid (Res.err er l5 = r) := by have := hr.out; rw [hm] at this; exact this
    rw [hm] at ho
    clear hm
    obtain ⟨nxe, hle, hne, ⟨T, pv, rfl⟩, ⟨dv', hPe⟩, hke⟩ := ho
    have hF := Lib.hid (Out.fail (V := VNd) hre.out hle hn4 hne ⟨T, pv, rfl⟩ hPe (hA4.out.loc h0.out (b := w.heap.size) (by repeat with_reducible first | exact gbRefl _ _ | apply gbAlloc | apply gbDrew | apply gbSet) (Nat.le_refl _)).kp hke)
    clear hPe hke hle
    go_wp2
    exact ⟨rfl, hF.out⟩
  have hrn := hr.out
  rw [hm, Res.bind_ok] at hrn
  clear hr
  have hr := Lib.hid hrn
  clear hrn
  rw [hm] at ho
  clear hm
  obtain ⟨nx5, v5, hl, hn, rfl, hv, hP, hk⟩ := ho
  unfold VUnit at hv
  subst hv hl
  have hn5 : nx ≤ nx5 := Nat.le_trans hn4 hn
  have hA5 := Lib.hid ((hA4.out.loc h0.out (b := w.heap.size) (by repeat with_reducible first | exact gbRefl _ _ | apply gbAlloc | apply gbDrew | apply gbSet) (Nat.le_refl _)).step hP hk)
  have hs5 : w4.heap.size + 1 ≤ w5.heap.size := (by have := hk.size; (try simp at this); omega)
  have b2' := Lib.hid (hk.blk (b := w.heap.size) (Eq.trans (gbBlk (row := none) (by repeat with_reducible first | exact gbRefl _ _ | apply gbAlloc | apply gbDrew | apply gbSet) (blkLt b2.out) (by simp)) b2.out) (by omega))
  have b3' := Lib.hid (hk.blk (b := w1.heap.size) (Eq.trans (gbBlk (row := none) (by repeat with_reducible first | exact gbRefl _ _ | apply gbAlloc | apply gbDrew | apply gbSet) (blkLt b3.out) (by simp)) b3.out) (by omega))
  have b6' := Lib.hid (hk.blk (b := w4.heap.size) (Eq.trans (gbBlk (row := none) (by repeat with_reducible first | exact gbRefl _ _ | apply gbAlloc | apply gbDrew | apply gbSet) (by simp <;> omega) (by simp)) (newBlk w4 _ _ (by simp))) (by omega))
  clear b2
  have b2 := Lib.hid b2'.out
  clear b2'
  have xb2_5 : w.heap.size < w5.heap.size := blkLt b2.out
  clear b3
  have b3 := Lib.hid b3'.out
  clear b3'
  have xb3_5 : w1.heap.size < w5.heap.size := blkLt b3.out
  have b6 := Lib.hid b6'.out
  clear b6'
  have xb6_5 : w4.heap.size < w5.heap.size := blkLt b6.out
  have K4' := Lib.hid (KidsR.from (w' := w5) (B' := w3.heap.size + 0) (fun k h1 h2 => (hk.block k (Nat.lt_of_lt_of_le h2 (gbSize (r := none) (by repeat with_reducible first | exact gbRefl _ _ | apply gbAlloc | apply gbDrew | apply gbSet))) (by omega) (by simp)).trans (gbBlk (row := none) (by repeat with_reducible first | exact gbRefl _ _ | apply gbAlloc | apply gbDrew | apply gbSet) h2 (by simp))) (Nat.le_refl _) K4.out)
  clear K4
  have K4 := Lib.hid K4'.out
  clear K4'
  have hr5 : C.R < w5.heap.size := hA5.out.ps.RLt
  clear hP hk hn
  have qw : IntKind.i64.wrap ((level : Int) + 1) = (level : Int) + 1 := IntWalk.i64_in _ (by omega)
  obtain ⟨⟨q00, q01, q02, q03, q04, q05⟩, -⟩ := cells6 b6.out
  rcases hm : E (C.l nx5) with ⟨t2, l6⟩ | ⟨er, l6⟩
  rotate_left
  · have hre : Hid (Res.err er l6 = r) := by have := hr.out; rw [hm] at this; exact this
    have hmH := Lib.hid hm
    clear hm
    go_wp2_with fail
    go_region_with (go_at_call 96; clear qw; refine (hEH.out hl12 _ nx5 (hA5.out.loc h0.out (b := w.heap.size) (by repeat with_reducible first | exact gbRefl _ _ | apply gbAlloc | apply gbDrew | apply gbSet) (Nat.le_refl _)).ps).mono ?_; intro e we ho; rw [hmH.out] at ho; obtain ⟨nxe, hle, hne, ⟨T, pv, rfl⟩, ⟨dv', hPe⟩, hke⟩ := ho; suffices hz : wpAny Tryz.prog .any #[] (fun _ _ _ => True) 0 #[] ⟨#[], []⟩ we from ⟨rfl, Out.fail (V := VNd) hre.out hle hn5 hne ⟨T, pv, rfl⟩ hPe (hA5.out.loc h0.out (b := w.heap.size) (by repeat with_reducible first | exact gbRefl _ _ | apply gbAlloc | apply gbDrew | apply gbSet) (Nat.le_refl _)).kp hke⟩)
    all_goals trivial
  have hrn := hr.out
  rw [hm, Res.bind_ok] at hrn
  clear hr
  have hr := Lib.hid hrn
  clear hrn
  have hmH := Lib.hid hm
  clear hm
  go_wp2_with fail
  go_region_with (go_at_call 96; clear qw; refine (hEH.out hl12 _ nx5 (hA5.out.loc h0.out (b := w.heap.size) (by repeat with_reducible first | exact gbRefl _ _ | apply gbAlloc | apply gbDrew | apply gbSet) (Nat.le_refl _)).ps).mono ?_; intro e w6 ho; rw [hmH.out] at ho; obtain ⟨nx6, v6, hl, hn, rfl, ⟨A6, c6, hv, hkd⟩, hP, hk⟩ := ho; subst hv hl; have hn6 : nx ≤ nx6 := Nat.le_trans hn5 hn; have hkdH := Lib.hid hkd; clear hkd; have hkd := Lib.hid hkdH.out; clear hkdH; have hA6 := Lib.hid ((hA5.out.loc h0.out (b := w.heap.size) (by repeat with_reducible first | exact gbRefl _ _ | apply gbAlloc | apply gbDrew | apply gbSet) (Nat.le_refl _)).step hP hk); have hs6 : w5.heap.size + 0 ≤ w6.heap.size := (by have := hk.size; (try simp at this); omega); have b2' := Lib.hid (hk.blk (b := w.heap.size) (Eq.trans (gbBlk (row := none) (by repeat with_reducible first | exact gbRefl _ _ | apply gbAlloc | apply gbDrew | apply gbSet) (blkLt b2.out) (by simp)) b2.out) (by omega)); have b3' := Lib.hid (hk.blk (b := w1.heap.size) (Eq.trans (gbBlk (row := none) (by repeat with_reducible first | exact gbRefl _ _ | apply gbAlloc | apply gbDrew | apply gbSet) (blkLt b3.out) (by simp)) b3.out) (by omega)); have b6' := Lib.hid (hk.blk (b := w4.heap.size) (Eq.trans (gbBlk (row := none) (by repeat with_reducible first | exact gbRefl _ _ | apply gbAlloc | apply gbDrew | apply gbSet) (blkLt b6.out) (by simp)) b6.out) (by omega)); clear b2; have b2 := Lib.hid b2'.out; clear b2'; have xb2_6 : w.heap.size < w6.heap.size := blkLt b2.out; clear b3; have b3 := Lib.hid b3'.out; clear b3'; have xb3_6 : w1.heap.size < w6.heap.size := blkLt b3.out; clear b6; have b6 := Lib.hid b6'.out; clear b6'; have xb6_6 : w4.heap.size < w6.heap.size := blkLt b6.out; have K4' := Lib.hid (KidsR.from (w' := w6) (B' := w3.heap.size + 0) (fun k h1 h2 => (hk.block k (Nat.lt_of_lt_of_le h2 (gbSize (r := none) (by repeat with_reducible first | exact gbRefl _ _ | apply gbAlloc | apply gbDrew | apply gbSet))) (by omega) (by simp)).trans (gbBlk (row := none) (by repeat with_reducible first | exact gbRefl _ _ | apply gbAlloc | apply gbDrew | apply gbSet) h2 (by simp))) (Nat.le_refl _) K4.out); clear K4; have K4 := Lib.hid K4'.out; clear K4'; have hr6 : C.R < w6.heap.size := hA6.out.ps.RLt; have K6 : Hid (KidsR w6 (From (w5.heap.size + 0)) t2.kids A6) := hkd.out.keep (fun k h1 h2 => ⟨rfl, by unfold From at h1 ⊢; (try simp at h1); omega⟩); clear hkd hP hk hn; obtain ⟨⟨p00, p01, p02, p03, p04, p05⟩, -⟩ := cells6 b6.out; have yc := (cells6 b3.out).1.2.2.2.2.2; have yz := (cells6 b3.out).2.2.2.2.2.2)
  all_goals
    clear q00 q01 q02 q03 q04 q05 p00 p01 p02 p03 p04 p05
    go_wp2_with fail
    refine (word_any C _ nx6 dv ds ⟨#[41]⟩ (hA6.out.loc h0.out (b := w1.heap.size) (by repeat with_reducible first | exact gbRefl _ _ | apply gbAlloc | apply gbDrew | apply gbSet) (by have := hA6.out.kp.size; have := hA0.out.kp.size; have := hA1.out.kp.size; have := hA2.out.kp.size; have := hA3.out.kp.size; have := hA4.out.kp.size; have := hA5.out.kp.size; have := hs1;  have := hs2;  have := hs3;  have := hs4;  have := hs5;  have := hs6; omega)).ps hds (by decide)).mono ?_
    intro e w7 ho
    rcases hm : wordM ⟨#[41]⟩ (C.l nx6) with ⟨⟨⟩, l7⟩ | ⟨er, l7⟩
    rotate_left
    · have hre : Hid (Res.err er l7 = r) := by have := hr.out; rw [hm] at this; exact this
      rw [hm] at ho
      clear hm
      obtain ⟨nxe, hle, hne, ⟨T, pv, rfl⟩, ⟨dv', hPe⟩, hke⟩ := ho
      have hF := Lib.hid (Out.fail (V := VNd) hre.out hle hn6 hne ⟨T, pv, rfl⟩ hPe (hA6.out.loc h0.out (b := w1.heap.size) (by repeat with_reducible first | exact gbRefl _ _ | apply gbAlloc | apply gbDrew | apply gbSet) (by have := hA6.out.kp.size; have := hA0.out.kp.size; have := hA1.out.kp.size; have := hA2.out.kp.size; have := hA3.out.kp.size; have := hA4.out.kp.size; have := hA5.out.kp.size; have := hs1;  have := hs2;  have := hs3;  have := hs4;  have := hs5;  have := hs6; omega)).kp hke)
      clear hPe hke hle
      go_wp2
      exact ⟨rfl, hF.out⟩
    have hrn := hr.out
    rw [hm, Res.bind_ok] at hrn
    clear hr
    have hr := Lib.hid hrn
    clear hrn
    rw [hm] at ho
    clear hm
    obtain ⟨nx7, v7, hl, hn, rfl, hv, hP, hk⟩ := ho
    unfold VUnit at hv
    subst hv hl
    have hn7 : nx ≤ nx7 := Nat.le_trans hn6 hn
    have hA7 := Lib.hid ((hA6.out.loc h0.out (b := w1.heap.size) (by repeat with_reducible first | exact gbRefl _ _ | apply gbAlloc | apply gbDrew | apply gbSet) (by have := hA6.out.kp.size; have := hA0.out.kp.size; have := hA1.out.kp.size; have := hA2.out.kp.size; have := hA3.out.kp.size; have := hA4.out.kp.size; have := hA5.out.kp.size; have := hs1;  have := hs2;  have := hs3;  have := hs4;  have := hs5;  have := hs6; omega)).step hP hk)
    have hs7 : w6.heap.size + 1 ≤ w7.heap.size := (by have := hk.size; (try simp at this); omega)
    have b2' := Lib.hid (hk.blk (b := w.heap.size) (Eq.trans (gbBlk (row := some (w1.heap.size)) (by repeat with_reducible first | exact gbRefl _ _ | apply gbAlloc | apply gbDrew | apply gbSet) (blkLt b2.out) (by simp; omega)) b2.out) (by omega))
    have b3' := Lib.hid (hk.blk (b := w1.heap.size) (Eq.trans (gbBlk (row := none) (by repeat with_reducible first | exact gbRefl _ _ | apply gbAlloc | apply gbDrew | apply gbSet) (by simpa using blkLt b3.out) (by simp)) (set6_5 b3.out)) (by omega))
    have b6' := Lib.hid (hk.blk (b := w4.heap.size) (Eq.trans (gbBlk (row := some (w1.heap.size)) (by repeat with_reducible first | exact gbRefl _ _ | apply gbAlloc | apply gbDrew | apply gbSet) (blkLt b6.out) (by simp; omega)) b6.out) (by omega))
    have b7' := Lib.hid (hk.blk (b := w6.heap.size) (Eq.trans (gbBlk (row := none) (by repeat with_reducible first | exact gbRefl _ _ | apply gbAlloc | apply gbDrew | apply gbSet) (by simp <;> omega) (by simp)) (newBlk (w6.setCell ⟨w1.heap.size, 5, none⟩ _) _ _ (by simp))) (by omega))
    clear b2
    have b2 := Lib.hid b2'.out
    clear b2'
    have xb2_7 : w.heap.size < w7.heap.size := blkLt b2.out
    clear b3
    have b3 := Lib.hid b3'.out
    clear b3'
    have xb3_7 : w1.heap.size < w7.heap.size := blkLt b3.out
    clear b6
    have b6 := Lib.hid b6'.out
    clear b6'
    have xb6_7 : w4.heap.size < w7.heap.size := blkLt b6.out
    have b7 := Lib.hid b7'.out
    clear b7'
    have xb7_7 : w6.heap.size < w7.heap.size := blkLt b7.out
    have K4' := Lib.hid (KidsR.from (w' := w7) (B' := w3.heap.size + 0) (fun k h1 h2 => (hk.block k (Nat.lt_of_lt_of_le h2 (gbSize (r := some (w1.heap.size)) (by repeat with_reducible first | exact gbRefl _ _ | apply gbAlloc | apply gbDrew | apply gbSet))) (by omega) (by simp)).trans (gbBlk (row := some (w1.heap.size)) (by repeat with_reducible first | exact gbRefl _ _ | apply gbAlloc | apply gbDrew | apply gbSet) h2 (fun e => by cases e; omega))) (Nat.le_refl _) K4.out)
    clear K4
    have K4 := Lib.hid K4'.out
    clear K4'
    have K6' := Lib.hid (KidsR.from (w' := w7) (B' := w5.heap.size + 0) (fun k h1 h2 => (hk.block k (Nat.lt_of_lt_of_le h2 (gbSize (r := some (w1.heap.size)) (by repeat with_reducible first | exact gbRefl _ _ | apply gbAlloc | apply gbDrew | apply gbSet))) (by omega) (by simp)).trans (gbBlk (row := some (w1.heap.size)) (by repeat with_reducible first | exact gbRefl _ _ | apply gbAlloc | apply gbDrew | apply gbSet) h2 (fun e => by cases e; omega))) (Nat.le_refl _) K6.out)
    clear K6
    have K6 := Lib.hid K6'.out
    clear K6'
    have hr7 : C.R < w7.heap.size := hA7.out.ps.RLt
    clear yc yz
    clear hP hk hn
    obtain ⟨⟨a0, a1, a2, a3, a4, a5⟩, d0, d1, d2, d3, d4, d5⟩ := cells6 b2.out
    obtain ⟨⟨f0, f1, f2, f3, f4, f5⟩, e0, e1, e2, e3, e4, e5⟩ := cells6 b3.out
    go_wp2
    refine bodyPost_ret (v := nv (.mk (19 + k) ⟨#[]⟩ 0 0 (hd (C.l nx)).a [t1, t2]) (some ⟨w6.heap.size, 0, none⟩) 0) (by simp [results, Tryz.results112, go_sem, a0, a1, a2, a3, a4, a5, xb2_7, xb3_7, Nd.kind, Nd.name, Nd.n, Nd.unit, Nd.at0, Nd.kids]) rfl ?_
    exact Out.ret hr.out rfl hn7 ⟨(some ⟨w6.heap.size, 0, none⟩), 0, rfl, (KidsR.from (B := w.heap.size + 1) (fun k h1 h2 => gbBlk (row := some (w.heap.size)) (by repeat with_reducible first | exact gbRefl _ _ | apply gbAlloc | apply gbDrew | apply gbSet) h2 (fun e => by cases e; omega)) (by omega) (kids2 b7.out (by unfold From; omega) (K4.out.keep (fun k h1 h2 => ⟨rfl, by unfold From at h1 ⊢; omega⟩)) (K6.out.keep (fun k h1 h2 => ⟨rfl, by unfold From at h1 ⊢; omega⟩))))⟩ ⟨(hA7.out.loc h0.out (b := w.heap.size) (by repeat with_reducible first | exact gbRefl _ _ | apply gbAlloc | apply gbDrew | apply gbSet) (Nat.le_refl _)).ps, (hA7.out.loc h0.out (b := w.heap.size) (by repeat with_reducible first | exact gbRefl _ _ | apply gbAlloc | apply gbDrew | apply gbSet) (Nat.le_refl _)).kp⟩

end Go.Proofs.YtdaghppcomckbaaGreatDoor
