/- Texts of one proof: PxO. -/
import Derived.Test.YtdaghppcomckbaaGreatDoorPxN
/- The parser: amounts, factors. -/
namespace Go.Proofs.YtdaghppcomckbaaGreatDoor
open Go.RowKit
set_option linter.unusedVariables false
set_option linter.unusedSimpArgs false
def amtM (l : List Tk) : Res Nd := (numberM l).bind fun t l1 => if idx unitWs (hd l1).x < 0 then .ok t l1 else (choiceM unitWs l1).bind fun k l2 => .ok (.mk t.kind t.name t.n k t.at0 t.kids) l2

set_option maxHeartbeats 2000000 in
set_option maxRecDepth 100000 in
theorem amount_any (C : Cx) (w : World) (nx : Nat) (dv : Value) (ds : List (Int × Int))  (h : PS C w nx dv ds) (hds : ds.length ≤ 100) :
    Calls Tryz.prog 111 #[.pointer (some ⟨C.R, 0, none⟩)] w (Out C nx dv ds w VNd (amtM (C.l nx))) := by
  have h0 := Lib.hid h
  have hR0 := h.RLt
  have hA0 := Lib.hid (At.start h)
  have hn0 : nx ≤ nx := Nat.le_refl _
  obtain ⟨r, hr⟩ : ∃ r, amtM (C.l nx) = r := ⟨_, rfl⟩
  rw [hr]
  unfold amtM at hr
  have hrH := Lib.hid hr
  clear hr h
  have hr := Lib.hid hrH.out
  clear hrH
  go_enter Tryz.func111, Tryz.ntmps111
  go_wp2_with fail
  refine (number_any C _ nx dv ds (hA0.out.loc h0.out (b := w.heap.size) (by repeat with_reducible first | exact gbRefl _ _ | apply gbAlloc | apply gbDrew | apply gbSet) (Nat.le_refl _)).ps hds).mono ?_
  intro e w1 ho
  rcases hm : numberM (C.l nx) with ⟨t, l1⟩ | ⟨er, l1⟩
  rotate_left
  · have hre : Hid (Res.err er l1 = r) := by have := hr.out; rw [hm] at this; exact this
    rw [hm] at ho
    clear hm
    obtain ⟨nxe, hle, hne, ⟨T, pv, rfl⟩, ⟨dv', hPe⟩, hke⟩ := ho
    have hF := Lib.hid (Out.fail (V := VNd) hre.out hle hn0 hne ⟨T, pv, rfl⟩ hPe (hA0.out.loc h0.out (b := w.heap.size) (by repeat with_reducible first | exact gbRefl _ _ | apply gbAlloc | apply gbDrew | apply gbSet) (Nat.le_refl _)).kp hke)
    clear hPe hke hle
    go_wp2
    exact ⟨rfl, hF.out⟩
  have hrn := hr.out
  rw [hm, Res.bind_ok] at hrn
  clear hr
  have hr := Lib.hid hrn
  clear hrn
  have htk := Lib.hid (show t.kids = [] by rw [(numberM_ok hm).2]; rfl)
  rw [hm] at ho
  clear hm
  obtain ⟨nx1, v1, hl, hn, rfl, ⟨A1, c1, hv, hkd⟩, hP, hk⟩ := ho
  subst hv hl
  have hn1 : nx ≤ nx1 := Nat.le_trans hn0 hn
  have hkdH := Lib.hid hkd
  clear hkd
  have hkd := Lib.hid hkdH.out
  clear hkdH
  have hA1 := Lib.hid ((hA0.out.loc h0.out (b := w.heap.size) (by repeat with_reducible first | exact gbRefl _ _ | apply gbAlloc | apply gbDrew | apply gbSet) (Nat.le_refl _)).step hP hk)
  have hs1 : w.heap.size + 1 ≤ w1.heap.size := (by have := hk.size; (try simp at this); omega)
  have b2' := Lib.hid (hk.blk (b := w.heap.size) (Eq.trans (gbBlk (row := none) (by repeat with_reducible first | exact gbRefl _ _ | apply gbAlloc | apply gbDrew | apply gbSet) (by simp <;> omega) (by simp)) (newBlk w _ _ (by simp))) (by omega))
  have b2 := Lib.hid b2'.out
  clear b2'
  have xb2_1 : w.heap.size < w1.heap.size := blkLt b2.out
  have hr1 : C.R < w1.heap.size := hA1.out.ps.RLt
  have K1 : Hid (KidsR w1 (From (w.heap.size + 1)) t.kids A1) := hkd.out.keep (fun k h1 h2 => ⟨rfl, by unfold From at h1 ⊢; (try simp at h1); omega⟩)
  clear hkd
  clear hP hk hn
  go_wp2_with fail
  refine (unitWords_any _).mono ?_
  rintro e wq ⟨rfl, rfl⟩
  go_wp2_with fail
  refine (among_any C _ nx1 dv ds (w1.heap.size + 1) 5 unitWs (hA1.out.loc h0.out (b := w.heap.size) (by repeat with_reducible first | exact gbRefl _ _ | apply gbAlloc | apply gbDrew | apply gbSet) (Nat.le_refl _)).ps (new_strsE _ _ _ _ rfl _ (by simp)) (by simp) (by decide)).mono ?_
  rintro e w2 ⟨rfl, hb⟩
  have hP := (hA1.out.loc h0.out (b := w.heap.size) (by repeat with_reducible first | exact gbRefl _ _ | apply gbAlloc | apply gbDrew | apply gbSet) (Nat.le_refl _)).ps.below hb
  have hk := Below.kp (R := C.R) (o := none) hb
  have hA2 := Lib.hid ((hA1.out.loc h0.out (b := w.heap.size) (by repeat with_reducible first | exact gbRefl _ _ | apply gbAlloc | apply gbDrew | apply gbSet) (Nat.le_refl _)).step hP hk)
  have hs2 : w1.heap.size + 2 ≤ w2.heap.size := (by have := hk.size; (try simp at this); omega)
  have b2' := Lib.hid (hk.blk (b := w.heap.size) (Eq.trans (gbBlk (row := none) (by repeat with_reducible first | exact gbRefl _ _ | apply gbAlloc | apply gbDrew | apply gbSet) (blkLt b2.out) (by simp)) b2.out) (by omega))
  have b3' := Lib.hid (hk.blk (b := w1.heap.size) (Eq.trans (gbBlk (row := none) (by repeat with_reducible first | exact gbRefl _ _ | apply gbAlloc | apply gbDrew | apply gbSet) (by simp <;> omega) (by simp)) (newBlk w1 _ _ (by simp))) (by omega))
  clear b2
  have b2 := Lib.hid b2'.out
  clear b2'
  have xb2_2 : w.heap.size < w2.heap.size := blkLt b2.out
  have b3 := Lib.hid b3'.out
  clear b3'
  have xb3_2 : w1.heap.size < w2.heap.size := blkLt b3.out
  have K1' := Lib.hid (KidsR.from (w' := w2) (B' := w.heap.size + 1) (fun k h1 h2 => (hk.block k (Nat.lt_of_lt_of_le h2 (gbSize (r := none) (by repeat with_reducible first | exact gbRefl _ _ | apply gbAlloc | apply gbDrew | apply gbSet))) (by omega) (by simp)).trans (gbBlk (row := none) (by repeat with_reducible first | exact gbRefl _ _ | apply gbAlloc | apply gbDrew | apply gbSet) h2 (by simp))) (Nat.le_refl _) K1.out)
  clear K1
  have K1 := Lib.hid K1'.out
  clear K1'
  have hr2 : C.R < w2.heap.size := hA2.out.ps.RLt
  have hn2 := hn1
  clear hb hP hk
  by_cases hneg : idx unitWs (hd (C.l nx1)).x < 0
  · have hge : decide (0 ≤ idx unitWs (hd (C.l nx1)).x) = false := by simp; omega
    have hrn := hr.out
    rw [if_pos hneg] at hrn
    clear hr
    have hr := Lib.hid hrn
    clear hrn
    obtain ⟨⟨a0, a1, a2, a3, a4, a5⟩, d0, d1, d2, d3, d4, d5⟩ := cells6 b2.out
    obtain ⟨⟨f0, f1, f2, f3, f4, f5⟩, e0, e1, e2, e3, e4, e5⟩ := cells6 b3.out
    go_wp2
    refine bodyPost_ret (v := nv (t) A1 c1) (by simp [results, Tryz.results111, go_sem, a0, a1, a2, a3, a4, a5, xb2_2, xb3_2, Nd.kind, Nd.name, Nd.n, Nd.unit, Nd.at0, Nd.kids]) rfl ?_
    exact Out.ret hr.out rfl hn2 ⟨A1, c1, rfl, (KidsR.from (fun k h1 h2 => gbBlk (row := some (w.heap.size)) (by repeat with_reducible first | exact gbRefl _ _ | apply gbAlloc | apply gbDrew | apply gbSet) h2 (fun e => by cases e; omega)) (by omega) K1.out)⟩ ⟨(hA2.out.loc h0.out (b := w.heap.size) (by repeat with_reducible first | exact gbRefl _ _ | apply gbAlloc | apply gbDrew | apply gbSet) (Nat.le_refl _)).ps, (hA2.out.loc h0.out (b := w.heap.size) (by repeat with_reducible first | exact gbRefl _ _ | apply gbAlloc | apply gbDrew | apply gbSet) (Nat.le_refl _)).kp⟩
  · have hge : 0 ≤ idx unitWs (hd (C.l nx1)).x := by omega
    have hrn := hr.out
    rw [if_neg hneg] at hrn
    clear hr
    have hr := Lib.hid hrn
    clear hrn hneg
    go_wp2_with fail
    refine (unitWords_any _).mono ?_
    rintro e wq ⟨rfl, rfl⟩
    go_wp2_with fail
    refine (choice_any C _ nx1 dv ds (w2.heap.size) 5 unitWs (hA2.out.loc h0.out (b := w.heap.size) (by repeat with_reducible first | exact gbRefl _ _ | apply gbAlloc | apply gbDrew | apply gbSet) (Nat.le_refl _)).ps (new_strsE _ _ _ _ rfl _ (by simp)) (by simp) (by decide) hds (idxNe _ (by decide))).mono ?_
    intro e w3 ho
    rcases hm : choiceM unitWs (C.l nx1) with ⟨k, l3⟩ | ⟨er, l3⟩
    rotate_left
    · have hre : Hid (Res.err er l3 = r) := by have := hr.out; rw [hm] at this; exact this
      rw [hm] at ho
      clear hm
      obtain ⟨nxe, hle, hne, ⟨T, pv, rfl⟩, ⟨dv', hPe⟩, hke⟩ := ho
      have hF := Lib.hid (Out.fail (V := VNd) hre.out hle hn2 hne ⟨T, pv, rfl⟩ hPe (hA2.out.loc h0.out (b := w.heap.size) (by repeat with_reducible first | exact gbRefl _ _ | apply gbAlloc | apply gbDrew | apply gbSet) (Nat.le_refl _)).kp hke)
      clear hPe hke hle
      go_wp2
      exact ⟨rfl, hF.out⟩
    have hrn := hr.out
    rw [hm, Res.bind_ok] at hrn
    clear hr
    have hr := Lib.hid hrn
    clear hrn
    have hk0_k : 0 ≤ k := (choiceM_bd hm).1; have hk1_k : k < 5 := (choiceM_bd hm).2
    rw [hm] at ho
    clear hm
    obtain ⟨nx3, v3, hl, hn, rfl, hv, hP, hk⟩ := ho
    unfold VInt at hv
    subst hv hl
    have hn3 : nx ≤ nx3 := Nat.le_trans hn2 hn
    have hA3 := Lib.hid ((hA2.out.loc h0.out (b := w.heap.size) (by repeat with_reducible first | exact gbRefl _ _ | apply gbAlloc | apply gbDrew | apply gbSet) (Nat.le_refl _)).step hP hk)
    have hs3 : w2.heap.size + 1 ≤ w3.heap.size := (by have := hk.size; (try simp at this); omega)
    have b2' := Lib.hid (hk.blk (b := w.heap.size) (Eq.trans (gbBlk (row := none) (by repeat with_reducible first | exact gbRefl _ _ | apply gbAlloc | apply gbDrew | apply gbSet) (blkLt b2.out) (by simp)) b2.out) (by omega))
    have b3' := Lib.hid (hk.blk (b := w1.heap.size) (Eq.trans (gbBlk (row := none) (by repeat with_reducible first | exact gbRefl _ _ | apply gbAlloc | apply gbDrew | apply gbSet) (blkLt b3.out) (by simp)) b3.out) (by omega))
    clear b2
    have b2 := Lib.hid b2'.out
    clear b2'
    have xb2_3 : w.heap.size < w3.heap.size := blkLt b2.out
    clear b3
    have b3 := Lib.hid b3'.out
    clear b3'
    have xb3_3 : w1.heap.size < w3.heap.size := blkLt b3.out
    have K1' := Lib.hid (KidsR.from (w' := w3) (B' := w.heap.size + 1) (fun k h1 h2 => (hk.block k (Nat.lt_of_lt_of_le h2 (gbSize (r := none) (by repeat with_reducible first | exact gbRefl _ _ | apply gbAlloc | apply gbDrew | apply gbSet))) (by omega) (by simp)).trans (gbBlk (row := none) (by repeat with_reducible first | exact gbRefl _ _ | apply gbAlloc | apply gbDrew | apply gbSet) h2 (by simp))) (Nat.le_refl _) K1.out)
    clear K1
    have K1 := Lib.hid K1'.out
    clear K1'
    have hr3 : C.R < w3.heap.size := hA3.out.ps.RLt
    clear hP hk hn
    obtain ⟨⟨a0, a1, a2, a3, a4, a5⟩, d0, d1, d2, d3, d4, d5⟩ := cells6 b2.out
    obtain ⟨⟨f0, f1, f2, f3, f4, f5⟩, e0, e1, e2, e3, e4, e5⟩ := cells6 b3.out
    go_wp2
    refine bodyPost_ret (v := nv (.mk t.kind t.name t.n k t.at0 t.kids) A1 c1) (by simp [results, Tryz.results111, go_sem, a0, a1, a2, a3, a4, a5, f0, f1, f2, f3, f4, f5, xb2_3, xb3_3, Nd.kind, Nd.name, Nd.n, Nd.unit, Nd.at0, Nd.kids]) rfl ?_
    exact Out.ret hr.out rfl hn3 ⟨A1, c1, rfl, (by show KidsR _ _ t.kids _; rw [htk.out]; trivial)⟩ ⟨((hA3.out.loc h0.out (b := w1.heap.size) (gbSet (gbRefl w3 _) : w3.grownBy (w3.setCell ⟨w1.heap.size, 3, none⟩ (.int .i64 k)) (some (w1.heap.size))) (by have := hA3.out.kp.size; have := hs1; have := hs2; have := hs3; omega)).loc h0.out (b := w.heap.size) (by repeat with_reducible first | exact gbRefl _ _ | apply gbAlloc | apply gbDrew | apply gbSet) (Nat.le_refl _)).ps, ((hA3.out.loc h0.out (b := w1.heap.size) (gbSet (gbRefl w3 _) : w3.grownBy (w3.setCell ⟨w1.heap.size, 3, none⟩ (.int .i64 k)) (some (w1.heap.size))) (by have := hA3.out.kp.size; have := hs1; have := hs2; have := hs3; omega)).loc h0.out (b := w.heap.size) (by repeat with_reducible first | exact gbRefl _ _ | apply gbAlloc | apply gbDrew | apply gbSet) (Nat.le_refl _)).kp⟩


theorem cells4 {w : World} {b : Nat} {v0 v1 v2 v3 : Value} {T : TypeId} (h : w.heap[b]? = some (.cells #[v0, v1, v2, v3] T (0, 0))) :
    w.cell? ⟨b, 0, none⟩ = some v0 ∧ w.cell? ⟨b, 1, none⟩ = some v1 ∧ w.cell? ⟨b, 2, none⟩ = some v2 ∧ w.cell? ⟨b, 3, none⟩ = some v3 := by
  refine ⟨?_, ?_, ?_, ?_⟩
  · rw [cell_of_row _ _ 0 _ _ (0, 0) h]; rfl
  · rw [cell_of_row _ _ 1 _ _ (0, 0) h]; rfl
  · rw [cell_of_row _ _ 2 _ _ (0, 0) h]; rfl
  · rw [cell_of_row _ _ 3 _ _ (0, 0) h]; rfl
def parenM (E : List Tk → Res Nd) (l : List Tk) : Res Nd := (wordM ⟨#[40]⟩ l).bind fun _ l1 => (E l1).bind fun t l2 => (wordM ⟨#[41]⟩ l2).bind fun _ l3 => .ok t l3
def amtR (l : List Tk) : Res Nd := (amtM l).bind fun t l1 => .ok t l1
def fnR (E : List Tk → Res Nd) (l : List Tk) : Res Nd := (functionM E l).bind fun t l1 => .ok t l1
def nameR (l : List Tk) : Res Nd := .ok (nmNd (hd l).x (hd l).a) l.tail

set_option maxHeartbeats 2000000 in
set_option maxRecDepth 100000 in
theorem factor_num (C : Cx) (w : World) (nx : Nat) (dv : Value) (ds : List (Int × Int)) (level : Nat) (hk : (hd (C.l nx)).k = 2) (h : PS C w nx dv ds) (hds : ds.length ≤ 100) :
    Calls Tryz.prog 106 #[.pointer (some ⟨C.R, 0, none⟩), .int .i64 level] w (Out C nx dv ds w VNd (amtR (C.l nx))) := by
  have h0 := Lib.hid h
  have hR0 := h.RLt
  have hA0 := Lib.hid (At.start h)
  have hn0 : nx ≤ nx := Nat.le_refl _
  obtain ⟨r, hr⟩ : ∃ r, amtR (C.l nx) = r := ⟨_, rfl⟩
  rw [hr]
  have hkb : ((hd (C.l nx)).k == 2) = true := by simp [hk]
  clear hk
  unfold amtR at hr
  have hrH := Lib.hid hr
  clear hr h
  have hr := Lib.hid hrH.out
  clear hrH
  go_enter Tryz.func106, Tryz.ntmps106
  go_wp2_with fail
  refine (token_any C _ nx dv ds (hA0.out.loc h0.out (b := w.heap.size) (by repeat with_reducible first | exact gbRefl _ _ | apply gbAlloc | apply gbDrew | apply gbSet) (Nat.le_refl _)).ps).mono ?_
  rintro e w1 ⟨rfl, hb⟩
  have hP := (hA0.out.loc h0.out (b := w.heap.size) (by repeat with_reducible first | exact gbRefl _ _ | apply gbAlloc | apply gbDrew | apply gbSet) (Nat.le_refl _)).ps.below hb
  have hk := Below.kp (R := C.R) (o := none) hb
  have nx1_ : True := trivial
  have hA1 := Lib.hid ((hA0.out.loc h0.out (b := w.heap.size) (by repeat with_reducible first | exact gbRefl _ _ | apply gbAlloc | apply gbDrew | apply gbSet) (Nat.le_refl _)).step hP hk)
  have hs1 : w.heap.size + 1 ≤ w1.heap.size := (by have := hk.size; (try simp at this); omega)
  have b2' := Lib.hid (hk.blk (b := w.heap.size) (Eq.trans (gbBlk (row := none) (by repeat with_reducible first | exact gbRefl _ _ | apply gbAlloc | apply gbDrew | apply gbSet) (by simp <;> omega) (by simp)) (newBlk w _ _ (by simp))) (by omega))
  have b2 := Lib.hid b2'.out
  clear b2'
  have xb2_1 : w.heap.size < w1.heap.size := blkLt b2.out
  have hr1 : C.R < w1.heap.size := hA1.out.ps.RLt
  have hn1 := hn0
  clear hb hP hk
  go_wp2_with fail
  refine (amount_any C _ nx dv ds (hA1.out.loc h0.out (b := w.heap.size) (by repeat with_reducible first | exact gbRefl _ _ | apply gbAlloc | apply gbDrew | apply gbSet) (Nat.le_refl _)).ps hds).mono ?_
  intro e w2 ho
  rcases hm : amtM (C.l nx) with ⟨t, l2⟩ | ⟨er, l2⟩
  rotate_left
  · have hre : Hid (Res.err er l2 = r) := by have := hr.out; rw [hm] at this; exact this
    rw [hm] at ho
    clear hm
    obtain ⟨nxe, hle, hne, ⟨T, pv, rfl⟩, ⟨dv', hPe⟩, hke⟩ := ho
    have hF := Lib.hid (Out.fail (V := VNd) hre.out hle hn1 hne ⟨T, pv, rfl⟩ hPe (hA1.out.loc h0.out (b := w.heap.size) (by repeat with_reducible first | exact gbRefl _ _ | apply gbAlloc | apply gbDrew | apply gbSet) (Nat.le_refl _)).kp hke)
    clear hPe hke hle
    go_wp2
    exact ⟨rfl, hF.out⟩
  have hrn := hr.out
  rw [hm, Res.bind_ok] at hrn
  clear hr
  have hr := Lib.hid hrn
  clear hrn
  rw [hm] at ho
  clear hm
  obtain ⟨nx2, v2, hl, hn, rfl, ⟨A2, c2, hv, hkd⟩, hP, hk⟩ := ho
  subst hv hl
  have hn2 : nx ≤ nx2 := Nat.le_trans hn1 hn
  have hkdH := Lib.hid hkd
  clear hkd
  have hkd := Lib.hid hkdH.out
  clear hkdH
  have hA2 := Lib.hid ((hA1.out.loc h0.out (b := w.heap.size) (by repeat with_reducible first | exact gbRefl _ _ | apply gbAlloc | apply gbDrew | apply gbSet) (Nat.le_refl _)).step hP hk)
  have hs2 : w1.heap.size + 1 ≤ w2.heap.size := (by have := hk.size; (try simp at this); omega)
  have b2' := Lib.hid (hk.blk (b := w.heap.size) (Eq.trans (gbBlk (row := none) (by repeat with_reducible first | exact gbRefl _ _ | apply gbAlloc | apply gbDrew | apply gbSet) (blkLt b2.out) (by simp)) b2.out) (by omega))
  have b5' := Lib.hid (hk.blk (b := w1.heap.size) (Eq.trans (gbBlk (row := none) (by repeat with_reducible first | exact gbRefl _ _ | apply gbAlloc | apply gbDrew | apply gbSet) (by simp <;> omega) (by simp)) (newBlk w1 _ _ (by simp))) (by omega))
  clear b2
  have b2 := Lib.hid b2'.out
  clear b2'
  have xb2_2 : w.heap.size < w2.heap.size := blkLt b2.out
  have b5 := Lib.hid b5'.out
  clear b5'
  have xb5_2 : w1.heap.size < w2.heap.size := blkLt b5.out
  have hr2 : C.R < w2.heap.size := hA2.out.ps.RLt
  have K2 : Hid (KidsR w2 (From (w1.heap.size + 1)) t.kids A2) := hkd.out.keep (fun k h1 h2 => ⟨rfl, by unfold From at h1 ⊢; (try simp at h1); omega⟩)
  clear hkd
  clear hP hk hn
  obtain ⟨⟨a0, a1, a2, a3, a4, a5⟩, d0, d1, d2, d3, d4, d5⟩ := cells6 b2.out
  go_wp2
  refine bodyPost_ret (v := nv (t) A2 c2) (by simp [results, Tryz.results106, go_sem, a0, a1, a2, a3, a4, a5, xb2_2, Nd.kind, Nd.name, Nd.n, Nd.unit, Nd.at0, Nd.kids]) rfl ?_
  exact Out.ret hr.out rfl hn2 ⟨A2, c2, rfl, (KidsR.from (fun k h1 h2 => gbBlk (row := some (w.heap.size)) (by repeat with_reducible first | exact gbRefl _ _ | apply gbAlloc | apply gbDrew | apply gbSet) h2 (fun e => by cases e; omega)) (by omega) K2.out)⟩ ⟨(hA2.out.loc h0.out (b := w.heap.size) (by repeat with_reducible first | exact gbRefl _ _ | apply gbAlloc | apply gbDrew | apply gbSet) (Nat.le_refl _)).ps, (hA2.out.loc h0.out (b := w.heap.size) (by repeat with_reducible first | exact gbRefl _ _ | apply gbAlloc | apply gbDrew | apply gbSet) (Nat.le_refl _)).kp⟩

set_option maxHeartbeats 2000000 in
set_option maxRecDepth 100000 in
theorem factor_name (C : Cx) (w : World) (nx : Nat) (dv : Value) (ds : List (Int × Int)) (level : Nat) (hk : ¬ (hd (C.l nx)).k = 2) (hn1 : atNameB (C.l nx) = true) (h : PS C w nx dv ds) (hds : ds.length ≤ 100) :
    Calls Tryz.prog 106 #[.pointer (some ⟨C.R, 0, none⟩), .int .i64 level] w (Out C nx dv ds w VNd (nameR (C.l nx))) := by
  have h0 := Lib.hid h
  have hR0 := h.RLt
  have hA0 := Lib.hid (At.start h)
  have hn0 : nx ≤ nx := Nat.le_refl _
  obtain ⟨r, hr⟩ : ∃ r, nameR (C.l nx) = r := ⟨_, rfl⟩
  rw [hr]
  have hkb : ((hd (C.l nx)).k == 2) = false := by simp [hk]
  have hnx := h.next (by rintro ⟨e, e2⟩; unfold atNameB at hn1; rw [e2] at hn1; simp at hn1)
  have hle := h.le
  have hn1H := Lib.hid hn1
  clear hk hn1
  unfold nameR at hr
  have hrH := Lib.hid hr
  clear hr h
  have hr := Lib.hid hrH.out
  clear hrH
  go_enter Tryz.func106, Tryz.ntmps106
  go_wp2_with fail
  refine (token_any C _ nx dv ds (hA0.out.loc h0.out (b := w.heap.size) (by repeat with_reducible first | exact gbRefl _ _ | apply gbAlloc | apply gbDrew | apply gbSet) (Nat.le_refl _)).ps).mono ?_
  rintro e w1 ⟨rfl, hb⟩
  have hP := (hA0.out.loc h0.out (b := w.heap.size) (by repeat with_reducible first | exact gbRefl _ _ | apply gbAlloc | apply gbDrew | apply gbSet) (Nat.le_refl _)).ps.below hb
  have hk := Below.kp (R := C.R) (o := none) hb
  have nx1_ : True := trivial
  have hA1 := Lib.hid ((hA0.out.loc h0.out (b := w.heap.size) (by repeat with_reducible first | exact gbRefl _ _ | apply gbAlloc | apply gbDrew | apply gbSet) (Nat.le_refl _)).step hP hk)
  have hs1 : w.heap.size + 1 ≤ w1.heap.size := (by have := hk.size; (try simp at this); omega)
  have b2' := Lib.hid (hk.blk (b := w.heap.size) (Eq.trans (gbBlk (row := none) (by repeat with_reducible first | exact gbRefl _ _ | apply gbAlloc | apply gbDrew | apply gbSet) (by simp <;> omega) (by simp)) (newBlk w _ _ (by simp))) (by omega))
  have b2 := Lib.hid b2'.out
  clear b2'
  have xb2_1 : w.heap.size < w1.heap.size := blkLt b2.out
  have hr1 : C.R < w1.heap.size := hA1.out.ps.RLt
  have hn1 := hn0
  clear hb hP hk
  have hBq := Lib.hid (hn1H.out)
  go_wp2_with fail
  refine (atName_any C _ nx dv ds (hA1.out.loc h0.out (b := w.heap.size) (by repeat with_reducible first | exact gbRefl _ _ | apply gbAlloc | apply gbDrew | apply gbSet) (Nat.le_refl _)).ps).mono ?_
  rw [hBq.out]
  rintro e w2 ⟨rfl, hb⟩
  have hP := (hA1.out.loc h0.out (b := w.heap.size) (by repeat with_reducible first | exact gbRefl _ _ | apply gbAlloc | apply gbDrew | apply gbSet) (Nat.le_refl _)).ps.below hb
  have hk := Below.kp (R := C.R) (o := none) hb
  have hA2 := Lib.hid ((hA1.out.loc h0.out (b := w.heap.size) (by repeat with_reducible first | exact gbRefl _ _ | apply gbAlloc | apply gbDrew | apply gbSet) (Nat.le_refl _)).step hP hk)
  have hs2 : w1.heap.size + 1 ≤ w2.heap.size := (by have := hk.size; (try simp at this); omega)
  have b2' := Lib.hid (hk.blk (b := w.heap.size) (Eq.trans (gbBlk (row := none) (by repeat with_reducible first | exact gbRefl _ _ | apply gbAlloc | apply gbDrew | apply gbSet) (blkLt b2.out) (by simp)) b2.out) (by omega))
  have b5' := Lib.hid (hk.blk (b := w1.heap.size) (Eq.trans (gbBlk (row := none) (by repeat with_reducible first | exact gbRefl _ _ | apply gbAlloc | apply gbDrew | apply gbSet) (by simp <;> omega) (by simp)) (newBlk w1 _ _ (by simp))) (by omega))
  clear b2
  have b2 := Lib.hid b2'.out
  clear b2'
  have xb2_2 : w.heap.size < w2.heap.size := blkLt b2.out
  have b5 := Lib.hid b5'.out
  clear b5'
  have xb5_2 : w1.heap.size < w2.heap.size := blkLt b5.out
  have hr2 : C.R < w2.heap.size := hA2.out.ps.RLt
  have hn2 := hn1
  clear hb hP hk
  clear hBq
  obtain ⟨k0, k1, k2, k3⟩ := cells4 b5.out
  have c1 := hA2.out.ps.c1
  have z1 := hA2.out.ps.fz 1
  obtain ⟨⟨a0, a1, a2, a3, a4, a5⟩, d0, d1, d2, d3, d4, d5⟩ := cells6 b2.out
  go_wp2
  refine bodyPost_ret (v := nv (nmNd (hd (C.l nx)).x (hd (C.l nx)).a) none 0) (by simp [results, Tryz.results106, go_sem, a0, a1, a2, a3, a4, a5, xb2_2, xb5_2, hr2, hR0, nmNd, Nd.kind, Nd.name, Nd.n, Nd.unit, Nd.at0, Nd.kids]) rfl ?_
  exact Out.ret hr.out (l_tail C nx) (Nat.le_succ _) ⟨none, 0, rfl, trivial⟩ ⟨((hA2.out.step (hA2.out.ps.bump hnx) ((Kp.refl _ _ _).setCell (i := 1) (.inl rfl) _)).loc h0.out (b := w.heap.size) (by repeat with_reducible first | exact gbRefl _ _ | apply gbAlloc | apply gbDrew | apply gbSet) (Nat.le_refl _)).ps, ((hA2.out.step (hA2.out.ps.bump hnx) ((Kp.refl _ _ _).setCell (i := 1) (.inl rfl) _)).loc h0.out (b := w.heap.size) (by repeat with_reducible first | exact gbRefl _ _ | apply gbAlloc | apply gbDrew | apply gbSet) (Nat.le_refl _)).kp⟩

set_option maxHeartbeats 2000000 in
set_option maxRecDepth 100000 in
theorem factor_inp (C : Cx) (w : World) (nx : Nat) (dv : Value) (ds : List (Int × Int)) (level : Nat) (hk : ¬ (hd (C.l nx)).k = 2) (hn1 : atNameB (C.l nx) = false) (hn2 : inpB (hd (C.l nx)).x = true) (h : PS C w nx dv ds) (hds : ds.length ≤ 100) :
    Calls Tryz.prog 106 #[.pointer (some ⟨C.R, 0, none⟩), .int .i64 level] w (Out C nx dv ds w VNd (nameR (C.l nx))) := by
  have h0 := Lib.hid h
  have hR0 := h.RLt
  have hA0 := Lib.hid (At.start h)
  have hn0 : nx ≤ nx := Nat.le_refl _
  obtain ⟨r, hr⟩ : ∃ r, nameR (C.l nx) = r := ⟨_, rfl⟩
  rw [hr]
  have hkb : ((hd (C.l nx)).k == 2) = false := by simp [hk]
  have hnx := h.next (by rintro ⟨e, e2⟩; rw [e] at hn2; simp [inpB, inpL, ByteArray.toList_eq] at hn2)
  have hle := h.le
  have hn1H := Lib.hid hn1
  have hn2H := Lib.hid hn2
  clear hk hn1 hn2
  unfold nameR at hr
  have hrH := Lib.hid hr
  clear hr h
  have hr := Lib.hid hrH.out
  clear hrH
  go_enter Tryz.func106, Tryz.ntmps106
  go_wp2_with fail
  refine (token_any C _ nx dv ds (hA0.out.loc h0.out (b := w.heap.size) (by repeat with_reducible first | exact gbRefl _ _ | apply gbAlloc | apply gbDrew | apply gbSet) (Nat.le_refl _)).ps).mono ?_
  rintro e w1 ⟨rfl, hb⟩
  have hP := (hA0.out.loc h0.out (b := w.heap.size) (by repeat with_reducible first | exact gbRefl _ _ | apply gbAlloc | apply gbDrew | apply gbSet) (Nat.le_refl _)).ps.below hb
  have hk := Below.kp (R := C.R) (o := none) hb
  have nx1_ : True := trivial
  have hA1 := Lib.hid ((hA0.out.loc h0.out (b := w.heap.size) (by repeat with_reducible first | exact gbRefl _ _ | apply gbAlloc | apply gbDrew | apply gbSet) (Nat.le_refl _)).step hP hk)
  have hs1 : w.heap.size + 1 ≤ w1.heap.size := (by have := hk.size; (try simp at this); omega)
  have b2' := Lib.hid (hk.blk (b := w.heap.size) (Eq.trans (gbBlk (row := none) (by repeat with_reducible first | exact gbRefl _ _ | apply gbAlloc | apply gbDrew | apply gbSet) (by simp <;> omega) (by simp)) (newBlk w _ _ (by simp))) (by omega))
  have b2 := Lib.hid b2'.out
  clear b2'
  have xb2_1 : w.heap.size < w1.heap.size := blkLt b2.out
  have hr1 : C.R < w1.heap.size := hA1.out.ps.RLt
  have hn1 := hn0
  clear hb hP hk
  have hBq := Lib.hid (hn1H.out)
  go_wp2_with fail
  refine (atName_any C _ nx dv ds (hA1.out.loc h0.out (b := w.heap.size) (by repeat with_reducible first | exact gbRefl _ _ | apply gbAlloc | apply gbDrew | apply gbSet) (Nat.le_refl _)).ps).mono ?_
  rw [hBq.out]
  rintro e w2 ⟨rfl, hb⟩
  have hP := (hA1.out.loc h0.out (b := w.heap.size) (by repeat with_reducible first | exact gbRefl _ _ | apply gbAlloc | apply gbDrew | apply gbSet) (Nat.le_refl _)).ps.below hb
  have hk := Below.kp (R := C.R) (o := none) hb
  have hA2 := Lib.hid ((hA1.out.loc h0.out (b := w.heap.size) (by repeat with_reducible first | exact gbRefl _ _ | apply gbAlloc | apply gbDrew | apply gbSet) (Nat.le_refl _)).step hP hk)
  have hs2 : w1.heap.size + 1 ≤ w2.heap.size := (by have := hk.size; (try simp at this); omega)
  have b2' := Lib.hid (hk.blk (b := w.heap.size) (Eq.trans (gbBlk (row := none) (by repeat with_reducible first | exact gbRefl _ _ | apply gbAlloc | apply gbDrew | apply gbSet) (blkLt b2.out) (by simp)) b2.out) (by omega))
  have b5' := Lib.hid (hk.blk (b := w1.heap.size) (Eq.trans (gbBlk (row := none) (by repeat with_reducible first | exact gbRefl _ _ | apply gbAlloc | apply gbDrew | apply gbSet) (by simp <;> omega) (by simp)) (newBlk w1 _ _ (by simp))) (by omega))
  clear b2
  have b2 := Lib.hid b2'.out
  clear b2'
  have xb2_2 : w.heap.size < w2.heap.size := blkLt b2.out
  have b5 := Lib.hid b5'.out
  clear b5'
  have xb5_2 : w1.heap.size < w2.heap.size := blkLt b5.out
  have hr2 : C.R < w2.heap.size := hA2.out.ps.RLt
  have hn2 := hn1
  clear hb hP hk
  clear hBq
  obtain ⟨k0, k1, k2, k3⟩ := cells4 b5.out
  go_wp2_with fail
  refine (isInput_any _ _).mono ?_
  rw [hn2H.out]
  rintro e wq ⟨rfl, rfl⟩
  have c1 := hA2.out.ps.c1
  have z1 := hA2.out.ps.fz 1
  obtain ⟨⟨a0, a1, a2, a3, a4, a5⟩, d0, d1, d2, d3, d4, d5⟩ := cells6 b2.out
  go_wp2
  refine bodyPost_ret (v := nv (nmNd (hd (C.l nx)).x (hd (C.l nx)).a) none 0) (by simp [results, Tryz.results106, go_sem, a0, a1, a2, a3, a4, a5, xb2_2, xb5_2, hr2, hR0, nmNd, Nd.kind, Nd.name, Nd.n, Nd.unit, Nd.at0, Nd.kids]) rfl ?_
  exact Out.ret hr.out (l_tail C nx) (Nat.le_succ _) ⟨none, 0, rfl, trivial⟩ ⟨((hA2.out.step (hA2.out.ps.bump hnx) ((Kp.refl _ _ _).setCell (i := 1) (.inl rfl) _)).loc h0.out (b := w.heap.size) (by repeat with_reducible first | exact gbRefl _ _ | apply gbAlloc | apply gbDrew | apply gbSet) (Nat.le_refl _)).ps, ((hA2.out.step (hA2.out.ps.bump hnx) ((Kp.refl _ _ _).setCell (i := 1) (.inl rfl) _)).loc h0.out (b := w.heap.size) (by repeat with_reducible first | exact gbRefl _ _ | apply gbAlloc | apply gbDrew | apply gbSet) (Nat.le_refl _)).kp⟩

set_option maxHeartbeats 2000000 in
set_option maxRecDepth 100000 in
theorem factor_par (C : Cx) (w : World) (nx : Nat) (dv : Value) (ds : List (Int × Int)) (level : Nat) (E : List Tk → Res Nd) (hE : EC C dv ds level E)(hk : ¬ (hd (C.l nx)).k = 2) (hn1 : atNameB (C.l nx) = false) (hn2 : inpB (hd (C.l nx)).x = false) (hn3 : isB ⟨#[40]⟩ (C.l nx) = true) (hlv : level ≤ 12) (h : PS C w nx dv ds) (hds : ds.length ≤ 100) :
    Calls Tryz.prog 106 #[.pointer (some ⟨C.R, 0, none⟩), .int .i64 level] w (Out C nx dv ds w VNd (parenM E (C.l nx))) := by
  have h0 := Lib.hid h
  have hR0 := h.RLt
  have hA0 := Lib.hid (At.start h)
  have hn0 : nx ≤ nx := Nat.le_refl _
  obtain ⟨r, hr⟩ : ∃ r, parenM E (C.l nx) = r := ⟨_, rfl⟩
  rw [hr]
  have hkb : ((hd (C.l nx)).k == 2) = false := by simp [hk]
  have hn1H := Lib.hid hn1
  have hn2H := Lib.hid hn2
  have hn3H := Lib.hid hn3
  have hEH := Lib.hid hE
  clear hk hn1 hn2 hn3 hE
  unfold parenM at hr
  have hrH := Lib.hid hr
  clear hr h
  have hr := Lib.hid hrH.out
  clear hrH
  go_enter Tryz.func106, Tryz.ntmps106
  go_wp2_with fail
  refine (token_any C _ nx dv ds (hA0.out.loc h0.out (b := w.heap.size) (by repeat with_reducible first | exact gbRefl _ _ | apply gbAlloc | apply gbDrew | apply gbSet) (Nat.le_refl _)).ps).mono ?_
  rintro e w1 ⟨rfl, hb⟩
  have hP := (hA0.out.loc h0.out (b := w.heap.size) (by repeat with_reducible first | exact gbRefl _ _ | apply gbAlloc | apply gbDrew | apply gbSet) (Nat.le_refl _)).ps.below hb
  have hk := Below.kp (R := C.R) (o := none) hb
  have nx1_ : True := trivial
  have hA1 := Lib.hid ((hA0.out.loc h0.out (b := w.heap.size) (by repeat with_reducible first | exact gbRefl _ _ | apply gbAlloc | apply gbDrew | apply gbSet) (Nat.le_refl _)).step hP hk)
  have hs1 : w.heap.size + 1 ≤ w1.heap.size := (by have := hk.size; (try simp at this); omega)
  have b2' := Lib.hid (hk.blk (b := w.heap.size) (Eq.trans (gbBlk (row := none) (by repeat with_reducible first | exact gbRefl _ _ | apply gbAlloc | apply gbDrew | apply gbSet) (by simp <;> omega) (by simp)) (newBlk w _ _ (by simp))) (by omega))
  have b2 := Lib.hid b2'.out
  clear b2'
  have xb2_1 : w.heap.size < w1.heap.size := blkLt b2.out
  have hr1 : C.R < w1.heap.size := hA1.out.ps.RLt
  have hn1 := hn0
  clear hb hP hk
  have hBq := Lib.hid (hn1H.out)
  go_wp2_with fail
  refine (atName_any C _ nx dv ds (hA1.out.loc h0.out (b := w.heap.size) (by repeat with_reducible first | exact gbRefl _ _ | apply gbAlloc | apply gbDrew | apply gbSet) (Nat.le_refl _)).ps).mono ?_
  rw [hBq.out]
  rintro e w2 ⟨rfl, hb⟩
  have hP := (hA1.out.loc h0.out (b := w.heap.size) (by repeat with_reducible first | exact gbRefl _ _ | apply gbAlloc | apply gbDrew | apply gbSet) (Nat.le_refl _)).ps.below hb
  have hk := Below.kp (R := C.R) (o := none) hb
  have hA2 := Lib.hid ((hA1.out.loc h0.out (b := w.heap.size) (by repeat with_reducible first | exact gbRefl _ _ | apply gbAlloc | apply gbDrew | apply gbSet) (Nat.le_refl _)).step hP hk)
  have hs2 : w1.heap.size + 1 ≤ w2.heap.size := (by have := hk.size; (try simp at this); omega)
  have b2' := Lib.hid (hk.blk (b := w.heap.size) (Eq.trans (gbBlk (row := none) (by repeat with_reducible first | exact gbRefl _ _ | apply gbAlloc | apply gbDrew | apply gbSet) (blkLt b2.out) (by simp)) b2.out) (by omega))
  have b5' := Lib.hid (hk.blk (b := w1.heap.size) (Eq.trans (gbBlk (row := none) (by repeat with_reducible first | exact gbRefl _ _ | apply gbAlloc | apply gbDrew | apply gbSet) (by simp <;> omega) (by simp)) (newBlk w1 _ _ (by simp))) (by omega))
  clear b2
  have b2 := Lib.hid b2'.out
  clear b2'
  have xb2_2 : w.heap.size < w2.heap.size := blkLt b2.out
  have b5 := Lib.hid b5'.out
  clear b5'
  have xb5_2 : w1.heap.size < w2.heap.size := blkLt b5.out
  have hr2 : C.R < w2.heap.size := hA2.out.ps.RLt
  have hn2 := hn1
  clear hb hP hk
  clear hBq
  obtain ⟨k0, k1, k2, k3⟩ := cells4 b5.out
  go_wp2_with fail
  refine (isInput_any _ _).mono ?_
  rw [hn2H.out]
  rintro e wq ⟨rfl, rfl⟩
  clear k0 k1 k2 k3
  have hBq := Lib.hid (hn3H.out)
  go_wp2_with fail
  refine (is_any C _ nx dv ds ⟨#[40]⟩ (hA2.out.loc h0.out (b := w.heap.size) (by repeat with_reducible first | exact gbRefl _ _ | apply gbAlloc | apply gbDrew | apply gbSet) (Nat.le_refl _)).ps).mono ?_
  rw [hBq.out]
  rintro e w3 ⟨rfl, hb⟩
  have hP := (hA2.out.loc h0.out (b := w.heap.size) (by repeat with_reducible first | exact gbRefl _ _ | apply gbAlloc | apply gbDrew | apply gbSet) (Nat.le_refl _)).ps.below hb
  have hk := Below.kp (R := C.R) (o := none) hb
  have hA3 := Lib.hid ((hA2.out.loc h0.out (b := w.heap.size) (by repeat with_reducible first | exact gbRefl _ _ | apply gbAlloc | apply gbDrew | apply gbSet) (Nat.le_refl _)).step hP hk)
  have hs3 : w2.heap.size + 0 ≤ w3.heap.size := (by have := hk.size; (try simp at this); omega)
  have b2' := Lib.hid (hk.blk (b := w.heap.size) (Eq.trans (gbBlk (row := none) (by repeat with_reducible first | exact gbRefl _ _ | apply gbAlloc | apply gbDrew | apply gbSet) (blkLt b2.out) (by simp)) b2.out) (by omega))
  have b5' := Lib.hid (hk.blk (b := w1.heap.size) (Eq.trans (gbBlk (row := none) (by repeat with_reducible first | exact gbRefl _ _ | apply gbAlloc | apply gbDrew | apply gbSet) (blkLt b5.out) (by simp)) b5.out) (by omega))
  clear b2
  have b2 := Lib.hid b2'.out
  clear b2'
  have xb2_3 : w.heap.size < w3.heap.size := blkLt b2.out
  clear b5
  have b5 := Lib.hid b5'.out
  clear b5'
  have xb5_3 : w1.heap.size < w3.heap.size := blkLt b5.out
  have hr3 : C.R < w3.heap.size := hA3.out.ps.RLt
  have hn3 := hn2
  clear hb hP hk
  clear hBq
  go_wp2_with fail
  refine (word_any C _ nx dv ds ⟨#[40]⟩ (hA3.out.loc h0.out (b := w.heap.size) (by repeat with_reducible first | exact gbRefl _ _ | apply gbAlloc | apply gbDrew | apply gbSet) (Nat.le_refl _)).ps hds (by decide)).mono ?_
  intro e w4 ho
  rcases hm : wordM ⟨#[40]⟩ (C.l nx) with ⟨⟨⟩, l4⟩ | ⟨er, l4⟩
  rotate_left
  · have hre : Hid (Res.err er l4 = r) := by have := hr.out; rw [hm] at this; exact this
    rw [hm] at ho
    clear hm
    obtain ⟨nxe, hle, hne, ⟨T, pv, rfl⟩, ⟨dv', hPe⟩, hke⟩ := ho
    have hF := Lib.hid (Out.fail (V := VNd) hre.out hle hn3 hne ⟨T, pv, rfl⟩ hPe (hA3.out.loc h0.out (b := w.heap.size) (by repeat with_reducible first | exact gbRefl _ _ | apply gbAlloc | apply gbDrew | apply gbSet) (Nat.le_refl _)).kp hke)
    clear hPe hke hle
    go_wp2
    exact ⟨rfl, hF.out⟩
  have hrn := hr.out
  rw [hm, Res.bind_ok] at hrn
  clear hr
  have hr := Lib.hid hrn
  clear hrn
  rw [hm] at ho
  clear hm
  obtain ⟨nx4, v4, hl, hn, rfl, hv, hP, hk⟩ := ho
  unfold VUnit at hv
  subst hv hl
  have hn4 : nx ≤ nx4 := Nat.le_trans hn3 hn
  have hA4 := Lib.hid ((hA3.out.loc h0.out (b := w.heap.size) (by repeat with_reducible first | exact gbRefl _ _ | apply gbAlloc | apply gbDrew | apply gbSet) (Nat.le_refl _)).step hP hk)
  have hs4 : w3.heap.size + 0 ≤ w4.heap.size := (by have := hk.size; (try simp at this); omega)
  have b2' := Lib.hid (hk.blk (b := w.heap.size) (Eq.trans (gbBlk (row := none) (by repeat with_reducible first | exact gbRefl _ _ | apply gbAlloc | apply gbDrew | apply gbSet) (blkLt b2.out) (by simp)) b2.out) (by omega))
  have b5' := Lib.hid (hk.blk (b := w1.heap.size) (Eq.trans (gbBlk (row := none) (by repeat with_reducible first | exact gbRefl _ _ | apply gbAlloc | apply gbDrew | apply gbSet) (blkLt b5.out) (by simp)) b5.out) (by omega))
  clear b2
  have b2 := Lib.hid b2'.out
  clear b2'
  have xb2_4 : w.heap.size < w4.heap.size := blkLt b2.out
  clear b5
  have b5 := Lib.hid b5'.out
  clear b5'
  have xb5_4 : w1.heap.size < w4.heap.size := blkLt b5.out
  have hr4 : C.R < w4.heap.size := hA4.out.ps.RLt
  clear hP hk hn
  go_wp2_with fail
  refine (hEH.out hlv _ nx4 (hA4.out.loc h0.out (b := w.heap.size) (by repeat with_reducible first | exact gbRefl _ _ | apply gbAlloc | apply gbDrew | apply gbSet) (Nat.le_refl _)).ps).mono ?_
  intro e w5 ho
  rcases hm : E (C.l nx4) with ⟨t, l5⟩ | ⟨er, l5⟩
  rotate_left
  · have hre : Hid (Res.err er l5 = r) := by have := hr.out; rw [hm] at this; exact this
    rw [hm] at ho
    clear hm
    obtain ⟨nxe, hle, hne, ⟨T, pv, rfl⟩, ⟨dv', hPe⟩, hke⟩ := ho
    have hF := Lib.hid (Out.fail (V := VNd) hre.out hle hn4 hne ⟨T, pv, rfl⟩ hPe (hA4.out.loc h0.out (b := w.heap.size) (by repeat with_reducible first | exact gbRefl _ _ | apply gbAlloc | apply gbDrew | apply gbSet) (Nat.le_refl _)).kp hke)
    clear hPe hke hle
    go_wp2
    exact ⟨rfl, hF.out⟩
  have hrn := hr.out
  rw [hm, Res.bind_ok] at hrn
  clear hr
  have hr := Lib.hid hrn
  clear hrn
  rw [hm] at ho
  clear hm
  obtain ⟨nx5, v5, hl, hn, rfl, ⟨A5, c5, hv, hkd⟩, hP, hk⟩ := ho
  subst hv hl
  have hn5 : nx ≤ nx5 := Nat.le_trans hn4 hn
  have hkdH := Lib.hid hkd
  clear hkd
  have hkd := Lib.hid hkdH.out
  clear hkdH
  have hA5 := Lib.hid ((hA4.out.loc h0.out (b := w.heap.size) (by repeat with_reducible first | exact gbRefl _ _ | apply gbAlloc | apply gbDrew | apply gbSet) (Nat.le_refl _)).step hP hk)
  have hs5 : w4.heap.size + 0 ≤ w5.heap.size := (by have := hk.size; (try simp at this); omega)
  have b2' := Lib.hid (hk.blk (b := w.heap.size) (Eq.trans (gbBlk (row := none) (by repeat with_reducible first | exact gbRefl _ _ | apply gbAlloc | apply gbDrew | apply gbSet) (blkLt b2.out) (by simp)) b2.out) (by omega))
  have b5' := Lib.hid (hk.blk (b := w1.heap.size) (Eq.trans (gbBlk (row := none) (by repeat with_reducible first | exact gbRefl _ _ | apply gbAlloc | apply gbDrew | apply gbSet) (blkLt b5.out) (by simp)) b5.out) (by omega))
  clear b2
  have b2 := Lib.hid b2'.out
  clear b2'
  have xb2_5 : w.heap.size < w5.heap.size := blkLt b2.out
  clear b5
  have b5 := Lib.hid b5'.out
  clear b5'
  have xb5_5 : w1.heap.size < w5.heap.size := blkLt b5.out
  have hr5 : C.R < w5.heap.size := hA5.out.ps.RLt
  have K5 : Hid (KidsR w5 (From (w4.heap.size + 0)) t.kids A5) := hkd.out.keep (fun k h1 h2 => ⟨rfl, by unfold From at h1 ⊢; (try simp at h1); omega⟩)
  clear hkd
  clear hP hk hn
  go_wp2_with fail
  refine (word_any C _ nx5 dv ds ⟨#[41]⟩ (hA5.out.loc h0.out (b := w.heap.size) (by repeat with_reducible first | exact gbRefl _ _ | apply gbAlloc | apply gbDrew | apply gbSet) (Nat.le_refl _)).ps hds (by decide)).mono ?_
  intro e w6 ho
  rcases hm : wordM ⟨#[41]⟩ (C.l nx5) with ⟨⟨⟩, l6⟩ | ⟨er, l6⟩
  rotate_left
  · have hre : Hid (Res.err er l6 = r) := by have := hr.out; rw [hm] at this; exact this
    rw [hm] at ho
    clear hm
    obtain ⟨nxe, hle, hne, ⟨T, pv, rfl⟩, ⟨dv', hPe⟩, hke⟩ := ho
    have hF := Lib.hid (Out.fail (V := VNd) hre.out hle hn5 hne ⟨T, pv, rfl⟩ hPe (hA5.out.loc h0.out (b := w.heap.size) (by repeat with_reducible first | exact gbRefl _ _ | apply gbAlloc | apply gbDrew | apply gbSet) (Nat.le_refl _)).kp hke)
    clear hPe hke hle
    go_wp2
    exact ⟨rfl, hF.out⟩
  have hrn := hr.out
  rw [hm, Res.bind_ok] at hrn
  clear hr
  have hr := Lib.hid hrn
  clear hrn
  rw [hm] at ho
  clear hm
  obtain ⟨nx6, v6, hl, hn, rfl, hv, hP, hk⟩ := ho
  unfold VUnit at hv
  subst hv hl
  have hn6 : nx ≤ nx6 := Nat.le_trans hn5 hn
  have hA6 := Lib.hid ((hA5.out.loc h0.out (b := w.heap.size) (by repeat with_reducible first | exact gbRefl _ _ | apply gbAlloc | apply gbDrew | apply gbSet) (Nat.le_refl _)).step hP hk)
  have hs6 : w5.heap.size + 1 ≤ w6.heap.size := (by have := hk.size; (try simp at this); omega)
  have b2' := Lib.hid (hk.blk (b := w.heap.size) (Eq.trans (gbBlk (row := none) (by repeat with_reducible first | exact gbRefl _ _ | apply gbAlloc | apply gbDrew | apply gbSet) (blkLt b2.out) (by simp)) b2.out) (by omega))
  have b5' := Lib.hid (hk.blk (b := w1.heap.size) (Eq.trans (gbBlk (row := none) (by repeat with_reducible first | exact gbRefl _ _ | apply gbAlloc | apply gbDrew | apply gbSet) (blkLt b5.out) (by simp)) b5.out) (by omega))
  have b6' := Lib.hid (hk.blk (b := w5.heap.size) (Eq.trans (gbBlk (row := none) (by repeat with_reducible first | exact gbRefl _ _ | apply gbAlloc | apply gbDrew | apply gbSet) (by simp <;> omega) (by simp)) (newBlk w5 _ _ (by simp))) (by omega))
  clear b2
  have b2 := Lib.hid b2'.out
  clear b2'
  have xb2_6 : w.heap.size < w6.heap.size := blkLt b2.out
  clear b5
  have b5 := Lib.hid b5'.out
  clear b5'
  have xb5_6 : w1.heap.size < w6.heap.size := blkLt b5.out
  have b6 := Lib.hid b6'.out
  clear b6'
  have xb6_6 : w5.heap.size < w6.heap.size := blkLt b6.out
  have K5' := Lib.hid (KidsR.from (w' := w6) (B' := w4.heap.size + 0) (fun k h1 h2 => (hk.block k (Nat.lt_of_lt_of_le h2 (gbSize (r := none) (by repeat with_reducible first | exact gbRefl _ _ | apply gbAlloc | apply gbDrew | apply gbSet))) (by omega) (by simp)).trans (gbBlk (row := none) (by repeat with_reducible first | exact gbRefl _ _ | apply gbAlloc | apply gbDrew | apply gbSet) h2 (by simp))) (Nat.le_refl _) K5.out)
  clear K5
  have K5 := Lib.hid K5'.out
  clear K5'
  have hr6 : C.R < w6.heap.size := hA6.out.ps.RLt
  clear hP hk hn
  obtain ⟨⟨a0, a1, a2, a3, a4, a5⟩, d0, d1, d2, d3, d4, d5⟩ := cells6 b2.out
  obtain ⟨⟨f0, f1, f2, f3, f4, f5⟩, e0, e1, e2, e3, e4, e5⟩ := cells6 b6.out
  go_wp2
  refine bodyPost_ret (v := nv (t) A5 c5) (by simp [results, Tryz.results106, go_sem, a0, a1, a2, a3, a4, a5, xb2_6, xb6_6, Nd.kind, Nd.name, Nd.n, Nd.unit, Nd.at0, Nd.kids]) rfl ?_
  exact Out.ret hr.out rfl hn6 ⟨A5, c5, rfl, (KidsR.from (fun k h1 h2 => gbBlk (row := some (w.heap.size)) (by repeat with_reducible first | exact gbRefl _ _ | apply gbAlloc | apply gbDrew | apply gbSet) h2 (fun e => by cases e; omega)) (by omega) K5.out)⟩ ⟨(hA6.out.loc h0.out (b := w.heap.size) (by repeat with_reducible first | exact gbRefl _ _ | apply gbAlloc | apply gbDrew | apply gbSet) (Nat.le_refl _)).ps, (hA6.out.loc h0.out (b := w.heap.size) (by repeat with_reducible first | exact gbRefl _ _ | apply gbAlloc | apply gbDrew | apply gbSet) (Nat.le_refl _)).kp⟩

set_option maxHeartbeats 2000000 in
set_option maxRecDepth 100000 in
theorem factor_fun (C : Cx) (w : World) (nx : Nat) (dv : Value) (ds : List (Int × Int)) (level : Nat) (E : List Tk → Res Nd) (hE : EC C dv ds level E)(hk : ¬ (hd (C.l nx)).k = 2) (hn1 : atNameB (C.l nx) = false) (hn2 : inpB (hd (C.l nx)).x = false) (hn3 : isB ⟨#[40]⟩ (C.l nx) = false) (hlv : level ≤ 12 ∨ atExprB (C.l nx) = false) (h : PS C w nx dv ds) (hds : ds.length ≤ 100) :
    Calls Tryz.prog 106 #[.pointer (some ⟨C.R, 0, none⟩), .int .i64 level] w (Out C nx dv ds w VNd (fnR E (C.l nx))) := by
  have h0 := Lib.hid h
  have hR0 := h.RLt
  have hA0 := Lib.hid (At.start h)
  have hn0 : nx ≤ nx := Nat.le_refl _
  obtain ⟨r, hr⟩ : ∃ r, fnR E (C.l nx) = r := ⟨_, rfl⟩
  rw [hr]
  have hkb : ((hd (C.l nx)).k == 2) = false := by simp [hk]
  have hn1H := Lib.hid hn1
  have hn2H := Lib.hid hn2
  have hn3H := Lib.hid hn3
  have hEH := Lib.hid hE
  clear hk hn1 hn2 hn3 hE
  have hlvH := Lib.hid hlv
  clear hlv
  unfold fnR at hr
  have hrH := Lib.hid hr
  clear hr h
  have hr := Lib.hid hrH.out
  clear hrH
  go_enter Tryz.func106, Tryz.ntmps106
  go_wp2_with fail
  refine (token_any C _ nx dv ds (hA0.out.loc h0.out (b := w.heap.size) (by repeat with_reducible first | exact gbRefl _ _ | apply gbAlloc | apply gbDrew | apply gbSet) (Nat.le_refl _)).ps).mono ?_
  rintro e w1 ⟨rfl, hb⟩
  have hP := (hA0.out.loc h0.out (b := w.heap.size) (by repeat with_reducible first | exact gbRefl _ _ | apply gbAlloc | apply gbDrew | apply gbSet) (Nat.le_refl _)).ps.below hb
  have hk := Below.kp (R := C.R) (o := none) hb
  have nx1_ : True := trivial
  have hA1 := Lib.hid ((hA0.out.loc h0.out (b := w.heap.size) (by repeat with_reducible first | exact gbRefl _ _ | apply gbAlloc | apply gbDrew | apply gbSet) (Nat.le_refl _)).step hP hk)
  have hs1 : w.heap.size + 1 ≤ w1.heap.size := (by have := hk.size; (try simp at this); omega)
  have b2' := Lib.hid (hk.blk (b := w.heap.size) (Eq.trans (gbBlk (row := none) (by repeat with_reducible first | exact gbRefl _ _ | apply gbAlloc | apply gbDrew | apply gbSet) (by simp <;> omega) (by simp)) (newBlk w _ _ (by simp))) (by omega))
  have b2 := Lib.hid b2'.out
  clear b2'
  have xb2_1 : w.heap.size < w1.heap.size := blkLt b2.out
  have hr1 : C.R < w1.heap.size := hA1.out.ps.RLt
  have hn1 := hn0
  clear hb hP hk
  have hBq := Lib.hid (hn1H.out)
  go_wp2_with fail
  refine (atName_any C _ nx dv ds (hA1.out.loc h0.out (b := w.heap.size) (by repeat with_reducible first | exact gbRefl _ _ | apply gbAlloc | apply gbDrew | apply gbSet) (Nat.le_refl _)).ps).mono ?_
  rw [hBq.out]
  rintro e w2 ⟨rfl, hb⟩
  have hP := (hA1.out.loc h0.out (b := w.heap.size) (by repeat with_reducible first | exact gbRefl _ _ | apply gbAlloc | apply gbDrew | apply gbSet) (Nat.le_refl _)).ps.below hb
  have hk := Below.kp (R := C.R) (o := none) hb
  have hA2 := Lib.hid ((hA1.out.loc h0.out (b := w.heap.size) (by repeat with_reducible first | exact gbRefl _ _ | apply gbAlloc | apply gbDrew | apply gbSet) (Nat.le_refl _)).step hP hk)
  have hs2 : w1.heap.size + 1 ≤ w2.heap.size := (by have := hk.size; (try simp at this); omega)
  have b2' := Lib.hid (hk.blk (b := w.heap.size) (Eq.trans (gbBlk (row := none) (by repeat with_reducible first | exact gbRefl _ _ | apply gbAlloc | apply gbDrew | apply gbSet) (blkLt b2.out) (by simp)) b2.out) (by omega))
  have b5' := Lib.hid (hk.blk (b := w1.heap.size) (Eq.trans (gbBlk (row := none) (by repeat with_reducible first | exact gbRefl _ _ | apply gbAlloc | apply gbDrew | apply gbSet) (by simp <;> omega) (by simp)) (newBlk w1 _ _ (by simp))) (by omega))
  clear b2
  have b2 := Lib.hid b2'.out
  clear b2'
  have xb2_2 : w.heap.size < w2.heap.size := blkLt b2.out
  have b5 := Lib.hid b5'.out
  clear b5'
  have xb5_2 : w1.heap.size < w2.heap.size := blkLt b5.out
  have hr2 : C.R < w2.heap.size := hA2.out.ps.RLt
  have hn2 := hn1
  clear hb hP hk
  clear hBq
  obtain ⟨k0, k1, k2, k3⟩ := cells4 b5.out
  go_wp2_with fail
  refine (isInput_any _ _).mono ?_
  rw [hn2H.out]
  rintro e wq ⟨rfl, rfl⟩
  clear k0 k1 k2 k3
  have hBq := Lib.hid (hn3H.out)
  go_wp2_with fail
  refine (is_any C _ nx dv ds ⟨#[40]⟩ (hA2.out.loc h0.out (b := w.heap.size) (by repeat with_reducible first | exact gbRefl _ _ | apply gbAlloc | apply gbDrew | apply gbSet) (Nat.le_refl _)).ps).mono ?_
  rw [hBq.out]
  rintro e w3 ⟨rfl, hb⟩
  have hP := (hA2.out.loc h0.out (b := w.heap.size) (by repeat with_reducible first | exact gbRefl _ _ | apply gbAlloc | apply gbDrew | apply gbSet) (Nat.le_refl _)).ps.below hb
  have hk := Below.kp (R := C.R) (o := none) hb
  have hA3 := Lib.hid ((hA2.out.loc h0.out (b := w.heap.size) (by repeat with_reducible first | exact gbRefl _ _ | apply gbAlloc | apply gbDrew | apply gbSet) (Nat.le_refl _)).step hP hk)
  have hs3 : w2.heap.size + 0 ≤ w3.heap.size := (by have := hk.size; (try simp at this); omega)
  have b2' := Lib.hid (hk.blk (b := w.heap.size) (Eq.trans (gbBlk (row := none) (by repeat with_reducible first | exact gbRefl _ _ | apply gbAlloc | apply gbDrew | apply gbSet) (blkLt b2.out) (by simp)) b2.out) (by omega))
  have b5' := Lib.hid (hk.blk (b := w1.heap.size) (Eq.trans (gbBlk (row := none) (by repeat with_reducible first | exact gbRefl _ _ | apply gbAlloc | apply gbDrew | apply gbSet) (blkLt b5.out) (by simp)) b5.out) (by omega))
  clear b2
  have b2 := Lib.hid b2'.out
  clear b2'
  have xb2_3 : w.heap.size < w3.heap.size := blkLt b2.out
  clear b5
  have b5 := Lib.hid b5'.out
  clear b5'
  have xb5_3 : w1.heap.size < w3.heap.size := blkLt b5.out
  have hr3 : C.R < w3.heap.size := hA3.out.ps.RLt
  have hn3 := hn2
  clear hb hP hk
  clear hBq
  go_wp2_with fail
  refine (function_any C _ nx dv ds level E hEH.out hlvH.out (hA3.out.loc h0.out (b := w.heap.size) (by repeat with_reducible first | exact gbRefl _ _ | apply gbAlloc | apply gbDrew | apply gbSet) (Nat.le_refl _)).ps hds).mono ?_
  intro e w4 ho
  rcases hm : functionM E (C.l nx) with ⟨t, l4⟩ | ⟨er, l4⟩
  rotate_left
  · have hre : Hid (Res.err er l4 = r) := by have := hr.out; rw [hm] at this; exact this
    rw [hm] at ho
    clear hm
    obtain ⟨nxe, hle, hne, ⟨T, pv, rfl⟩, ⟨dv', hPe⟩, hke⟩ := ho
    have hF := Lib.hid (Out.fail (V := VNd) hre.out hle hn3 hne ⟨T, pv, rfl⟩ hPe (hA3.out.loc h0.out (b := w.heap.size) (by repeat with_reducible first | exact gbRefl _ _ | apply gbAlloc | apply gbDrew | apply gbSet) (Nat.le_refl _)).kp hke)
    clear hPe hke hle
    go_wp2
    exact ⟨rfl, hF.out⟩
  have hrn := hr.out
  rw [hm, Res.bind_ok] at hrn
  clear hr
  have hr := Lib.hid hrn
  clear hrn
  rw [hm] at ho
  clear hm
  obtain ⟨nx4, v4, hl, hn, rfl, ⟨A4, c4, hv, hkd⟩, hP, hk⟩ := ho
  subst hv hl
  have hn4 : nx ≤ nx4 := Nat.le_trans hn3 hn
  have hkdH := Lib.hid hkd
  clear hkd
  have hkd := Lib.hid hkdH.out
  clear hkdH
  have hA4 := Lib.hid ((hA3.out.loc h0.out (b := w.heap.size) (by repeat with_reducible first | exact gbRefl _ _ | apply gbAlloc | apply gbDrew | apply gbSet) (Nat.le_refl _)).step hP hk)
  have hs4 : w3.heap.size + 0 ≤ w4.heap.size := (by have := hk.size; (try simp at this); omega)
  have b2' := Lib.hid (hk.blk (b := w.heap.size) (Eq.trans (gbBlk (row := none) (by repeat with_reducible first | exact gbRefl _ _ | apply gbAlloc | apply gbDrew | apply gbSet) (blkLt b2.out) (by simp)) b2.out) (by omega))
  have b5' := Lib.hid (hk.blk (b := w1.heap.size) (Eq.trans (gbBlk (row := none) (by repeat with_reducible first | exact gbRefl _ _ | apply gbAlloc | apply gbDrew | apply gbSet) (blkLt b5.out) (by simp)) b5.out) (by omega))
  clear b2
  have b2 := Lib.hid b2'.out
  clear b2'
  have xb2_4 : w.heap.size < w4.heap.size := blkLt b2.out
  clear b5
  have b5 := Lib.hid b5'.out
  clear b5'
  have xb5_4 : w1.heap.size < w4.heap.size := blkLt b5.out
  have hr4 : C.R < w4.heap.size := hA4.out.ps.RLt
  have K4 : Hid (KidsR w4 (From (w3.heap.size + 0)) t.kids A4) := hkd.out.keep (fun k h1 h2 => ⟨rfl, by unfold From at h1 ⊢; (try simp at h1); omega⟩)
  clear hkd
  clear hP hk hn
  obtain ⟨⟨a0, a1, a2, a3, a4, a5⟩, d0, d1, d2, d3, d4, d5⟩ := cells6 b2.out
  go_wp2
  refine bodyPost_ret (v := nv (t) A4 c4) (by simp [results, Tryz.results106, go_sem, a0, a1, a2, a3, a4, a5, xb2_4, Nd.kind, Nd.name, Nd.n, Nd.unit, Nd.at0, Nd.kids]) rfl ?_
  exact Out.ret hr.out rfl hn4 ⟨A4, c4, rfl, (KidsR.from (fun k h1 h2 => gbBlk (row := some (w.heap.size)) (by repeat with_reducible first | exact gbRefl _ _ | apply gbAlloc | apply gbDrew | apply gbSet) h2 (fun e => by cases e; omega)) (by omega) K4.out)⟩ ⟨(hA4.out.loc h0.out (b := w.heap.size) (by repeat with_reducible first | exact gbRefl _ _ | apply gbAlloc | apply gbDrew | apply gbSet) (Nat.le_refl _)).ps, (hA4.out.loc h0.out (b := w.heap.size) (by repeat with_reducible first | exact gbRefl _ _ | apply gbAlloc | apply gbDrew | apply gbSet) (Nat.le_refl _)).kp⟩

end Go.Proofs.YtdaghppcomckbaaGreatDoor
