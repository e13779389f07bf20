/- Texts of one proof: PxY. -/
import Derived.Test.YtdaghppcomckbaaGreatDoorPxX
import Derived.Laws.EntriesVeiled
/- The parser: items. -/
namespace Go.Proofs.YtdaghppcomckbaaGreatDoor
open Go.RowKit
set_option linter.unusedVariables false
set_option linter.unusedSimpArgs false

def kindWs : List ByteArray := [⟨#[108, 105, 110, 107]⟩, ⟨#[112, 97, 116, 104]⟩, ⟨#[102, 108, 111, 119]⟩, ⟨#[112, 114, 111, 103, 114, 97, 109]⟩]
def pickM (k : Int) : List Tk → Res Nd := if k = 0 then linkM else if k = 1 then pathM else if k = 2 then flowM else programM
def itemM (l : List Tk) : Res Nd := (choiceM kindWs l).bind fun k l1 => (pickM k l1).bind fun t l2 => .ok (.mk t.kind t.name t.n t.unit (hd l).a t.kids) l2

set_option maxHeartbeats 4000000 in
set_option maxRecDepth 100000 in
theorem anyItem_any (C : Cx) (w : World) (nx : Nat) (dv : Value) (ds : List (Int × Int))  (h : PS C w nx dv ds) (hds : ds.length ≤ 100) :
    Calls Tryz.prog 22 #[.pointer (some ⟨C.R, 0, none⟩)] w (Out C nx dv ds w VNd (itemM (C.l nx))) := by
  have h0 := Lib.hid h
  have hR0 := h.RLt
  have hA0 := Lib.hid (At.start h)
  have hn0 : nx ≤ nx := Nat.le_refl _
  obtain ⟨r, hr⟩ : ∃ r, itemM (C.l nx) = r := ⟨_, rfl⟩
  rw [hr]
  have f3 := tfield3
  have hmf : ∀ (fn : Fn) (first cap : Array Value) (w : World), (Instr.makeFunc fn first cap).run Tryz.prog w = .ok (.func fn first cap) w := fun _ _ _ _ => rfl
  unfold itemM at hr
  have hrH := Lib.hid hr
  clear hr h
  have hr := Lib.hid hrH.out
  clear hrH
  go_enter Tryz.func22, Tryz.ntmps22
  go_wp2_with fail
  refine (token_any C _ nx dv ds (hA0.out.loc h0.out (b := w.heap.size) (by repeat with_reducible first | exact gbRefl _ _ | apply gbAlloc | apply gbDrew | apply gbSet) (Nat.le_refl _)).ps).mono ?_
  rintro e w1 ⟨rfl, hb⟩
  have hP := (hA0.out.loc h0.out (b := w.heap.size) (by repeat with_reducible first | exact gbRefl _ _ | apply gbAlloc | apply gbDrew | apply gbSet) (Nat.le_refl _)).ps.below hb
  have hk := Below.kp (R := C.R) (o := none) hb
  have nx1_ : True := trivial
  have hA1 := Lib.hid ((hA0.out.loc h0.out (b := w.heap.size) (by repeat with_reducible first | exact gbRefl _ _ | apply gbAlloc | apply gbDrew | apply gbSet) (Nat.le_refl _)).step hP hk)
  have hs1 : w.heap.size + 1 ≤ w1.heap.size := (by have := hk.size; (try simp at this); omega)
  have b2' := Lib.hid (hk.blk (b := w.heap.size) (Eq.trans (gbBlk (row := none) (by repeat with_reducible first | exact gbRefl _ _ | apply gbAlloc | apply gbDrew | apply gbSet) (by simp <;> omega) (by simp)) (newBlk w _ _ (by simp))) (by omega))
  have b2 := Lib.hid b2'.out
  clear b2'
  have xb2_1 : w.heap.size < w1.heap.size := blkLt b2.out
  have hr1 : C.R < w1.heap.size := hA1.out.ps.RLt
  have hn1 := hn0
  clear hb hP hk
  go_wp2_with fail
  refine (choice_any C _ nx dv ds (w1.heap.size + 1) 4 kindWs (hA1.out.loc h0.out (b := w.heap.size) (by repeat with_reducible first | exact gbRefl _ _ | apply gbAlloc | apply gbDrew | apply gbSet) (Nat.le_refl _)).ps (new_strsE _ _ _ _ rfl _ (by simp)) (by simp) (by decide) hds (idxNe _ (by decide))).mono ?_
  intro e w2 ho
  rcases hm : choiceM kindWs (C.l nx) with ⟨k, l2⟩ | ⟨er, l2⟩
  rotate_left
  · have hre : Hid (Res.err er l2 = r) := by have := hr.out; rw [hm] at this; exact this
    rw [hm] at ho
    clear hm
    obtain ⟨nxe, hle, hne, ⟨T, pv, rfl⟩, ⟨dv', hPe⟩, hke⟩ := ho
    have hF := Lib.hid (Out.fail (V := VNd) hre.out hle hn1 hne ⟨T, pv, rfl⟩ hPe (hA1.out.loc h0.out (b := w.heap.size) (by repeat with_reducible first | exact gbRefl _ _ | apply gbAlloc | apply gbDrew | apply gbSet) (Nat.le_refl _)).kp hke)
    clear hPe hke hle
    go_wp2
    exact ⟨rfl, hF.out⟩
  have hrn := hr.out
  rw [hm, Res.bind_ok] at hrn
  clear hr
  have hr := Lib.hid hrn
  clear hrn
  have hk0_k : 0 ≤ k := (choiceM_bd hm).1; have hk1_k : k < 4 := (choiceM_bd hm).2
  rw [hm] at ho
  clear hm
  obtain ⟨nx2, v2, hl, hn, rfl, hv, hP, hk⟩ := ho
  unfold VInt at hv
  subst hv hl
  have hn2 : nx ≤ nx2 := Nat.le_trans hn1 hn
  have hA2 := Lib.hid ((hA1.out.loc h0.out (b := w.heap.size) (by repeat with_reducible first | exact gbRefl _ _ | apply gbAlloc | apply gbDrew | apply gbSet) (Nat.le_refl _)).step hP hk)
  have hs2 : w1.heap.size + 2 ≤ w2.heap.size := (by have := hk.size; (try simp at this); omega)
  have b2' := Lib.hid (hk.blk (b := w.heap.size) (Eq.trans (gbBlk (row := none) (by repeat with_reducible first | exact gbRefl _ _ | apply gbAlloc | apply gbDrew | apply gbSet) (blkLt b2.out) (by simp)) b2.out) (by omega))
  have b4' := Lib.hid (hk.blk (b := w1.heap.size) (Eq.trans (gbBlk (row := none) (by repeat with_reducible first | exact gbRefl _ _ | apply gbAlloc | apply gbDrew | apply gbSet) (by simp <;> omega) (by simp)) (newBlk w1 _ _ (by simp))) (by omega))
  clear b2
  have b2 := Lib.hid b2'.out
  clear b2'
  have xb2_2 : w.heap.size < w2.heap.size := blkLt b2.out
  have b4 := Lib.hid b4'.out
  clear b4'
  have xb4_2 : w1.heap.size < w2.heap.size := blkLt b4.out
  have hr2 : C.R < w2.heap.size := hA2.out.ps.RLt
  clear hP hk hn
  obtain ⟨k0, k1, k2, k3⟩ := cells4 b4.out
  have hcase : k = 0 ∨ k = 1 ∨ k = 2 ∨ k = 3 := by omega
  rcases hcase with rfl | rfl | rfl | rfl
  · have hrn := hr.out
    rw [show pickM 0 = linkM from rfl] at hrn
    clear hr
    have hr := Lib.hid hrn
    clear hrn
    go_wp2_with fail
    refine (link_any C _ nx2 dv ds (hA2.out.loc h0.out (b := w.heap.size) (by repeat with_reducible first | exact gbRefl _ _ | apply gbAlloc | apply gbDrew | apply gbSet) (Nat.le_refl _)).ps hds).mono ?_
    intro e w3 ho
    rcases hm : linkM (C.l nx2) with ⟨t, l3⟩ | ⟨er, l3⟩
    rotate_left
    · have hre : Hid (Res.err er l3 = r) := by have := hr.out; rw [hm] at this; exact this
      rw [hm] at ho
      clear hm
      obtain ⟨nxe, hle, hne, ⟨T, pv, rfl⟩, ⟨dv', hPe⟩, hke⟩ := ho
      have hF := Lib.hid (Out.fail (V := VNd) hre.out hle hn2 hne ⟨T, pv, rfl⟩ hPe (hA2.out.loc h0.out (b := w.heap.size) (by repeat with_reducible first | exact gbRefl _ _ | apply gbAlloc | apply gbDrew | apply gbSet) (Nat.le_refl _)).kp hke)
      clear hPe hke hle
      go_wp2
      exact ⟨rfl, hF.out⟩
    have hrn := hr.out
    rw [hm, Res.bind_ok] at hrn
    clear hr
    have hr := Lib.hid hrn
    clear hrn
    rw [hm] at ho
    clear hm
    obtain ⟨nx3, v3, hl, hn, rfl, ⟨A3, c3, hv, hkd⟩, hP, hk⟩ := ho
    subst hv hl
    have hn3 : nx ≤ nx3 := Nat.le_trans hn2 hn
    have hkdH := Lib.hid hkd
    clear hkd
    have hkd := Lib.hid hkdH.out
    clear hkdH
    have hA3 := Lib.hid ((hA2.out.loc h0.out (b := w.heap.size) (by repeat with_reducible first | exact gbRefl _ _ | apply gbAlloc | apply gbDrew | apply gbSet) (Nat.le_refl _)).step hP hk)
    have hs3 : w2.heap.size + 0 ≤ w3.heap.size := (by have := hk.size; (try simp at this); omega)
    have b2' := Lib.hid (hk.blk (b := w.heap.size) (Eq.trans (gbBlk (row := none) (by repeat with_reducible first | exact gbRefl _ _ | apply gbAlloc | apply gbDrew | apply gbSet) (blkLt b2.out) (by simp)) b2.out) (by omega))
    have b4' := Lib.hid (hk.blk (b := w1.heap.size) (Eq.trans (gbBlk (row := none) (by repeat with_reducible first | exact gbRefl _ _ | apply gbAlloc | apply gbDrew | apply gbSet) (blkLt b4.out) (by simp)) b4.out) (by omega))
    clear b2
    have b2 := Lib.hid b2'.out
    clear b2'
    have xb2_3 : w.heap.size < w3.heap.size := blkLt b2.out
    clear b4
    have b4 := Lib.hid b4'.out
    clear b4'
    have xb4_3 : w1.heap.size < w3.heap.size := blkLt b4.out
    have hr3 : C.R < w3.heap.size := hA3.out.ps.RLt
    have K3 : Hid (KidsR w3 (From (w2.heap.size + 0)) t.kids A3) := hkd.out.keep (fun k h1 h2 => ⟨rfl, by unfold From at h1 ⊢; (try simp at h1); omega⟩)
    clear hkd
    clear hP hk hn
    obtain ⟨⟨a0, a1, a2, a3, a4, a5⟩, d0, d1, d2, d3, d4, d5⟩ := cells6 b2.out
    go_wp2
    refine bodyPost_ret (v := nv (.mk t.kind t.name t.n t.unit (hd (C.l nx)).a t.kids) A3 c3) (by simp [results, Tryz.results22, go_sem, a0, a1, a2, a3, a4, a5, xb2_3, Nd.kind, Nd.name, Nd.n, Nd.unit, Nd.at0, Nd.kids]) rfl ?_
    exact Out.ret hr.out rfl hn3 ⟨A3, c3, rfl, (KidsR.from (fun k h1 h2 => gbBlk (row := some (w.heap.size)) (by repeat with_reducible first | exact gbRefl _ _ | apply gbAlloc | apply gbDrew | apply gbSet) h2 (fun e => by cases e; omega)) (by omega) K3.out)⟩ ⟨(hA3.out.loc h0.out (b := w.heap.size) (by repeat with_reducible first | exact gbRefl _ _ | apply gbAlloc | apply gbDrew | apply gbSet) (Nat.le_refl _)).ps, (hA3.out.loc h0.out (b := w.heap.size) (by repeat with_reducible first | exact gbRefl _ _ | apply gbAlloc | apply gbDrew | apply gbSet) (Nat.le_refl _)).kp⟩
  · have hrn := hr.out
    rw [show pickM 1 = pathM from rfl] at hrn
    clear hr
    have hr := Lib.hid hrn
    clear hrn
    go_wp2_with fail
    refine (path_any C _ nx2 dv ds (hA2.out.loc h0.out (b := w.heap.size) (by repeat with_reducible first | exact gbRefl _ _ | apply gbAlloc | apply gbDrew | apply gbSet) (Nat.le_refl _)).ps hds).mono ?_
    intro e w3 ho
    rcases hm : pathM (C.l nx2) with ⟨t, l3⟩ | ⟨er, l3⟩
    rotate_left
    · have hre : Hid (Res.err er l3 = r) := by have := hr.out; rw [hm] at this; exact this
      rw [hm] at ho
      clear hm
      obtain ⟨nxe, hle, hne, ⟨T, pv, rfl⟩, ⟨dv', hPe⟩, hke⟩ := ho
      have hF := Lib.hid (Out.fail (V := VNd) hre.out hle hn2 hne ⟨T, pv, rfl⟩ hPe (hA2.out.loc h0.out (b := w.heap.size) (by repeat with_reducible first | exact gbRefl _ _ | apply gbAlloc | apply gbDrew | apply gbSet) (Nat.le_refl _)).kp hke)
      clear hPe hke hle
      go_wp2
      exact ⟨rfl, hF.out⟩
    have hrn := hr.out
    rw [hm, Res.bind_ok] at hrn
    clear hr
    have hr := Lib.hid hrn
    clear hrn
    rw [hm] at ho
    clear hm
    obtain ⟨nx3, v3, hl, hn, rfl, ⟨A3, c3, hv, hkd⟩, hP, hk⟩ := ho
    subst hv hl
    have hn3 : nx ≤ nx3 := Nat.le_trans hn2 hn
    have hkdH := Lib.hid hkd
    clear hkd
    have hkd := Lib.hid hkdH.out
    clear hkdH
    have hA3 := Lib.hid ((hA2.out.loc h0.out (b := w.heap.size) (by repeat with_reducible first | exact gbRefl _ _ | apply gbAlloc | apply gbDrew | apply gbSet) (Nat.le_refl _)).step hP hk)
    have hs3 : w2.heap.size + 0 ≤ w3.heap.size := (by have := hk.size; (try simp at this); omega)
    have b2' := Lib.hid (hk.blk (b := w.heap.size) (Eq.trans (gbBlk (row := none) (by repeat with_reducible first | exact gbRefl _ _ | apply gbAlloc | apply gbDrew | apply gbSet) (blkLt b2.out) (by simp)) b2.out) (by omega))
    have b4' := Lib.hid (hk.blk (b := w1.heap.size) (Eq.trans (gbBlk (row := none) (by repeat with_reducible first | exact gbRefl _ _ | apply gbAlloc | apply gbDrew | apply gbSet) (blkLt b4.out) (by simp)) b4.out) (by omega))
    clear b2
    have b2 := Lib.hid b2'.out
    clear b2'
    have xb2_3 : w.heap.size < w3.heap.size := blkLt b2.out
    clear b4
    have b4 := Lib.hid b4'.out
    clear b4'
    have xb4_3 : w1.heap.size < w3.heap.size := blkLt b4.out
    have hr3 : C.R < w3.heap.size := hA3.out.ps.RLt
    have K3 : Hid (KidsR w3 (From (w2.heap.size + 0)) t.kids A3) := hkd.out.keep (fun k h1 h2 => ⟨rfl, by unfold From at h1 ⊢; (try simp at h1); omega⟩)
    clear hkd
    clear hP hk hn
    obtain ⟨⟨a0, a1, a2, a3, a4, a5⟩, d0, d1, d2, d3, d4, d5⟩ := cells6 b2.out
    go_wp2
    refine bodyPost_ret (v := nv (.mk t.kind t.name t.n t.unit (hd (C.l nx)).a t.kids) A3 c3) (by simp [results, Tryz.results22, go_sem, a0, a1, a2, a3, a4, a5, xb2_3, Nd.kind, Nd.name, Nd.n, Nd.unit, Nd.at0, Nd.kids]) rfl ?_
    exact Out.ret hr.out rfl hn3 ⟨A3, c3, rfl, (KidsR.from (fun k h1 h2 => gbBlk (row := some (w.heap.size)) (by repeat with_reducible first | exact gbRefl _ _ | apply gbAlloc | apply gbDrew | apply gbSet) h2 (fun e => by cases e; omega)) (by omega) K3.out)⟩ ⟨(hA3.out.loc h0.out (b := w.heap.size) (by repeat with_reducible first | exact gbRefl _ _ | apply gbAlloc | apply gbDrew | apply gbSet) (Nat.le_refl _)).ps, (hA3.out.loc h0.out (b := w.heap.size) (by repeat with_reducible first | exact gbRefl _ _ | apply gbAlloc | apply gbDrew | apply gbSet) (Nat.le_refl _)).kp⟩
  · have hrn := hr.out
    rw [show pickM 2 = flowM from rfl] at hrn
    clear hr
    have hr := Lib.hid hrn
    clear hrn
    go_wp2_with fail
    refine (flow_any C _ nx2 dv ds (hA2.out.loc h0.out (b := w.heap.size) (by repeat with_reducible first | exact gbRefl _ _ | apply gbAlloc | apply gbDrew | apply gbSet) (Nat.le_refl _)).ps hds).mono ?_
    intro e w3 ho
    rcases hm : flowM (C.l nx2) with ⟨t, l3⟩ | ⟨er, l3⟩
    rotate_left
    · have hre : Hid (Res.err er l3 = r) := by have := hr.out; rw [hm] at this; exact this
      rw [hm] at ho
      clear hm
      obtain ⟨nxe, hle, hne, ⟨T, pv, rfl⟩, ⟨dv', hPe⟩, hke⟩ := ho
      have hF := Lib.hid (Out.fail (V := VNd) hre.out hle hn2 hne ⟨T, pv, rfl⟩ hPe (hA2.out.loc h0.out (b := w.heap.size) (by repeat with_reducible first | exact gbRefl _ _ | apply gbAlloc | apply gbDrew | apply gbSet) (Nat.le_refl _)).kp hke)
      clear hPe hke hle
      go_wp2
      exact ⟨rfl, hF.out⟩
    have hrn := hr.out
    rw [hm, Res.bind_ok] at hrn
    clear hr
    have hr := Lib.hid hrn
    clear hrn
    rw [hm] at ho
    clear hm
    obtain ⟨nx3, v3, hl, hn, rfl, ⟨A3, c3, hv, hkd⟩, hP, hk⟩ := ho
    subst hv hl
    have hn3 : nx ≤ nx3 := Nat.le_trans hn2 hn
    have hkdH := Lib.hid hkd
    clear hkd
    have hkd := Lib.hid hkdH.out
    clear hkdH
    have hA3 := Lib.hid ((hA2.out.loc h0.out (b := w.heap.size) (by repeat with_reducible first | exact gbRefl _ _ | apply gbAlloc | apply gbDrew | apply gbSet) (Nat.le_refl _)).step hP hk)
    have hs3 : w2.heap.size + 0 ≤ w3.heap.size := (by have := hk.size; (try simp at this); omega)
    have b2' := Lib.hid (hk.blk (b := w.heap.size) (Eq.trans (gbBlk (row := none) (by repeat with_reducible first | exact gbRefl _ _ | apply gbAlloc | apply gbDrew | apply gbSet) (blkLt b2.out) (by simp)) b2.out) (by omega))
    have b4' := Lib.hid (hk.blk (b := w1.heap.size) (Eq.trans (gbBlk (row := none) (by repeat with_reducible first | exact gbRefl _ _ | apply gbAlloc | apply gbDrew | apply gbSet) (blkLt b4.out) (by simp)) b4.out) (by omega))
    clear b2
    have b2 := Lib.hid b2'.out
    clear b2'
    have xb2_3 : w.heap.size < w3.heap.size := blkLt b2.out
    clear b4
    have b4 := Lib.hid b4'.out
    clear b4'
    have xb4_3 : w1.heap.size < w3.heap.size := blkLt b4.out
    have hr3 : C.R < w3.heap.size := hA3.out.ps.RLt
    have K3 : Hid (KidsR w3 (From (w2.heap.size + 0)) t.kids A3) := hkd.out.keep (fun k h1 h2 => ⟨rfl, by unfold From at h1 ⊢; (try simp at h1); omega⟩)
    clear hkd
    clear hP hk hn
    obtain ⟨⟨a0, a1, a2, a3, a4, a5⟩, d0, d1, d2, d3, d4, d5⟩ := cells6 b2.out
    go_wp2
    refine bodyPost_ret (v := nv (.mk t.kind t.name t.n t.unit (hd (C.l nx)).a t.kids) A3 c3) (by simp [results, Tryz.results22, go_sem, a0, a1, a2, a3, a4, a5, xb2_3, Nd.kind, Nd.name, Nd.n, Nd.unit, Nd.at0, Nd.kids]) rfl ?_
    exact Out.ret hr.out rfl hn3 ⟨A3, c3, rfl, (KidsR.from (fun k h1 h2 => gbBlk (row := some (w.heap.size)) (by repeat with_reducible first | exact gbRefl _ _ | apply gbAlloc | apply gbDrew | apply gbSet) h2 (fun e => by cases e; omega)) (by omega) K3.out)⟩ ⟨(hA3.out.loc h0.out (b := w.heap.size) (by repeat with_reducible first | exact gbRefl _ _ | apply gbAlloc | apply gbDrew | apply gbSet) (Nat.le_refl _)).ps, (hA3.out.loc h0.out (b := w.heap.size) (by repeat with_reducible first | exact gbRefl _ _ | apply gbAlloc | apply gbDrew | apply gbSet) (Nat.le_refl _)).kp⟩
  · have hrn := hr.out
    rw [show pickM 3 = programM from rfl] at hrn
    clear hr
    have hr := Lib.hid hrn
    clear hrn
    go_wp2_with fail
    refine (program_any C _ nx2 dv ds (hA2.out.loc h0.out (b := w.heap.size) (by repeat with_reducible first | exact gbRefl _ _ | apply gbAlloc | apply gbDrew | apply gbSet) (Nat.le_refl _)).ps hds).mono ?_
    intro e w3 ho
    rcases hm : programM (C.l nx2) with ⟨t, l3⟩ | ⟨er, l3⟩
    rotate_left
    · have hre : Hid (Res.err er l3 = r) := by have := hr.out; rw [hm] at this; exact this
      rw [hm] at ho
      clear hm
      obtain ⟨nxe, hle, hne, ⟨T, pv, rfl⟩, ⟨dv', hPe⟩, hke⟩ := ho
      have hF := Lib.hid (Out.fail (V := VNd) hre.out hle hn2 hne ⟨T, pv, rfl⟩ hPe (hA2.out.loc h0.out (b := w.heap.size) (by repeat with_reducible first | exact gbRefl _ _ | apply gbAlloc | apply gbDrew | apply gbSet) (Nat.le_refl _)).kp hke)
      clear hPe hke hle
      go_wp2
      exact ⟨rfl, hF.out⟩
    have hrn := hr.out
    rw [hm, Res.bind_ok] at hrn
    clear hr
    have hr := Lib.hid hrn
    clear hrn
    rw [hm] at ho
    clear hm
    obtain ⟨nx3, v3, hl, hn, rfl, ⟨A3, c3, hv, hkd⟩, hP, hk⟩ := ho
    subst hv hl
    have hn3 : nx ≤ nx3 := Nat.le_trans hn2 hn
    have hkdH := Lib.hid hkd
    clear hkd
    have hkd := Lib.hid hkdH.out
    clear hkdH
    have hA3 := Lib.hid ((hA2.out.loc h0.out (b := w.heap.size) (by repeat with_reducible first | exact gbRefl _ _ | apply gbAlloc | apply gbDrew | apply gbSet) (Nat.le_refl _)).step hP hk)
    have hs3 : w2.heap.size + 0 ≤ w3.heap.size := (by have := hk.size; (try simp at this); omega)
    have b2' := Lib.hid (hk.blk (b := w.heap.size) (Eq.trans (gbBlk (row := none) (by repeat with_reducible first | exact gbRefl _ _ | apply gbAlloc | apply gbDrew | apply gbSet) (blkLt b2.out) (by simp)) b2.out) (by omega))
    have b4' := Lib.hid (hk.blk (b := w1.heap.size) (Eq.trans (gbBlk (row := none) (by repeat with_reducible first | exact gbRefl _ _ | apply gbAlloc | apply gbDrew | apply gbSet) (blkLt b4.out) (by simp)) b4.out) (by omega))
    clear b2
    have b2 := Lib.hid b2'.out
    clear b2'
    have xb2_3 : w.heap.size < w3.heap.size := blkLt b2.out
    clear b4
    have b4 := Lib.hid b4'.out
    clear b4'
    have xb4_3 : w1.heap.size < w3.heap.size := blkLt b4.out
    have hr3 : C.R < w3.heap.size := hA3.out.ps.RLt
    have K3 : Hid (KidsR w3 (From (w2.heap.size + 0)) t.kids A3) := hkd.out.keep (fun k h1 h2 => ⟨rfl, by unfold From at h1 ⊢; (try simp at h1); omega⟩)
    clear hkd
    clear hP hk hn
    obtain ⟨⟨a0, a1, a2, a3, a4, a5⟩, d0, d1, d2, d3, d4, d5⟩ := cells6 b2.out
    go_wp2
    refine bodyPost_ret (v := nv (.mk t.kind t.name t.n t.unit (hd (C.l nx)).a t.kids) A3 c3) (by simp [results, Tryz.results22, go_sem, a0, a1, a2, a3, a4, a5, xb2_3, Nd.kind, Nd.name, Nd.n, Nd.unit, Nd.at0, Nd.kids]) rfl ?_
    exact Out.ret hr.out rfl hn3 ⟨A3, c3, rfl, (KidsR.from (fun k h1 h2 => gbBlk (row := some (w.heap.size)) (by repeat with_reducible first | exact gbRefl _ _ | apply gbAlloc | apply gbDrew | apply gbSet) h2 (fun e => by cases e; omega)) (by omega) K3.out)⟩ ⟨(hA3.out.loc h0.out (b := w.heap.size) (by repeat with_reducible first | exact gbRefl _ _ | apply gbAlloc | apply gbDrew | apply gbSet) (Nat.le_refl _)).ps, (hA3.out.loc h0.out (b := w.heap.size) (by repeat with_reducible first | exact gbRefl _ _ | apply gbAlloc | apply gbDrew | apply gbSet) (Nat.le_refl _)).kp⟩

end Go.Proofs.YtdaghppcomckbaaGreatDoor
