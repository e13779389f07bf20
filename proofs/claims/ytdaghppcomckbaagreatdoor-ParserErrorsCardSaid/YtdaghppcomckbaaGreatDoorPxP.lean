/- Texts of one proof: PxP. -/
import Derived.Test.YtdaghppcomckbaaGreatDoorPxO
/- The parser: operands, terms, expressions. -/
namespace Go.Proofs.YtdaghppcomckbaaGreatDoor
open Go.RowKit
set_option linter.unusedVariables false
set_option linter.unusedSimpArgs false

def factorM (E : List Tk → Res Nd) (l : List Tk) : Res Nd :=
  if (hd l).k = 2 then amtR l else if atNameB l = true then nameR l else if inpB (hd l).x = true then nameR l else if isB ⟨#[40]⟩ l = true then parenM E l else fnR E l
theorem atExpr_paren {l : List Tk} (h : isB ⟨#[40]⟩ l = true) : atExprB l = true := by
  have h1 : (hd l).x = ⟨#[40]⟩ := by unfold isB at h; exact of_decide_eq_true h
  have h2 : 0 ≤ idx beginWs (hd l).x := by rw [h1]; decide
  simp [atExprB, h2]
theorem factor_ok {E : List Tk → Res Nd} {l l1 : List Tk} {t : Nd} (h : factorM E l = .ok t l1) : atExprB l = true := by
  unfold factorM at h
  split at h
  · rename_i hk; simp [atExprB, hk]
  · split at h
    · rename_i hk; simp [atExprB, hk]
    · split at h
      · rename_i hk; simp [atExprB, hk]
      · split at h
        · rename_i hk; exact atExpr_paren hk
        · unfold fnR functionM at h
          rcases hc : choiceM fnWs l with ⟨k, l2⟩ | ⟨e, l2⟩
          · exact atExpr_choice hc
          · rw [hc, Res.bind_err, Res.bind_err] at h; cases h
theorem factor_any (C : Cx) (w : World) (nx : Nat) (dv : Value) (ds : List (Int × Int)) (level : Nat) (E : List Tk → Res Nd) (hE : EC C dv ds level E) (h : PS C w nx dv ds) (hds : ds.length ≤ 100) (hlv : level ≤ 12 ∨ atExprB (C.l nx) = false) :
    Calls Tryz.prog 106 #[.pointer (some ⟨C.R, 0, none⟩), .int .i64 level] w (Out C nx dv ds w VNd (factorM E (C.l nx))) := by
  unfold factorM
  by_cases hk : (hd (C.l nx)).k = 2
  · rw [if_pos hk]; exact factor_num C w nx dv ds level hk h hds
  · rw [if_neg hk]
    rcases h1 : atNameB (C.l nx) with _ | _
    · rw [if_neg (by simp)]
      rcases h2 : inpB (hd (C.l nx)).x with _ | _
      · rw [if_neg (by simp)]
        rcases h3 : isB ⟨#[40]⟩ (C.l nx) with _ | _
        · rw [if_neg (by simp)]; exact factor_fun C w nx dv ds level E hE hk h1 h2 h3 hlv h hds
        · rw [if_pos rfl]; exact factor_par C w nx dv ds level E hE hk h1 h2 h3 (hlv.resolve_right (fun e => by rw [atExpr_paren h3] at e; cases e)) h hds
      · rw [if_pos rfl]; exact factor_inp C w nx dv ds level hk h1 h2 h hds
    · rw [if_pos rfl]; exact factor_name C w nx dv ds level hk h1 h hds

def opF (fine : List Tk → Res Nd) (first : Int) (ws : List ByteArray) (a : Int) : Nat → Nd → List Tk → Res Nd
  | 0, t, l => .ok t l
  | f + 1, t, l => if idx ws (hd l).x < 0 then .ok t l else (choiceM ws l).bind fun k l1 => (fine l1).bind fun t2 l2 => opF fine first ws a f (.mk (first + k) ⟨#[]⟩ 0 0 a [t, t2]) l2
def opsM (fine : List Tk → Res Nd) (first : Int) (ws : List ByteArray) (l : List Tk) : Res Nd := (fine l).bind fun t l1 => opF fine first ws (hd l).a (l1.length + 1) t l1
theorem choiceM_tail {ws : List ByteArray} {l l1 : List Tk} {k : Int} (h : choiceM ws l = .ok k l1) : l1 = l.tail := by
  unfold choiceM at h; split at h <;> cases h; rfl
theorem KidsR.kp {R : Nat} {w cur w' : World} {P : Nat → Prop} {ts : List Nd} {A : Option Addr} (hg : w.grownBy cur none) (hk : Kp R none cur w') (hP : ∀ k, P k → k ≠ R) (h : KidsR w P ts A) : KidsR w' P ts A :=
  h.keep (fun k h1 h2 => ⟨(hk.block k (Nat.lt_of_lt_of_le h2 hg.size) (hP k h1) (by simp)).trans (hg.block k h2 (by simp)), h1⟩)
def Bes (B b k : Nat) : Prop := B ≤ k ∧ k ≠ b
section
variable {w : World} {b : Nat} {a0 a1 a2 a3 a4 a5 v0 v1 v2 v3 v4 v5 : Value} {T : TypeId}
theorem set6all (h : w.heap[b]? = some (.cells #[a0, a1, a2, a3, a4, a5] T (0, 0))) :
    ((((((w.setCell ⟨b, 0, none⟩ v0).setCell ⟨b, 1, none⟩ v1).setCell ⟨b, 2, none⟩ v2).setCell ⟨b, 3, none⟩ v3).setCell ⟨b, 4, none⟩ v4).setCell ⟨b, 5, none⟩ v5).heap[b]? = some (.cells #[v0, v1, v2, v3, v4, v5] T (0, 0)) :=
  set6_5 (set6_4 (set6_3 (set6_2 (set6_1 (set6_0 h)))))
end

set_option maxHeartbeats 4000000 in
set_option maxRecDepth 100000 in
theorem opsF_any (C : Cx) (w : World) (nx : Nat) (dv : Value) (ds : List (Int × Int)) (level : Nat) (fine : List Tk → Res Nd) (first : Int) (hf0 : 0 ≤ first) (hf1 : first ≤ 100) (g0 c0 : Nat) (ws : List ByteArray) (hs : StrS w g0 ws) (hg0 : g0 < w.heap.size) (hgR : g0 ≠ C.R) (hw : ws.length ≤ 10) (hne : (⟨#[]⟩ : ByteArray) ∉ ws) (hF : ∀ (wx : World) (n : Nat), PS C wx n dv ds → (level ≤ 12 ∨ atExprB (C.l n) = false) → Calls Tryz.prog 106 #[.pointer (some ⟨C.R, 0, none⟩), .int .i64 level] wx (Out C n dv ds wx VNd (fine (C.l n)))) (hok : ∀ l t l1, fine l = .ok t l1 → atExprB l = true) (hlv : level ≤ 12 ∨ atExprB (C.l nx) = false) (h : PS C w nx dv ds) (hds : ds.length ≤ 100) :
    Calls Tryz.prog 103 #[.pointer (some ⟨C.R, 0, none⟩), .int .i64 level, .func (.func 106) #[.pointer (some ⟨C.R, 0, none⟩)] #[], .int .i64 first, .slice (some ⟨g0, 0, none⟩) ws.length c0] w (Out C nx dv ds w VNd (opsM fine first ws (C.l nx))) := by
  have h0 := Lib.hid h
  have hR0 := h.RLt
  have hA0 := Lib.hid (At.start h)
  have hn0 : nx ≤ nx := Nat.le_refl _
  obtain ⟨r, hr⟩ : ∃ r, opsM fine first ws (C.l nx) = r := ⟨_, rfl⟩
  rw [hr]
  have f3 := tfield3
  have hFH := Lib.hid hF
  have hokH := Lib.hid hok
  have hlvH := Lib.hid hlv
  have hS0 := Lib.hid hs
  have hneH := Lib.hid hne
  clear hF hok hlv hs hne
  unfold opsM at hr
  have hrH := Lib.hid hr
  clear hr h
  have hr := Lib.hid hrH.out
  clear hrH
  go_enter Tryz.func103, Tryz.ntmps103
  go_wp2_with fail
  refine (token_any C _ nx dv ds (hA0.out.loc h0.out (b := w.heap.size) (by repeat with_reducible first | exact gbRefl _ _ | apply gbAlloc | apply gbDrew | apply gbSet) (Nat.le_refl _)).ps).mono ?_
  rintro e w1 ⟨rfl, hb⟩
  have hP := (hA0.out.loc h0.out (b := w.heap.size) (by repeat with_reducible first | exact gbRefl _ _ | apply gbAlloc | apply gbDrew | apply gbSet) (Nat.le_refl _)).ps.below hb
  have hk := Below.kp (R := C.R) (o := none) hb
  have nx1_ : True := trivial
  have hA1 := Lib.hid ((hA0.out.loc h0.out (b := w.heap.size) (by repeat with_reducible first | exact gbRefl _ _ | apply gbAlloc | apply gbDrew | apply gbSet) (Nat.le_refl _)).step hP hk)
  have hs1 : w.heap.size + 1 ≤ w1.heap.size := (by have := hk.size; (try simp at this); omega)
  have b10' := Lib.hid (hk.blk (b := w.heap.size) (Eq.trans (gbBlk (row := none) (by repeat with_reducible first | exact gbRefl _ _ | apply gbAlloc | apply gbDrew | apply gbSet) (by simp <;> omega) (by simp)) (newBlk w _ _ (by simp))) (by omega))
  have b10 := Lib.hid b10'.out
  clear b10'
  have xb10_1 : w.heap.size < w1.heap.size := blkLt b10.out
  have hr1 : C.R < w1.heap.size := hA1.out.ps.RLt
  have hn1 := hn0
  clear hb hP hk
  go_wp2_with fail
  refine (hFH.out _ nx (hA1.out.loc h0.out (b := w.heap.size) (by repeat with_reducible first | exact gbRefl _ _ | apply gbAlloc | apply gbDrew | apply gbSet) (Nat.le_refl _)).ps hlvH.out).mono ?_
  intro e w2 ho
  rcases hm : fine (C.l nx) with ⟨t0, l2⟩ | ⟨er, l2⟩
  rotate_left
  · have hre : Hid (Res.err er l2 = r) := by have := hr.out; rw [hm] at this; exact this
    rw [hm] at ho
    clear hm
    obtain ⟨nxe, hle, hne, ⟨T, pv, rfl⟩, ⟨dv', hPe⟩, hke⟩ := ho
    have hF := Lib.hid (Out.fail (V := VNd) hre.out hle hn1 hne ⟨T, pv, rfl⟩ hPe (hA1.out.loc h0.out (b := w.heap.size) (by repeat with_reducible first | exact gbRefl _ _ | apply gbAlloc | apply gbDrew | apply gbSet) (Nat.le_refl _)).kp hke)
    clear hPe hke hle
    go_wp2
    exact ⟨rfl, hF.out⟩
  have hrn := hr.out
  rw [hm, Res.bind_ok] at hrn
  clear hr
  have hr := Lib.hid hrn
  clear hrn
  have hl12 : level ≤ 12 := hlvH.out.resolve_right (fun e => by rw [hokH.out _ _ _ hm] at e; cases e)
  rw [hm] at ho
  clear hm
  obtain ⟨nx2, v2, hl, hn, rfl, ⟨A2, c2, hv, hkd⟩, hP, hk⟩ := ho
  subst hv hl
  have hn2 : nx ≤ nx2 := Nat.le_trans hn1 hn
  have hkdH := Lib.hid hkd
  clear hkd
  have hkd := Lib.hid hkdH.out
  clear hkdH
  have hA2 := Lib.hid ((hA1.out.loc h0.out (b := w.heap.size) (by repeat with_reducible first | exact gbRefl _ _ | apply gbAlloc | apply gbDrew | apply gbSet) (Nat.le_refl _)).step hP hk)
  have hs2 : w1.heap.size + 0 ≤ w2.heap.size := (by have := hk.size; (try simp at this); omega)
  have b10' := Lib.hid (hk.blk (b := w.heap.size) (Eq.trans (gbBlk (row := none) (by repeat with_reducible first | exact gbRefl _ _ | apply gbAlloc | apply gbDrew | apply gbSet) (blkLt b10.out) (by simp)) b10.out) (by omega))
  clear b10
  have b10 := Lib.hid b10'.out
  clear b10'
  have xb10_2 : w.heap.size < w2.heap.size := blkLt b10.out
  have hr2 : C.R < w2.heap.size := hA2.out.ps.RLt
  have K2 : Hid (KidsR w2 (From (w1.heap.size + 0)) t0.kids A2) := hkd.out.keep (fun k h1 h2 => ⟨rfl, by unfold From at h1 ⊢; (try simp at h1); omega⟩)
  clear hkd
  clear hP hk hn
  go_wp2
  go_loopg [] ((C.l nx2).length + 1) (fun gk w50 => ∃ (nx50 : Nat) (t : Nd) (A50 : Option Addr) (c50 : Nat), (C.l nx50).length < gk ∧ nx ≤ nx50 ∧ Hid (opF fine first ws (hd (C.l nx)).a gk t (C.l nx50) = r) ∧ Hid (w50.heap[w2.heap.size]? = some (.cells (ndArr t A50 c50) 25 (0, 0))) ∧ Hid (w50.heap[w.heap.size]? = some (.cells zeroNd 25 (0, 0))) ∧ Hid (KidsR w50 (Bes (w.heap.size + 1) (w2.heap.size)) t.kids A50) ∧ Hid (At C dv ds w w50 nx50))
  case atStart =>
    refine ⟨nx2, t0, A2, c2, by omega, hn2, hr.out, ?_, ?_, ?_, ?_⟩
    · exact newBlk _ _ _ rfl
    · exact (Below.heap_alloc _ _ _ (blkLt b10.out)).trans b10.out
    · exact K2.out.keep (fun k h1 h2 => ⟨Below.heap_alloc _ _ _ h2, by unfold From at h1; unfold Bes; omega⟩)
    · exact hA2.out.loc h0.out (b := w.heap.size) (by repeat with_reducible first | exact gbRefl _ _ | apply gbAlloc | apply gbDrew | apply gbSet) (Nat.le_refl _)
  case round =>
    obtain ⟨w50, rfl⟩ : ∃ x : World, x = wr := ⟨_, rfl⟩
    obtain ⟨nx50, t, A50, c50, hgk, hn50, hR, b12, b10, KT, hA50⟩ := hrel
    obtain ⟨gk, rfl⟩ : ∃ g, gk = g + 1 := ⟨gk - 1, by omega⟩
    have hs2_ : w2.heap.size < w50.heap.size := blkLt b12.out
    have hr50 : C.R < w50.heap.size := hA50.out.ps.RLt
    have hStr := Lib.hid (hS0.out.keep (hA50.out.kp.block g0 hg0 hgR (by simp)))
    have hg50 : g0 < w50.heap.size := by omega
    have hx50_10 : w.heap.size < w50.heap.size := by omega
    by_cases hneg : idx ws (hd (C.l nx50)).x < 0
    · have hge : decide (0 ≤ idx ws (hd (C.l nx50)).x) = false := by simp; omega
      have hr : Hid (Res.ok t (C.l nx50) = r) := by have := hR.out; rw [opF, if_pos hneg] at this; exact this
      go_wp2_with fail
      refine (among_any C _ nx50 dv ds g0 c0 ws (hA50.out.loc h0.out (b := w.heap.size) (by repeat with_reducible first | exact gbRefl _ _ | apply gbAlloc | apply gbDrew | apply gbSet) (Nat.le_refl _)).ps hStr.out hg50 (by omega)).mono ?_
      rintro e w51 ⟨rfl, hb⟩
      have hb51 := Lib.hid hb
      have hP := (hA50.out.loc h0.out (b := w.heap.size) (by repeat with_reducible first | exact gbRefl _ _ | apply gbAlloc | apply gbDrew | apply gbSet) (Nat.le_refl _)).ps.below hb
      have hk := Below.kp (R := C.R) (o := none) hb
      have hA51 := Lib.hid ((hA50.out.loc h0.out (b := w.heap.size) (by repeat with_reducible first | exact gbRefl _ _ | apply gbAlloc | apply gbDrew | apply gbSet) (Nat.le_refl _)).step hP hk)
      have hs51 : w50.heap.size + 0 ≤ w51.heap.size := (by have := hk.size; (try simp at this); omega)
      have b10' := Lib.hid (hk.blk (b := w.heap.size) (Eq.trans (gbBlk (row := none) (by repeat with_reducible first | exact gbRefl _ _ | apply gbAlloc | apply gbDrew | apply gbSet) (blkLt b10.out) (by simp)) b10.out) (by omega))
      have b12' := Lib.hid (hk.blk (b := w2.heap.size) (Eq.trans (gbBlk (row := none) (by repeat with_reducible first | exact gbRefl _ _ | apply gbAlloc | apply gbDrew | apply gbSet) (blkLt b12.out) (by simp)) b12.out) (by omega))
      clear b10
      have b10 := Lib.hid b10'.out
      clear b10'
      have xb10_51 : w.heap.size < w51.heap.size := blkLt b10.out
      clear b12
      have b12 := Lib.hid b12'.out
      clear b12'
      have xb12_51 : w2.heap.size < w51.heap.size := blkLt b12.out
      have hr51 : C.R < w51.heap.size := hA51.out.ps.RLt
      have hn51 := hn50
      clear hb hP hk
      obtain ⟨⟨a0, a1, a2, a3, a4, a5⟩, d0, d1, d2, d3, d4, d5⟩ := cells6 b10.out
      obtain ⟨⟨f0, f1, f2, f3, f4, f5⟩, e0, e1, e2, e3, e4, e5⟩ := cells6 b12.out
      have K51 := Lib.hid (KT.out.keep (w' := w51) (P' := From (w.heap.size + 1)) (fun k h1 h2 => ⟨hb51.out.block k h2, h1.1⟩))
      go_wp2
      refine bodyPost_ret (v := nv t A50 c50) (by simp [results, Tryz.results103, go_sem, a0, a1, a2, a3, a4, a5, xb10_51, xb12_51, Nd.kind, Nd.name, Nd.n, Nd.unit, Nd.at0, Nd.kids]) rfl ?_
      exact Out.ret hr.out rfl hn51 ⟨A50, c50, rfl, KidsR.from (fun k h1 h2 => gbBlk (row := some (w.heap.size)) (by repeat with_reducible first | exact gbRefl _ _ | apply gbAlloc | apply gbDrew | apply gbSet) h2 (fun e => by cases e; omega)) (by omega) K51.out⟩ ⟨(hA51.out.loc h0.out (b := w.heap.size) (by repeat with_reducible first | exact gbRefl _ _ | apply gbAlloc | apply gbDrew | apply gbSet) (Nat.le_refl _)).ps, (hA51.out.loc h0.out (b := w.heap.size) (by repeat with_reducible first | exact gbRefl _ _ | apply gbAlloc | apply gbDrew | apply gbSet) (Nat.le_refl _)).kp⟩
    · have hge : 0 ≤ idx ws (hd (C.l nx50)).x := by omega
      have hr : Hid ((choiceM ws (C.l nx50)).bind (fun k l1 => (fine l1).bind fun t2 l2 => opF fine first ws (hd (C.l nx)).a gk (.mk (first + k) ⟨#[]⟩ 0 0 (hd (C.l nx)).a [t, t2]) l2) = r) := by have := hR.out; rw [opF, if_neg hneg] at this; exact this
      clear hneg
      go_wp2_with fail
      refine (among_any C _ nx50 dv ds g0 c0 ws (hA50.out.loc h0.out (b := w.heap.size) (by repeat with_reducible first | exact gbRefl _ _ | apply gbAlloc | apply gbDrew | apply gbSet) (Nat.le_refl _)).ps hStr.out hg50 (by omega)).mono ?_
      rintro e w51 ⟨rfl, hb⟩
      have hb51 := Lib.hid hb
      have hP := (hA50.out.loc h0.out (b := w.heap.size) (by repeat with_reducible first | exact gbRefl _ _ | apply gbAlloc | apply gbDrew | apply gbSet) (Nat.le_refl _)).ps.below hb
      have hk := Below.kp (R := C.R) (o := none) hb
      have hA51 := Lib.hid ((hA50.out.loc h0.out (b := w.heap.size) (by repeat with_reducible first | exact gbRefl _ _ | apply gbAlloc | apply gbDrew | apply gbSet) (Nat.le_refl _)).step hP hk)
      have hs51 : w50.heap.size + 0 ≤ w51.heap.size := (by have := hk.size; (try simp at this); omega)
      have b10' := Lib.hid (hk.blk (b := w.heap.size) (Eq.trans (gbBlk (row := none) (by repeat with_reducible first | exact gbRefl _ _ | apply gbAlloc | apply gbDrew | apply gbSet) (blkLt b10.out) (by simp)) b10.out) (by omega))
      have b12' := Lib.hid (hk.blk (b := w2.heap.size) (Eq.trans (gbBlk (row := none) (by repeat with_reducible first | exact gbRefl _ _ | apply gbAlloc | apply gbDrew | apply gbSet) (blkLt b12.out) (by simp)) b12.out) (by omega))
      clear b10
      have b10 := Lib.hid b10'.out
      clear b10'
      have xb10_51 : w.heap.size < w51.heap.size := blkLt b10.out
      clear b12
      have b12 := Lib.hid b12'.out
      clear b12'
      have xb12_51 : w2.heap.size < w51.heap.size := blkLt b12.out
      have hr51 : C.R < w51.heap.size := hA51.out.ps.RLt
      have hn51 := hn50
      clear hb hP hk
      have K51 := Lib.hid (KT.out.keep (w' := w51) (P' := Bes (w.heap.size + 1) (w2.heap.size)) (fun k h1 h2 => ⟨hb51.out.block k h2, h1⟩))
      have hStr1 := Lib.hid (hStr.out.keep (hb51.out.block g0 hg50))
      have hg51 : g0 < w51.heap.size := by omega
      go_wp2_with fail
      refine (choice_any C _ nx50 dv ds g0 c0 ws (hA51.out.loc h0.out (b := w.heap.size) (by repeat with_reducible first | exact gbRefl _ _ | apply gbAlloc | apply gbDrew | apply gbSet) (Nat.le_refl _)).ps hStr1.out hg51 (by omega) hds hneH.out).mono ?_
      intro e w52 ho
      rcases hm : choiceM ws (C.l nx50) with ⟨k, l52⟩ | ⟨er, l52⟩
      rotate_left
      · have hre : Hid (Res.err er l52 = r) := by have := hr.out; rw [hm] at this; exact this
        rw [hm] at ho
        clear hm
        obtain ⟨nxe, hle, hne, ⟨T, pv, rfl⟩, ⟨dv', hPe⟩, hke⟩ := ho
        have hF := Lib.hid (Out.fail (V := VNd) hre.out hle hn51 hne ⟨T, pv, rfl⟩ hPe (hA51.out.loc h0.out (b := w.heap.size) (by repeat with_reducible first | exact gbRefl _ _ | apply gbAlloc | apply gbDrew | apply gbSet) (Nat.le_refl _)).kp hke)
        clear hPe hke hle
        go_wp2
        exact ⟨rfl, hF.out⟩
      have hrn := hr.out
      rw [hm, Res.bind_ok] at hrn
      clear hr
      have hr := Lib.hid hrn
      clear hrn
      have hk0 : 0 ≤ k := (choiceM_bd hm).1; have hk1 : k < ws.length := (choiceM_bd hm).2; have htl := Lib.hid (choiceM_tail hm)
      rw [hm] at ho
      clear hm
      obtain ⟨nx52, v52, hl, hn, rfl, hv, hP, hk⟩ := ho; have hk52 := Lib.hid hk; have hll := Lib.hid (congrArg List.length (hl.trans htl.out))
      unfold VInt at hv
      subst hv hl
      have hn52 : nx ≤ nx52 := Nat.le_trans hn51 hn
      have hA52 := Lib.hid ((hA51.out.loc h0.out (b := w.heap.size) (by repeat with_reducible first | exact gbRefl _ _ | apply gbAlloc | apply gbDrew | apply gbSet) (Nat.le_refl _)).step hP hk)
      have hs52 : w51.heap.size + 0 ≤ w52.heap.size := (by have := hk.size; (try simp at this); omega)
      have b10' := Lib.hid (hk.blk (b := w.heap.size) (Eq.trans (gbBlk (row := none) (by repeat with_reducible first | exact gbRefl _ _ | apply gbAlloc | apply gbDrew | apply gbSet) (blkLt b10.out) (by simp)) b10.out) (by omega))
      have b12' := Lib.hid (hk.blk (b := w2.heap.size) (Eq.trans (gbBlk (row := none) (by repeat with_reducible first | exact gbRefl _ _ | apply gbAlloc | apply gbDrew | apply gbSet) (blkLt b12.out) (by simp)) b12.out) (by omega))
      clear b10
      have b10 := Lib.hid b10'.out
      clear b10'
      have xb10_52 : w.heap.size < w52.heap.size := blkLt b10.out
      clear b12
      have b12 := Lib.hid b12'.out
      clear b12'
      have xb12_52 : w2.heap.size < w52.heap.size := blkLt b12.out
      have hr52 : C.R < w52.heap.size := hA52.out.ps.RLt
      clear hP hk hn
      have K52 := Lib.hid (K51.out.keep (w' := w52) (P' := Bes (w.heap.size + 1) (w2.heap.size)) (fun k h1 h2 => ⟨hk52.out.block k h2 (by have := h1.1; omega) (by simp), h1⟩))
      have hlen : (C.l nx52).length + 1 = (C.l nx50).length := by have := hll.out; rw [List.length_tail, Cx.llen, Cx.llen] at this; rw [Cx.llen, Cx.llen]; have := hA50.out.ps.lt; have := hA52.out.ps.lt; omega
      have qw : IntKind.i64.wrap (first + k) = first + k := IntWalk.i64_in _ (by omega)
      obtain ⟨⟨q00, q01, q02, q03, q04, q05⟩, -⟩ := cells6 b12.out
      rcases hm : fine (C.l nx52) with ⟨t2, l53⟩ | ⟨er, l53⟩
      rotate_left
      · have hre : Hid (Res.err er l53 = r) := by have := hr.out; rw [hm] at this; exact this
        have hmH := Lib.hid hm
        clear hm
        go_wp2_with fail
        go_region_with (go_at_call 106; clear qw; refine (hFH.out _ nx52 (hA52.out.loc h0.out (b := w.heap.size) (by repeat with_reducible first | exact gbRefl _ _ | apply gbAlloc | apply gbDrew | apply gbSet) (Nat.le_refl _)).ps (.inl hl12)).mono ?_; intro e we ho; rw [hmH.out] at ho; obtain ⟨nxe, hle, hne, ⟨T, pv, rfl⟩, ⟨dv', hPe⟩, hke⟩ := ho; suffices hz : wpAny Tryz.prog .any #[] (fun _ _ _ => True) 0 #[] ⟨#[], []⟩ we from ⟨rfl, Out.fail (V := VNd) hre.out hle hn52 hne ⟨T, pv, rfl⟩ hPe (hA52.out.loc h0.out (b := w.heap.size) (by repeat with_reducible first | exact gbRefl _ _ | apply gbAlloc | apply gbDrew | apply gbSet) (Nat.le_refl _)).kp hke⟩)
        all_goals trivial
      have hrn := hr.out
      rw [hm, Res.bind_ok] at hrn
      clear hr
      have hr := Lib.hid hrn
      clear hrn
      have hmH := Lib.hid hm
      clear hm
      go_wp2_with fail
      go_region_with (go_at_call 106; clear qw; refine (hFH.out _ nx52 (hA52.out.loc h0.out (b := w.heap.size) (by repeat with_reducible first | exact gbRefl _ _ | apply gbAlloc | apply gbDrew | apply gbSet) (Nat.le_refl _)).ps (.inl hl12)).mono ?_; intro e w53 ho; rw [hmH.out] at ho; obtain ⟨nx53, v53, hl, hn, rfl, ⟨A53, c53, hv, hkd⟩, hP, hk⟩ := ho; have hk53 := Lib.hid hk; have hn5352 := Lib.hid hn; subst hv hl; have hn53 : nx ≤ nx53 := Nat.le_trans hn52 hn; have hkdH := Lib.hid hkd; clear hkd; have hkd := Lib.hid hkdH.out; clear hkdH; have hA53 := Lib.hid ((hA52.out.loc h0.out (b := w.heap.size) (by repeat with_reducible first | exact gbRefl _ _ | apply gbAlloc | apply gbDrew | apply gbSet) (Nat.le_refl _)).step hP hk); have hs53 : w52.heap.size + 0 ≤ w53.heap.size := (by have := hk.size; (try simp at this); omega); have b10' := Lib.hid (hk.blk (b := w.heap.size) (Eq.trans (gbBlk (row := none) (by repeat with_reducible first | exact gbRefl _ _ | apply gbAlloc | apply gbDrew | apply gbSet) (blkLt b10.out) (by simp)) b10.out) (by omega)); have b12' := Lib.hid (hk.blk (b := w2.heap.size) (Eq.trans (gbBlk (row := none) (by repeat with_reducible first | exact gbRefl _ _ | apply gbAlloc | apply gbDrew | apply gbSet) (blkLt b12.out) (by simp)) b12.out) (by omega)); clear b10; have b10 := Lib.hid b10'.out; clear b10'; have xb10_53 : w.heap.size < w53.heap.size := blkLt b10.out; clear b12; have b12 := Lib.hid b12'.out; clear b12'; have xb12_53 : w2.heap.size < w53.heap.size := blkLt b12.out; have hr53 : C.R < w53.heap.size := hA53.out.ps.RLt; have K53 : Hid (KidsR w53 (From (w52.heap.size + 0)) t2.kids A53) := hkd.out.keep (fun k h1 h2 => ⟨rfl, by unfold From at h1 ⊢; (try simp at h1); omega⟩); clear hkd hP hk hn; obtain ⟨⟨p00, p01, p02, p03, p04, p05⟩, -⟩ := cells6 b12.out; obtain ⟨-, y0, y1, y2, y3, y4, y5⟩ := cells6 b12.out; have K53a := Lib.hid (KidsR.kp (by repeat with_reducible first | exact gbRefl _ _ | apply gbAlloc | apply gbDrew | apply gbSet) hk53.out (fun q h1 => (by have := h1.1; omega)) K52.out))
      all_goals
        clear q00 q01 q02 q03 q04 q05 p00 p01 p02 p03 p04 p05 y0 y1 y2 y3 y4 y5
        go_wp2_with fail
        go_roundg gk
        case measure => omega
        case rel =>
          refine ⟨nx53, .mk (first + k) ⟨#[]⟩ 0 0 (hd (C.l nx)).a [t, t2], some ⟨w53.heap.size, 0, none⟩, 0, ?_, by omega, hr, ?_, ?_, ?_, ?_⟩
          · have := hA53.out.ps.lt; have := hn5352.out; rw [Cx.llen] at hlen ⊢; omega
          · exact Lib.hid (Eq.trans (gbBlk (row := none) (by (repeat with_reducible first | exact gbRefl _ _ | apply gbAlloc | apply gbDrew | apply gbSet); all_goals exact gbRefl _ _) (by simpa using xb12_53) (by simp)) (set6all b12.out))
          · exact Lib.hid (Eq.trans (gbBlk (row := some (w2.heap.size)) (by repeat with_reducible first | exact gbRefl _ _ | apply gbAlloc | apply gbDrew | apply gbSet) xb10_53 (by simp; omega)) b10.out)
          · exact Lib.hid (kids2 (newBlk _ _ _ (by simp)) (by unfold Bes; omega) (K53a.out.keep (fun k h1 h2 => ⟨gbBlk (row := some (w2.heap.size)) (by repeat with_reducible first | exact gbRefl _ _ | apply gbAlloc | apply gbDrew | apply gbSet) h2 (fun e => by cases e; exact h1.2 rfl), h1⟩)) (K53.out.keep (fun k h1 h2 => ⟨gbBlk (row := some (w2.heap.size)) (by repeat with_reducible first | exact gbRefl _ _ | apply gbAlloc | apply gbDrew | apply gbSet) h2 (fun e => by cases e; unfold From at h1; omega), by unfold From at h1; unfold Bes; omega⟩)))
          · exact Lib.hid (hA53.out.loc h0.out (b := w2.heap.size) (by repeat with_reducible first | exact gbRefl _ _ | apply gbAlloc | apply gbDrew | apply gbSet) (by omega))

set_option maxHeartbeats 4000000 in
set_option maxRecDepth 100000 in
theorem opsT_any (C : Cx) (w : World) (nx : Nat) (dv : Value) (ds : List (Int × Int)) (level : Nat) (fine : List Tk → Res Nd) (first : Int) (hf0 : 0 ≤ first) (hf1 : first ≤ 100) (g0 c0 : Nat) (ws : List ByteArray) (hs : StrS w g0 ws) (hg0 : g0 < w.heap.size) (hgR : g0 ≠ C.R) (hw : ws.length ≤ 10) (hne : (⟨#[]⟩ : ByteArray) ∉ ws) (hF : ∀ (wx : World) (n : Nat), PS C wx n dv ds → (level ≤ 12 ∨ atExprB (C.l n) = false) → Calls Tryz.prog 104 #[.pointer (some ⟨C.R, 0, none⟩), .int .i64 level] wx (Out C n dv ds wx VNd (fine (C.l n)))) (hok : ∀ l t l1, fine l = .ok t l1 → atExprB l = true) (hlv : level ≤ 12 ∨ atExprB (C.l nx) = false) (h : PS C w nx dv ds) (hds : ds.length ≤ 100) :
    Calls Tryz.prog 103 #[.pointer (some ⟨C.R, 0, none⟩), .int .i64 level, .func (.func 104) #[.pointer (some ⟨C.R, 0, none⟩)] #[], .int .i64 first, .slice (some ⟨g0, 0, none⟩) ws.length c0] w (Out C nx dv ds w VNd (opsM fine first ws (C.l nx))) := by
  have h0 := Lib.hid h
  have hR0 := h.RLt
  have hA0 := Lib.hid (At.start h)
  have hn0 : nx ≤ nx := Nat.le_refl _
  obtain ⟨r, hr⟩ : ∃ r, opsM fine first ws (C.l nx) = r := ⟨_, rfl⟩
  rw [hr]
  have f3 := tfield3
  have hFH := Lib.hid hF
  have hokH := Lib.hid hok
  have hlvH := Lib.hid hlv
  have hS0 := Lib.hid hs
  have hneH := Lib.hid hne
  clear hF hok hlv hs hne
  unfold opsM at hr
  have hrH := Lib.hid hr
  clear hr h
  have hr := Lib.hid hrH.out
  clear hrH
  go_enter Tryz.func103, Tryz.ntmps103
  go_wp2_with fail
  refine (token_any C _ nx dv ds (hA0.out.loc h0.out (b := w.heap.size) (by repeat with_reducible first | exact gbRefl _ _ | apply gbAlloc | apply gbDrew | apply gbSet) (Nat.le_refl _)).ps).mono ?_
  rintro e w1 ⟨rfl, hb⟩
  have hP := (hA0.out.loc h0.out (b := w.heap.size) (by repeat with_reducible first | exact gbRefl _ _ | apply gbAlloc | apply gbDrew | apply gbSet) (Nat.le_refl _)).ps.below hb
  have hk := Below.kp (R := C.R) (o := none) hb
  have nx1_ : True := trivial
  have hA1 := Lib.hid ((hA0.out.loc h0.out (b := w.heap.size) (by repeat with_reducible first | exact gbRefl _ _ | apply gbAlloc | apply gbDrew | apply gbSet) (Nat.le_refl _)).step hP hk)
  have hs1 : w.heap.size + 1 ≤ w1.heap.size := (by have := hk.size; (try simp at this); omega)
  have b10' := Lib.hid (hk.blk (b := w.heap.size) (Eq.trans (gbBlk (row := none) (by repeat with_reducible first | exact gbRefl _ _ | apply gbAlloc | apply gbDrew | apply gbSet) (by simp <;> omega) (by simp)) (newBlk w _ _ (by simp))) (by omega))
  have b10 := Lib.hid b10'.out
  clear b10'
  have xb10_1 : w.heap.size < w1.heap.size := blkLt b10.out
  have hr1 : C.R < w1.heap.size := hA1.out.ps.RLt
  have hn1 := hn0
  clear hb hP hk
  go_wp2_with fail
  refine (hFH.out _ nx (hA1.out.loc h0.out (b := w.heap.size) (by repeat with_reducible first | exact gbRefl _ _ | apply gbAlloc | apply gbDrew | apply gbSet) (Nat.le_refl _)).ps hlvH.out).mono ?_
  intro e w2 ho
  rcases hm : fine (C.l nx) with ⟨t0, l2⟩ | ⟨er, l2⟩
  rotate_left
  · have hre : Hid (Res.err er l2 = r) := by have := hr.out; rw [hm] at this; exact this
    rw [hm] at ho
    clear hm
    obtain ⟨nxe, hle, hne, ⟨T, pv, rfl⟩, ⟨dv', hPe⟩, hke⟩ := ho
    have hF := Lib.hid (Out.fail (V := VNd) hre.out hle hn1 hne ⟨T, pv, rfl⟩ hPe (hA1.out.loc h0.out (b := w.heap.size) (by repeat with_reducible first | exact gbRefl _ _ | apply gbAlloc | apply gbDrew | apply gbSet) (Nat.le_refl _)).kp hke)
    clear hPe hke hle
    go_wp2
    exact ⟨rfl, hF.out⟩
  have hrn := hr.out
  rw [hm, Res.bind_ok] at hrn
  clear hr
  have hr := Lib.hid hrn
  clear hrn
  have hl12 : level ≤ 12 := hlvH.out.resolve_right (fun e => by rw [hokH.out _ _ _ hm] at e; cases e)
  rw [hm] at ho
  clear hm
  obtain ⟨nx2, v2, hl, hn, rfl, ⟨A2, c2, hv, hkd⟩, hP, hk⟩ := ho
  subst hv hl
  have hn2 : nx ≤ nx2 := Nat.le_trans hn1 hn
  have hkdH := Lib.hid hkd
  clear hkd
  have hkd := Lib.hid hkdH.out
  clear hkdH
  have hA2 := Lib.hid ((hA1.out.loc h0.out (b := w.heap.size) (by repeat with_reducible first | exact gbRefl _ _ | apply gbAlloc | apply gbDrew | apply gbSet) (Nat.le_refl _)).step hP hk)
  have hs2 : w1.heap.size + 0 ≤ w2.heap.size := (by have := hk.size; (try simp at this); omega)
  have b10' := Lib.hid (hk.blk (b := w.heap.size) (Eq.trans (gbBlk (row := none) (by repeat with_reducible first | exact gbRefl _ _ | apply gbAlloc | apply gbDrew | apply gbSet) (blkLt b10.out) (by simp)) b10.out) (by omega))
  clear b10
  have b10 := Lib.hid b10'.out
  clear b10'
  have xb10_2 : w.heap.size < w2.heap.size := blkLt b10.out
  have hr2 : C.R < w2.heap.size := hA2.out.ps.RLt
  have K2 : Hid (KidsR w2 (From (w1.heap.size + 0)) t0.kids A2) := hkd.out.keep (fun k h1 h2 => ⟨rfl, by unfold From at h1 ⊢; (try simp at h1); omega⟩)
  clear hkd
  clear hP hk hn
  go_wp2
  go_loopg [] ((C.l nx2).length + 1) (fun gk w50 => ∃ (nx50 : Nat) (t : Nd) (A50 : Option Addr) (c50 : Nat), (C.l nx50).length < gk ∧ nx ≤ nx50 ∧ Hid (opF fine first ws (hd (C.l nx)).a gk t (C.l nx50) = r) ∧ Hid (w50.heap[w2.heap.size]? = some (.cells (ndArr t A50 c50) 25 (0, 0))) ∧ Hid (w50.heap[w.heap.size]? = some (.cells zeroNd 25 (0, 0))) ∧ Hid (KidsR w50 (Bes (w.heap.size + 1) (w2.heap.size)) t.kids A50) ∧ Hid (At C dv ds w w50 nx50))
  case atStart =>
    refine ⟨nx2, t0, A2, c2, by omega, hn2, hr.out, ?_, ?_, ?_, ?_⟩
    · exact newBlk _ _ _ rfl
    · exact (Below.heap_alloc _ _ _ (blkLt b10.out)).trans b10.out
    · exact K2.out.keep (fun k h1 h2 => ⟨Below.heap_alloc _ _ _ h2, by unfold From at h1; unfold Bes; omega⟩)
    · exact hA2.out.loc h0.out (b := w.heap.size) (by repeat with_reducible first | exact gbRefl _ _ | apply gbAlloc | apply gbDrew | apply gbSet) (Nat.le_refl _)
  case round =>
    obtain ⟨w50, rfl⟩ : ∃ x : World, x = wr := ⟨_, rfl⟩
    obtain ⟨nx50, t, A50, c50, hgk, hn50, hR, b12, b10, KT, hA50⟩ := hrel
    obtain ⟨gk, rfl⟩ : ∃ g, gk = g + 1 := ⟨gk - 1, by omega⟩
    have hs2_ : w2.heap.size < w50.heap.size := blkLt b12.out
    have hr50 : C.R < w50.heap.size := hA50.out.ps.RLt
    have hStr := Lib.hid (hS0.out.keep (hA50.out.kp.block g0 hg0 hgR (by simp)))
    have hg50 : g0 < w50.heap.size := by omega
    have hx50_10 : w.heap.size < w50.heap.size := by omega
    by_cases hneg : idx ws (hd (C.l nx50)).x < 0
    · have hge : decide (0 ≤ idx ws (hd (C.l nx50)).x) = false := by simp; omega
      have hr : Hid (Res.ok t (C.l nx50) = r) := by have := hR.out; rw [opF, if_pos hneg] at this; exact this
      go_wp2_with fail
      refine (among_any C _ nx50 dv ds g0 c0 ws (hA50.out.loc h0.out (b := w.heap.size) (by repeat with_reducible first | exact gbRefl _ _ | apply gbAlloc | apply gbDrew | apply gbSet) (Nat.le_refl _)).ps hStr.out hg50 (by omega)).mono ?_
      rintro e w51 ⟨rfl, hb⟩
      have hb51 := Lib.hid hb
      have hP := (hA50.out.loc h0.out (b := w.heap.size) (by repeat with_reducible first | exact gbRefl _ _ | apply gbAlloc | apply gbDrew | apply gbSet) (Nat.le_refl _)).ps.below hb
      have hk := Below.kp (R := C.R) (o := none) hb
      have hA51 := Lib.hid ((hA50.out.loc h0.out (b := w.heap.size) (by repeat with_reducible first | exact gbRefl _ _ | apply gbAlloc | apply gbDrew | apply gbSet) (Nat.le_refl _)).step hP hk)
      have hs51 : w50.heap.size + 0 ≤ w51.heap.size := (by have := hk.size; (try simp at this); omega)
      have b10' := Lib.hid (hk.blk (b := w.heap.size) (Eq.trans (gbBlk (row := none) (by repeat with_reducible first | exact gbRefl _ _ | apply gbAlloc | apply gbDrew | apply gbSet) (blkLt b10.out) (by simp)) b10.out) (by omega))
      have b12' := Lib.hid (hk.blk (b := w2.heap.size) (Eq.trans (gbBlk (row := none) (by repeat with_reducible first | exact gbRefl _ _ | apply gbAlloc | apply gbDrew | apply gbSet) (blkLt b12.out) (by simp)) b12.out) (by omega))
      clear b10
      have b10 := Lib.hid b10'.out
      clear b10'
      have xb10_51 : w.heap.size < w51.heap.size := blkLt b10.out
      clear b12
      have b12 := Lib.hid b12'.out
      clear b12'
      have xb12_51 : w2.heap.size < w51.heap.size := blkLt b12.out
      have hr51 : C.R < w51.heap.size := hA51.out.ps.RLt
      have hn51 := hn50
      clear hb hP hk
      obtain ⟨⟨a0, a1, a2, a3, a4, a5⟩, d0, d1, d2, d3, d4, d5⟩ := cells6 b10.out
      obtain ⟨⟨f0, f1, f2, f3, f4, f5⟩, e0, e1, e2, e3, e4, e5⟩ := cells6 b12.out
      have K51 := Lib.hid (KT.out.keep (w' := w51) (P' := From (w.heap.size + 1)) (fun k h1 h2 => ⟨hb51.out.block k h2, h1.1⟩))
      go_wp2
      refine bodyPost_ret (v := nv t A50 c50) (by simp [results, Tryz.results103, go_sem, a0, a1, a2, a3, a4, a5, xb10_51, xb12_51, Nd.kind, Nd.name, Nd.n, Nd.unit, Nd.at0, Nd.kids]) rfl ?_
      exact Out.ret hr.out rfl hn51 ⟨A50, c50, rfl, KidsR.from (fun k h1 h2 => gbBlk (row := some (w.heap.size)) (by repeat with_reducible first | exact gbRefl _ _ | apply gbAlloc | apply gbDrew | apply gbSet) h2 (fun e => by cases e; omega)) (by omega) K51.out⟩ ⟨(hA51.out.loc h0.out (b := w.heap.size) (by repeat with_reducible first | exact gbRefl _ _ | apply gbAlloc | apply gbDrew | apply gbSet) (Nat.le_refl _)).ps, (hA51.out.loc h0.out (b := w.heap.size) (by repeat with_reducible first | exact gbRefl _ _ | apply gbAlloc | apply gbDrew | apply gbSet) (Nat.le_refl _)).kp⟩
    · have hge : 0 ≤ idx ws (hd (C.l nx50)).x := by omega
      have hr : Hid ((choiceM ws (C.l nx50)).bind (fun k l1 => (fine l1).bind fun t2 l2 => opF fine first ws (hd (C.l nx)).a gk (.mk (first + k) ⟨#[]⟩ 0 0 (hd (C.l nx)).a [t, t2]) l2) = r) := by have := hR.out; rw [opF, if_neg hneg] at this; exact this
      clear hneg
      go_wp2_with fail
      refine (among_any C _ nx50 dv ds g0 c0 ws (hA50.out.loc h0.out (b := w.heap.size) (by repeat with_reducible first | exact gbRefl _ _ | apply gbAlloc | apply gbDrew | apply gbSet) (Nat.le_refl _)).ps hStr.out hg50 (by omega)).mono ?_
      rintro e w51 ⟨rfl, hb⟩
      have hb51 := Lib.hid hb
      have hP := (hA50.out.loc h0.out (b := w.heap.size) (by repeat with_reducible first | exact gbRefl _ _ | apply gbAlloc | apply gbDrew | apply gbSet) (Nat.le_refl _)).ps.below hb
      have hk := Below.kp (R := C.R) (o := none) hb
      have hA51 := Lib.hid ((hA50.out.loc h0.out (b := w.heap.size) (by repeat with_reducible first | exact gbRefl _ _ | apply gbAlloc | apply gbDrew | apply gbSet) (Nat.le_refl _)).step hP hk)
      have hs51 : w50.heap.size + 0 ≤ w51.heap.size := (by have := hk.size; (try simp at this); omega)
      have b10' := Lib.hid (hk.blk (b := w.heap.size) (Eq.trans (gbBlk (row := none) (by repeat with_reducible first | exact gbRefl _ _ | apply gbAlloc | apply gbDrew | apply gbSet) (blkLt b10.out) (by simp)) b10.out) (by omega))
      have b12' := Lib.hid (hk.blk (b := w2.heap.size) (Eq.trans (gbBlk (row := none) (by repeat with_reducible first | exact gbRefl _ _ | apply gbAlloc | apply gbDrew | apply gbSet) (blkLt b12.out) (by simp)) b12.out) (by omega))
      clear b10
      have b10 := Lib.hid b10'.out
      clear b10'
      have xb10_51 : w.heap.size < w51.heap.size := blkLt b10.out
      clear b12
      have b12 := Lib.hid b12'.out
      clear b12'
      have xb12_51 : w2.heap.size < w51.heap.size := blkLt b12.out
      have hr51 : C.R < w51.heap.size := hA51.out.ps.RLt
      have hn51 := hn50
      clear hb hP hk
      have K51 := Lib.hid (KT.out.keep (w' := w51) (P' := Bes (w.heap.size + 1) (w2.heap.size)) (fun k h1 h2 => ⟨hb51.out.block k h2, h1⟩))
      have hStr1 := Lib.hid (hStr.out.keep (hb51.out.block g0 hg50))
      have hg51 : g0 < w51.heap.size := by omega
      go_wp2_with fail
      refine (choice_any C _ nx50 dv ds g0 c0 ws (hA51.out.loc h0.out (b := w.heap.size) (by repeat with_reducible first | exact gbRefl _ _ | apply gbAlloc | apply gbDrew | apply gbSet) (Nat.le_refl _)).ps hStr1.out hg51 (by omega) hds hneH.out).mono ?_
      intro e w52 ho
      rcases hm : choiceM ws (C.l nx50) with ⟨k, l52⟩ | ⟨er, l52⟩
      rotate_left
      · have hre : Hid (Res.err er l52 = r) := by have := hr.out; rw [hm] at this; exact this
        rw [hm] at ho
        clear hm
        obtain ⟨nxe, hle, hne, ⟨T, pv, rfl⟩, ⟨dv', hPe⟩, hke⟩ := ho
        have hF := Lib.hid (Out.fail (V := VNd) hre.out hle hn51 hne ⟨T, pv, rfl⟩ hPe (hA51.out.loc h0.out (b := w.heap.size) (by repeat with_reducible first | exact gbRefl _ _ | apply gbAlloc | apply gbDrew | apply gbSet) (Nat.le_refl _)).kp hke)
        clear hPe hke hle
        go_wp2
        exact ⟨rfl, hF.out⟩
      have hrn := hr.out
      rw [hm, Res.bind_ok] at hrn
      clear hr
      have hr := Lib.hid hrn
      clear hrn
      have hk0 : 0 ≤ k := (choiceM_bd hm).1; have hk1 : k < ws.length := (choiceM_bd hm).2; have htl := Lib.hid (choiceM_tail hm)
      rw [hm] at ho
      clear hm
      obtain ⟨nx52, v52, hl, hn, rfl, hv, hP, hk⟩ := ho; have hk52 := Lib.hid hk; have hll := Lib.hid (congrArg List.length (hl.trans htl.out))
      unfold VInt at hv
      subst hv hl
      have hn52 : nx ≤ nx52 := Nat.le_trans hn51 hn
      have hA52 := Lib.hid ((hA51.out.loc h0.out (b := w.heap.size) (by repeat with_reducible first | exact gbRefl _ _ | apply gbAlloc | apply gbDrew | apply gbSet) (Nat.le_refl _)).step hP hk)
      have hs52 : w51.heap.size + 0 ≤ w52.heap.size := (by have := hk.size; (try simp at this); omega)
      have b10' := Lib.hid (hk.blk (b := w.heap.size) (Eq.trans (gbBlk (row := none) (by repeat with_reducible first | exact gbRefl _ _ | apply gbAlloc | apply gbDrew | apply gbSet) (blkLt b10.out) (by simp)) b10.out) (by omega))
      have b12' := Lib.hid (hk.blk (b := w2.heap.size) (Eq.trans (gbBlk (row := none) (by repeat with_reducible first | exact gbRefl _ _ | apply gbAlloc | apply gbDrew | apply gbSet) (blkLt b12.out) (by simp)) b12.out) (by omega))
      clear b10
      have b10 := Lib.hid b10'.out
      clear b10'
      have xb10_52 : w.heap.size < w52.heap.size := blkLt b10.out
      clear b12
      have b12 := Lib.hid b12'.out
      clear b12'
      have xb12_52 : w2.heap.size < w52.heap.size := blkLt b12.out
      have hr52 : C.R < w52.heap.size := hA52.out.ps.RLt
      clear hP hk hn
      have K52 := Lib.hid (K51.out.keep (w' := w52) (P' := Bes (w.heap.size + 1) (w2.heap.size)) (fun k h1 h2 => ⟨hk52.out.block k h2 (by have := h1.1; omega) (by simp), h1⟩))
      have hlen : (C.l nx52).length + 1 = (C.l nx50).length := by have := hll.out; rw [List.length_tail, Cx.llen, Cx.llen] at this; rw [Cx.llen, Cx.llen]; have := hA50.out.ps.lt; have := hA52.out.ps.lt; omega
      have qw : IntKind.i64.wrap (first + k) = first + k := IntWalk.i64_in _ (by omega)
      obtain ⟨⟨q00, q01, q02, q03, q04, q05⟩, -⟩ := cells6 b12.out
      rcases hm : fine (C.l nx52) with ⟨t2, l53⟩ | ⟨er, l53⟩
      rotate_left
      · have hre : Hid (Res.err er l53 = r) := by have := hr.out; rw [hm] at this; exact this
        have hmH := Lib.hid hm
        clear hm
        go_wp2_with fail
        go_region_with (go_at_call 104; clear qw; refine (hFH.out _ nx52 (hA52.out.loc h0.out (b := w.heap.size) (by repeat with_reducible first | exact gbRefl _ _ | apply gbAlloc | apply gbDrew | apply gbSet) (Nat.le_refl _)).ps (.inl hl12)).mono ?_; intro e we ho; rw [hmH.out] at ho; obtain ⟨nxe, hle, hne, ⟨T, pv, rfl⟩, ⟨dv', hPe⟩, hke⟩ := ho; suffices hz : wpAny Tryz.prog .any #[] (fun _ _ _ => True) 0 #[] ⟨#[], []⟩ we from ⟨rfl, Out.fail (V := VNd) hre.out hle hn52 hne ⟨T, pv, rfl⟩ hPe (hA52.out.loc h0.out (b := w.heap.size) (by repeat with_reducible first | exact gbRefl _ _ | apply gbAlloc | apply gbDrew | apply gbSet) (Nat.le_refl _)).kp hke⟩)
        all_goals trivial
      have hrn := hr.out
      rw [hm, Res.bind_ok] at hrn
      clear hr
      have hr := Lib.hid hrn
      clear hrn
      have hmH := Lib.hid hm
      clear hm
      go_wp2_with fail
      go_region_with (go_at_call 104; clear qw; refine (hFH.out _ nx52 (hA52.out.loc h0.out (b := w.heap.size) (by repeat with_reducible first | exact gbRefl _ _ | apply gbAlloc | apply gbDrew | apply gbSet) (Nat.le_refl _)).ps (.inl hl12)).mono ?_; intro e w53 ho; rw [hmH.out] at ho; obtain ⟨nx53, v53, hl, hn, rfl, ⟨A53, c53, hv, hkd⟩, hP, hk⟩ := ho; have hk53 := Lib.hid hk; have hn5352 := Lib.hid hn; subst hv hl; have hn53 : nx ≤ nx53 := Nat.le_trans hn52 hn; have hkdH := Lib.hid hkd; clear hkd; have hkd := Lib.hid hkdH.out; clear hkdH; have hA53 := Lib.hid ((hA52.out.loc h0.out (b := w.heap.size) (by repeat with_reducible first | exact gbRefl _ _ | apply gbAlloc | apply gbDrew | apply gbSet) (Nat.le_refl _)).step hP hk); have hs53 : w52.heap.size + 0 ≤ w53.heap.size := (by have := hk.size; (try simp at this); omega); have b10' := Lib.hid (hk.blk (b := w.heap.size) (Eq.trans (gbBlk (row := none) (by repeat with_reducible first | exact gbRefl _ _ | apply gbAlloc | apply gbDrew | apply gbSet) (blkLt b10.out) (by simp)) b10.out) (by omega)); have b12' := Lib.hid (hk.blk (b := w2.heap.size) (Eq.trans (gbBlk (row := none) (by repeat with_reducible first | exact gbRefl _ _ | apply gbAlloc | apply gbDrew | apply gbSet) (blkLt b12.out) (by simp)) b12.out) (by omega)); clear b10; have b10 := Lib.hid b10'.out; clear b10'; have xb10_53 : w.heap.size < w53.heap.size := blkLt b10.out; clear b12; have b12 := Lib.hid b12'.out; clear b12'; have xb12_53 : w2.heap.size < w53.heap.size := blkLt b12.out; have hr53 : C.R < w53.heap.size := hA53.out.ps.RLt; have K53 : Hid (KidsR w53 (From (w52.heap.size + 0)) t2.kids A53) := hkd.out.keep (fun k h1 h2 => ⟨rfl, by unfold From at h1 ⊢; (try simp at h1); omega⟩); clear hkd hP hk hn; obtain ⟨⟨p00, p01, p02, p03, p04, p05⟩, -⟩ := cells6 b12.out; obtain ⟨-, y0, y1, y2, y3, y4, y5⟩ := cells6 b12.out; have K53a := Lib.hid (KidsR.kp (by repeat with_reducible first | exact gbRefl _ _ | apply gbAlloc | apply gbDrew | apply gbSet) hk53.out (fun q h1 => (by have := h1.1; omega)) K52.out))
      all_goals
        clear q00 q01 q02 q03 q04 q05 p00 p01 p02 p03 p04 p05 y0 y1 y2 y3 y4 y5
        go_wp2_with fail
        go_roundg gk
        case measure => omega
        case rel =>
          refine ⟨nx53, .mk (first + k) ⟨#[]⟩ 0 0 (hd (C.l nx)).a [t, t2], some ⟨w53.heap.size, 0, none⟩, 0, ?_, by omega, hr, ?_, ?_, ?_, ?_⟩
          · have := hA53.out.ps.lt; have := hn5352.out; rw [Cx.llen] at hlen ⊢; omega
          · exact Lib.hid (Eq.trans (gbBlk (row := none) (by (repeat with_reducible first | exact gbRefl _ _ | apply gbAlloc | apply gbDrew | apply gbSet); all_goals exact gbRefl _ _) (by simpa using xb12_53) (by simp)) (set6all b12.out))
          · exact Lib.hid (Eq.trans (gbBlk (row := some (w2.heap.size)) (by repeat with_reducible first | exact gbRefl _ _ | apply gbAlloc | apply gbDrew | apply gbSet) xb10_53 (by simp; omega)) b10.out)
          · exact Lib.hid (kids2 (newBlk _ _ _ (by simp)) (by unfold Bes; omega) (K53a.out.keep (fun k h1 h2 => ⟨gbBlk (row := some (w2.heap.size)) (by repeat with_reducible first | exact gbRefl _ _ | apply gbAlloc | apply gbDrew | apply gbSet) h2 (fun e => by cases e; exact h1.2 rfl), h1⟩)) (K53.out.keep (fun k h1 h2 => ⟨gbBlk (row := some (w2.heap.size)) (by repeat with_reducible first | exact gbRefl _ _ | apply gbAlloc | apply gbDrew | apply gbSet) h2 (fun e => by cases e; unfold From at h1; omega), by unfold From at h1; unfold Bes; omega⟩)))
          · exact Lib.hid (hA53.out.loc h0.out (b := w2.heap.size) (by repeat with_reducible first | exact gbRefl _ _ | apply gbAlloc | apply gbDrew | apply gbSet) (by omega))

end Go.Proofs.YtdaghppcomckbaaGreatDoor
