/- Texts of one proof: PxX. -/
import Derived.Test.YtdaghppcomckbaaGreatDoorPxW
/- The parser: programs. -/
namespace Go.Proofs.YtdaghppcomckbaaGreatDoor
open Go.RowKit
set_option linter.unusedVariables false
set_option linter.unusedSimpArgs false

theorem numbers_le : ∀ (n : Nat) (acc : List Nd), Le (numbersF n acc)
  | 0, acc, l, x, l1, h => by obtain ⟨-, rfl⟩ := ok_inj h; exact Nat.le_refl _
  | n + 1, acc, l, x, l1, h => by
    obtain ⟨t, l2, h1, h⟩ := bind_ok h
    have a1 := number_lt _ _ _ h1
    have a2 := numbers_le n _ _ _ _ h
    omega
theorem variable_lt : Lt variableM := by
  intro l x l1 h
  obtain ⟨_, l2, h1, h⟩ := bind_ok h
  have a1 := word_lt _ (by decide) _ _ _ h1
  obtain ⟨_, l3, h2, h⟩ := bind_ok h
  have a2 := name_lt _ _ _ h2
  obtain ⟨_, l4, h3, h⟩ := bind_ok h
  have a3 := congrArg List.length (choiceM_tail h3)
  rw [List.length_tail] at a3
  obtain ⟨_, l5, h4, h⟩ := bind_ok h
  have a4 := numbers_le _ _ _ _ _ h4
  obtain ⟨_, l6, h5, h⟩ := bind_ok h
  have a5 := word_lt _ (by decide) _ _ _ h5
  obtain ⟨-, rfl⟩ := ok_inj h
  omega
theorem handler_lt : Lt handlerM := by
  intro l x l1 h
  obtain ⟨_, l2, h1, h⟩ := bind_ok h
  have a1 := word_lt _ (by decide) _ _ _ h1
  obtain ⟨_, l3, h2, h⟩ := bind_ok h
  have a2 := congrArg List.length (choiceM_tail h2)
  rw [List.length_tail] at a2
  obtain ⟨_, l4, h3, h⟩ := bind_ok h
  have a3 := stmtsD_lt 12 _ _ _ h3
  obtain ⟨-, rfl⟩ := ok_inj h
  omega
/-- what begins with a word, as often as it does -/
def runF (wd : ByteArray) (P : List Tk → Res Nd) : Nat → List Nd → List Tk → Res (List Nd)
  | 0, acc, l => .ok acc l
  | f + 1, acc, l => if isB wd l = true then (P l).bind fun t l1 => runF wd P f (acc ++ [t]) l1 else .ok acc l
def winW : ByteArray := ⟨#[119, 105, 110, 100, 111, 119]⟩
def progK2 (x : ByteArray) (hs : List Nd) (l : List Tk) : Res Nd := (useM ⟨#[119, 105, 110, 100, 111, 119]⟩ 0 l).bind fun u l5 =>
  if isB ⟨#[112, 97, 99, 101]⟩ l5 = true then (useM ⟨#[112, 97, 99, 101]⟩ 1 l5).bind fun p l6 => (wordM ⟨#[125]⟩ l6).bind fun _ l7 => .ok (.mk 6 x 0 0 0 (hs ++ [u] ++ [p])) l7
  else (wordM ⟨#[125]⟩ l5).bind fun _ l6 => .ok (.mk 6 x 0 0 0 (hs ++ [u])) l6
def progK1 (x : ByteArray) (vs : List Nd) (l : List Tk) : Res Nd := (runF ⟨#[111, 110]⟩ handlerM (l.length + 1) vs l).bind (progK2 x)
def programM (l : List Tk) : Res Nd := (nameM l).bind fun x l1 => (wordM ⟨#[123]⟩ l1).bind fun _ l2 => (runF ⟨#[118, 97, 114]⟩ variableM (l2.length + 1) [] l2).bind (progK1 x)

set_option maxHeartbeats 16000000 in
set_option maxRecDepth 100000 in
theorem program_any (C : Cx) (w : World) (nx : Nat) (dv : Value) (ds : List (Int × Int))  (h : PS C w nx dv ds) (hds : ds.length ≤ 100) :
    Calls Tryz.prog 42 #[.pointer (some ⟨C.R, 0, none⟩)] w (Out C nx dv ds w VNd (programM (C.l nx))) := by
  have h0 := Lib.hid h
  have hR0 := h.RLt
  have hA0 := Lib.hid (At.start h)
  have hn0 : nx ≤ nx := Nat.le_refl _
  obtain ⟨r, hr⟩ : ∃ r, programM (C.l nx) = r := ⟨_, rfl⟩
  rw [hr]
  unfold programM at hr
  have hrH := Lib.hid hr
  clear hr h
  have hr := Lib.hid hrH.out
  clear hrH
  go_enter Tryz.func42, Tryz.ntmps42
  go_wp2_with fail
  refine (name_any C _ nx dv ds (hA0.out.loc h0.out (b := w.heap.size) (by repeat with_reducible first | exact gbRefl _ _ | apply gbAlloc | apply gbDrew | apply gbSet) (Nat.le_refl _)).ps hds).mono ?_
  intro e w1 ho
  rcases hm : nameM (C.l nx) with ⟨x, l1⟩ | ⟨er, l1⟩
  rotate_left
  · have hre : Hid (Res.err er l1 = r) := by have := hr.out; rw [hm] at this; exact this
    rw [hm] at ho
    clear hm
    obtain ⟨nxe, hle, hne, ⟨T, pv, rfl⟩, ⟨dv', hPe⟩, hke⟩ := ho
    have hF := Lib.hid (Out.fail (V := VNd) hre.out hle hn0 hne ⟨T, pv, rfl⟩ hPe (hA0.out.loc h0.out (b := w.heap.size) (by repeat with_reducible first | exact gbRefl _ _ | apply gbAlloc | apply gbDrew | apply gbSet) (Nat.le_refl _)).kp hke)
    clear hPe hke hle
    go_wp2
    exact ⟨rfl, hF.out⟩
  have hrn := hr.out
  rw [hm, Res.bind_ok] at hrn
  clear hr
  have hr := Lib.hid hrn
  clear hrn
  rw [hm] at ho
  clear hm
  obtain ⟨nx1, v1, hl, hn, rfl, hv, hP, hk⟩ := ho
  unfold VStr at hv
  subst hv hl
  have hn1 : nx ≤ nx1 := Nat.le_trans hn0 hn
  have hA1 := Lib.hid ((hA0.out.loc h0.out (b := w.heap.size) (by repeat with_reducible first | exact gbRefl _ _ | apply gbAlloc | apply gbDrew | apply gbSet) (Nat.le_refl _)).step hP hk)
  have hs1 : w.heap.size + 1 ≤ w1.heap.size := (by have := hk.size; (try simp at this); omega)
  have b2' := Lib.hid (hk.blk (b := w.heap.size) (Eq.trans (gbBlk (row := none) (by repeat with_reducible first | exact gbRefl _ _ | apply gbAlloc | apply gbDrew | apply gbSet) (by simp <;> omega) (by simp)) (newBlk w _ _ (by simp))) (by omega))
  have b2 := Lib.hid b2'.out
  clear b2'
  have xb2_1 : w.heap.size < w1.heap.size := blkLt b2.out
  have hr1 : C.R < w1.heap.size := hA1.out.ps.RLt
  clear hP hk hn
  go_wp2_with fail
  refine (word_any C _ nx1 dv ds ⟨#[123]⟩ (hA1.out.loc h0.out (b := w.heap.size) (by repeat with_reducible first | exact gbRefl _ _ | apply gbAlloc | apply gbDrew | apply gbSet) (Nat.le_refl _)).ps hds (by decide)).mono ?_
  intro e w2 ho
  rcases hm : wordM ⟨#[123]⟩ (C.l nx1) with ⟨⟨⟩, l2⟩ | ⟨er, l2⟩
  rotate_left
  · have hre : Hid (Res.err er l2 = r) := by have := hr.out; rw [hm] at this; exact this
    rw [hm] at ho
    clear hm
    obtain ⟨nxe, hle, hne, ⟨T, pv, rfl⟩, ⟨dv', hPe⟩, hke⟩ := ho
    have hF := Lib.hid (Out.fail (V := VNd) hre.out hle hn1 hne ⟨T, pv, rfl⟩ hPe (hA1.out.loc h0.out (b := w.heap.size) (by repeat with_reducible first | exact gbRefl _ _ | apply gbAlloc | apply gbDrew | apply gbSet) (Nat.le_refl _)).kp hke)
    clear hPe hke hle
    go_wp2
    exact ⟨rfl, hF.out⟩
  have hrn := hr.out
  rw [hm, Res.bind_ok] at hrn
  clear hr
  have hr := Lib.hid hrn
  clear hrn
  rw [hm] at ho
  clear hm
  obtain ⟨nx2, v2, hl, hn, rfl, hv, hP, hk⟩ := ho
  unfold VUnit at hv
  subst hv hl
  have hn2 : nx ≤ nx2 := Nat.le_trans hn1 hn
  have hA2 := Lib.hid ((hA1.out.loc h0.out (b := w.heap.size) (by repeat with_reducible first | exact gbRefl _ _ | apply gbAlloc | apply gbDrew | apply gbSet) (Nat.le_refl _)).step hP hk)
  have hs2 : w1.heap.size + 1 ≤ w2.heap.size := (by have := hk.size; (try simp at this); omega)
  have b2' := Lib.hid (hk.blk (b := w.heap.size) (Eq.trans (gbBlk (row := none) (by repeat with_reducible first | exact gbRefl _ _ | apply gbAlloc | apply gbDrew | apply gbSet) (blkLt b2.out) (by simp)) b2.out) (by omega))
  have b3' := Lib.hid (hk.blk (b := w1.heap.size) (Eq.trans (gbBlk (row := none) (by repeat with_reducible first | exact gbRefl _ _ | apply gbAlloc | apply gbDrew | apply gbSet) (by simp <;> omega) (by simp)) (newBlk w1 _ _ (by simp))) (by omega))
  clear b2
  have b2 := Lib.hid b2'.out
  clear b2'
  have xb2_2 : w.heap.size < w2.heap.size := blkLt b2.out
  have b3 := Lib.hid b3'.out
  clear b3'
  have xb3_2 : w1.heap.size < w2.heap.size := blkLt b3.out
  have hr2 : C.R < w2.heap.size := hA2.out.ps.RLt
  clear hP hk hn
  go_wp2
  go_loopg [] ((C.l nx2).length + 1) (fun gk wr => ∃ (nx50 : Nat) (acc50 : List Nd) (v50 : Value), (C.l nx50).length < gk ∧ acc50.length ≤ nx50 ∧ nx ≤ nx50 ∧ Hid ((runF ⟨#[118, 97, 114]⟩ variableM gk acc50 (C.l nx50)).bind (progK1 x) = r) ∧ Hid (wr.heap[w.heap.size]? = some (.cells zeroNd 25 (0, 0))) ∧ Hid (wr.heap[w1.heap.size]? = some (.cells #[.int .i64 6, .string x, .int .i64 0, .int .i64 0, .int .i64 0, v50] 25 (0, 0))) ∧ Hid (VNds (w1.heap.size + 1) wr v50 acc50) ∧ Hid (At C dv ds w wr nx50))
  case atStart => exact ⟨nx2, [], .slice none 0 0, by omega, by simp, hn2, hr.out, b2.out, b3.out, VNds.nil _ _, hA2.out⟩
  case round =>
    obtain ⟨w50, rfl⟩ : ∃ y : World, y = wr := ⟨_, rfl⟩
    obtain ⟨nx50, acc50, v50, hgk, hal50, hn50, hR, b2, b3, OL, hA50⟩ := hrel
    obtain ⟨gk, rfl⟩ : ∃ g, gk = g + 1 := ⟨gk - 1, by omega⟩
    obtain ⟨A50, c50, rfl⟩ := OL.out.own
    have xb2_50 : w.heap.size < w50.heap.size := blkLt b2.out
    have xb3_50 : w1.heap.size < w50.heap.size := blkLt b3.out
    have hr50 : C.R < w50.heap.size := hA50.out.ps.RLt
    have hb50 : nx50 ≤ 3001 := by have := hA50.out.ps.lt; have := hA50.out.ps.le; omega
    rcases hcl : isB ⟨#[118, 97, 114]⟩ (C.l nx50) with _ | _
    rotate_left
    · have hr : Hid (((variableM (C.l nx50)).bind fun t l1 => runF ⟨#[118, 97, 114]⟩ variableM gk (acc50 ++ [t]) l1).bind (progK1 x) = r) := by have := hR.out; rw [runF, if_pos hcl] at this; exact this
      have hclH := Lib.hid hcl
      clear hcl hR
      have hBq := Lib.hid (hclH.out)
      go_wp2_with fail
      refine (is_any C _ nx50 dv ds ⟨#[118, 97, 114]⟩ (hA50.out.loc h0.out (b := w.heap.size) (by repeat with_reducible first | exact gbRefl _ _ | apply gbAlloc | apply gbDrew | apply gbSet) (Nat.le_refl _)).ps).mono ?_
      rw [hBq.out]
      rintro e w51 ⟨rfl, hb⟩
      have hP := (hA50.out.loc h0.out (b := w.heap.size) (by repeat with_reducible first | exact gbRefl _ _ | apply gbAlloc | apply gbDrew | apply gbSet) (Nat.le_refl _)).ps.below hb
      have hk := Below.kp (R := C.R) (o := none) hb
      have hA51 := Lib.hid ((hA50.out.loc h0.out (b := w.heap.size) (by repeat with_reducible first | exact gbRefl _ _ | apply gbAlloc | apply gbDrew | apply gbSet) (Nat.le_refl _)).step hP hk)
      have hs51 : w50.heap.size + 0 ≤ w51.heap.size := (by have := hk.size; (try simp at this); omega)
      have b2' := Lib.hid (hk.blk (b := w.heap.size) (Eq.trans (gbBlk (row := none) (by repeat with_reducible first | exact gbRefl _ _ | apply gbAlloc | apply gbDrew | apply gbSet) (blkLt b2.out) (by simp)) b2.out) (by omega))
      have b3' := Lib.hid (hk.blk (b := w1.heap.size) (Eq.trans (gbBlk (row := none) (by repeat with_reducible first | exact gbRefl _ _ | apply gbAlloc | apply gbDrew | apply gbSet) (blkLt b3.out) (by simp)) b3.out) (by omega))
      clear b2
      have b2 := Lib.hid b2'.out
      clear b2'
      have xb2_51 : w.heap.size < w51.heap.size := blkLt b2.out
      clear b3
      have b3 := Lib.hid b3'.out
      clear b3'
      have xb3_51 : w1.heap.size < w51.heap.size := blkLt b3.out
      have OL' := Lib.hid (VNds.keep (w' := w51) (fun k h1 h2 => (hk.block k (Nat.lt_of_lt_of_le h2 (gbSize (r := none) (by repeat with_reducible first | exact gbRefl _ _ | apply gbAlloc | apply gbDrew | apply gbSet))) (by omega) (by simp)).trans (gbBlk (row := none) (by repeat with_reducible first | exact gbRefl _ _ | apply gbAlloc | apply gbDrew | apply gbSet) h2 (by simp))) OL.out)
      clear OL
      have OL := Lib.hid OL'.out
      clear OL'
      have hr51 : C.R < w51.heap.size := hA51.out.ps.RLt
      have hn51 := hn50
      clear hb hP hk
      clear hBq
      have hbd1 := Lib.hid (show acc50.length + 1 ≤ maxLen by unfold maxLen; omega)
      have hbd2 : (acc50.length + 1) * 72 ≤ 140737488355328 := by omega
      obtain ⟨i0, hi, hz0, hz1, hz2⟩ := info_parts nodeInfo
      have cq5 := (cells6 b3.out).1.2.2.2.2.2
      rcases hm : variableM (C.l nx50) with ⟨t, l52⟩ | ⟨er, l52⟩
      rotate_left
      · have hre : Hid (Res.err er l52 = r) := by have := hr.out; rw [hm] at this; exact this
        have hmE := Lib.hid hm
        clear hm
        go_wp2_with fail
        go_region_law (go_simp; go_at_call 63; refine (variable_any C _ nx50 dv ds (hA51.out.loc h0.out (b := w.heap.size) (by repeat with_reducible first | exact gbRefl _ _ | apply gbAlloc | apply gbDrew | apply gbSet) (Nat.le_refl _)).ps hds).mono ?_; intro e we ho; rw [hmE.out] at ho; obtain ⟨nxe, hle, hne, ⟨T, pv, rfl⟩, ⟨dv', hPe⟩, hke⟩ := ho; suffices hz : wpAny Tryz.prog .any #[] (fun _ _ _ => True) 0 #[] ⟨#[], []⟩ we from ⟨rfl, Out.fail (V := VNd) hre.out hle hn51 hne ⟨T, pv, rfl⟩ hPe (hA51.out.loc h0.out (b := w.heap.size) (by repeat with_reducible first | exact gbRefl _ _ | apply gbAlloc | apply gbDrew | apply gbSet) (Nat.le_refl _)).kp hke⟩)
        all_goals trivial
      have hrn : (runF ⟨#[118, 97, 114]⟩ variableM gk (acc50 ++ [t]) l52).bind (progK1 x) = r := by have := hr.out; rw [hm] at this; exact this
      have hdec := Lib.hid (variable_lt _ _ _ hm)
      clear hr
      have hr := Lib.hid hrn
      clear hrn
      have hmA := Lib.hid hm
      clear hm
      go_wp2_with fail
      go_region_law (first | (refine step_append_lies _ (by rfl) _ _ _ (by rfl) (w1.heap.size + 1) 25 i0 _ 6 72 Tryz.underlying23 hi hz0 hz1 hz2 rfl (by decide) (.slice A50 acc50.length (acc50.length + c50)) acc50.length vs (by rfl) (hown.alloc _) _ 1 1 (nCells t A52 c52) (by rfl) (by rfl) (new_cells w52 #[.int .i64 t.kind, .string t.name, .int .i64 t.n, .int .i64 t.unit, .int .i64 t.at0, .slice A52 t.kids.length (t.kids.length + c52)] _ _ rfl) (nd_one _ _ _) (by decide) hbd1.out hbd2 (by have := hA52.out.kp.size; simp; omega) _ rfl ?_; intro gq53 cap53 w53 hown2 hgrow hat hlt2; have OLq := Lib.hid (VNds.snoc hown hrowsH.out K52.out hovl.out (by omega) hgrow hown2 hat (by simp)); have hAq := Lib.hid (hA52.out.locR h0.out (gbTrans (gbAlloc (gbRefl _ _)) hgrow) (fun kk hkk => Nat.le_trans (by omega) (hown.lt kk hkk).1)); have b2q := Lib.hid (((hgrow.block (w.heap.size) (by simp; omega) (fun e => by have := (hown.lt _ e.symm).1; omega)).trans (Below.heap_alloc _ _ _ (blkLt b2.out))).trans b2.out); have b3q := Lib.hid (((hgrow.block (w1.heap.size) (by simp; omega) (fun e => by have := (hown.lt _ e.symm).1; omega)).trans (Below.heap_alloc _ _ _ (blkLt b3.out))).trans b3.out); have hsq : w52.heap.size + 1 ≤ w53.heap.size := (by have := hgrow.size; simp at this; omega); have yc := (cells6 b3q.out).1.2.2.2.2.2; have yz := (cells6 b3q.out).2.2.2.2.2.2; have hrq : C.R < w53.heap.size := hAq.out.ps.RLt; have xb2_53 : w.heap.size < w53.heap.size := blkLt b2q.out; have xb3_53 : w1.heap.size < w53.heap.size := blkLt b3q.out) | (go_simp; go_at_call 63; refine (variable_any C _ nx50 dv ds (hA51.out.loc h0.out (b := w.heap.size) (by repeat with_reducible first | exact gbRefl _ _ | apply gbAlloc | apply gbDrew | apply gbSet) (Nat.le_refl _)).ps hds).mono ?_; intro e w52 ho; rw [hmA.out] at ho; obtain ⟨nx52, v52, hl, hn, rfl, ⟨A52, c52, hv, hkd⟩, hP, hk⟩ := ho; subst hv hl; have hn52 : nx ≤ nx52 := Nat.le_trans hn51 hn; have hkdH := Lib.hid hkd; clear hkd; have hkd := Lib.hid hkdH.out; clear hkdH; have hovl := Lib.hid (fun kk (hkk : Value.ownBlock (.slice A50 acc50.length (acc50.length + c50)) = some kk) => (let ⟨vs0, ho0, _⟩ := OL.out; (ho0.lt kk hkk).2)); have hA52 := Lib.hid ((hA51.out.loc h0.out (b := w.heap.size) (by repeat with_reducible first | exact gbRefl _ _ | apply gbAlloc | apply gbDrew | apply gbSet) (Nat.le_refl _)).step hP hk); have hs52 : w51.heap.size + 0 ≤ w52.heap.size := (by have := hk.size; (try simp at this); omega); have b2' := Lib.hid (hk.blk (b := w.heap.size) (Eq.trans (gbBlk (row := none) (by repeat with_reducible first | exact gbRefl _ _ | apply gbAlloc | apply gbDrew | apply gbSet) (blkLt b2.out) (by simp)) b2.out) (by omega)); have b3' := Lib.hid (hk.blk (b := w1.heap.size) (Eq.trans (gbBlk (row := none) (by repeat with_reducible first | exact gbRefl _ _ | apply gbAlloc | apply gbDrew | apply gbSet) (blkLt b3.out) (by simp)) b3.out) (by omega)); clear b2; have b2 := Lib.hid b2'.out; clear b2'; have xb2_52 : w.heap.size < w52.heap.size := blkLt b2.out; clear b3; have b3 := Lib.hid b3'.out; clear b3'; have xb3_52 : w1.heap.size < w52.heap.size := blkLt b3.out; have OL' := Lib.hid (VNds.keep (w' := w52) (fun k h1 h2 => (hk.block k (Nat.lt_of_lt_of_le h2 (gbSize (r := none) (by repeat with_reducible first | exact gbRefl _ _ | apply gbAlloc | apply gbDrew | apply gbSet))) (by omega) (by simp)).trans (gbBlk (row := none) (by repeat with_reducible first | exact gbRefl _ _ | apply gbAlloc | apply gbDrew | apply gbSet) h2 (by simp))) OL.out); clear OL; have OL := Lib.hid OL'.out; clear OL'; have hr52 : C.R < w52.heap.size := hA52.out.ps.RLt; have K52 : Hid (KidsR w52 (From (w51.heap.size)) t.kids A52) := hkd.out.keep (fun k h1 h2 => ⟨rfl, by unfold From at h1 ⊢; (try simp at h1); omega⟩); clear hkd hP hk hn; have cp5 := (cells6 b3.out).1.2.2.2.2.2; obtain ⟨vs, hown, hrows⟩ := OL.out; have hrowsH := Lib.hid hrows; clear hrows))
      all_goals
        clear cq5 cp5 hgrow hown hown2
        have hA53 := Lib.hid hAq.out
        clear hAq
        have hs53 := hsq
        have hr53 := hrq
        have hn53 := hn52
        clear OL
        have OL := Lib.hid OLq.out
        clear OLq K52
        clear b2
        have b2 := Lib.hid b2q.out
        clear b2q
        clear b3
        have b3 := Lib.hid b3q.out
        clear b3q
        have hlen : (C.l nx52).length < gk := by have h1 := hdec.out; omega
        have hal : (acc50 ++ [t]).length ≤ nx52 := by have h1 := hdec.out; rw [Cx.llen, Cx.llen] at h1; simp; omega
        go_wp2_with fail
        go_roundg gk
        case measure => omega
        case rel =>
          refine ⟨nx52, acc50 ++ [t], (.slice (some ⟨gq53, 0, none⟩) (acc50.length + 1) cap53), hlen, hal, hn53, hr, ?_, ?_, ?_, ?_⟩
          · exact Lib.hid (Eq.trans (gbBlk (row := some (w1.heap.size)) (by repeat with_reducible first | exact gbRefl _ _ | apply gbAlloc | apply gbDrew | apply gbSet) xb2_53 (by simp; omega)) b2.out)
          · exact Lib.hid (Eq.trans (gbBlk (row := none) (by (repeat with_reducible first | exact gbRefl _ _ | apply gbAlloc | apply gbDrew | apply gbSet); all_goals exact gbRefl _ _) (by simpa using xb3_53) (by simp)) (set6_5 b3.out))
          · exact Lib.hid (VNds.keep (fun k h1 h2 => gbBlk (row := some (w1.heap.size)) (by repeat with_reducible first | exact gbRefl _ _ | apply gbAlloc | apply gbDrew | apply gbSet) h2 (fun e => by cases e; omega)) OL.out)
          · exact Lib.hid (hA53.out.loc h0.out (b := w1.heap.size) (by repeat with_reducible first | exact gbRefl _ _ | apply gbAlloc | apply gbDrew | apply gbSet) (by omega))
    · have hr : Hid (progK1 x acc50 (C.l nx50) = r) := by have := hR.out; rw [runF, if_neg (by rw [hcl]; decide)] at this; exact this
      have hclH := Lib.hid hcl
      clear hcl hR
      have hBq := Lib.hid (hclH.out)
      go_wp2_with fail
      refine (is_any C _ nx50 dv ds ⟨#[118, 97, 114]⟩ (hA50.out.loc h0.out (b := w.heap.size) (by repeat with_reducible first | exact gbRefl _ _ | apply gbAlloc | apply gbDrew | apply gbSet) (Nat.le_refl _)).ps).mono ?_
      rw [hBq.out]
      rintro e w51 ⟨rfl, hb⟩
      have hP := (hA50.out.loc h0.out (b := w.heap.size) (by repeat with_reducible first | exact gbRefl _ _ | apply gbAlloc | apply gbDrew | apply gbSet) (Nat.le_refl _)).ps.below hb
      have hk := Below.kp (R := C.R) (o := none) hb
      have hA51 := Lib.hid ((hA50.out.loc h0.out (b := w.heap.size) (by repeat with_reducible first | exact gbRefl _ _ | apply gbAlloc | apply gbDrew | apply gbSet) (Nat.le_refl _)).step hP hk)
      have hs51 : w50.heap.size + 0 ≤ w51.heap.size := (by have := hk.size; (try simp at this); omega)
      have b2' := Lib.hid (hk.blk (b := w.heap.size) (Eq.trans (gbBlk (row := none) (by repeat with_reducible first | exact gbRefl _ _ | apply gbAlloc | apply gbDrew | apply gbSet) (blkLt b2.out) (by simp)) b2.out) (by omega))
      have b3' := Lib.hid (hk.blk (b := w1.heap.size) (Eq.trans (gbBlk (row := none) (by repeat with_reducible first | exact gbRefl _ _ | apply gbAlloc | apply gbDrew | apply gbSet) (blkLt b3.out) (by simp)) b3.out) (by omega))
      clear b2
      have b2 := Lib.hid b2'.out
      clear b2'
      have xb2_51 : w.heap.size < w51.heap.size := blkLt b2.out
      clear b3
      have b3 := Lib.hid b3'.out
      clear b3'
      have xb3_51 : w1.heap.size < w51.heap.size := blkLt b3.out
      have OL' := Lib.hid (VNds.keep (w' := w51) (fun k h1 h2 => (hk.block k (Nat.lt_of_lt_of_le h2 (gbSize (r := none) (by repeat with_reducible first | exact gbRefl _ _ | apply gbAlloc | apply gbDrew | apply gbSet))) (by omega) (by simp)).trans (gbBlk (row := none) (by repeat with_reducible first | exact gbRefl _ _ | apply gbAlloc | apply gbDrew | apply gbSet) h2 (by simp))) OL.out)
      clear OL
      have OL := Lib.hid OL'.out
      clear OL'
      have hr51 : C.R < w51.heap.size := hA51.out.ps.RLt
      have hn51 := hn50
      clear hb hP hk
      clear hBq
      go_wp2
      go_loopg [] ((C.l nx50).length + 1) (fun gk wr => ∃ (nx60 : Nat) (acc60 : List Nd) (v60 : Value), (C.l nx60).length < gk ∧ acc60.length ≤ nx60 ∧ nx ≤ nx60 ∧ Hid ((runF ⟨#[111, 110]⟩ handlerM gk acc60 (C.l nx60)).bind (progK2 x) = r) ∧ Hid (wr.heap[w.heap.size]? = some (.cells zeroNd 25 (0, 0))) ∧ Hid (wr.heap[w1.heap.size]? = some (.cells #[.int .i64 6, .string x, .int .i64 0, .int .i64 0, .int .i64 0, v60] 25 (0, 0))) ∧ Hid (VNds (w1.heap.size + 1) wr v60 acc60) ∧ Hid (At C dv ds w wr nx60))
      case atStart => exact ⟨nx50, acc50, _, by omega, hal50, hn51, hr.out, b2.out, b3.out, OL.out, hA51.out⟩
      case round =>
        obtain ⟨w60, rfl⟩ : ∃ y : World, y = wr := ⟨_, rfl⟩
        obtain ⟨nx60, acc60, v60, hgk, hal60, hn60, hR, b2, b3, OL, hA60⟩ := hrel
        obtain ⟨gk, rfl⟩ : ∃ g, gk = g + 1 := ⟨gk - 1, by omega⟩
        obtain ⟨A60, c60, rfl⟩ := OL.out.own
        have xb2_60 : w.heap.size < w60.heap.size := blkLt b2.out
        have xb3_60 : w1.heap.size < w60.heap.size := blkLt b3.out
        have hr60 : C.R < w60.heap.size := hA60.out.ps.RLt
        have hb60 : nx60 ≤ 3001 := by have := hA60.out.ps.lt; have := hA60.out.ps.le; omega
        rcases hcl : isB ⟨#[111, 110]⟩ (C.l nx60) with _ | _
        rotate_left
        · have hr : Hid (((handlerM (C.l nx60)).bind fun t l1 => runF ⟨#[111, 110]⟩ handlerM gk (acc60 ++ [t]) l1).bind (progK2 x) = r) := by have := hR.out; rw [runF, if_pos hcl] at this; exact this
          have hclH := Lib.hid hcl
          clear hcl hR
          have hBq := Lib.hid (hclH.out)
          go_wp2_with fail
          refine (is_any C _ nx60 dv ds ⟨#[111, 110]⟩ (hA60.out.loc h0.out (b := w.heap.size) (by repeat with_reducible first | exact gbRefl _ _ | apply gbAlloc | apply gbDrew | apply gbSet) (Nat.le_refl _)).ps).mono ?_
          rw [hBq.out]
          rintro e w61 ⟨rfl, hb⟩
          have hP := (hA60.out.loc h0.out (b := w.heap.size) (by repeat with_reducible first | exact gbRefl _ _ | apply gbAlloc | apply gbDrew | apply gbSet) (Nat.le_refl _)).ps.below hb
          have hk := Below.kp (R := C.R) (o := none) hb
          have hA61 := Lib.hid ((hA60.out.loc h0.out (b := w.heap.size) (by repeat with_reducible first | exact gbRefl _ _ | apply gbAlloc | apply gbDrew | apply gbSet) (Nat.le_refl _)).step hP hk)
          have hs61 : w60.heap.size + 0 ≤ w61.heap.size := (by have := hk.size; (try simp at this); omega)
          have b2' := Lib.hid (hk.blk (b := w.heap.size) (Eq.trans (gbBlk (row := none) (by repeat with_reducible first | exact gbRefl _ _ | apply gbAlloc | apply gbDrew | apply gbSet) (blkLt b2.out) (by simp)) b2.out) (by omega))
          have b3' := Lib.hid (hk.blk (b := w1.heap.size) (Eq.trans (gbBlk (row := none) (by repeat with_reducible first | exact gbRefl _ _ | apply gbAlloc | apply gbDrew | apply gbSet) (blkLt b3.out) (by simp)) b3.out) (by omega))
          clear b2
          have b2 := Lib.hid b2'.out
          clear b2'
          have xb2_61 : w.heap.size < w61.heap.size := blkLt b2.out
          clear b3
          have b3 := Lib.hid b3'.out
          clear b3'
          have xb3_61 : w1.heap.size < w61.heap.size := blkLt b3.out
          have OL' := Lib.hid (VNds.keep (w' := w61) (fun k h1 h2 => (hk.block k (Nat.lt_of_lt_of_le h2 (gbSize (r := none) (by repeat with_reducible first | exact gbRefl _ _ | apply gbAlloc | apply gbDrew | apply gbSet))) (by omega) (by simp)).trans (gbBlk (row := none) (by repeat with_reducible first | exact gbRefl _ _ | apply gbAlloc | apply gbDrew | apply gbSet) h2 (by simp))) OL.out)
          clear OL
          have OL := Lib.hid OL'.out
          clear OL'
          have hr61 : C.R < w61.heap.size := hA61.out.ps.RLt
          have hn61 := hn60
          clear hb hP hk
          clear hBq
          have hbd1 := Lib.hid (show acc60.length + 1 ≤ maxLen by unfold maxLen; omega)
          have hbd2 : (acc60.length + 1) * 72 ≤ 140737488355328 := by omega
          obtain ⟨i0, hi, hz0, hz1, hz2⟩ := info_parts nodeInfo
          have cq5 := (cells6 b3.out).1.2.2.2.2.2
          rcases hm : handlerM (C.l nx60) with ⟨t, l62⟩ | ⟨er, l62⟩
          rotate_left
          · have hre : Hid (Res.err er l62 = r) := by have := hr.out; rw [hm] at this; exact this
            have hmE := Lib.hid hm
            clear hm
            go_wp2_with fail
            go_region_law (go_simp; go_at_call 64; refine (handler_any C _ nx60 dv ds (hA61.out.loc h0.out (b := w.heap.size) (by repeat with_reducible first | exact gbRefl _ _ | apply gbAlloc | apply gbDrew | apply gbSet) (Nat.le_refl _)).ps hds).mono ?_; intro e we ho; rw [hmE.out] at ho; obtain ⟨nxe, hle, hne, ⟨T, pv, rfl⟩, ⟨dv', hPe⟩, hke⟩ := ho; suffices hz : wpAny Tryz.prog .any #[] (fun _ _ _ => True) 0 #[] ⟨#[], []⟩ we from ⟨rfl, Out.fail (V := VNd) hre.out hle hn61 hne ⟨T, pv, rfl⟩ hPe (hA61.out.loc h0.out (b := w.heap.size) (by repeat with_reducible first | exact gbRefl _ _ | apply gbAlloc | apply gbDrew | apply gbSet) (Nat.le_refl _)).kp hke⟩)
            all_goals trivial
          have hrn : (runF ⟨#[111, 110]⟩ handlerM gk (acc60 ++ [t]) l62).bind (progK2 x) = r := by have := hr.out; rw [hm] at this; exact this
          have hdec := Lib.hid (handler_lt _ _ _ hm)
          clear hr
          have hr := Lib.hid hrn
          clear hrn
          have hmA := Lib.hid hm
          clear hm
          go_wp2_with fail
          go_region_law (first | (refine step_append_lies _ (by rfl) _ _ _ (by rfl) (w1.heap.size + 1) 25 i0 _ 6 72 Tryz.underlying23 hi hz0 hz1 hz2 rfl (by decide) (.slice A60 acc60.length (acc60.length + c60)) acc60.length vs (by rfl) (hown.alloc _) _ 1 1 (nCells t A62 c62) (by rfl) (by rfl) (new_cells w62 #[.int .i64 t.kind, .string t.name, .int .i64 t.n, .int .i64 t.unit, .int .i64 t.at0, .slice A62 t.kids.length (t.kids.length + c62)] _ _ rfl) (nd_one _ _ _) (by decide) hbd1.out hbd2 (by have := hA62.out.kp.size; simp; omega) _ rfl ?_; intro gq63 cap63 w63 hown2 hgrow hat hlt2; have OLq := Lib.hid (VNds.snoc hown hrowsH.out K62.out hovl.out (by omega) hgrow hown2 hat (by simp)); have hAq := Lib.hid (hA62.out.locR h0.out (gbTrans (gbAlloc (gbRefl _ _)) hgrow) (fun kk hkk => Nat.le_trans (by omega) (hown.lt kk hkk).1)); have b2q := Lib.hid (((hgrow.block (w.heap.size) (by simp; omega) (fun e => by have := (hown.lt _ e.symm).1; omega)).trans (Below.heap_alloc _ _ _ (blkLt b2.out))).trans b2.out); have b3q := Lib.hid (((hgrow.block (w1.heap.size) (by simp; omega) (fun e => by have := (hown.lt _ e.symm).1; omega)).trans (Below.heap_alloc _ _ _ (blkLt b3.out))).trans b3.out); have hsq : w62.heap.size + 1 ≤ w63.heap.size := (by have := hgrow.size; simp at this; omega); have yc := (cells6 b3q.out).1.2.2.2.2.2; have yz := (cells6 b3q.out).2.2.2.2.2.2; have hrq : C.R < w63.heap.size := hAq.out.ps.RLt; have xb2_63 : w.heap.size < w63.heap.size := blkLt b2q.out; have xb3_63 : w1.heap.size < w63.heap.size := blkLt b3q.out) | (go_simp; go_at_call 64; refine (handler_any C _ nx60 dv ds (hA61.out.loc h0.out (b := w.heap.size) (by repeat with_reducible first | exact gbRefl _ _ | apply gbAlloc | apply gbDrew | apply gbSet) (Nat.le_refl _)).ps hds).mono ?_; intro e w62 ho; rw [hmA.out] at ho; obtain ⟨nx62, v62, hl, hn, rfl, ⟨A62, c62, hv, hkd⟩, hP, hk⟩ := ho; subst hv hl; have hn62 : nx ≤ nx62 := Nat.le_trans hn61 hn; have hkdH := Lib.hid hkd; clear hkd; have hkd := Lib.hid hkdH.out; clear hkdH; have hovl := Lib.hid (fun kk (hkk : Value.ownBlock (.slice A60 acc60.length (acc60.length + c60)) = some kk) => (let ⟨vs0, ho0, _⟩ := OL.out; (ho0.lt kk hkk).2)); have hA62 := Lib.hid ((hA61.out.loc h0.out (b := w.heap.size) (by repeat with_reducible first | exact gbRefl _ _ | apply gbAlloc | apply gbDrew | apply gbSet) (Nat.le_refl _)).step hP hk); have hs62 : w61.heap.size + 0 ≤ w62.heap.size := (by have := hk.size; (try simp at this); omega); have b2' := Lib.hid (hk.blk (b := w.heap.size) (Eq.trans (gbBlk (row := none) (by repeat with_reducible first | exact gbRefl _ _ | apply gbAlloc | apply gbDrew | apply gbSet) (blkLt b2.out) (by simp)) b2.out) (by omega)); have b3' := Lib.hid (hk.blk (b := w1.heap.size) (Eq.trans (gbBlk (row := none) (by repeat with_reducible first | exact gbRefl _ _ | apply gbAlloc | apply gbDrew | apply gbSet) (blkLt b3.out) (by simp)) b3.out) (by omega)); clear b2; have b2 := Lib.hid b2'.out; clear b2'; have xb2_62 : w.heap.size < w62.heap.size := blkLt b2.out; clear b3; have b3 := Lib.hid b3'.out; clear b3'; have xb3_62 : w1.heap.size < w62.heap.size := blkLt b3.out; have OL' := Lib.hid (VNds.keep (w' := w62) (fun k h1 h2 => (hk.block k (Nat.lt_of_lt_of_le h2 (gbSize (r := none) (by repeat with_reducible first | exact gbRefl _ _ | apply gbAlloc | apply gbDrew | apply gbSet))) (by omega) (by simp)).trans (gbBlk (row := none) (by repeat with_reducible first | exact gbRefl _ _ | apply gbAlloc | apply gbDrew | apply gbSet) h2 (by simp))) OL.out); clear OL; have OL := Lib.hid OL'.out; clear OL'; have hr62 : C.R < w62.heap.size := hA62.out.ps.RLt; have K62 : Hid (KidsR w62 (From (w61.heap.size)) t.kids A62) := hkd.out.keep (fun k h1 h2 => ⟨rfl, by unfold From at h1 ⊢; (try simp at h1); omega⟩); clear hkd hP hk hn; have cp5 := (cells6 b3.out).1.2.2.2.2.2; obtain ⟨vs, hown, hrows⟩ := OL.out; have hrowsH := Lib.hid hrows; clear hrows))
          all_goals
            clear cq5 cp5 hgrow hown hown2
            have hA63 := Lib.hid hAq.out
            clear hAq
            have hs63 := hsq
            have hr63 := hrq
            have hn63 := hn62
            clear OL
            have OL := Lib.hid OLq.out
            clear OLq K62
            clear b2
            have b2 := Lib.hid b2q.out
            clear b2q
            clear b3
            have b3 := Lib.hid b3q.out
            clear b3q
            have hlen : (C.l nx62).length < gk := by have h1 := hdec.out; omega
            have hal : (acc60 ++ [t]).length ≤ nx62 := by have h1 := hdec.out; rw [Cx.llen, Cx.llen] at h1; simp; omega
            go_wp2_with fail
            go_roundg gk
            case measure => omega
            case rel =>
              refine ⟨nx62, acc60 ++ [t], (.slice (some ⟨gq63, 0, none⟩) (acc60.length + 1) cap63), hlen, hal, hn63, hr, ?_, ?_, ?_, ?_⟩
              · exact Lib.hid (Eq.trans (gbBlk (row := some (w1.heap.size)) (by repeat with_reducible first | exact gbRefl _ _ | apply gbAlloc | apply gbDrew | apply gbSet) xb2_63 (by simp; omega)) b2.out)
              · exact Lib.hid (Eq.trans (gbBlk (row := none) (by (repeat with_reducible first | exact gbRefl _ _ | apply gbAlloc | apply gbDrew | apply gbSet); all_goals exact gbRefl _ _) (by simpa using xb3_63) (by simp)) (set6_5 b3.out))
              · exact Lib.hid (VNds.keep (fun k h1 h2 => gbBlk (row := some (w1.heap.size)) (by repeat with_reducible first | exact gbRefl _ _ | apply gbAlloc | apply gbDrew | apply gbSet) h2 (fun e => by cases e; omega)) OL.out)
              · exact Lib.hid (hA63.out.loc h0.out (b := w1.heap.size) (by repeat with_reducible first | exact gbRefl _ _ | apply gbAlloc | apply gbDrew | apply gbSet) (by omega))
        · have hr : Hid (progK2 x acc60 (C.l nx60) = r) := by have := hR.out; rw [runF, if_neg (by rw [hcl]; decide)] at this; exact this
          have hclH := Lib.hid hcl
          clear hcl hR
          have hBq := Lib.hid (hclH.out)
          go_wp2_with fail
          refine (is_any C _ nx60 dv ds ⟨#[111, 110]⟩ (hA60.out.loc h0.out (b := w.heap.size) (by repeat with_reducible first | exact gbRefl _ _ | apply gbAlloc | apply gbDrew | apply gbSet) (Nat.le_refl _)).ps).mono ?_
          rw [hBq.out]
          rintro e w61 ⟨rfl, hb⟩
          have hP := (hA60.out.loc h0.out (b := w.heap.size) (by repeat with_reducible first | exact gbRefl _ _ | apply gbAlloc | apply gbDrew | apply gbSet) (Nat.le_refl _)).ps.below hb
          have hk := Below.kp (R := C.R) (o := none) hb
          have hA61 := Lib.hid ((hA60.out.loc h0.out (b := w.heap.size) (by repeat with_reducible first | exact gbRefl _ _ | apply gbAlloc | apply gbDrew | apply gbSet) (Nat.le_refl _)).step hP hk)
          have hs61 : w60.heap.size + 0 ≤ w61.heap.size := (by have := hk.size; (try simp at this); omega)
          have b2' := Lib.hid (hk.blk (b := w.heap.size) (Eq.trans (gbBlk (row := none) (by repeat with_reducible first | exact gbRefl _ _ | apply gbAlloc | apply gbDrew | apply gbSet) (blkLt b2.out) (by simp)) b2.out) (by omega))
          have b3' := Lib.hid (hk.blk (b := w1.heap.size) (Eq.trans (gbBlk (row := none) (by repeat with_reducible first | exact gbRefl _ _ | apply gbAlloc | apply gbDrew | apply gbSet) (blkLt b3.out) (by simp)) b3.out) (by omega))
          clear b2
          have b2 := Lib.hid b2'.out
          clear b2'
          have xb2_61 : w.heap.size < w61.heap.size := blkLt b2.out
          clear b3
          have b3 := Lib.hid b3'.out
          clear b3'
          have xb3_61 : w1.heap.size < w61.heap.size := blkLt b3.out
          have OL' := Lib.hid (VNds.keep (w' := w61) (fun k h1 h2 => (hk.block k (Nat.lt_of_lt_of_le h2 (gbSize (r := none) (by repeat with_reducible first | exact gbRefl _ _ | apply gbAlloc | apply gbDrew | apply gbSet))) (by omega) (by simp)).trans (gbBlk (row := none) (by repeat with_reducible first | exact gbRefl _ _ | apply gbAlloc | apply gbDrew | apply gbSet) h2 (by simp))) OL.out)
          clear OL
          have OL := Lib.hid OL'.out
          clear OL'
          have hr61 : C.R < w61.heap.size := hA61.out.ps.RLt
          have hn61 := hn60
          clear hb hP hk
          clear hBq
          have hr_ := hr.out
          unfold progK2 at hr_
          clear hr
          have hr := Lib.hid hr_
          clear hr_
          have hbd1 := Lib.hid (show acc60.length + 1 ≤ maxLen by unfold maxLen; omega)
          have hbd2 : (acc60.length + 1) * 72 ≤ 140737488355328 := by omega
          obtain ⟨i0, hi, hz0, hz1, hz2⟩ := info_parts nodeInfo
          have cq5 := (cells6 b3.out).1.2.2.2.2.2
          rcases hm : useM ⟨#[119, 105, 110, 100, 111, 119]⟩ 0 (C.l nx60) with ⟨u, l62⟩ | ⟨er, l62⟩
          rotate_left
          · have hre : Hid (Res.err er l62 = r) := by have := hr.out; rw [hm] at this; exact this
            have hmE := Lib.hid hm
            clear hm
            go_wp2_with fail
            go_region_law (go_simp; go_at_call 65; refine (use_any C _ nx60 dv ds ⟨#[119, 105, 110, 100, 111, 119]⟩ 0 (by decide) (hA61.out.loc h0.out (b := w.heap.size) (by repeat with_reducible first | exact gbRefl _ _ | apply gbAlloc | apply gbDrew | apply gbSet) (Nat.le_refl _)).ps hds).mono ?_; intro e we ho; rw [hmE.out] at ho; obtain ⟨nxe, hle, hne, ⟨T, pv, rfl⟩, ⟨dv', hPe⟩, hke⟩ := ho; suffices hz : wpAny Tryz.prog .any #[] (fun _ _ _ => True) 0 #[] ⟨#[], []⟩ we from ⟨rfl, Out.fail (V := VNd) hre.out hle hn61 hne ⟨T, pv, rfl⟩ hPe (hA61.out.loc h0.out (b := w.heap.size) (by repeat with_reducible first | exact gbRefl _ _ | apply gbAlloc | apply gbDrew | apply gbSet) (Nat.le_refl _)).kp hke⟩)
            all_goals trivial
          have hrn := hr.out
          rw [hm, Res.bind_ok] at hrn
          clear hr
          have hr := Lib.hid hrn
          clear hrn
          have hmA := Lib.hid hm
          clear hm
          go_wp2_with fail
          go_region_law (first | (refine step_append_lies _ (by rfl) _ _ _ (by rfl) (w1.heap.size + 1) 25 i0 _ 6 72 Tryz.underlying23 hi hz0 hz1 hz2 rfl (by decide) (.slice A60 acc60.length (acc60.length + c60)) acc60.length vs (by rfl) (hown.alloc _) _ 1 1 (nCells u A62 c62) (by rfl) (by rfl) (new_cells w62 #[.int .i64 u.kind, .string u.name, .int .i64 u.n, .int .i64 u.unit, .int .i64 u.at0, .slice A62 u.kids.length (u.kids.length + c62)] _ _ rfl) (nd_one _ _ _) (by decide) hbd1.out hbd2 (by have := hA62.out.kp.size; simp; omega) _ rfl ?_; intro gq63 cap63 w63 hown2 hgrow hat hlt2; have OLq := Lib.hid (VNds.snoc hown hrowsH.out K62.out hovl.out (by omega) hgrow hown2 hat (by simp)); have hAq := Lib.hid (hA62.out.locR h0.out (gbTrans (gbAlloc (gbRefl _ _)) hgrow) (fun kk hkk => Nat.le_trans (by omega) (hown.lt kk hkk).1)); have b2q := Lib.hid (((hgrow.block (w.heap.size) (by simp; omega) (fun e => by have := (hown.lt _ e.symm).1; omega)).trans (Below.heap_alloc _ _ _ (blkLt b2.out))).trans b2.out); have b3q := Lib.hid (((hgrow.block (w1.heap.size) (by simp; omega) (fun e => by have := (hown.lt _ e.symm).1; omega)).trans (Below.heap_alloc _ _ _ (blkLt b3.out))).trans b3.out); have hsq : w62.heap.size + 1 ≤ w63.heap.size := (by have := hgrow.size; simp at this; omega); have yc := (cells6 b3q.out).1.2.2.2.2.2; have yz := (cells6 b3q.out).2.2.2.2.2.2; have hrq : C.R < w63.heap.size := hAq.out.ps.RLt; have xb2_63 : w.heap.size < w63.heap.size := blkLt b2q.out; have xb3_63 : w1.heap.size < w63.heap.size := blkLt b3q.out) | (go_simp; go_at_call 65; refine (use_any C _ nx60 dv ds ⟨#[119, 105, 110, 100, 111, 119]⟩ 0 (by decide) (hA61.out.loc h0.out (b := w.heap.size) (by repeat with_reducible first | exact gbRefl _ _ | apply gbAlloc | apply gbDrew | apply gbSet) (Nat.le_refl _)).ps hds).mono ?_; intro e w62 ho; rw [hmA.out] at ho; obtain ⟨nx62, v62, hl, hn, rfl, ⟨A62, c62, hv, hkd⟩, hP, hk⟩ := ho; subst hv hl; have hn62 : nx ≤ nx62 := Nat.le_trans hn61 hn; have hkdH := Lib.hid hkd; clear hkd; have hkd := Lib.hid hkdH.out; clear hkdH; have hovl := Lib.hid (fun kk (hkk : Value.ownBlock (.slice A60 acc60.length (acc60.length + c60)) = some kk) => (let ⟨vs0, ho0, _⟩ := OL.out; (ho0.lt kk hkk).2)); have hA62 := Lib.hid ((hA61.out.loc h0.out (b := w.heap.size) (by repeat with_reducible first | exact gbRefl _ _ | apply gbAlloc | apply gbDrew | apply gbSet) (Nat.le_refl _)).step hP hk); have hs62 : w61.heap.size + 0 ≤ w62.heap.size := (by have := hk.size; (try simp at this); omega); have b2' := Lib.hid (hk.blk (b := w.heap.size) (Eq.trans (gbBlk (row := none) (by repeat with_reducible first | exact gbRefl _ _ | apply gbAlloc | apply gbDrew | apply gbSet) (blkLt b2.out) (by simp)) b2.out) (by omega)); have b3' := Lib.hid (hk.blk (b := w1.heap.size) (Eq.trans (gbBlk (row := none) (by repeat with_reducible first | exact gbRefl _ _ | apply gbAlloc | apply gbDrew | apply gbSet) (blkLt b3.out) (by simp)) b3.out) (by omega)); clear b2; have b2 := Lib.hid b2'.out; clear b2'; have xb2_62 : w.heap.size < w62.heap.size := blkLt b2.out; clear b3; have b3 := Lib.hid b3'.out; clear b3'; have xb3_62 : w1.heap.size < w62.heap.size := blkLt b3.out; have OL' := Lib.hid (VNds.keep (w' := w62) (fun k h1 h2 => (hk.block k (Nat.lt_of_lt_of_le h2 (gbSize (r := none) (by repeat with_reducible first | exact gbRefl _ _ | apply gbAlloc | apply gbDrew | apply gbSet))) (by omega) (by simp)).trans (gbBlk (row := none) (by repeat with_reducible first | exact gbRefl _ _ | apply gbAlloc | apply gbDrew | apply gbSet) h2 (by simp))) OL.out); clear OL; have OL := Lib.hid OL'.out; clear OL'; have hr62 : C.R < w62.heap.size := hA62.out.ps.RLt; have K62 : Hid (KidsR w62 (From (w61.heap.size)) u.kids A62) := hkd.out.keep (fun k h1 h2 => ⟨rfl, by unfold From at h1 ⊢; (try simp at h1); omega⟩); clear hkd hP hk hn; have cp5 := (cells6 b3.out).1.2.2.2.2.2; obtain ⟨vs, hown, hrows⟩ := OL.out; have hrowsH := Lib.hid hrows; clear hrows))
          all_goals
            clear cq5 cp5 hgrow hown hown2
            have hA63 := Lib.hid hAq.out
            clear hAq
            have hs63 := hsq
            have hr63 := hrq
            have hn63 := hn62
            clear OL
            have OL := Lib.hid OLq.out
            clear OLq K62
            clear b2
            have b2 := Lib.hid b2q.out
            clear b2q
            clear b3
            have b3 := Lib.hid b3q.out
            clear b3q
            clear hbd1 hbd2
            rcases hel : isB ⟨#[112, 97, 99, 101]⟩ (C.l nx62) with _ | _
            · have hrn := hr.out
              rw [if_neg (by rw [hel]; decide)] at hrn
              clear hr
              have hr := Lib.hid hrn
              clear hrn
              have helH := Lib.hid hel
              clear hel
              have hBq := Lib.hid (helH.out)
              go_wp2_with fail
              refine (is_any C _ nx62 dv ds ⟨#[112, 97, 99, 101]⟩ (hA63.out.loc h0.out (b := w1.heap.size) (by repeat with_reducible first | exact gbRefl _ _ | apply gbAlloc | apply gbDrew | apply gbSet) (by have := hA63.out.kp.size; have := hA0.out.kp.size; have := hA1.out.kp.size; have := hA2.out.kp.size; have := hA60.out.kp.size; have := hA61.out.kp.size; have := hA62.out.kp.size; have := hA63.out.kp.size; omega)).ps).mono ?_
              rw [hBq.out]
              rintro e w64 ⟨rfl, hb⟩
              have hP := (hA63.out.loc h0.out (b := w1.heap.size) (by repeat with_reducible first | exact gbRefl _ _ | apply gbAlloc | apply gbDrew | apply gbSet) (by have := hA63.out.kp.size; have := hA0.out.kp.size; have := hA1.out.kp.size; have := hA2.out.kp.size; have := hA60.out.kp.size; have := hA61.out.kp.size; have := hA62.out.kp.size; have := hA63.out.kp.size; omega)).ps.below hb
              have hk := Below.kp (R := C.R) (o := none) hb
              have hA64 := Lib.hid ((hA63.out.loc h0.out (b := w1.heap.size) (by repeat with_reducible first | exact gbRefl _ _ | apply gbAlloc | apply gbDrew | apply gbSet) (by have := hA63.out.kp.size; have := hA0.out.kp.size; have := hA1.out.kp.size; have := hA2.out.kp.size; have := hA60.out.kp.size; have := hA61.out.kp.size; have := hA62.out.kp.size; have := hA63.out.kp.size; omega)).step hP hk)
              have hs64 : w63.heap.size + 0 ≤ w64.heap.size := (by have := hk.size; (try simp at this); omega)
              have b2' := Lib.hid (hk.blk (b := w.heap.size) (Eq.trans (gbBlk (row := some (w1.heap.size)) (by repeat with_reducible first | exact gbRefl _ _ | apply gbAlloc | apply gbDrew | apply gbSet) (blkLt b2.out) (by simp; omega)) b2.out) (by omega))
              have b3' := Lib.hid (hk.blk (b := w1.heap.size) (Eq.trans (gbBlk (row := none) (by repeat with_reducible first | exact gbRefl _ _ | apply gbAlloc | apply gbDrew | apply gbSet) (by simpa using blkLt b3.out) (by simp)) (set6_5 b3.out)) (by omega))
              clear b2
              have b2 := Lib.hid b2'.out
              clear b2'
              have xb2_64 : w.heap.size < w64.heap.size := blkLt b2.out
              clear b3
              have b3 := Lib.hid b3'.out
              clear b3'
              have xb3_64 : w1.heap.size < w64.heap.size := blkLt b3.out
              have OL' := Lib.hid (VNds.keep (w' := w64) (fun k h1 h2 => (hk.block k (Nat.lt_of_lt_of_le h2 (gbSize (r := some (w1.heap.size)) (by repeat with_reducible first | exact gbRefl _ _ | apply gbAlloc | apply gbDrew | apply gbSet))) (by omega) (by simp)).trans (gbBlk (row := some (w1.heap.size)) (by repeat with_reducible first | exact gbRefl _ _ | apply gbAlloc | apply gbDrew | apply gbSet) h2 (fun e => by cases e; omega))) OL.out)
              clear OL
              have OL := Lib.hid OL'.out
              clear OL'
              have hr64 : C.R < w64.heap.size := hA64.out.ps.RLt
              clear yc yz
              have hn64 := hn63
              clear hb hP hk
              clear hBq
              go_wp2_with fail
              refine (word_any C _ nx62 dv ds ⟨#[125]⟩ (hA64.out.loc h0.out (b := w.heap.size) (by repeat with_reducible first | exact gbRefl _ _ | apply gbAlloc | apply gbDrew | apply gbSet) (Nat.le_refl _)).ps hds (by decide)).mono ?_
              intro e w65 ho
              rcases hm : wordM ⟨#[125]⟩ (C.l nx62) with ⟨⟨⟩, l65⟩ | ⟨er, l65⟩
              rotate_left
              · have hre : Hid (Res.err er l65 = r) := by have := hr.out; rw [hm] at this; exact this
                rw [hm] at ho
                clear hm
                obtain ⟨nxe, hle, hne, ⟨T, pv, rfl⟩, ⟨dv', hPe⟩, hke⟩ := ho
                have hF := Lib.hid (Out.fail (V := VNd) hre.out hle hn64 hne ⟨T, pv, rfl⟩ hPe (hA64.out.loc h0.out (b := w.heap.size) (by repeat with_reducible first | exact gbRefl _ _ | apply gbAlloc | apply gbDrew | apply gbSet) (Nat.le_refl _)).kp hke)
                clear hPe hke hle
                go_wp2
                exact ⟨rfl, hF.out⟩
              have hrn := hr.out
              rw [hm, Res.bind_ok] at hrn
              clear hr
              have hr := Lib.hid hrn
              clear hrn
              rw [hm] at ho
              clear hm
              obtain ⟨nx65, v65, hl, hn, rfl, hv, hP, hk⟩ := ho
              unfold VUnit at hv
              subst hv hl
              have hn65 : nx ≤ nx65 := Nat.le_trans hn64 hn
              have hA65 := Lib.hid ((hA64.out.loc h0.out (b := w.heap.size) (by repeat with_reducible first | exact gbRefl _ _ | apply gbAlloc | apply gbDrew | apply gbSet) (Nat.le_refl _)).step hP hk)
              have hs65 : w64.heap.size + 0 ≤ w65.heap.size := (by have := hk.size; (try simp at this); omega)
              have b2' := Lib.hid (hk.blk (b := w.heap.size) (Eq.trans (gbBlk (row := none) (by repeat with_reducible first | exact gbRefl _ _ | apply gbAlloc | apply gbDrew | apply gbSet) (blkLt b2.out) (by simp)) b2.out) (by omega))
              have b3' := Lib.hid (hk.blk (b := w1.heap.size) (Eq.trans (gbBlk (row := none) (by repeat with_reducible first | exact gbRefl _ _ | apply gbAlloc | apply gbDrew | apply gbSet) (blkLt b3.out) (by simp)) b3.out) (by omega))
              clear b2
              have b2 := Lib.hid b2'.out
              clear b2'
              have xb2_65 : w.heap.size < w65.heap.size := blkLt b2.out
              clear b3
              have b3 := Lib.hid b3'.out
              clear b3'
              have xb3_65 : w1.heap.size < w65.heap.size := blkLt b3.out
              have OL' := Lib.hid (VNds.keep (w' := w65) (fun k h1 h2 => (hk.block k (Nat.lt_of_lt_of_le h2 (gbSize (r := none) (by repeat with_reducible first | exact gbRefl _ _ | apply gbAlloc | apply gbDrew | apply gbSet))) (by omega) (by simp)).trans (gbBlk (row := none) (by repeat with_reducible first | exact gbRefl _ _ | apply gbAlloc | apply gbDrew | apply gbSet) h2 (by simp))) OL.out)
              clear OL
              have OL := Lib.hid OL'.out
              clear OL'
              have hr65 : C.R < w65.heap.size := hA65.out.ps.RLt
              clear hP hk hn
              have KL := Lib.hid (kidsOf OL.out)
              obtain ⟨cx63, hcx63⟩ := capOf OL.out
              subst hcx63
              obtain ⟨⟨a0, a1, a2, a3, a4, a5⟩, d0, d1, d2, d3, d4, d5⟩ := cells6 b2.out
              obtain ⟨⟨f0, f1, f2, f3, f4, f5⟩, e0, e1, e2, e3, e4, e5⟩ := cells6 b3.out
              go_wp2
              refine bodyPost_ret (v := nv (.mk 6 x 0 0 0 (acc60 ++ [u])) (some ⟨gq63, 0, none⟩) cx63) (by simp [results, Tryz.results42, go_sem, a0, a1, a2, a3, a4, a5, xb2_65, xb3_65, Nd.kind, Nd.name, Nd.n, Nd.unit, Nd.at0, Nd.kids]) rfl ?_
              exact Out.ret hr.out rfl hn65 ⟨(some ⟨gq63, 0, none⟩), cx63, rfl, (KidsR.from (fun k h1 h2 => gbBlk (row := some (w.heap.size)) (by repeat with_reducible first | exact gbRefl _ _ | apply gbAlloc | apply gbDrew | apply gbSet) h2 (fun e => by cases e; omega)) (by omega) KL.out)⟩ ⟨(hA65.out.loc h0.out (b := w.heap.size) (by repeat with_reducible first | exact gbRefl _ _ | apply gbAlloc | apply gbDrew | apply gbSet) (Nat.le_refl _)).ps, (hA65.out.loc h0.out (b := w.heap.size) (by repeat with_reducible first | exact gbRefl _ _ | apply gbAlloc | apply gbDrew | apply gbSet) (Nat.le_refl _)).kp⟩
            · have hrn := hr.out
              rw [if_pos hel] at hrn
              clear hr
              have hr := Lib.hid hrn
              clear hrn
              have helH := Lib.hid hel
              clear hel
              have hBq := Lib.hid (helH.out)
              go_wp2_with fail
              refine (is_any C _ nx62 dv ds ⟨#[112, 97, 99, 101]⟩ (hA63.out.loc h0.out (b := w1.heap.size) (by repeat with_reducible first | exact gbRefl _ _ | apply gbAlloc | apply gbDrew | apply gbSet) (by have := hA63.out.kp.size; have := hA0.out.kp.size; have := hA1.out.kp.size; have := hA2.out.kp.size; have := hA60.out.kp.size; have := hA61.out.kp.size; have := hA62.out.kp.size; have := hA63.out.kp.size; omega)).ps).mono ?_
              rw [hBq.out]
              rintro e w64 ⟨rfl, hb⟩
              have hP := (hA63.out.loc h0.out (b := w1.heap.size) (by repeat with_reducible first | exact gbRefl _ _ | apply gbAlloc | apply gbDrew | apply gbSet) (by have := hA63.out.kp.size; have := hA0.out.kp.size; have := hA1.out.kp.size; have := hA2.out.kp.size; have := hA60.out.kp.size; have := hA61.out.kp.size; have := hA62.out.kp.size; have := hA63.out.kp.size; omega)).ps.below hb
              have hk := Below.kp (R := C.R) (o := none) hb
              have hA64 := Lib.hid ((hA63.out.loc h0.out (b := w1.heap.size) (by repeat with_reducible first | exact gbRefl _ _ | apply gbAlloc | apply gbDrew | apply gbSet) (by have := hA63.out.kp.size; have := hA0.out.kp.size; have := hA1.out.kp.size; have := hA2.out.kp.size; have := hA60.out.kp.size; have := hA61.out.kp.size; have := hA62.out.kp.size; have := hA63.out.kp.size; omega)).step hP hk)
              have hs64 : w63.heap.size + 0 ≤ w64.heap.size := (by have := hk.size; (try simp at this); omega)
              have b2' := Lib.hid (hk.blk (b := w.heap.size) (Eq.trans (gbBlk (row := some (w1.heap.size)) (by repeat with_reducible first | exact gbRefl _ _ | apply gbAlloc | apply gbDrew | apply gbSet) (blkLt b2.out) (by simp; omega)) b2.out) (by omega))
              have b3' := Lib.hid (hk.blk (b := w1.heap.size) (Eq.trans (gbBlk (row := none) (by repeat with_reducible first | exact gbRefl _ _ | apply gbAlloc | apply gbDrew | apply gbSet) (by simpa using blkLt b3.out) (by simp)) (set6_5 b3.out)) (by omega))
              clear b2
              have b2 := Lib.hid b2'.out
              clear b2'
              have xb2_64 : w.heap.size < w64.heap.size := blkLt b2.out
              clear b3
              have b3 := Lib.hid b3'.out
              clear b3'
              have xb3_64 : w1.heap.size < w64.heap.size := blkLt b3.out
              have OL' := Lib.hid (VNds.keep (w' := w64) (fun k h1 h2 => (hk.block k (Nat.lt_of_lt_of_le h2 (gbSize (r := some (w1.heap.size)) (by repeat with_reducible first | exact gbRefl _ _ | apply gbAlloc | apply gbDrew | apply gbSet))) (by omega) (by simp)).trans (gbBlk (row := some (w1.heap.size)) (by repeat with_reducible first | exact gbRefl _ _ | apply gbAlloc | apply gbDrew | apply gbSet) h2 (fun e => by cases e; omega))) OL.out)
              clear OL
              have OL := Lib.hid OL'.out
              clear OL'
              have hr64 : C.R < w64.heap.size := hA64.out.ps.RLt
              clear yc yz
              have hn64 := hn63
              clear hb hP hk
              clear hBq
              have hbd1 := Lib.hid (show (acc60 ++ [u]).length + 1 ≤ maxLen by simp; unfold maxLen; omega)
              have hbd2 : ((acc60 ++ [u]).length + 1) * 72 ≤ 140737488355328 := by simp; omega
              obtain ⟨i0, hi, hz0, hz1, hz2⟩ := info_parts nodeInfo
              have cq5 := (cells6 b3.out).1.2.2.2.2.2
              rcases hm : useM ⟨#[112, 97, 99, 101]⟩ 1 (C.l nx62) with ⟨p, l65⟩ | ⟨er, l65⟩
              rotate_left
              · have hre : Hid (Res.err er l65 = r) := by have := hr.out; rw [hm] at this; exact this
                have hmE := Lib.hid hm
                clear hm
                go_wp2_with fail
                go_region_law (go_simp; go_at_call 65; refine (use_any C _ nx62 dv ds ⟨#[112, 97, 99, 101]⟩ 1 (by decide) (hA64.out.loc h0.out (b := w.heap.size) (by repeat with_reducible first | exact gbRefl _ _ | apply gbAlloc | apply gbDrew | apply gbSet) (Nat.le_refl _)).ps hds).mono ?_; intro e we ho; rw [hmE.out] at ho; obtain ⟨nxe, hle, hne, ⟨T, pv, rfl⟩, ⟨dv', hPe⟩, hke⟩ := ho; suffices hz : wpAny Tryz.prog .any #[] (fun _ _ _ => True) 0 #[] ⟨#[], []⟩ we from ⟨rfl, Out.fail (V := VNd) hre.out hle hn64 hne ⟨T, pv, rfl⟩ hPe (hA64.out.loc h0.out (b := w.heap.size) (by repeat with_reducible first | exact gbRefl _ _ | apply gbAlloc | apply gbDrew | apply gbSet) (Nat.le_refl _)).kp hke⟩)
                all_goals trivial
              have hrn := hr.out
              rw [hm, Res.bind_ok] at hrn
              clear hr
              have hr := Lib.hid hrn
              clear hrn
              have hmA := Lib.hid hm
              clear hm
              go_wp2_with fail
              go_region_law (first | (refine step_append_lies _ (by rfl) _ _ _ (by rfl) (w1.heap.size + 1) 25 i0 _ 6 72 Tryz.underlying23 hi hz0 hz1 hz2 rfl (by decide) (.slice (some ⟨gq63, 0, none⟩) (acc60.length + 1) cap63) (acc60 ++ [u]).length vs (by rfl) (hown.alloc _) _ 1 1 (nCells p A65 c65) (by rfl) (by rfl) (new_cells w65 #[.int .i64 p.kind, .string p.name, .int .i64 p.n, .int .i64 p.unit, .int .i64 p.at0, .slice A65 p.kids.length (p.kids.length + c65)] _ _ rfl) (nd_one _ _ _) (by decide) hbd1.out hbd2 (by have := hA65.out.kp.size; simp; omega) _ rfl ?_; intro gq66 cap66 w66 hown2 hgrow hat hlt2; have OLq := Lib.hid (VNds.snoc hown hrowsH.out K65.out hovl.out (by omega) hgrow hown2 hat (by simp)); have hAq := Lib.hid (hA65.out.locR h0.out (gbTrans (gbAlloc (gbRefl _ _)) hgrow) (fun kk hkk => Nat.le_trans (by omega) (hown.lt kk hkk).1)); have b2q := Lib.hid (((hgrow.block (w.heap.size) (by simp; omega) (fun e => by have := (hown.lt _ e.symm).1; omega)).trans (Below.heap_alloc _ _ _ (blkLt b2.out))).trans b2.out); have b3q := Lib.hid (((hgrow.block (w1.heap.size) (by simp; omega) (fun e => by have := (hown.lt _ e.symm).1; omega)).trans (Below.heap_alloc _ _ _ (blkLt b3.out))).trans b3.out); have hsq : w65.heap.size + 1 ≤ w66.heap.size := (by have := hgrow.size; simp at this; omega); have yc := (cells6 b3q.out).1.2.2.2.2.2; have yz := (cells6 b3q.out).2.2.2.2.2.2; have hrq : C.R < w66.heap.size := hAq.out.ps.RLt; have xb2_66 : w.heap.size < w66.heap.size := blkLt b2q.out; have xb3_66 : w1.heap.size < w66.heap.size := blkLt b3q.out) | (go_simp; go_at_call 65; refine (use_any C _ nx62 dv ds ⟨#[112, 97, 99, 101]⟩ 1 (by decide) (hA64.out.loc h0.out (b := w.heap.size) (by repeat with_reducible first | exact gbRefl _ _ | apply gbAlloc | apply gbDrew | apply gbSet) (Nat.le_refl _)).ps hds).mono ?_; intro e w65 ho; rw [hmA.out] at ho; obtain ⟨nx65, v65, hl, hn, rfl, ⟨A65, c65, hv, hkd⟩, hP, hk⟩ := ho; subst hv hl; have hn65 : nx ≤ nx65 := Nat.le_trans hn64 hn; have hkdH := Lib.hid hkd; clear hkd; have hkd := Lib.hid hkdH.out; clear hkdH; have hovl := Lib.hid (fun kk (hkk : Value.ownBlock (.slice (some ⟨gq63, 0, none⟩) (acc60.length + 1) cap63) = some kk) => (let ⟨vs0, ho0, _⟩ := OL.out; (ho0.lt kk hkk).2)); have hA65 := Lib.hid ((hA64.out.loc h0.out (b := w.heap.size) (by repeat with_reducible first | exact gbRefl _ _ | apply gbAlloc | apply gbDrew | apply gbSet) (Nat.le_refl _)).step hP hk); have hs65 : w64.heap.size + 0 ≤ w65.heap.size := (by have := hk.size; (try simp at this); omega); have b2' := Lib.hid (hk.blk (b := w.heap.size) (Eq.trans (gbBlk (row := none) (by repeat with_reducible first | exact gbRefl _ _ | apply gbAlloc | apply gbDrew | apply gbSet) (blkLt b2.out) (by simp)) b2.out) (by omega)); have b3' := Lib.hid (hk.blk (b := w1.heap.size) (Eq.trans (gbBlk (row := none) (by repeat with_reducible first | exact gbRefl _ _ | apply gbAlloc | apply gbDrew | apply gbSet) (blkLt b3.out) (by simp)) b3.out) (by omega)); clear b2; have b2 := Lib.hid b2'.out; clear b2'; have xb2_65 : w.heap.size < w65.heap.size := blkLt b2.out; clear b3; have b3 := Lib.hid b3'.out; clear b3'; have xb3_65 : w1.heap.size < w65.heap.size := blkLt b3.out; have OL' := Lib.hid (VNds.keep (w' := w65) (fun k h1 h2 => (hk.block k (Nat.lt_of_lt_of_le h2 (gbSize (r := none) (by repeat with_reducible first | exact gbRefl _ _ | apply gbAlloc | apply gbDrew | apply gbSet))) (by omega) (by simp)).trans (gbBlk (row := none) (by repeat with_reducible first | exact gbRefl _ _ | apply gbAlloc | apply gbDrew | apply gbSet) h2 (by simp))) OL.out); clear OL; have OL := Lib.hid OL'.out; clear OL'; have hr65 : C.R < w65.heap.size := hA65.out.ps.RLt; have K65 : Hid (KidsR w65 (From (w64.heap.size)) p.kids A65) := hkd.out.keep (fun k h1 h2 => ⟨rfl, by unfold From at h1 ⊢; (try simp at h1); omega⟩); clear hkd hP hk hn; have cp5 := (cells6 b3.out).1.2.2.2.2.2; obtain ⟨vs, hown, hrows⟩ := OL.out; have hrowsH := Lib.hid hrows; clear hrows))
              all_goals
                clear cq5 cp5 hgrow hown hown2
                have hA66 := Lib.hid hAq.out
                clear hAq
                have hs66 := hsq
                have hr66 := hrq
                have hn66 := hn65
                clear OL
                have OL := Lib.hid OLq.out
                clear OLq K65
                clear b2
                have b2 := Lib.hid b2q.out
                clear b2q
                clear b3
                have b3 := Lib.hid b3q.out
                clear b3q
                go_wp2_with fail
                refine (word_any C _ nx65 dv ds ⟨#[125]⟩ (hA66.out.loc h0.out (b := w1.heap.size) (by repeat with_reducible first | exact gbRefl _ _ | apply gbAlloc | apply gbDrew | apply gbSet) (by have := hA66.out.kp.size; have := hA0.out.kp.size; have := hA1.out.kp.size; have := hA2.out.kp.size; have := hA60.out.kp.size; have := hA61.out.kp.size; have := hA62.out.kp.size; have := hA63.out.kp.size; have := hA64.out.kp.size; have := hA65.out.kp.size; have := hA66.out.kp.size; omega)).ps hds (by decide)).mono ?_
                intro e w67 ho
                rcases hm : wordM ⟨#[125]⟩ (C.l nx65) with ⟨⟨⟩, l67⟩ | ⟨er, l67⟩
                rotate_left
                · have hre : Hid (Res.err er l67 = r) := by have := hr.out; rw [hm] at this; exact this
                  rw [hm] at ho
                  clear hm
                  obtain ⟨nxe, hle, hne, ⟨T, pv, rfl⟩, ⟨dv', hPe⟩, hke⟩ := ho
                  have hF := Lib.hid (Out.fail (V := VNd) hre.out hle hn66 hne ⟨T, pv, rfl⟩ hPe (hA66.out.loc h0.out (b := w1.heap.size) (by repeat with_reducible first | exact gbRefl _ _ | apply gbAlloc | apply gbDrew | apply gbSet) (by have := hA66.out.kp.size; have := hA0.out.kp.size; have := hA1.out.kp.size; have := hA2.out.kp.size; have := hA60.out.kp.size; have := hA61.out.kp.size; have := hA62.out.kp.size; have := hA63.out.kp.size; have := hA64.out.kp.size; have := hA65.out.kp.size; have := hA66.out.kp.size; omega)).kp hke)
                  clear hPe hke hle
                  go_wp2
                  exact ⟨rfl, hF.out⟩
                have hrn := hr.out
                rw [hm, Res.bind_ok] at hrn
                clear hr
                have hr := Lib.hid hrn
                clear hrn
                rw [hm] at ho
                clear hm
                obtain ⟨nx67, v67, hl, hn, rfl, hv, hP, hk⟩ := ho
                unfold VUnit at hv
                subst hv hl
                have hn67 : nx ≤ nx67 := Nat.le_trans hn66 hn
                have hA67 := Lib.hid ((hA66.out.loc h0.out (b := w1.heap.size) (by repeat with_reducible first | exact gbRefl _ _ | apply gbAlloc | apply gbDrew | apply gbSet) (by have := hA66.out.kp.size; have := hA0.out.kp.size; have := hA1.out.kp.size; have := hA2.out.kp.size; have := hA60.out.kp.size; have := hA61.out.kp.size; have := hA62.out.kp.size; have := hA63.out.kp.size; have := hA64.out.kp.size; have := hA65.out.kp.size; have := hA66.out.kp.size; omega)).step hP hk)
                have hs67 : w66.heap.size + 0 ≤ w67.heap.size := (by have := hk.size; (try simp at this); omega)
                have b2' := Lib.hid (hk.blk (b := w.heap.size) (Eq.trans (gbBlk (row := some (w1.heap.size)) (by repeat with_reducible first | exact gbRefl _ _ | apply gbAlloc | apply gbDrew | apply gbSet) (blkLt b2.out) (by simp; omega)) b2.out) (by omega))
                have b3' := Lib.hid (hk.blk (b := w1.heap.size) (Eq.trans (gbBlk (row := none) (by repeat with_reducible first | exact gbRefl _ _ | apply gbAlloc | apply gbDrew | apply gbSet) (by simpa using blkLt b3.out) (by simp)) (set6_5 b3.out)) (by omega))
                clear b2
                have b2 := Lib.hid b2'.out
                clear b2'
                have xb2_67 : w.heap.size < w67.heap.size := blkLt b2.out
                clear b3
                have b3 := Lib.hid b3'.out
                clear b3'
                have xb3_67 : w1.heap.size < w67.heap.size := blkLt b3.out
                have OL' := Lib.hid (VNds.keep (w' := w67) (fun k h1 h2 => (hk.block k (Nat.lt_of_lt_of_le h2 (gbSize (r := some (w1.heap.size)) (by repeat with_reducible first | exact gbRefl _ _ | apply gbAlloc | apply gbDrew | apply gbSet))) (by omega) (by simp)).trans (gbBlk (row := some (w1.heap.size)) (by repeat with_reducible first | exact gbRefl _ _ | apply gbAlloc | apply gbDrew | apply gbSet) h2 (fun e => by cases e; omega))) OL.out)
                clear OL
                have OL := Lib.hid OL'.out
                clear OL'
                have hr67 : C.R < w67.heap.size := hA67.out.ps.RLt
                clear yc yz
                clear hP hk hn
                have KL := Lib.hid (kidsOf OL.out)
                obtain ⟨cx66, hcx66⟩ := capOf OL.out
                subst hcx66
                obtain ⟨⟨a0, a1, a2, a3, a4, a5⟩, d0, d1, d2, d3, d4, d5⟩ := cells6 b2.out
                obtain ⟨⟨f0, f1, f2, f3, f4, f5⟩, e0, e1, e2, e3, e4, e5⟩ := cells6 b3.out
                go_wp2
                refine bodyPost_ret (v := nv (.mk 6 x 0 0 0 (acc60 ++ [u] ++ [p])) (some ⟨gq66, 0, none⟩) cx66) (by simp [results, Tryz.results42, go_sem, a0, a1, a2, a3, a4, a5, xb2_67, xb3_67, Nd.kind, Nd.name, Nd.n, Nd.unit, Nd.at0, Nd.kids]) rfl ?_
                exact Out.ret hr.out rfl hn67 ⟨(some ⟨gq66, 0, none⟩), cx66, rfl, (KidsR.from (fun k h1 h2 => gbBlk (row := some (w.heap.size)) (by repeat with_reducible first | exact gbRefl _ _ | apply gbAlloc | apply gbDrew | apply gbSet) h2 (fun e => by cases e; omega)) (by omega) KL.out)⟩ ⟨(hA67.out.loc h0.out (b := w.heap.size) (by repeat with_reducible first | exact gbRefl _ _ | apply gbAlloc | apply gbDrew | apply gbSet) (Nat.le_refl _)).ps, (hA67.out.loc h0.out (b := w.heap.size) (by repeat with_reducible first | exact gbRefl _ _ | apply gbAlloc | apply gbDrew | apply gbSet) (Nat.le_refl _)).kp⟩

end Go.Proofs.YtdaghppcomckbaaGreatDoor
