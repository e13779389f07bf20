/- Texts of one proof: PxQ. -/
import Derived.Test.YtdaghppcomckbaaGreatDoorPxP
/- The parser: terms, expressions of every level. -/
namespace Go.Proofs.YtdaghppcomckbaaGreatDoor
open Go.RowKit
set_option linter.unusedVariables false
set_option linter.unusedSimpArgs false

def BoolB (b : Bool) (w : World) (e : Ending) (w' : World) : Prop := e = .returned (.bool b) ∧ Below w.heap.size w w'
set_option maxHeartbeats 1000000 in
set_option maxRecDepth 100000 in
theorem atExpr_any (C : Cx) (w : World) (nx : Nat) (dv : Value) (ds : List (Int × Int)) (h : PS C w nx dv ds) :
    Calls Tryz.prog 102 #[.pointer (some ⟨C.R, 0, none⟩)] w (BoolB (atExprB (C.l nx)) w) := by
  have h0 := Lib.hid h
  have hA0 := Lib.hid (At.start h)
  have hR0 := h.RLt
  have hT := Lib.hid (token_any C w nx dv ds h)
  clear h
  by_cases hk : (hd (C.l nx)).k = 2
  · have hB : atExprB (C.l nx) = true := by simp [atExprB, hk]
    rw [hB]
    have hkb : ((hd (C.l nx)).k == 2) = true := by simp [hk]
    clear hB hk
    go_enter Tryz.func102, Tryz.ntmps102
    go_wp2_with fail
    refine hT.out.mono ?_
    rintro e w1 ⟨rfl, hb1⟩
    go_wp2
    go_ret
    exact ⟨rfl, hb1.alloc hb1.size _⟩
  · have hkb : ((hd (C.l nx)).k == 2) = false := by simp [hk]
    rcases h1 : atNameB (C.l nx) with _ | _
    · rcases h2 : inpB (hd (C.l nx)).x with _ | _
      · have hB : atExprB (C.l nx) = decide (0 ≤ idx beginWs (hd (C.l nx)).x) := by simp [atExprB, hk, h1, h2]
        rw [hB]
        have h1H := Lib.hid h1
        have h2H := Lib.hid h2
        clear hB hk h1 h2
        go_enter Tryz.func102, Tryz.ntmps102
        go_wp2_with fail
        refine hT.out.mono ?_
        rintro e w1 ⟨rfl, hb1⟩
        have hP1 := Lib.hid ((h0.out.below hb1).below ((Below.refl _ _).alloc (Nat.le_refl _) (.cells #[.int .i64 (hd (C.l nx)).k, .string (hd (C.l nx)).x, .int .i64 (hd (C.l nx)).m, .int .i64 (hd (C.l nx)).a] 44)))
        have hA := Lib.hid (atName_any C _ nx dv ds hP1.out)
        have hs1 : w.heap.size ≤ w1.heap.size := hb1.size
        go_wp2_with fail
        refine hA.out.mono ?_
        rw [h1H.out]
        rintro e w2 ⟨rfl, hb2⟩
        obtain ⟨k0, k1, k2, k3⟩ := cells4 (belowBlk hb2 (newBlk w1 _ _ rfl) (by simp))
        have hb2' : Below w.heap.size w w2 := (hb1.alloc hb1.size _).trans (hb2.mono (by simp; omega))
        have hP2 := Lib.hid (hP1.out.below hb2)
        clear hb2
        go_wp2_with fail
        refine (isInput_any _ _).mono ?_
        rw [h2H.out]
        rintro e wq ⟨rfl, rfl⟩
        clear k0 k1 k2 k3
        have hA2 := Lib.hid (among_any C (w2.alloc (.cells #[.string ⟨#[117, 112]⟩, .string ⟨#[109, 105, 110]⟩, .string ⟨#[109, 97, 120]⟩, .string ⟨#[40]⟩] 9)) nx dv ds w2.heap.size 4 beginWs (hP2.out.below ((Below.refl _ _).alloc (Nat.le_refl _) _)) (new_strsE _ _ _ _ rfl _ rfl) (by simp) (by decide))
        go_wp2_with fail
        refine hA2.out.mono ?_
        rintro e w3 ⟨rfl, hb3⟩
        have hb3' : Below w.heap.size w w3 := (hb2'.alloc hb2'.size _).trans (hb3.mono (by have := hb2'.size; simp; omega))
        go_wp2
        go_ret
        exact ⟨rfl, hb3'⟩
      · have hB : atExprB (C.l nx) = true := by simp [atExprB, h2]
        rw [hB]
        have h1H := Lib.hid h1
        have h2H := Lib.hid h2
        clear hB hk h1 h2
        go_enter Tryz.func102, Tryz.ntmps102
        go_wp2_with fail
        refine hT.out.mono ?_
        rintro e w1 ⟨rfl, hb1⟩
        have hP1 := Lib.hid ((h0.out.below hb1).below ((Below.refl _ _).alloc (Nat.le_refl _) (.cells #[.int .i64 (hd (C.l nx)).k, .string (hd (C.l nx)).x, .int .i64 (hd (C.l nx)).m, .int .i64 (hd (C.l nx)).a] 44)))
        have hA := Lib.hid (atName_any C _ nx dv ds hP1.out)
        have hs1 : w.heap.size ≤ w1.heap.size := hb1.size
        go_wp2_with fail
        refine hA.out.mono ?_
        rw [h1H.out]
        rintro e w2 ⟨rfl, hb2⟩
        obtain ⟨k0, k1, k2, k3⟩ := cells4 (belowBlk hb2 (newBlk w1 _ _ rfl) (by simp))
        have hb2' : Below w.heap.size w w2 := (hb1.alloc hb1.size _).trans (hb2.mono (by simp; omega))
        clear hb2
        go_wp2_with fail
        refine (isInput_any _ _).mono ?_
        rw [h2H.out]
        rintro e wq ⟨rfl, rfl⟩
        clear k0 k1 k2 k3
        go_wp2
        go_ret
        exact ⟨rfl, hb2'⟩
    · have hB : atExprB (C.l nx) = true := by simp [atExprB, h1]
      rw [hB]
      have h1H := Lib.hid h1
      clear hB hk h1
      go_enter Tryz.func102, Tryz.ntmps102
      go_wp2_with fail
      refine hT.out.mono ?_
      rintro e w1 ⟨rfl, hb1⟩
      have hP1 := Lib.hid ((h0.out.below hb1).below ((Below.refl _ _).alloc (Nat.le_refl _) (.cells #[.int .i64 (hd (C.l nx)).k, .string (hd (C.l nx)).x, .int .i64 (hd (C.l nx)).m, .int .i64 (hd (C.l nx)).a] 44)))
      have hA := Lib.hid (atName_any C _ nx dv ds hP1.out)
      have hs1 : w.heap.size ≤ w1.heap.size := hb1.size
      go_wp2_with fail
      refine hA.out.mono ?_
      rw [h1H.out]
      rintro e w2 ⟨rfl, hb2⟩
      have hb2' : Below w.heap.size w w2 := (hb1.alloc hb1.size _).trans (hb2.mono (by simp; omega))
      clear hb2
      go_wp2
      go_ret
      exact ⟨rfl, hb2'⟩

def mulWs : List ByteArray := [⟨#[42]⟩, ⟨#[47]⟩]
def addWs : List ByteArray := [⟨#[43]⟩, ⟨#[45]⟩]
def termM (E : List Tk → Res Nd) (l : List Tk) : Res Nd := (opsM (factorM E) 17 mulWs l).bind fun t l1 => .ok t l1
def sumR (E : List Tk → Res Nd) (l : List Tk) : Res Nd := (opsM (termM E) 15 addWs l).bind fun t l1 => .ok t l1
theorem ops_ok {fine : List Tk → Res Nd} {first : Int} {ws : List ByteArray} {l l1 : List Tk} {t : Nd} (hok : ∀ l t l1, fine l = .ok t l1 → atExprB l = true) (h : (opsM fine first ws l).bind (fun t l1 => Res.ok t l1) = .ok t l1) : atExprB l = true := by
  unfold opsM at h
  rcases hc : fine l with ⟨k, l2⟩ | ⟨e, l2⟩
  · exact hok _ _ _ hc
  · rw [hc, Res.bind_err, Res.bind_err] at h; cases h
theorem term_ok {E : List Tk → Res Nd} (l : List Tk) (t : Nd) (l1 : List Tk) (h : termM E l = .ok t l1) : atExprB l = true := ops_ok (fun _ _ _ h => factor_ok h) h

set_option maxHeartbeats 2000000 in
set_option maxRecDepth 100000 in
theorem term_any (C : Cx) (w : World) (nx : Nat) (dv : Value) (ds : List (Int × Int)) (level : Nat) (E : List Tk → Res Nd) (hE : EC C dv ds level E) (hlv : level ≤ 12 ∨ atExprB (C.l nx) = false) (h : PS C w nx dv ds) (hds : ds.length ≤ 100) :
    Calls Tryz.prog 104 #[.pointer (some ⟨C.R, 0, none⟩), .int .i64 level] w (Out C nx dv ds w VNd (termM E (C.l nx))) := by
  have h0 := Lib.hid h
  have hR0 := h.RLt
  have hA0 := Lib.hid (At.start h)
  have hn0 : nx ≤ nx := Nat.le_refl _
  obtain ⟨r, hr⟩ : ∃ r, termM E (C.l nx) = r := ⟨_, rfl⟩
  rw [hr]
  have hmf : ∀ (fn : Fn) (first cap : Array Value) (w : World), (Instr.makeFunc fn first cap).run Tryz.prog w = .ok (.func fn first cap) w := fun _ _ _ _ => rfl
  have hEH := Lib.hid hE
  have hlvH := Lib.hid hlv
  clear hE hlv
  unfold termM at hr
  have hrH := Lib.hid hr
  clear hr h
  have hr := Lib.hid hrH.out
  clear hrH
  go_enter Tryz.func104, Tryz.ntmps104
  go_wp2_with fail
  refine (opsF_any C _ nx dv ds level (factorM E) 17 (by decide) (by decide) (w.heap.size + 1) 2 mulWs (new_strsE _ _ _ _ rfl _ (by simp)) (by simp) (by omega) (by decide) (idxNe _ (by decide)) (fun wx n hp hl => factor_any C wx n dv ds level E hEH.out hp hds hl) (fun _ _ _ h => factor_ok h) hlvH.out (hA0.out.loc h0.out (b := w.heap.size) (by repeat with_reducible first | exact gbRefl _ _ | apply gbAlloc | apply gbDrew | apply gbSet) (Nat.le_refl _)).ps hds).mono ?_
  intro e w1 ho
  rcases hm : opsM (factorM E) 17 mulWs (C.l nx) with ⟨t, l1⟩ | ⟨er, l1⟩
  rotate_left
  · have hre : Hid (Res.err er l1 = r) := by have := hr.out; rw [hm] at this; exact this
    rw [hm] at ho
    clear hm
    obtain ⟨nxe, hle, hne, ⟨T, pv, rfl⟩, ⟨dv', hPe⟩, hke⟩ := ho
    have hF := Lib.hid (Out.fail (V := VNd) hre.out hle hn0 hne ⟨T, pv, rfl⟩ hPe (hA0.out.loc h0.out (b := w.heap.size) (by repeat with_reducible first | exact gbRefl _ _ | apply gbAlloc | apply gbDrew | apply gbSet) (Nat.le_refl _)).kp hke)
    clear hPe hke hle
    go_wp2
    exact ⟨rfl, hF.out⟩
  have hrn := hr.out
  rw [hm, Res.bind_ok] at hrn
  clear hr
  have hr := Lib.hid hrn
  clear hrn
  rw [hm] at ho
  clear hm
  obtain ⟨nx1, v1, hl, hn, rfl, ⟨A1, c1, hv, hkd⟩, hP, hk⟩ := ho
  subst hv hl
  have hn1 : nx ≤ nx1 := Nat.le_trans hn0 hn
  have hkdH := Lib.hid hkd
  clear hkd
  have hkd := Lib.hid hkdH.out
  clear hkdH
  have hA1 := Lib.hid ((hA0.out.loc h0.out (b := w.heap.size) (by repeat with_reducible first | exact gbRefl _ _ | apply gbAlloc | apply gbDrew | apply gbSet) (Nat.le_refl _)).step hP hk)
  have hs1 : w.heap.size + 2 ≤ w1.heap.size := (by have := hk.size; (try simp at this); omega)
  have b2' := Lib.hid (hk.blk (b := w.heap.size) (Eq.trans (gbBlk (row := none) (by repeat with_reducible first | exact gbRefl _ _ | apply gbAlloc | apply gbDrew | apply gbSet) (by simp <;> omega) (by simp)) (newBlk w _ _ (by simp))) (by omega))
  have b2 := Lib.hid b2'.out
  clear b2'
  have xb2_1 : w.heap.size < w1.heap.size := blkLt b2.out
  have hr1 : C.R < w1.heap.size := hA1.out.ps.RLt
  have K1 : Hid (KidsR w1 (From (w.heap.size + 2)) t.kids A1) := hkd.out.keep (fun k h1 h2 => ⟨rfl, by unfold From at h1 ⊢; (try simp at h1); omega⟩)
  clear hkd
  clear hP hk hn
  obtain ⟨⟨a0, a1, a2, a3, a4, a5⟩, d0, d1, d2, d3, d4, d5⟩ := cells6 b2.out
  go_wp2
  refine bodyPost_ret (v := nv (t) A1 c1) (by simp [results, Tryz.results104, go_sem, a0, a1, a2, a3, a4, a5, xb2_1, Nd.kind, Nd.name, Nd.n, Nd.unit, Nd.at0, Nd.kids]) rfl ?_
  exact Out.ret hr.out rfl hn1 ⟨A1, c1, rfl, (KidsR.from (fun k h1 h2 => gbBlk (row := some (w.heap.size)) (by repeat with_reducible first | exact gbRefl _ _ | apply gbAlloc | apply gbDrew | apply gbSet) h2 (fun e => by cases e; omega)) (by omega) K1.out)⟩ ⟨(hA1.out.loc h0.out (b := w.heap.size) (by repeat with_reducible first | exact gbRefl _ _ | apply gbAlloc | apply gbDrew | apply gbSet) (Nat.le_refl _)).ps, (hA1.out.loc h0.out (b := w.heap.size) (by repeat with_reducible first | exact gbRefl _ _ | apply gbAlloc | apply gbDrew | apply gbSet) (Nat.le_refl _)).kp⟩

set_option maxHeartbeats 2000000 in
set_option maxRecDepth 100000 in
theorem expr_low (C : Cx) (w : World) (nx : Nat) (dv : Value) (ds : List (Int × Int)) (level : Nat) (E : List Tk → Res Nd) (hE : EC C dv ds level E) (hl0 : level ≤ 12) (h : PS C w nx dv ds) (hds : ds.length ≤ 100) :
    Calls Tryz.prog 96 #[.pointer (some ⟨C.R, 0, none⟩), .int .i64 level] w (Out C nx dv ds w VNd (sumR E (C.l nx))) := by
  have h0 := Lib.hid h
  have hR0 := h.RLt
  have hA0 := Lib.hid (At.start h)
  have hn0 : nx ≤ nx := Nat.le_refl _
  obtain ⟨r, hr⟩ : ∃ r, sumR E (C.l nx) = r := ⟨_, rfl⟩
  rw [hr]
  have hmf : ∀ (fn : Fn) (first cap : Array Value) (w : World), (Instr.makeFunc fn first cap).run Tryz.prog w = .ok (.func fn first cap) w := fun _ _ _ _ => rfl
  have hEH := Lib.hid hE
  clear hE
  unfold sumR at hr
  have hrH := Lib.hid hr
  clear hr h
  have hr := Lib.hid hrH.out
  clear hrH
  go_enter Tryz.func96, Tryz.ntmps96
  go_wp2_with fail
  refine (opsT_any C _ nx dv ds level (termM E) 15 (by decide) (by decide) (w.heap.size + 1) 2 addWs (new_strsE _ _ _ _ rfl _ (by simp)) (by simp) (by omega) (by decide) (idxNe _ (by decide)) (fun wx n hp hl => term_any C wx n dv ds level E hEH.out hl hp hds) term_ok (.inl hl0) (hA0.out.loc h0.out (b := w.heap.size) (by repeat with_reducible first | exact gbRefl _ _ | apply gbAlloc | apply gbDrew | apply gbSet) (Nat.le_refl _)).ps hds).mono ?_
  intro e w1 ho
  rcases hm : opsM (termM E) 15 addWs (C.l nx) with ⟨t, l1⟩ | ⟨er, l1⟩
  rotate_left
  · have hre : Hid (Res.err er l1 = r) := by have := hr.out; rw [hm] at this; exact this
    rw [hm] at ho
    clear hm
    obtain ⟨nxe, hle, hne, ⟨T, pv, rfl⟩, ⟨dv', hPe⟩, hke⟩ := ho
    have hF := Lib.hid (Out.fail (V := VNd) hre.out hle hn0 hne ⟨T, pv, rfl⟩ hPe (hA0.out.loc h0.out (b := w.heap.size) (by repeat with_reducible first | exact gbRefl _ _ | apply gbAlloc | apply gbDrew | apply gbSet) (Nat.le_refl _)).kp hke)
    clear hPe hke hle
    go_wp2
    exact ⟨rfl, hF.out⟩
  have hrn := hr.out
  rw [hm, Res.bind_ok] at hrn
  clear hr
  have hr := Lib.hid hrn
  clear hrn
  rw [hm] at ho
  clear hm
  obtain ⟨nx1, v1, hl, hn, rfl, ⟨A1, c1, hv, hkd⟩, hP, hk⟩ := ho
  subst hv hl
  have hn1 : nx ≤ nx1 := Nat.le_trans hn0 hn
  have hkdH := Lib.hid hkd
  clear hkd
  have hkd := Lib.hid hkdH.out
  clear hkdH
  have hA1 := Lib.hid ((hA0.out.loc h0.out (b := w.heap.size) (by repeat with_reducible first | exact gbRefl _ _ | apply gbAlloc | apply gbDrew | apply gbSet) (Nat.le_refl _)).step hP hk)
  have hs1 : w.heap.size + 2 ≤ w1.heap.size := (by have := hk.size; (try simp at this); omega)
  have b2' := Lib.hid (hk.blk (b := w.heap.size) (Eq.trans (gbBlk (row := none) (by repeat with_reducible first | exact gbRefl _ _ | apply gbAlloc | apply gbDrew | apply gbSet) (by simp <;> omega) (by simp)) (newBlk w _ _ (by simp))) (by omega))
  have b2 := Lib.hid b2'.out
  clear b2'
  have xb2_1 : w.heap.size < w1.heap.size := blkLt b2.out
  have hr1 : C.R < w1.heap.size := hA1.out.ps.RLt
  have K1 : Hid (KidsR w1 (From (w.heap.size + 2)) t.kids A1) := hkd.out.keep (fun k h1 h2 => ⟨rfl, by unfold From at h1 ⊢; (try simp at h1); omega⟩)
  clear hkd
  clear hP hk hn
  obtain ⟨⟨a0, a1, a2, a3, a4, a5⟩, d0, d1, d2, d3, d4, d5⟩ := cells6 b2.out
  go_wp2
  refine bodyPost_ret (v := nv (t) A1 c1) (by simp [results, Tryz.results96, go_sem, a0, a1, a2, a3, a4, a5, xb2_1, Nd.kind, Nd.name, Nd.n, Nd.unit, Nd.at0, Nd.kids]) rfl ?_
  exact Out.ret hr.out rfl hn1 ⟨A1, c1, rfl, (KidsR.from (fun k h1 h2 => gbBlk (row := some (w.heap.size)) (by repeat with_reducible first | exact gbRefl _ _ | apply gbAlloc | apply gbDrew | apply gbSet) h2 (fun e => by cases e; omega)) (by omega) K1.out)⟩ ⟨(hA1.out.loc h0.out (b := w.heap.size) (by repeat with_reducible first | exact gbRefl _ _ | apply gbAlloc | apply gbDrew | apply gbSet) (Nat.le_refl _)).ps, (hA1.out.loc h0.out (b := w.heap.size) (by repeat with_reducible first | exact gbRefl _ _ | apply gbAlloc | apply gbDrew | apply gbSet) (Nat.le_refl _)).kp⟩

set_option maxHeartbeats 2000000 in
set_option maxRecDepth 100000 in
theorem expr_not (C : Cx) (w : World) (nx : Nat) (dv : Value) (ds : List (Int × Int)) (level : Nat) (E : List Tk → Res Nd) (hE : EC C dv ds level E) (hl0 : level = 13) (hat : atExprB (C.l nx) = false) (h : PS C w nx dv ds) (hds : ds.length ≤ 100) :
    Calls Tryz.prog 96 #[.pointer (some ⟨C.R, 0, none⟩), .int .i64 level] w (Out C nx dv ds w VNd (sumR E (C.l nx))) := by
  have h0 := Lib.hid h
  have hR0 := h.RLt
  have hA0 := Lib.hid (At.start h)
  have hn0 : nx ≤ nx := Nat.le_refl _
  obtain ⟨r, hr⟩ : ∃ r, sumR E (C.l nx) = r := ⟨_, rfl⟩
  rw [hr]
  have hmf : ∀ (fn : Fn) (first cap : Array Value) (w : World), (Instr.makeFunc fn first cap).run Tryz.prog w = .ok (.func fn first cap) w := fun _ _ _ _ => rfl
  have hEH := Lib.hid hE
  clear hE
  have hatH := Lib.hid hat
  clear hat
  subst hl0
  unfold sumR at hr
  have hrH := Lib.hid hr
  clear hr h
  have hr := Lib.hid hrH.out
  clear hrH
  go_enter Tryz.func96, Tryz.ntmps96
  go_wp2_with fail
  refine (atExpr_any C _ nx dv ds (hA0.out.loc h0.out (b := w.heap.size) (by repeat with_reducible first | exact gbRefl _ _ | apply gbAlloc | apply gbDrew | apply gbSet) (Nat.le_refl _)).ps).mono ?_
  rw [hatH.out]
  rintro e w1 ⟨rfl, hb⟩
  have hP := (hA0.out.loc h0.out (b := w.heap.size) (by repeat with_reducible first | exact gbRefl _ _ | apply gbAlloc | apply gbDrew | apply gbSet) (Nat.le_refl _)).ps.below hb
  have hk := Below.kp (R := C.R) (o := none) hb
  have hA1 := Lib.hid ((hA0.out.loc h0.out (b := w.heap.size) (by repeat with_reducible first | exact gbRefl _ _ | apply gbAlloc | apply gbDrew | apply gbSet) (Nat.le_refl _)).step hP hk)
  have hs1 : w.heap.size + 1 ≤ w1.heap.size := (by have := hk.size; (try simp at this); omega)
  have b2' := Lib.hid (hk.blk (b := w.heap.size) (Eq.trans (gbBlk (row := none) (by repeat with_reducible first | exact gbRefl _ _ | apply gbAlloc | apply gbDrew | apply gbSet) (by simp <;> omega) (by simp)) (newBlk w _ _ (by simp))) (by omega))
  have b2 := Lib.hid b2'.out
  clear b2'
  have xb2_1 : w.heap.size < w1.heap.size := blkLt b2.out
  have hr1 : C.R < w1.heap.size := hA1.out.ps.RLt
  have hn1 := hn0
  clear hb hP hk
  go_wp2_with fail
  refine (opsT_any C _ nx dv ds 13 (termM E) 15 (by decide) (by decide) (w1.heap.size) 2 addWs (new_strsE _ _ _ _ rfl _ (by simp)) (by simp) (by omega) (by decide) (idxNe _ (by decide)) (fun wx n hp hl => term_any C wx n dv ds 13 E hEH.out hl hp hds) term_ok (.inr hatH.out) (hA1.out.loc h0.out (b := w.heap.size) (by repeat with_reducible first | exact gbRefl _ _ | apply gbAlloc | apply gbDrew | apply gbSet) (Nat.le_refl _)).ps hds).mono ?_
  intro e w2 ho
  rcases hm : opsM (termM E) 15 addWs (C.l nx) with ⟨t, l2⟩ | ⟨er, l2⟩
  rotate_left
  · have hre : Hid (Res.err er l2 = r) := by have := hr.out; rw [hm] at this; exact this
    rw [hm] at ho
    clear hm
    obtain ⟨nxe, hle, hne, ⟨T, pv, rfl⟩, ⟨dv', hPe⟩, hke⟩ := ho
    have hF := Lib.hid (Out.fail (V := VNd) hre.out hle hn1 hne ⟨T, pv, rfl⟩ hPe (hA1.out.loc h0.out (b := w.heap.size) (by repeat with_reducible first | exact gbRefl _ _ | apply gbAlloc | apply gbDrew | apply gbSet) (Nat.le_refl _)).kp hke)
    clear hPe hke hle
    go_wp2
    exact ⟨rfl, hF.out⟩
  have hrn := hr.out
  rw [hm, Res.bind_ok] at hrn
  clear hr
  have hr := Lib.hid hrn
  clear hrn
  rw [hm] at ho
  clear hm
  obtain ⟨nx2, v2, hl, hn, rfl, ⟨A2, c2, hv, hkd⟩, hP, hk⟩ := ho
  subst hv hl
  have hn2 : nx ≤ nx2 := Nat.le_trans hn1 hn
  have hkdH := Lib.hid hkd
  clear hkd
  have hkd := Lib.hid hkdH.out
  clear hkdH
  have hA2 := Lib.hid ((hA1.out.loc h0.out (b := w.heap.size) (by repeat with_reducible first | exact gbRefl _ _ | apply gbAlloc | apply gbDrew | apply gbSet) (Nat.le_refl _)).step hP hk)
  have hs2 : w1.heap.size + 1 ≤ w2.heap.size := (by have := hk.size; (try simp at this); omega)
  have b2' := Lib.hid (hk.blk (b := w.heap.size) (Eq.trans (gbBlk (row := none) (by repeat with_reducible first | exact gbRefl _ _ | apply gbAlloc | apply gbDrew | apply gbSet) (blkLt b2.out) (by simp)) b2.out) (by omega))
  clear b2
  have b2 := Lib.hid b2'.out
  clear b2'
  have xb2_2 : w.heap.size < w2.heap.size := blkLt b2.out
  have hr2 : C.R < w2.heap.size := hA2.out.ps.RLt
  have K2 : Hid (KidsR w2 (From (w1.heap.size + 1)) t.kids A2) := hkd.out.keep (fun k h1 h2 => ⟨rfl, by unfold From at h1 ⊢; (try simp at h1); omega⟩)
  clear hkd
  clear hP hk hn
  obtain ⟨⟨a0, a1, a2, a3, a4, a5⟩, d0, d1, d2, d3, d4, d5⟩ := cells6 b2.out
  go_wp2
  refine bodyPost_ret (v := nv (t) A2 c2) (by simp [results, Tryz.results96, go_sem, a0, a1, a2, a3, a4, a5, xb2_2, Nd.kind, Nd.name, Nd.n, Nd.unit, Nd.at0, Nd.kids]) rfl ?_
  exact Out.ret hr.out rfl hn2 ⟨A2, c2, rfl, (KidsR.from (fun k h1 h2 => gbBlk (row := some (w.heap.size)) (by repeat with_reducible first | exact gbRefl _ _ | apply gbAlloc | apply gbDrew | apply gbSet) h2 (fun e => by cases e; omega)) (by omega) K2.out)⟩ ⟨(hA2.out.loc h0.out (b := w.heap.size) (by repeat with_reducible first | exact gbRefl _ _ | apply gbAlloc | apply gbDrew | apply gbSet) (Nat.le_refl _)).ps, (hA2.out.loc h0.out (b := w.heap.size) (by repeat with_reducible first | exact gbRefl _ _ | apply gbAlloc | apply gbDrew | apply gbSet) (Nat.le_refl _)).kp⟩


set_option maxHeartbeats 1000000 in
set_option maxRecDepth 100000 in
theorem expr_deep (C : Cx) (w : World) (nx : Nat) (dv : Value) (ds : List (Int × Int)) (hat : atExprB (C.l nx) = true) (h : PS C w nx dv ds) (hds : ds.length ≤ 100) :
    Calls Tryz.prog 96 #[.pointer (some ⟨C.R, 0, none⟩), .int .i64 13] w (Out C nx dv ds w VNd (.err 2 (C.l nx))) := by
  have h0 := Lib.hid h
  have hA0 := Lib.hid (At.start h)
  have hatH := Lib.hid hat
  clear h hat
  go_enter Tryz.func96, Tryz.ntmps96
  go_wp2_with fail
  refine (atExpr_any C _ nx dv ds (hA0.out.loc h0.out (b := w.heap.size) (by repeat with_reducible first | exact gbRefl _ _ | apply gbAlloc | apply gbDrew | apply gbSet) (Nat.le_refl _)).ps).mono ?_
  rw [hatH.out]
  rintro e w1 ⟨rfl, hb⟩
  have hA1 := Lib.hid ((hA0.out.loc h0.out (b := w.heap.size) (by repeat with_reducible first | exact gbRefl _ _ | apply gbAlloc | apply gbDrew | apply gbSet) (Nat.le_refl _)).step ((hA0.out.loc h0.out (b := w.heap.size) (by repeat with_reducible first | exact gbRefl _ _ | apply gbAlloc | apply gbDrew | apply gbSet) (Nat.le_refl _)).ps.below hb) (Below.kp (R := C.R) (o := none) hb))
  have hF := Lib.hid (fail_any C w1 nx dv ds 2 hA1.out.ps hds)
  clear hb
  go_wp2_with fail
  refine hF.out.mono ?_
  rintro e w2 ⟨⟨T, pv, rfl⟩, ⟨dv', hd'⟩, hk⟩
  have hO := Lib.hid (Out.fail (r := Res.err 2 (C.l nx)) (V := VNd) rfl rfl (Nat.le_refl _) (Nat.le_refl _) ⟨T, pv, rfl⟩ hd' hA1.out.kp hk)
  clear hd' hk
  go_wp2
  exact ⟨rfl, hO.out⟩

def exprM (E : List Tk → Res Nd) (level : Nat) (l : List Tk) : Res Nd := if 12 < level ∧ atExprB l = true then .err 2 l else sumR E l
/-- an expression of the level 13 - d -/
def exprD : Nat → List Tk → Res Nd
  | 0 => exprM (fun l => .err 0 l) 13
  | d + 1 => exprM (exprD d) (12 - d)
theorem expr_lv (C : Cx) (w : World) (nx : Nat) (dv : Value) (ds : List (Int × Int)) (level : Nat) (E : List Tk → Res Nd) (hE : EC C dv ds level E) (hl : level ≤ 13) (h : PS C w nx dv ds) (hds : ds.length ≤ 100) :
    Calls Tryz.prog 96 #[.pointer (some ⟨C.R, 0, none⟩), .int .i64 level] w (Out C nx dv ds w VNd (exprM E level (C.l nx))) := by
  unfold exprM
  by_cases h12 : level ≤ 12
  · rw [if_neg (by omega)]; exact expr_low C w nx dv ds level E hE h12 h hds
  · obtain rfl : level = 13 := by omega
    rcases hat : atExprB (C.l nx) with _ | _
    · rw [if_neg (by simp)]; exact expr_not C w nx dv ds 13 E hE rfl hat h hds
    · rw [if_pos ⟨by decide, rfl⟩]; exact expr_deep C w nx dv ds hat h hds
theorem expr_all (C : Cx) (dv : Value) (ds : List (Int × Int)) (hds : ds.length ≤ 100) : ∀ (d : Nat), d ≤ 12 → ∀ (w : World) (nx : Nat), PS C w nx dv ds →
    Calls Tryz.prog 96 #[.pointer (some ⟨C.R, 0, none⟩), .int .i64 ((13 - d : Nat) : Int)] w (Out C nx dv ds w VNd (exprD d (C.l nx))) := by
  intro d
  induction d with
  | zero => intro _ w nx h; exact expr_lv C w nx dv ds 13 _ (fun h => absurd h (by decide)) (by decide) h hds
  | succ d ih =>
    intro hd w nx h
    have e1 : 13 - (d + 1) = 12 - d := by omega
    rw [e1]
    refine expr_lv C w nx dv ds (12 - d) (exprD d) (fun _ wx n hp => ?_) (by omega) h hds
    have e2 : (((12 - d : Nat) : Int) + 1) = ((13 - d : Nat) : Int) := by omega
    rw [e2]
    exact ih (by omega) wx n hp
/-- an expression that is directly part of a statement -/
def expr1 : List Tk → Res Nd := exprD 12
theorem expr1_any (C : Cx) (w : World) (nx : Nat) (dv : Value) (ds : List (Int × Int)) (h : PS C w nx dv ds) (hds : ds.length ≤ 100) :
    Calls Tryz.prog 96 #[.pointer (some ⟨C.R, 0, none⟩), .int .i64 1] w (Out C nx dv ds w VNd (expr1 (C.l nx))) := expr_all C dv ds hds 12 (by decide) w nx h
end Go.Proofs.YtdaghppcomckbaaGreatDoor
