/- Texts of one proof: PxL. -/
import Derived.Test.YtdaghppcomckbaaGreatDoorPmD
/- The parser: uses, variables, policies, links, paths, flows. -/
namespace Go.Proofs.YtdaghppcomckbaaGreatDoor
open Go.RowKit
set_option linter.unusedVariables false
set_option linter.unusedSimpArgs false

/-- where a call stands: its reader, and how the memory has grown since it began -/
structure At (C : Cx) (dv : Value) (ds : List (Int × Int)) (w wi : World) (n : Nat) : Prop where
  ps : PS C wi n dv ds
  kp : Kp C.R none w wi
theorem At.start {C : Cx} {dv : Value} {ds : List (Int × Int)} {w : World} {n : Nat} (h : PS C w n dv ds) : At C dv ds w w n := ⟨h, Kp.refl _ _ _⟩
theorem At.loc {C : Cx} {dv : Value} {ds : List (Int × Int)} {w wi cur : World} {n nx b : Nat} (a : At C dv ds w wi n) (h0 : PS C w nx dv ds) (hg : wi.grownBy cur (some b)) (hb : w.heap.size ≤ b) : At C dv ds w cur n := by
  obtain ⟨h1, h2⟩ := h0.last a.kp a.ps hg hb
  exact ⟨h1, h2⟩
theorem At.step {C : Cx} {dv : Value} {ds : List (Int × Int)} {w wi w' : World} {n n' : Nat} (a : At C dv ds w wi n) (hP : PS C w' n' dv ds) (hk : Kp C.R none wi w') : At C dv ds w w' n' := ⟨hP, a.kp.trans hk⟩
theorem gbBlk {w w' : World} {row : Option Nat} {k : Nat} (h : w.grownBy w' row) (hk : k < w.heap.size) (hn : some k ≠ row) : w'.heap[k]? = w.heap[k]? := h.block k hk hn
theorem gbSize {w w' : World} {r : Option Nat} (h : w.grownBy w' r) : w.heap.size ≤ w'.heap.size := h.size
section
variable {w : World} {b : Nat} {a0 a1 a2 a3 a4 a5 v : Value} {T : TypeId}
theorem set6_0 (h : w.heap[b]? = some (.cells #[a0, a1, a2, a3, a4, a5] T (0, 0))) : (w.setCell ⟨b, 0, none⟩ v).heap[b]? = some (.cells #[v, a1, a2, a3, a4, a5] T (0, 0)) := heap_setCell_same w b 0 _ T v h
theorem set6_1 (h : w.heap[b]? = some (.cells #[a0, a1, a2, a3, a4, a5] T (0, 0))) : (w.setCell ⟨b, 1, none⟩ v).heap[b]? = some (.cells #[a0, v, a2, a3, a4, a5] T (0, 0)) := heap_setCell_same w b 1 _ T v h
theorem set6_2 (h : w.heap[b]? = some (.cells #[a0, a1, a2, a3, a4, a5] T (0, 0))) : (w.setCell ⟨b, 2, none⟩ v).heap[b]? = some (.cells #[a0, a1, v, a3, a4, a5] T (0, 0)) := heap_setCell_same w b 2 _ T v h
theorem set6_3 (h : w.heap[b]? = some (.cells #[a0, a1, a2, a3, a4, a5] T (0, 0))) : (w.setCell ⟨b, 3, none⟩ v).heap[b]? = some (.cells #[a0, a1, a2, v, a4, a5] T (0, 0)) := heap_setCell_same w b 3 _ T v h
theorem set6_4 (h : w.heap[b]? = some (.cells #[a0, a1, a2, a3, a4, a5] T (0, 0))) : (w.setCell ⟨b, 4, none⟩ v).heap[b]? = some (.cells #[a0, a1, a2, a3, v, a5] T (0, 0)) := heap_setCell_same w b 4 _ T v h
theorem set6_5 (h : w.heap[b]? = some (.cells #[a0, a1, a2, a3, a4, a5] T (0, 0))) : (w.setCell ⟨b, 5, none⟩ v).heap[b]? = some (.cells #[a0, a1, a2, a3, a4, v] T (0, 0)) := heap_setCell_same w b 5 _ T v h
end

def useM (wd : ByteArray) (p : Int) (l : List Tk) : Res Nd := (wordM wd l).bind fun _ l1 => (nameM l1).bind fun x l2 => (wordM ⟨#[59]⟩ l2).bind fun _ l3 => .ok (.mk 9 x p 0 (hd l).a []) l3
set_option maxHeartbeats 2000000 in
set_option maxRecDepth 100000 in
theorem use_any (C : Cx) (w : World) (nx : Nat) (dv : Value) (ds : List (Int × Int)) (wd : ByteArray) (p : Int) (hwd : wd ≠ ⟨#[]⟩) (h : PS C w nx dv ds) (hds : ds.length ≤ 100) :
    Calls Tryz.prog 65 #[.pointer (some ⟨C.R, 0, none⟩), .string wd, .int .i64 p] w (Out C nx dv ds w VNd (useM wd p (C.l nx))) := by
  have h0 := Lib.hid h
  have hR0 := h.RLt
  have hA0 := Lib.hid (At.start h)
  have hn0 : nx ≤ nx := Nat.le_refl _
  obtain ⟨r, hr⟩ : ∃ r, useM wd p (C.l nx) = r := ⟨_, rfl⟩
  rw [hr]
  have f3 := tfield3
  unfold useM at hr
  have hrH := Lib.hid hr
  clear hr h
  have hr := Lib.hid hrH.out
  clear hrH
  go_enter Tryz.func65, Tryz.ntmps65
  go_wp2_with fail
  refine (token_any C _ nx dv ds (hA0.out.loc h0.out (b := w.heap.size) (by repeat with_reducible first | exact gbRefl _ _ | apply gbAlloc | apply gbDrew | apply gbSet) (Nat.le_refl _)).ps).mono ?_
  rintro e w1 ⟨rfl, hb⟩
  have hP := (hA0.out.loc h0.out (b := w.heap.size) (by repeat with_reducible first | exact gbRefl _ _ | apply gbAlloc | apply gbDrew | apply gbSet) (Nat.le_refl _)).ps.below hb
  have hk := Below.kp (R := C.R) (o := none) hb
  have nx1_ : True := trivial
  have hA1 := Lib.hid ((hA0.out.loc h0.out (b := w.heap.size) (by repeat with_reducible first | exact gbRefl _ _ | apply gbAlloc | apply gbDrew | apply gbSet) (Nat.le_refl _)).step hP hk)
  have hs1 : w.heap.size + 1 ≤ w1.heap.size := by have := hk.size; (try simp at this); omega
  have b2' := Lib.hid (hk.blk (b := w.heap.size) (Eq.trans (gbBlk (row := none) (by repeat with_reducible first | exact gbRefl _ _ | apply gbAlloc | apply gbDrew | apply gbSet) (by simp) (by simp)) (heap_alloc_new _ _)) (by omega))
  have b2 := Lib.hid b2'.out
  clear b2'
  have xb2_1 : w.heap.size < w1.heap.size := blkLt b2.out
  have hr1 : C.R < w1.heap.size := hA1.out.ps.RLt
  have hn1 := hn0
  clear hb hP hk
  go_wp2_with fail
  refine (word_any C _ nx dv ds wd (hA1.out.loc h0.out (b := w.heap.size) (by repeat with_reducible first | exact gbRefl _ _ | apply gbAlloc | apply gbDrew | apply gbSet) (Nat.le_refl _)).ps hds hwd).mono ?_
  intro e w2 ho
  rcases hm : wordM wd (C.l nx) with ⟨⟨⟩, l2⟩ | ⟨er, l2⟩
  rotate_left
  · have hre : Hid (Res.err er l2 = r) := by have := hr.out; rw [hm] at this; exact this
    rw [hm] at ho
    clear hm
    obtain ⟨nxe, hle, hne, ⟨T, pv, rfl⟩, ⟨dv', hPe⟩, hke⟩ := ho
    have hF := Lib.hid (Out.fail (V := VNd) hre.out hle hn1 hne ⟨T, pv, rfl⟩ hPe (hA1.out.loc h0.out (b := w.heap.size) (by repeat with_reducible first | exact gbRefl _ _ | apply gbAlloc | apply gbDrew | apply gbSet) (Nat.le_refl _)).kp hke)
    clear hPe hke hle
    go_wp2
    exact ⟨rfl, hF.out⟩
  have hrn := hr.out
  rw [hm, Res.bind_ok] at hrn
  clear hr
  have hr := Lib.hid hrn
  clear hrn
  rw [hm] at ho
  clear hm
  obtain ⟨nx2, v2, hl, hn, rfl, hv, hP, hk⟩ := ho
  unfold VUnit at hv
  subst hv hl
  have hn2 : nx ≤ nx2 := Nat.le_trans hn1 hn
  have hA2 := Lib.hid ((hA1.out.loc h0.out (b := w.heap.size) (by repeat with_reducible first | exact gbRefl _ _ | apply gbAlloc | apply gbDrew | apply gbSet) (Nat.le_refl _)).step hP hk)
  have hs2 : w1.heap.size + 1 ≤ w2.heap.size := by have := hk.size; (try simp at this); omega
  have b2' := Lib.hid (hk.blk (b := w.heap.size) (Eq.trans (gbBlk (row := none) (by repeat with_reducible first | exact gbRefl _ _ | apply gbAlloc | apply gbDrew | apply gbSet) (blkLt b2.out) (by simp)) b2.out) (by omega))
  have b3' := Lib.hid (hk.blk (b := w1.heap.size) (Eq.trans (gbBlk (row := none) (by repeat with_reducible first | exact gbRefl _ _ | apply gbAlloc | apply gbDrew | apply gbSet) (by simp) (by simp)) (heap_alloc_new _ _)) (by omega))
  clear b2
  have b2 := Lib.hid b2'.out
  clear b2'
  have xb2_2 : w.heap.size < w2.heap.size := blkLt b2.out
  have b3 := Lib.hid b3'.out
  clear b3'
  have xb3_2 : w1.heap.size < w2.heap.size := blkLt b3.out
  have hr2 : C.R < w2.heap.size := hA2.out.ps.RLt
  clear hP hk hn
  go_wp2_with fail
  refine (name_any C _ nx2 dv ds (hA2.out.loc h0.out (b := w.heap.size) (by repeat with_reducible first | exact gbRefl _ _ | apply gbAlloc | apply gbDrew | apply gbSet) (Nat.le_refl _)).ps hds).mono ?_
  intro e w3 ho
  rcases hm : nameM (C.l nx2) with ⟨x, l3⟩ | ⟨er, l3⟩
  rotate_left
  · have hre : Hid (Res.err er l3 = r) := by have := hr.out; rw [hm] at this; exact this
    rw [hm] at ho
    clear hm
    obtain ⟨nxe, hle, hne, ⟨T, pv, rfl⟩, ⟨dv', hPe⟩, hke⟩ := ho
    have hF := Lib.hid (Out.fail (V := VNd) hre.out hle hn2 hne ⟨T, pv, rfl⟩ hPe (hA2.out.loc h0.out (b := w.heap.size) (by repeat with_reducible first | exact gbRefl _ _ | apply gbAlloc | apply gbDrew | apply gbSet) (Nat.le_refl _)).kp hke)
    clear hPe hke hle
    go_wp2
    exact ⟨rfl, hF.out⟩
  have hrn := hr.out
  rw [hm, Res.bind_ok] at hrn
  clear hr
  have hr := Lib.hid hrn
  clear hrn
  rw [hm] at ho
  clear hm
  obtain ⟨nx3, v3, hl, hn, rfl, hv, hP, hk⟩ := ho
  unfold VStr at hv
  subst hv hl
  have hn3 : nx ≤ nx3 := Nat.le_trans hn2 hn
  have hA3 := Lib.hid ((hA2.out.loc h0.out (b := w.heap.size) (by repeat with_reducible first | exact gbRefl _ _ | apply gbAlloc | apply gbDrew | apply gbSet) (Nat.le_refl _)).step hP hk)
  have hs3 : w2.heap.size + 0 ≤ w3.heap.size := by have := hk.size; (try simp at this); omega
  have b2' := Lib.hid (hk.blk (b := w.heap.size) (Eq.trans (gbBlk (row := none) (by repeat with_reducible first | exact gbRefl _ _ | apply gbAlloc | apply gbDrew | apply gbSet) (blkLt b2.out) (by simp)) b2.out) (by omega))
  have b3' := Lib.hid (hk.blk (b := w1.heap.size) (Eq.trans (gbBlk (row := none) (by repeat with_reducible first | exact gbRefl _ _ | apply gbAlloc | apply gbDrew | apply gbSet) (blkLt b3.out) (by simp)) b3.out) (by omega))
  clear b2
  have b2 := Lib.hid b2'.out
  clear b2'
  have xb2_3 : w.heap.size < w3.heap.size := blkLt b2.out
  clear b3
  have b3 := Lib.hid b3'.out
  clear b3'
  have xb3_3 : w1.heap.size < w3.heap.size := blkLt b3.out
  have hr3 : C.R < w3.heap.size := hA3.out.ps.RLt
  clear hP hk hn
  have yc := (cells6 b3.out).1.2.1
  have yz := (cells6 b3.out).2.2.1
  go_wp2_with fail
  refine (word_any C _ nx3 dv ds ⟨#[59]⟩ (hA3.out.loc h0.out (b := w1.heap.size) (by repeat with_reducible first | exact gbRefl _ _ | apply gbAlloc | apply gbDrew | apply gbSet) (by have := hA3.out.kp.size; have := hA0.out.kp.size; have := hA1.out.kp.size; have := hA2.out.kp.size; have := hs1;  have := hs2;  have := hs3; omega)).ps hds (by decide)).mono ?_
  intro e w4 ho
  rcases hm : wordM ⟨#[59]⟩ (C.l nx3) with ⟨⟨⟩, l4⟩ | ⟨er, l4⟩
  rotate_left
  · have hre : Hid (Res.err er l4 = r) := by have := hr.out; rw [hm] at this; exact this
    rw [hm] at ho
    clear hm
    obtain ⟨nxe, hle, hne, ⟨T, pv, rfl⟩, ⟨dv', hPe⟩, hke⟩ := ho
    have hF := Lib.hid (Out.fail (V := VNd) hre.out hle hn3 hne ⟨T, pv, rfl⟩ hPe (hA3.out.loc h0.out (b := w1.heap.size) (by repeat with_reducible first | exact gbRefl _ _ | apply gbAlloc | apply gbDrew | apply gbSet) (by have := hA3.out.kp.size; have := hA0.out.kp.size; have := hA1.out.kp.size; have := hA2.out.kp.size; have := hs1;  have := hs2;  have := hs3; omega)).kp hke)
    clear hPe hke hle
    go_wp2
    exact ⟨rfl, hF.out⟩
  have hrn := hr.out
  rw [hm, Res.bind_ok] at hrn
  clear hr
  have hr := Lib.hid hrn
  clear hrn
  rw [hm] at ho
  clear hm
  obtain ⟨nx4, v4, hl, hn, rfl, hv, hP, hk⟩ := ho
  unfold VUnit at hv
  subst hv hl
  have hn4 : nx ≤ nx4 := Nat.le_trans hn3 hn
  have hA4 := Lib.hid ((hA3.out.loc h0.out (b := w1.heap.size) (by repeat with_reducible first | exact gbRefl _ _ | apply gbAlloc | apply gbDrew | apply gbSet) (by have := hA3.out.kp.size; have := hA0.out.kp.size; have := hA1.out.kp.size; have := hA2.out.kp.size; have := hs1;  have := hs2;  have := hs3; omega)).step hP hk)
  have hs4 : w3.heap.size + 0 ≤ w4.heap.size := by have := hk.size; (try simp at this); omega
  have b2' := Lib.hid (hk.blk (b := w.heap.size) (Eq.trans (gbBlk (row := some (w1.heap.size)) (by repeat with_reducible first | exact gbRefl _ _ | apply gbAlloc | apply gbDrew | apply gbSet) (blkLt b2.out) (by simp; omega)) b2.out) (by omega))
  have b3' := Lib.hid (hk.blk (b := w1.heap.size) (Eq.trans (gbBlk (row := none) (by repeat with_reducible first | exact gbRefl _ _ | apply gbAlloc | apply gbDrew | apply gbSet) (by simpa using blkLt b3.out) (by simp)) (set6_1 b3.out)) (by omega))
  clear b2
  have b2 := Lib.hid b2'.out
  clear b2'
  have xb2_4 : w.heap.size < w4.heap.size := blkLt b2.out
  clear b3
  have b3 := Lib.hid b3'.out
  clear b3'
  have xb3_4 : w1.heap.size < w4.heap.size := blkLt b3.out
  have hr4 : C.R < w4.heap.size := hA4.out.ps.RLt
  clear yc yz
  clear hP hk hn
  obtain ⟨⟨a0, a1, a2, a3, a4, a5⟩, d0, d1, d2, d3, d4, d5⟩ := cells6 b2.out
  obtain ⟨⟨f0, f1, f2, f3, f4, f5⟩, e0, e1, e2, e3, e4, e5⟩ := cells6 b3.out
  go_wp2
  refine bodyPost_ret (v := nv (.mk 9 x p 0 (hd (C.l nx)).a []) none 0) (by simp [results, Tryz.results65, go_sem, a0, a1, a2, a3, a4, a5, xb2_4, xb3_4, Nd.kind, Nd.name, Nd.n, Nd.unit, Nd.at0, Nd.kids]) rfl ?_
  exact Out.ret hr.out rfl hn4 ⟨none, 0, rfl, trivial⟩ ⟨(hA4.out.loc h0.out (b := w.heap.size) (by repeat with_reducible first | exact gbRefl _ _ | apply gbAlloc | apply gbDrew | apply gbSet) (Nat.le_refl _)).ps, (hA4.out.loc h0.out (b := w.heap.size) (by repeat with_reducible first | exact gbRefl _ _ | apply gbAlloc | apply gbDrew | apply gbSet) (Nat.le_refl _)).kp⟩

end Go.Proofs.YtdaghppcomckbaaGreatDoor
