/- Texts of one proof: PxF, PxG, PxH. -/
import Derived.Test.YtdaghppcomckbaaGreatDoorPmB
import Derived.Deep.LoopGhost
import Derived.OwnWalk
import Derived.WalkMore
import Derived.BigCall
/- The parser: key words, names, numbers, units. -/
namespace Go.Proofs.YtdaghppcomckbaaGreatDoor
open Go.RowKit
set_option linter.unusedVariables false
set_option linter.unusedSimpArgs false

def inpL : List (List UInt8) := [[97, 99, 107, 101, 100], [114, 116, 116], [115, 105, 122, 101], [116, 111, 116, 97, 108]]
def inpB (x : ByteArray) : Bool := inpL.any fun y => x.toList == y
def keyL : List (List UInt8) := [[108, 105, 110, 107], [114, 97, 116, 101], [100, 101, 108, 97, 121], [114, 111, 111, 109], [112, 97, 116, 104], [98, 97, 99, 107], [102, 108, 111, 119],
  [112, 114, 111, 103, 114, 97, 109], [112, 97, 116, 104, 115], [115, 105, 122, 101], [119, 105, 110, 100, 111, 119], [115, 116, 97, 114, 116], [112, 97, 99, 101],
  [116, 97, 105, 108], [101, 97, 114, 108, 121], [115, 111, 106, 111, 117, 114, 110], [105, 110, 116, 101, 103, 114, 97, 108], [100, 101, 102, 105, 99, 105, 116], [100, 117, 97, 108],
  [118, 97, 114], [110, 111, 110, 101], [112, 97, 99, 107, 101, 116, 115], [98, 121, 116, 101, 115], [116, 105, 109, 101],
  [111, 110], [97, 99, 107], [108, 111, 115, 115], [109, 97, 114, 107], [116, 105, 109, 101, 111, 117, 116],
  [105, 102], [101, 108, 115, 101], [109, 105, 110], [109, 97, 120], [117, 112]]
def keyB (x : ByteArray) : Bool := (keyL.any fun y => x.toList == y) || inpB x

set_option maxHeartbeats 400000 in
set_option maxRecDepth 100000 in
theorem isInput_any (x : ByteArray) (w : World) : Calls Tryz.prog 78 #[.string x] w fun e w' => e = .returned (.bool (inpB x)) ∧ w = w' := by
  go_enter Tryz.func78, Tryz.ntmps78
  go_wp2
  all_goals
    go_ret
    refine ⟨?_, rfl⟩
    first | (exfalso; simp_all; done) | (simp [inpB, inpL, *]; done)
def KeyPost (x : ByteArray) (w : World) (e : Ending) (w' : World) : Prop := e = .returned (.bool (keyB x)) ∧ w = w'
set_option maxHeartbeats 4000000 in
set_option maxRecDepth 100000 in
theorem isKey_any (x : ByteArray) (w : World) : Calls Tryz.prog 68 #[.string x] w (KeyPost x w) := by
  have hI := Lib.hid (isInput_any x w)
  go_enter Tryz.func68, Tryz.ntmps68
  go_wp2_with (refine hI.out.mono ?_; rintro e w' ⟨rfl, rfl⟩)
  all_goals
    go_ret
    refine ⟨?_, rfl⟩
    first | (exfalso; simp_all; done) | (simp [keyB, keyL, *]; done)

def Res.bind {α β : Type} (r : Res α) (f : α → List Tk → Res β) : Res β := match r with | .ok x l => f x l | .err e l => .err e l
theorem Res.bind_ok {α β : Type} (x : α) (l : List Tk) (f : α → List Tk → Res β) : (Res.ok x l).bind f = f x l := rfl
theorem Res.bind_err {α β : Type} (e : Int) (l : List Tk) (f : α → List Tk → Res β) : (Res.err e l : Res α).bind f = .err e l := rfl
def wordM (wd : ByteArray) (l : List Tk) : Res Unit := (choiceM [wd] l).bind fun _ l => .ok () l
def atNameB (l : List Tk) : Bool := (hd l).k == 1 && !keyB (hd l).x
def nameM (l : List Tk) : Res ByteArray := if atNameB l = true then .ok (hd l).x l.tail else .err 7 l
def nmNd (x : ByteArray) (a : Int) : Nd := .mk 14 x 0 0 a []
def numNd (m u a : Int) : Nd := .mk 13 ⟨#[]⟩ m u a []
def numberM (l : List Tk) : Res Nd := if (hd l).k = 2 then .ok (numNd (hd l).m 0 (hd l).a) l.tail else .err 7 l

set_option maxHeartbeats 400000 in
set_option maxRecDepth 100000 in
theorem word_any (C : Cx) (w : World) (nx : Nat) (dv : Value) (ds : List (Int × Int)) (wd : ByteArray) (h : PS C w nx dv ds) (hds : ds.length ≤ 100) (hne : wd ≠ ⟨#[]⟩) :
    Calls Tryz.prog 60 #[.pointer (some ⟨C.R, 0, none⟩), .string wd] w (Out C nx dv ds w VUnit (wordM wd (C.l nx))) := by
  have hb0 := (Below.refl w.heap.size w).alloc (Nat.le_refl _) (.cells #[.string wd] 9)
  have hA := Lib.hid (choice_any C _ nx dv ds w.heap.size 1 [wd] (h.below hb0) (new_strs w #[.string wd] 9 [wd] rfl) (by simp) (by simp) hds (by simpa using fun e => hne e.symm))
  clear h hne
  unfold wordM
  rcases hm : choiceM [wd] (C.l nx) with ⟨x, l⟩ | ⟨er, l⟩
  · have hm := Lib.hid hm
    go_enter Tryz.func60, Tryz.ntmps60
    go_wp2_with fail
    refine hA.out.mono ?_
    rw [hm.out]
    rintro e w1 ⟨nx', v, hl, hn, rfl, hv, hP, hk⟩
    go_wp2
    go_end0
    exact ⟨nx', _, hl, hn, rfl, rfl, hP, (Below.kp hb0).trans hk⟩
  · have hm := Lib.hid hm
    go_enter Tryz.func60, Tryz.ntmps60
    go_wp2_with fail
    refine hA.out.mono ?_
    rw [hm.out]
    rintro e w1 ⟨nx', hl, hn, ⟨T, pv, rfl⟩, hd', hk⟩
    go_wp2
    exact ⟨rfl, nx', hl, hn, ⟨T, pv, rfl⟩, hd', (Below.kp hb0).trans hk⟩

theorem notB (b : Bool) : (Value.bool (!b)) = .bool (!b) := rfl
set_option maxHeartbeats 400000 in
set_option maxRecDepth 100000 in
theorem atName_any (C : Cx) (w : World) (nx : Nat) (dv : Value) (ds : List (Int × Int)) (h : PS C w nx dv ds) :
    Calls Tryz.prog 72 #[.pointer (some ⟨C.R, 0, none⟩)] w fun e w' => e = .returned (.bool (atNameB (C.l nx))) ∧ Below w.heap.size w w' := by
  have hT := Lib.hid (token_any C w nx dv ds h)
  have HP := Lib.hid h
  have f0 := tfield0
  have f1 := tfield1
  by_cases hk : (hd (C.l nx)).k = 1
  · have hB : atNameB (C.l nx) = !keyB (hd (C.l nx)).x := by unfold atNameB; simp [hk]
    rw [hB]
    have hkb : ((hd (C.l nx)).k == 1) = true := by simp [hk]
    have HK := Lib.hid (fun w => isKey_any (hd (C.l nx)).x w)
    clear h hk hB
    go_enter Tryz.func72, Tryz.ntmps72
    go_wp2_with fail
    refine hT.out.mono ?_
    rintro e w1 ⟨rfl, hb1⟩
    have hT1 := Lib.hid (token_any C w1 nx dv ds (HP.out.below hb1))
    go_wp2_with fail
    refine hT1.out.mono ?_
    rintro e w2 ⟨rfl, hb2⟩
    have HK2 := Lib.hid (HK.out w2)
    go_wp2_with fail
    refine HK2.out.mono ?_
    rintro e w3 ⟨rfl, rfl⟩
    go_wp2
    go_ret
    exact ⟨rfl, hb1.trans (hb2.mono hb1.size)⟩
  · have hB : atNameB (C.l nx) = false := by unfold atNameB; simp [hk]
    rw [hB]
    have hkb : ((hd (C.l nx)).k == 1) = false := by simp [hk]
    clear h hk hB
    go_enter Tryz.func72, Tryz.ntmps72
    go_wp2_with fail
    refine hT.out.mono ?_
    rintro e w1 ⟨rfl, hb1⟩
    go_wp2
    go_ret
    exact ⟨rfl, hb1⟩

set_option maxHeartbeats 400000 in
set_option maxRecDepth 100000 in
theorem name_any (C : Cx) (w : World) (nx : Nat) (dv : Value) (ds : List (Int × Int)) (h : PS C w nx dv ds) (hds : ds.length ≤ 100) :
    Calls Tryz.prog 57 #[.pointer (some ⟨C.R, 0, none⟩)] w (Out C nx dv ds w VStr (nameM (C.l nx))) := by
  have hA := Lib.hid (atName_any C w nx dv ds h)
  have HP := Lib.hid h
  have f1 := tfield1
  unfold nameM
  rcases hB : atNameB (C.l nx) with _ | _
  · rw [if_neg (by simp)]
    have hI := Lib.hid hB
    clear h hB
    go_enter Tryz.func57, Tryz.ntmps57
    go_wp2_with fail
    refine hA.out.mono ?_
    rw [hI.out]
    rintro e w1 ⟨rfl, hb1⟩
    have hF := Lib.hid (fail_any C w1 nx dv ds 7 (HP.out.below hb1) hds)
    go_wp2_with fail
    refine hF.out.mono ?_
    rintro e w2 ⟨⟨T, pv, rfl⟩, hd', hk⟩
    go_wp2
    exact ⟨rfl, nx, rfl, Nat.le_refl _, ⟨T, pv, rfl⟩, hd', (Below.kp hb1).trans hk⟩
  · rw [if_pos rfl]
    have hl := h.next (by rintro ⟨_, e⟩; unfold atNameB at hB; rw [e] at hB; simp at hB)
    have hle := h.le
    have hI := Lib.hid hB
    clear h hB
    go_enter Tryz.func57, Tryz.ntmps57
    go_wp2_with fail
    refine hA.out.mono ?_
    rw [hI.out]
    rintro e w1 ⟨rfl, hb1⟩
    have HP1 := Lib.hid (HP.out.below hb1)
    have hT1 := Lib.hid (token_any C w1 nx dv ds HP1.out)
    go_wp2_with fail
    refine hT1.out.mono ?_
    rintro e w2 ⟨rfl, hb2⟩
    have HP2 := Lib.hid (HP1.out.below hb2)
    have c1 := HP2.out.c1
    have z1 := HP2.out.fz 1
    go_wp2
    go_ret
    exact ⟨nx + 1, _, l_tail C nx, Nat.le_succ _, rfl, rfl, HP2.out.bump hl, (Below.kp (hb1.trans (hb2.mono hb1.size))).setCell (.inl rfl) _⟩
end Go.Proofs.YtdaghppcomckbaaGreatDoor

/- The parser: a number, lists. -/
namespace Go.Proofs.YtdaghppcomckbaaGreatDoor
open Go.RowKit
set_option linter.unusedVariables false
set_option linter.unusedSimpArgs false

set_option maxHeartbeats 400000 in
set_option maxRecDepth 100000 in
theorem number_any (C : Cx) (w : World) (nx : Nat) (dv : Value) (ds : List (Int × Int)) (h : PS C w nx dv ds) (hds : ds.length ≤ 100) :
    Calls Tryz.prog 73 #[.pointer (some ⟨C.R, 0, none⟩)] w (Out C nx dv ds w VNd (numberM (C.l nx))) := by
  have h0 := Lib.hid h
  have f0 := tfield0
  have f1 := tfield1
  have hb0 : ∀ o, Below w.heap.size w (w.alloc o) := fun o => (Below.refl w.heap.size w).alloc (Nat.le_refl _) o
  have hP0 := Lib.hid (fun o => h.below (hb0 o))
  have hT := Lib.hid (fun o => token_any C (w.alloc o) nx dv ds (hP0.out o))
  unfold numberM
  by_cases hk : (hd (C.l nx)).k = 2
  · rw [if_pos hk]
    have hl := h.next (by rintro ⟨_, e⟩; omega)
    have hle := h.le
    have hkb : ((hd (C.l nx)).k != 2) = false := by simp [hk]
    clear h hk
    go_enter Tryz.func73, Tryz.ntmps73
    go_wp2_with fail
    refine (hT.out _).mono ?_
    rintro e w1 ⟨rfl, hb1⟩
    have HP1 := Lib.hid ((hP0.out _).below hb1)
    have c1 := HP1.out.c1
    have z1 := HP1.out.fz 1
    have r1 := HP1.out.RLt
    have hbn : w.heap.size < w1.heap.size := by have := hb1.size; simp at this; omega
    have hRn : C.R < w.heap.size := h0.out.RLt
    have hblk : w1.heap[w.heap.size]? = some (.cells zeroNd 25 (0, 0)) := (hb1.block _ (by simp)).trans (heap_alloc_new _ _)
    obtain ⟨⟨b0, b1, b2, b3, b4, b5⟩, d0, d1, d2, d3, d4, d5⟩ := cells6 hblk
    clear hblk
    go_wp2
    refine bodyPost_ret (v := nv (numNd (hd (C.l nx)).m 0 (hd (C.l nx)).a) none 0) (by simp [results, Tryz.results73, go_sem, b0, b1, b2, b3, b4, b5, hbn, numNd, Nd.kind, Nd.name, Nd.n, Nd.unit, Nd.at0, Nd.kids]) rfl ⟨nx + 1, _, l_tail C nx, Nat.le_succ _, rfl, ⟨none, 0, rfl, trivial⟩, ?_⟩
    refine h0.out.last ((Below.kp ((hb0 _).trans (hb1.mono (by simp)))).setCell (i := 1) (.inl rfl) (.int .i64 ((nx : Nat) + 1))) (HP1.out.bump hl) (b := w.heap.size) ?_ (Nat.le_refl _)
    (repeat with_reducible first | exact gbRefl _ _ | apply gbAlloc | apply gbDrew | apply gbSet)
  · rw [if_neg hk]
    have hkb : ((hd (C.l nx)).k != 2) = true := by simp [hk]
    clear h hk
    go_enter Tryz.func73, Tryz.ntmps73
    go_wp2_with fail
    refine (hT.out _).mono ?_
    rintro e w1 ⟨rfl, hb1⟩
    have HP1 := Lib.hid (((hP0.out _).below hb1).below ((Below.refl _ _).alloc (Nat.le_refl _) (.cells #[.int .i64 (hd (C.l nx)).k, .string (hd (C.l nx)).x, .int .i64 (hd (C.l nx)).m, .int .i64 (hd (C.l nx)).a] 44)))
    have hF := Lib.hid (fail_any C _ nx dv ds 7 HP1.out hds)
    go_wp2_with fail
    refine hF.out.mono ?_
    rintro e w2 ⟨⟨T, pv, rfl⟩, hd', hk⟩
    go_wp2
    exact ⟨rfl, nx, rfl, Nat.le_refl _, ⟨T, pv, rfl⟩, hd', ((Below.kp ((hb0 _).trans (hb1.mono (by simp)))).alloc _).trans hk⟩
end Go.Proofs.YtdaghppcomckbaaGreatDoor

/- The parser: lists of numbers, settings and names. -/
namespace Go.Proofs.YtdaghppcomckbaaGreatDoor
open Go.RowKit
set_option linter.unusedVariables false
set_option linter.unusedSimpArgs false

theorem nodeInfo : (Tryz.prog.info? 25).map (fun i => (i.zero, i.size, i.bytes)) = some (some (.agg zeroNd), 6, 72) := by kernel_rfl
theorem nd_one (t : Nd) (A : Option Addr) (c : Nat) : ∀ u ∈ nCells t A c, u.oneCell' = true := by
  intro u hu
  simp only [nCells, List.mem_cons, List.not_mem_nil, or_false] at hu
  rcases hu with rfl | rfl | rfl | rfl | rfl | rfl <;> rfl
abbrev ndArr (t : Nd) (A : Option Addr) (c : Nat) : Array Value := #[.int .i64 t.kind, .string t.name, .int .i64 t.n, .int .i64 t.unit, .int .i64 t.at0, .slice A t.kids.length (t.kids.length + c)]
/-- a node is appended -/
theorem VNds.snoc {B B' : Nat} {w w2 : World} {v : Value} {ts : List Nd} {t : Nd} {A : Option Addr} {c g cap H : Nat} {vs : List Value} {o : Obj} (hown : w.ownsRow B 25 6 v ts.length vs) (hr : RowsR w (Beside B v) ts vs) (hk : KidsR w (From B') t.kids A)
    (hv : ∀ k, v.ownBlock = some k → k < B') (hB : B ≤ B') (hg : (w.alloc o).grownBy w2 v.ownBlock)
    (hown2 : w2.ownsRow B 25 6 (.slice (some ⟨g, 0, none⟩) (ts.length + 1) cap) (ts.length + 1) (vs ++ nCells t A c)) (hat : v.ownBlock = some g ∨ g = H) (hH : w.heap.size < H) :
    VNds B w2 (.slice (some ⟨g, 0, none⟩) (ts.length + 1) cap) (ts ++ [t]) := by
  have hkeep : ∀ k, Beside B v k → k < w.heap.size → w2.heap[k]? = w.heap[k]? ∧ Beside B (.slice (some ⟨g, 0, none⟩) (ts.length + 1) cap) k := by
    intro k hk1 hk2
    refine ⟨(hg.block k (by simp; omega) (fun e => hk1.2 e.symm)).trans (Below.heap_alloc w o k hk2), hk1.1, ?_⟩
    simp only [Value.ownBlock]
    intro e
    rcases hat with h1 | h1
    · exact hk1.2 (h1.trans e)
    · cases e; omega
  have hk' : KidsR w2 (Beside B (.slice (some ⟨g, 0, none⟩) (ts.length + 1) cap)) t.kids A :=
    hk.keep (fun k hk1 hk2 => hkeep k ⟨Nat.le_trans hB hk1, fun e => by have := hv k e; exact absurd this (Nat.not_lt.2 hk1)⟩ hk2)
  exact ⟨vs ++ nCells t A c, by simpa using hown2, RowsR.app (RowsR.one t A c hk') ts vs (hr.keep hkeep)⟩

def numbersF : Nat → List Nd → List Tk → Res (List Nd)
  | 0, acc, l => .ok acc l
  | n + 1, acc, l => (numberM l).bind fun t l1 => numbersF n (acc ++ [t]) l1
theorem Out.list {C : Cx} {nx : Nat} {dv : Value} {ds : List (Int × Int)} {w wr : World} {nx' : Nat} {acc : List Nd} {v : Value} {r : Res (List Nd)} (hr : Res.ok acc (C.l nx') = r) (hn : nx ≤ nx') (hv : VNds w.heap.size wr v acc) (hP : PS C wr nx' dv ds) (hk : Kp C.R none w wr) :
    Out C nx dv ds w VNds r (.returned v) wr := by subst hr; exact ⟨nx', v, rfl, hn, rfl, hv, hP, hk⟩
theorem Out.fail {α : Type} {C : Cx} {nx nx1 : Nat} {dv : Value} {ds : List (Int × Int)} {w wr w' : World} {V : Nat → World → Value → α → Prop} {r : Res α} {er : Int} {l : List Tk} {e : Ending} {nx' : Nat} {dv' : Value} (hr : Res.err er l = r) (hl : C.l nx' = l) (hn : nx ≤ nx1) (hn' : nx1 ≤ nx') (he : Pan e) (hP : PS C w' nx' dv' (ds ++ [(er, (hd l).a)]))
    (hk : Kp C.R none w wr) (hk' : Kp C.R dv.ownBlock wr w') : Out C nx dv ds w V r e w' := by subst hr; exact ⟨nx', hl, Nat.le_trans hn hn', he, ⟨dv', hP⟩, hk.up.trans hk'⟩

set_option maxHeartbeats 1000000 in
set_option maxRecDepth 100000 in
theorem numbers_any (C : Cx) (w : World) (nx : Nat) (dv : Value) (ds : List (Int × Int)) (count : Nat) (hcount : count ≤ 10) (h : PS C w nx dv ds) (hds : ds.length ≤ 100) :
    Calls Tryz.prog 74 #[.pointer (some ⟨C.R, 0, none⟩), .int .i64 count] w (Out C nx dv ds w VNds (numbersF count [] (C.l nx))) := by
  have h0 := Lib.hid h
  obtain ⟨i0, hi, hz0, hz1, hz2⟩ := info_parts nodeInfo
  obtain ⟨r, hr⟩ : ∃ r, numbersF count [] (C.l nx) = r := ⟨_, rfl⟩
  rw [hr]
  have HR := Lib.hid hr
  clear hr h
  go_enter Tryz.func74, Tryz.ntmps74
  go_wp2
  go_loopg [5, 7] count (fun gk v i wr => ∃ (nx' : Nat) (acc : List Nd), acc.length + gk = count ∧ i = .int .i64 (acc.length : Nat) ∧ nx ≤ nx' ∧ Hid (numbersF gk acc (C.l nx') = r) ∧ Hid (VNds w.heap.size wr v acc) ∧ Hid (PS C wr nx' dv ds) ∧ Hid (Kp C.R none w wr))
  case atStart => exact ⟨nx, [], by simp, rfl, Nat.le_refl _, HR.out, VNds.nil _ _, h0.out, Kp.refl _ _ _⟩
  case round =>
    obtain ⟨nx', acc, hc, rfl, hn, hR, hV, hP, hK⟩ := hrel
    by_cases hlt : acc.length < count
    · obtain ⟨g, rfl⟩ : ∃ g, gk = g + 1 := ⟨gk - 1, by omega⟩
      have hN := Lib.hid (number_any C wr nx' dv ds hP.out hds)
      rcases hm : numberM (C.l nx') with ⟨t, l⟩ | ⟨er, l⟩
      · have hR2 : Hid (numbersF g (acc ++ [t]) l = r) := by have := hR.out; rw [numbersF, hm] at this; exact this
        have hm := Lib.hid hm
        go_wp2_with fail
        refine hN.out.mono ?_
        rw [hm.out]
        rintro e w1 ⟨nx2, v1, hl, hn2, rfl, ⟨A, c, rfl, hkd⟩, hP1, hk1⟩
        subst hl
        have hKd := Lib.hid hkd
        have hP1 := Lib.hid hP1
        have hk1 := Lib.hid hk1
        clear hkd
        have hV1 := Lib.hid (VNds.keep (w' := w1) (fun k h1 h2 => hk1.out.block k h2 (by have := h0.out.RLt; omega) (by simp)) hV.out)
        obtain ⟨vs, hown, hrows⟩ := hV1.out
        have hrows := Lib.hid hrows
        obtain ⟨Av, cv, rfl⟩ := hV.out.own
        go_wp2_with (at_builtin; refine wpList_append_lies _ rfl _ _ 23 rfl w.heap.size 25 i0 (.agg zeroNd) 6 72 Tryz.underlying23 hi hz0 hz1 hz2 rfl (by decide) _ _ vs rfl (hown.alloc _) ⟨w1.heap.size, 0, none⟩ 1 1 (nCells t A c) rfl rfl ?c1 ?c2 (by decide) ?c3 ?c4 ?c5 (w1.heap.size + 1) ?c6 ?_)
        case c1 => exact new_cells _ (ndArr t A c) _ _ rfl
        case c2 => exact nd_one t A c
        case c3 => unfold maxLen; omega
        case c4 => omega
        case c5 => have := hK.out.size; have := hk1.out.size; simp; omega
        case c6 => simp
        intro gb cap w2 hown2 hgrow hat hlt2
        have hV2 := Lib.hid (VNds.snoc hown hrows.out hKd.out (fun k hk => by have := hV.out; obtain ⟨vs', ho', _⟩ := this; exact (ho'.lt k hk).2) hK.out.size hgrow hown2 hat (Nat.lt_succ_self _))
        have hPK := Lib.hid (h0.out.lastR (hK.out.trans hk1.out) hP1.out (gbTrans (gbAlloc (gbRefl _ _)) hgrow) (fun k hk => (hown.lt k hk).1))
        clear hgrow hown hown2
        go_wp2
        go_roundg g
        case measure => omega
        case rel => exact ⟨nx2, acc ++ [t], by simp; omega, by simp, by omega, hR2, hV2, hPK.out.1, hPK.out.2⟩
      · have hR2 : Res.err er l = r := by have := hR.out; rw [numbersF, hm] at this; exact this
        have hR2 := Lib.hid hR2
        have hm := Lib.hid hm
        obtain ⟨Av, cv, rfl⟩ := hV.out.own
        go_wp2_with fail
        refine hN.out.mono ?_
        rw [hm.out]
        rintro e w1 ⟨nx2, hl, hn2, ⟨T, pv, rfl⟩, ⟨dv', hP1⟩, hk1⟩
        have hF := Lib.hid (Out.fail (V := VNds) hR2.out hl hn hn2 ⟨T, pv, rfl⟩ hP1 hK.out hk1)
        clear hP1 hk1 hl
        go_wp2
        exact ⟨rfl, hF.out⟩
    · obtain rfl : gk = 0 := by omega
      have hF := Lib.hid (Out.list hR.out hn hV.out hP.out hK.out)
      obtain ⟨Av, cv, rfl⟩ := hV.out.own
      go_wp2
      go_ret
      exact hF.out
end Go.Proofs.YtdaghppcomckbaaGreatDoor
