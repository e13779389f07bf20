/- Law package 04: the makers of examples, and the checks of one example. -/
import Derived.Test.YtmofclpheioepaaDoorUxI
import Derived.Deep.RegionHeld3
namespace Go.Proofs.YtmofclpheioepaaDoor
open Go.RowKit
set_option linter.unusedVariables false
set_option linter.unusedSimpArgs false

theorem res4 {w : World} {b : Nat} {v0 v1 v2 v3 x y z u : Value} {T : TypeId} (h : w.heap[b]? = some (.cells #[v0, v1, v2, v3] T (0, 0))) :
    (w.setCell ⟨b, 0, none⟩ x).cell? ⟨b, 0, none⟩ = some x ∧ ((w.setCell ⟨b, 0, none⟩ x).setCell ⟨b, 1, none⟩ y).cell? ⟨b, 1, none⟩ = some y ∧ (((w.setCell ⟨b, 0, none⟩ x).setCell ⟨b, 1, none⟩ y).setCell ⟨b, 2, none⟩ z).cell? ⟨b, 2, none⟩ = some z ∧
    ((((w.setCell ⟨b, 0, none⟩ x).setCell ⟨b, 1, none⟩ y).setCell ⟨b, 2, none⟩ z).setCell ⟨b, 3, none⟩ u).cell? ⟨b, 3, none⟩ = some u := by
  have g0 : (w.setCell ⟨b, 0, none⟩ x).heap[b]? = some (.cells #[x, v1, v2, v3] T (0, 0)) := by rw [heap_setCell_same w b 0 _ _ _ h]; simp
  have g1 : ((w.setCell ⟨b, 0, none⟩ x).setCell ⟨b, 1, none⟩ y).heap[b]? = some (.cells #[x, y, v2, v3] T (0, 0)) := by rw [heap_setCell_same _ b 1 _ _ _ g0]; simp
  have g2 : (((w.setCell ⟨b, 0, none⟩ x).setCell ⟨b, 1, none⟩ y).setCell ⟨b, 2, none⟩ z).heap[b]? = some (.cells #[x, y, z, v3] T (0, 0)) := by rw [heap_setCell_same _ b 2 _ _ _ g1]; simp
  have g3 : ((((w.setCell ⟨b, 0, none⟩ x).setCell ⟨b, 1, none⟩ y).setCell ⟨b, 2, none⟩ z).setCell ⟨b, 3, none⟩ u).heap[b]? = some (.cells #[x, y, z, u] T (0, 0)) := by rw [heap_setCell_same _ b 3 _ _ _ g2]; simp
  exact ⟨(cells4 g0).1.1, (cells4 g1).1.2.1, (cells4 g2).1.2.2.1, (cells4 g3).1.2.2.2⟩
theorem below4 {B b : Nat} {a w : World} {v0 v1 v2 v3 : Value} (h : Below B a w) (hb : B ≤ b) : Below B a ((((w.setCell ⟨b, 0, none⟩ v0).setCell ⟨b, 1, none⟩ v1).setCell ⟨b, 2, none⟩ v2).setCell ⟨b, 3, none⟩ v3) :=
  (((h.setCell hb _).setCell hb _).setCell hb _).setCell hb _
set_option maxHeartbeats 400000 in
set_option maxRecDepth 100000 in
theorem number_any (n u : Int) (w : World) : Calls Tryd.prog 22 #[.int .i64 n, .int .i64 u] w (VV (aggE 1 n u none 0 0) w) := by
  go_enter Tryd.func22, Tryd.ntmps22
  go_wp2
  exact bodyPost_ret (v := aggE 1 n u none 0 0) (by simp [results, Tryd.results22, go_sem]) rfl ⟨rfl, (Below.refl _ _).alloc (Nat.le_refl _) _⟩
set_option maxHeartbeats 400000 in
set_option maxRecDepth 100000 in
theorem variable_any (n : Int) (w : World) : Calls Tryd.prog 20 #[.int .i64 n] w (VV (aggE 2 n 0 none 0 0) w) := by
  go_enter Tryd.func20, Tryd.ntmps20
  go_wp2
  exact bodyPost_ret (v := aggE 2 n 0 none 0 0) (by simp [results, Tryd.results20, go_sem]) rfl ⟨rfl, (Below.refl _ _).alloc (Nat.le_refl _) _⟩
set_option maxHeartbeats 400000 in
set_option maxRecDepth 100000 in
theorem input_any (n : Int) (w : World) : Calls Tryd.prog 21 #[.int .i64 n] w (VV (aggE 3 n 0 none 0 0) w) := by
  go_enter Tryd.func21, Tryd.ntmps21
  go_wp2
  exact bodyPost_ret (v := aggE 3 n 0 none 0 0) (by simp [results, Tryd.results21, go_sem]) rfl ⟨rfl, (Below.refl _ _).alloc (Nat.le_refl _) _⟩
/-- what 'two' leaves: an expression of two kids -/
def TwoP (op : Int) (s t : Ex) (w : World) (e : Ending) (w' : World) : Prop := ∃ A, e = .returned (aggE op 0 0 A 2 2) ∧ KidsE w' [s, t] A ∧ Below w.heap.size w w'
set_option maxHeartbeats 1000000 in
set_option maxRecDepth 100000 in
theorem two_any (op : Int) (s t : Ex) (A B : Option Addr) (c d : Nat) (w : World) (hA : KidsE w s.kids A) (hB : KidsE w t.kids B) (hs : s.kids.length ≤ maxLen) (ht : t.kids.length ≤ maxLen) :
    Calls Tryd.prog 18 #[.int .i64 op, ev s A c, ev t B d] w (TwoP op s t w) := by
  have HA := Lib.hid hA
  have HB := Lib.hid hB
  clear hA hB
  go_enter Tryd.func18, Tryd.ntmps18
  go_wp2
  have hb := ((((Below.refl w.heap.size w).alloc (Nat.le_refl _) (.cells (eArr s A c) 29)).alloc (by simp) (.cells (eArr t B d) 29)).alloc (by simp <;> omega) (.cells (arrE op 0 0 (some ⟨w.heap.size + 1 + 1 + 1, 0, none⟩) 2 2) 29)).alloc (by simp <;> omega) (.cells #[.int .i64 s.op, .int .i64 s.n, .int .i64 s.unit, .slice A s.kids.length (s.kids.length + c), .int .i64 t.op, .int .i64 t.n, .int .i64 t.unit, .slice B t.kids.length (t.kids.length + d)] 29)
  exact bodyPost_ret (v := aggE op 0 0 (some ⟨w.heap.size + 1 + 1 + 1, 0, none⟩) 2 2) (by simp [results, Tryd.results18, go_sem]) rfl ⟨_, rfl, two_kids (newBlk _ _ _ (by simp)) hs ht (HA.out.below hb) (HB.out.below hb), hb⟩
set_option maxHeartbeats 400000 in
set_option maxRecDepth 100000 in
theorem vars_any (w : World) : Calls Tryd.prog 25 #[] w (fun e w' => e = .returned (.slice (some ⟨w.heap.size, 0, none⟩) 2 2) ∧ w' = w.alloc (.cells #[.string ⟨#[119]⟩, .int .i64 1, .int .i64 0, .int .i64 0, .int .i64 0, .string ⟨#[112]⟩, .int .i64 4, .int .i64 0, .int .i64 0, .int .i64 0] 50)) := by
  go_enter Tryd.func25, Tryd.ntmps25
  go_wp2
  go_ret
  exact ⟨rfl, rfl⟩
theorem vars_reads (w : World) : VarsR (w.alloc (.cells #[.string ⟨#[119]⟩, .int .i64 1, .int .i64 0, .int .i64 0, .int .i64 0, .string ⟨#[112]⟩, .int .i64 4, .int .i64 0, .int .i64 0, .int .i64 0] 50)) [⟨⟨#[119]⟩, 1, 0, 0, 0⟩, ⟨⟨#[112]⟩, 4, 0, 0, 0⟩] (some ⟨w.heap.size, 0, none⟩) := by
  refine .inr ⟨w.heap.size, 0, rfl, fun i v hv => ?_⟩
  have e : ∀ j, (w.alloc (.cells #[.string ⟨#[119]⟩, .int .i64 1, .int .i64 0, .int .i64 0, .int .i64 0, .string ⟨#[112]⟩, .int .i64 4, .int .i64 0, .int .i64 0, .int .i64 0] 50)).cell? ⟨w.heap.size, j, none⟩ = (#[.string ⟨#[119]⟩, .int .i64 1, .int .i64 0, .int .i64 0, .int .i64 0, .string ⟨#[112]⟩, .int .i64 4, .int .i64 0, .int .i64 0, .int .i64 0] : Array Value)[j]? := fun j => cell_of_row _ _ j _ _ (0, 0) (heap_alloc_new w _)
  match i, hv with
  | 0, hv => simp only [List.getElem?_cons_zero, Option.some.injEq] at hv; subst hv; exact ⟨e 0, e 1, e 2, e 3, e 4⟩
  | 1, hv => simp only [List.getElem?_cons_succ, List.getElem?_cons_zero, Option.some.injEq] at hv; subst hv; exact ⟨e 5, e 6, e 7, e 8, e 9⟩
  | j + 2, hv => simp at hv
theorem VarsR.drew {w : World} {l : List Vr} {A : Option Addr} (h : VarsR w l A) : VarsR w.drew l A := h.keep (fun _ _ => rfl)
theorem VarsR.alloc {w : World} {l : List Vr} {A : Option Addr} {o : Obj} (h : VarsR w l A) : VarsR (w.alloc o) l A := h.keep (fun k hk => Below.heap_alloc w o k hk)
theorem bAlloc {w X : World} {o : Obj} (h : Below w.heap.size w X) : Below w.heap.size w (X.alloc o) := h.alloc h.size o
theorem bDrew {w X : World} (h : Below w.heap.size w X) : Below w.heap.size w X.drew := h.drew
theorem bCall {w X w1 : World} (h : Below w.heap.size w X) (hb : Below X.heap.size X w1) : Below w.heap.size w w1 := h.trans (hb.mono h.size)
theorem newU {X w2 : World} {o : Obj} (hb : Below (X.alloc o).heap.size (X.alloc o) w2) : w2.heap[X.heap.size]? = some o := (hb.block _ (by simp)).trans (newBlk _ _ _ rfl)
theorem newUd {X w2 : World} {o : Obj} (hb : Below (X.alloc o).drew.heap.size (X.alloc o).drew w2) : w2.heap[X.heap.size]? = some o := newU (bdrew hb)
abbrev exVars : List Vr := [⟨⟨#[119]⟩, 1, 0, 0, 0⟩, ⟨⟨#[112]⟩, 4, 0, 0, 0⟩]
/-- what 'vars' leaves -/
def VarsP (w : World) (e : Ending) (w' : World) : Prop := ∃ n, e = .returned (.slice (some ⟨n, 0, none⟩) 2 2) ∧ VarsR w' exVars (some ⟨n, 0, none⟩) ∧ Below w.heap.size w w'
theorem vars_p (w : World) : Calls Tryd.prog 25 #[] w (VarsP w) := (vars_any w).mono fun e w' h => ⟨w.heap.size, h.1, by rw [h.2]; exact vars_reads w, by rw [h.2]; exact bAlloc (Below.refl _ _)⟩
theorem infer_eq (t : Ex) (A : Option Addr) (c n : Nat) (p : Pw) (er : Int) (w : World) (hL : LaidW w) (hV : VarsR w exVars (some ⟨n, 0, none⟩)) (hK : KidsE w t.kids A) (h : inferM [1, 4] t = (p, er)) :
    Calls Tryd.prog 11 #[.slice (some ⟨n, 0, none⟩) 2 2, ev t A c] w (VV (.tuple #[pv p, .int .i64 er]) w) := by
  have := Infer_any exVars (some ⟨n, 0, none⟩) A 2 c t w hL hV hK
  rw [show exVars.map (·.u) = [1, 4] from rfl, h] at this
  exact this
theorem far3 {w : World} {b c i : Nat} {x y z : Value} (h : c ≠ b) : (((w.setCell ⟨b, 0, none⟩ x).setCell ⟨b, 1, none⟩ y).setCell ⟨b, 2, none⟩ z).cell? ⟨c, i, none⟩ = w.cell? ⟨c, i, none⟩ :=
  World.cell?_of_block (a := ⟨c, i, none⟩) ((heap_setCell_other _ _ _ _ h).trans ((heap_setCell_other _ _ _ _ h).trans (heap_setCell_other _ _ _ _ h)))
set_option maxHeartbeats 400000 in
set_option maxRecDepth 100000 in
theorem is_any (t : Ex) (A : Option Addr) (c : Nat) (p : Pw) (w : World) (hL : LaidW w) (hK : KidsE w t.kids A) (h : inferM [1, 4] t = (p, 0)) : Calls Tryd.prog 23 #[ev t A c, pv p] w (BB true w) := by
  obtain ⟨W2, hW2⟩ : ∃ W2, W2 = (w.alloc (.cells (eArr t A c) 29)).alloc (.cells (pArr p) 34) := ⟨_, rfl⟩
  have hb0 : Below w.heap.size w W2 := by rw [hW2]; exact bAlloc (bAlloc (Below.refl _ _))
  have HI := Lib.hid (fun (wx : World) (n : Nat) (hV : VarsR wx exVars (some ⟨n, 0, none⟩)) (hb : Below W2.heap.size W2 wx) => infer_eq t A c n p 0 wx (hL.below (bCall hb0 hb)) hV (hK.below (bCall hb0 hb)) h)
  have HB0 := Lib.hid hb0
  have HX0 : Hid (W2.heap[w.heap.size]? = some (.cells (eArr t A c) 29 (0, 0))) := Lib.hid (by rw [hW2]; exact (Below.heap_alloc _ _ _ (by simp)).trans (newBlk _ _ _ rfl))
  have HP0 : Hid (W2.heap[w.heap.size + 1]? = some (.cells (pArr p) 34 (0, 0))) := Lib.hid (by rw [hW2]; exact newBlk _ _ _ (by simp))
  clear hL hK h hb0
  obtain ⟨⟨x0, x1, x2, x3⟩, -⟩ := cells4 HX0.out
  have hx0 := blkLt HX0.out
  have hp0 := blkLt HP0.out
  go_enter Tryd.func23, Tryd.ntmps23
  go_wp2_with fail
  change Code.wp _ _ _ _ ((w.alloc (.cells (eArr t A c) 29)).alloc (.cells (pArr p) 34))
  rw [← hW2]
  clear hW2
  have hx0n := Nat.ne_of_lt hx0
  go_region_held3 (fun w' => w'.cell? ⟨w.heap.size, 0, none⟩ = some (.int .i64 t.op) ∧ w'.cell? ⟨w.heap.size, 1, none⟩ = some (.int .i64 t.n) ∧ w'.cell? ⟨w.heap.size, 2, none⟩ = some (.int .i64 t.unit) ∧ w'.cell? ⟨w.heap.size, 3, none⟩ = some (.slice A t.kids.length (t.kids.length + c)))
    (first | (with_reducible exact ⟨x0, x1, x2, x3⟩) | (with_reducible exact ⟨y0, y1, y2, y3⟩) | (with_reducible exact ⟨z0, z1, z2, z3⟩) | (with_reducible exact ⟨(far3 hx0n).trans z0, (far3 hx0n).trans z1, (far3 hx0n).trans z2, (far3 hx0n).trans z3⟩) | (with_reducible exact ⟨(far3 hn1).trans z0, (far3 hn1).trans z1, (far3 hn1).trans z2, (far3 hn1).trans z3⟩) | go_keep)
    (first
    | (go_at_call 25; refine (vars_p W2.drew).mono ?_; rintro e w1 ⟨nv, rfl, hV1, hb1⟩; have hV1 := Lib.hid hV1; have hB1 := bdrew hb1; have y0 := (cells4 ((hB1.block _ hx0).trans HX0.out)).1.1; have y1 := (cells4 ((hB1.block _ hx0).trans HX0.out)).1.2.1; have y2 := (cells4 ((hB1.block _ hx0).trans HX0.out)).1.2.2.1; have y3 := (cells4 ((hB1.block _ hx0).trans HX0.out)).1.2.2.2; have hxx1 := Nat.lt_of_lt_of_le hx0 hB1.size; have hn1 := Nat.ne_of_lt hxx1; have hpx1 := Nat.lt_of_lt_of_le hp0 hB1.size)
    | (go_at_call 25; refine (vars_p (W2.alloc (.cells #[.int .i64 0, .int .i64 0, .int .i64 0] 34)).drew).mono ?_; rintro e w1 ⟨nv, rfl, hV1, hb1⟩; have hV1 := Lib.hid hV1; have hB1 := bCall (bAlloc (Below.refl _ _)) (bdrew hb1); have hU1 := newUd hb1; have y0 := (cells4 ((hB1.block _ hx0).trans HX0.out)).1.1; have y1 := (cells4 ((hB1.block _ hx0).trans HX0.out)).1.2.1; have y2 := (cells4 ((hB1.block _ hx0).trans HX0.out)).1.2.2.1; have y3 := (cells4 ((hB1.block _ hx0).trans HX0.out)).1.2.2.2; have hxx1 := Nat.lt_of_lt_of_le hx0 hB1.size; have hn1 := Nat.ne_of_lt hxx1; have hpx1 := Nat.lt_of_lt_of_le hp0 hB1.size)
    | (go_at_call 11; have hU0 := hU1; refine (HI.out w1 _ hV1.out hB1).mono ?_; rintro e w2 ⟨rfl, hb2⟩; have hB2 := bCall hB1 hb2; have hU2 := (hb2.block _ (blkLt hU1)).trans hU1; have u0 := (cells3 hU2).1.1; have u1 := (cells3 hU2).1.2.1; have u2 := (cells3 hU2).1.2.2; have v0 := (cells3 hU2).2.1; have v1 := (cells3 hU2).2.2.1; have v2 := (cells3 hU2).2.2.2; have hu := blkLt hU2; have hP2 := (hB2.block _ hp0).trans HP0.out; have q0 := (cells3 hP2).1.1; have q1 := (cells3 hP2).1.2.1; have q2 := (cells3 hP2).1.2.2; have hpx2 := Nat.lt_of_lt_of_le hp0 hB2.size; have hB2h := Lib.hid hB2; have z0 := (cells4 ((hB2.block _ hx0).trans HX0.out)).1.1; have z1 := (cells4 ((hB2.block _ hx0).trans HX0.out)).1.2.1; have z2 := (cells4 ((hB2.block _ hx0).trans HX0.out)).1.2.2.1; have z3 := (cells4 ((hB2.block _ hx0).trans HX0.out)).1.2.2.2; have hxx2 := Nat.lt_of_lt_of_le hx0 hB2.size)
    | (go_at_call 11; refine (HI.out w1 _ hV1.out hB1).mono ?_; rintro e w2 ⟨rfl, hb2⟩; have hB2 := bCall hB1 hb2; have hP2 := (hB2.block _ hp0).trans HP0.out; have q0 := (cells3 hP2).1.1; have q1 := (cells3 hP2).1.2.1; have q2 := (cells3 hP2).1.2.2; have hpx2 := Nat.lt_of_lt_of_le hp0 hB2.size; have hB2h := Lib.hid hB2; have z0 := (cells4 ((hB2.block _ hx0).trans HX0.out)).1.1; have z1 := (cells4 ((hB2.block _ hx0).trans HX0.out)).1.2.1; have z2 := (cells4 ((hB2.block _ hx0).trans HX0.out)).1.2.2.1; have z3 := (cells4 ((hB2.block _ hx0).trans HX0.out)).1.2.2.2; have hxx2 := Nat.lt_of_lt_of_le hx0 hB2.size; have hn3 := Nat.ne_of_lt hxx2)
    | (go_at_call 11; refine (HI.out (w1.alloc (.cells #[.int .i64 0, .int .i64 0, .int .i64 0] 34)) _ hV1.out.alloc (bAlloc hB1)).mono ?_; rintro e w2 ⟨rfl, hb2⟩; have hB2 := bCall (bAlloc hB1) hb2; have hU2 := newU hb2; have u0 := (cells3 hU2).1.1; have u1 := (cells3 hU2).1.2.1; have u2 := (cells3 hU2).1.2.2; have v0 := (cells3 hU2).2.1; have v1 := (cells3 hU2).2.2.1; have v2 := (cells3 hU2).2.2.2; have hu := blkLt hU2; have hP2 := (hB2.block _ hp0).trans HP0.out; have q0 := (cells3 hP2).1.1; have q1 := (cells3 hP2).1.2.1; have q2 := (cells3 hP2).1.2.2; have hpx2 := Nat.lt_of_lt_of_le hp0 hB2.size; have hB2h := Lib.hid hB2; have z0 := (cells4 ((hB2.block _ hx0).trans HX0.out)).1.1; have z1 := (cells4 ((hB2.block _ hx0).trans HX0.out)).1.2.1; have z2 := (cells4 ((hB2.block _ hx0).trans HX0.out)).1.2.2.1; have z3 := (cells4 ((hB2.block _ hx0).trans HX0.out)).1.2.2.2; have hxx2 := Nat.lt_of_lt_of_le hx0 hB2.size))
  all_goals go_wp2
  all_goals
    go_ret
    refine ⟨rfl, bCall HB0.out ?_⟩
    first | exact bAlloc hB2h.out | exact below3 hB2h.out hB1.size | exact below3 hB2h.out (Nat.le_refl _)
set_option maxHeartbeats 400000 in
set_option maxRecDepth 100000 in
theorem fails_any (t : Ex) (A : Option Addr) (c : Nat) (er : Int) (w : World) (hL : LaidW w) (hK : KidsE w t.kids A) (h : inferM [1, 4] t = (⟨0, 0, 0⟩, er)) : Calls Tryd.prog 24 #[ev t A c, .int .i64 er] w (BB true w) := by
  obtain ⟨W2, hW2⟩ : ∃ W2, W2 = w.alloc (.cells (eArr t A c) 29) := ⟨_, rfl⟩
  have hb0 : Below w.heap.size w W2 := by rw [hW2]; exact bAlloc (Below.refl _ _)
  have HI := Lib.hid (fun (wx : World) (n : Nat) (hV : VarsR wx exVars (some ⟨n, 0, none⟩)) (hb : Below W2.heap.size W2 wx) => infer_eq t A c n ⟨0, 0, 0⟩ er wx (hL.below (bCall hb0 hb)) hV (hK.below (bCall hb0 hb)) h)
  have HB0 := Lib.hid hb0
  have HX0 : Hid (W2.heap[w.heap.size]? = some (.cells (eArr t A c) 29 (0, 0))) := Lib.hid (by rw [hW2]; exact newBlk _ _ _ rfl)
  clear hL hK h hb0
  obtain ⟨⟨x0, x1, x2, x3⟩, -⟩ := cells4 HX0.out
  have hx0 := blkLt HX0.out
  go_enter Tryd.func24, Tryd.ntmps24
  go_wp2_with fail
  change Code.wp _ _ _ _ (w.alloc (.cells (eArr t A c) 29))
  rw [← hW2]
  clear hW2
  have hx0n := Nat.ne_of_lt hx0
  go_region_held3 (fun w' => w'.cell? ⟨w.heap.size, 0, none⟩ = some (.int .i64 t.op) ∧ w'.cell? ⟨w.heap.size, 1, none⟩ = some (.int .i64 t.n) ∧ w'.cell? ⟨w.heap.size, 2, none⟩ = some (.int .i64 t.unit) ∧ w'.cell? ⟨w.heap.size, 3, none⟩ = some (.slice A t.kids.length (t.kids.length + c)))
    (first | (with_reducible exact ⟨x0, x1, x2, x3⟩) | (with_reducible exact ⟨y0, y1, y2, y3⟩) | (with_reducible exact ⟨z0, z1, z2, z3⟩) | (with_reducible exact ⟨(far3 hx0n).trans z0, (far3 hx0n).trans z1, (far3 hx0n).trans z2, (far3 hx0n).trans z3⟩) | (with_reducible exact ⟨(far3 hn1).trans z0, (far3 hn1).trans z1, (far3 hn1).trans z2, (far3 hn1).trans z3⟩) | go_keep)
    (first
    | (go_at_call 25; refine (vars_p W2.drew).mono ?_; rintro e w1 ⟨nv, rfl, hV1, hb1⟩; have hV1 := Lib.hid hV1; have hB1 := bdrew hb1; have y0 := (cells4 ((hB1.block _ hx0).trans HX0.out)).1.1; have y1 := (cells4 ((hB1.block _ hx0).trans HX0.out)).1.2.1; have y2 := (cells4 ((hB1.block _ hx0).trans HX0.out)).1.2.2.1; have y3 := (cells4 ((hB1.block _ hx0).trans HX0.out)).1.2.2.2; have hxx1 := Nat.lt_of_lt_of_le hx0 hB1.size; have hn1 := Nat.ne_of_lt hxx1)
    | (go_at_call 25; refine (vars_p (W2.alloc (.cells #[.int .i64 0, .int .i64 0, .int .i64 0] 34)).drew).mono ?_; rintro e w1 ⟨nv, rfl, hV1, hb1⟩; have hV1 := Lib.hid hV1; have hB1 := bCall (bAlloc (Below.refl _ _)) (bdrew hb1); have hU1 := newUd hb1; have y0 := (cells4 ((hB1.block _ hx0).trans HX0.out)).1.1; have y1 := (cells4 ((hB1.block _ hx0).trans HX0.out)).1.2.1; have y2 := (cells4 ((hB1.block _ hx0).trans HX0.out)).1.2.2.1; have y3 := (cells4 ((hB1.block _ hx0).trans HX0.out)).1.2.2.2; have hxx1 := Nat.lt_of_lt_of_le hx0 hB1.size; have hn1 := Nat.ne_of_lt hxx1)
    | (go_at_call 11; have hU0 := hU1; refine (HI.out w1 _ hV1.out hB1).mono ?_; rintro e w2 ⟨rfl, hb2⟩; have hB2 := bCall hB1 hb2; have hU2 := (hb2.block _ (blkLt hU1)).trans hU1; have u0 := (cells3 hU2).1.1; have u1 := (cells3 hU2).1.2.1; have u2 := (cells3 hU2).1.2.2; have v0 := (cells3 hU2).2.1; have v1 := (cells3 hU2).2.2.1; have v2 := (cells3 hU2).2.2.2; have hu := blkLt hU2; have hB2h := Lib.hid hB2; have z0 := (cells4 ((hB2.block _ hx0).trans HX0.out)).1.1; have z1 := (cells4 ((hB2.block _ hx0).trans HX0.out)).1.2.1; have z2 := (cells4 ((hB2.block _ hx0).trans HX0.out)).1.2.2.1; have z3 := (cells4 ((hB2.block _ hx0).trans HX0.out)).1.2.2.2; have hxx2 := Nat.lt_of_lt_of_le hx0 hB2.size)
    | (go_at_call 11; refine (HI.out w1 _ hV1.out hB1).mono ?_; rintro e w2 ⟨rfl, hb2⟩; have hB2 := bCall hB1 hb2; have hB2h := Lib.hid hB2; have z0 := (cells4 ((hB2.block _ hx0).trans HX0.out)).1.1; have z1 := (cells4 ((hB2.block _ hx0).trans HX0.out)).1.2.1; have z2 := (cells4 ((hB2.block _ hx0).trans HX0.out)).1.2.2.1; have z3 := (cells4 ((hB2.block _ hx0).trans HX0.out)).1.2.2.2; have hxx2 := Nat.lt_of_lt_of_le hx0 hB2.size; have hn3 := Nat.ne_of_lt hxx2)
    | (go_at_call 11; refine (HI.out (w1.alloc (.cells #[.int .i64 0, .int .i64 0, .int .i64 0] 34)) _ hV1.out.alloc (bAlloc hB1)).mono ?_; rintro e w2 ⟨rfl, hb2⟩; have hB2 := bCall (bAlloc hB1) hb2; have hU2 := newU hb2; have u0 := (cells3 hU2).1.1; have u1 := (cells3 hU2).1.2.1; have u2 := (cells3 hU2).1.2.2; have v0 := (cells3 hU2).2.1; have v1 := (cells3 hU2).2.2.1; have v2 := (cells3 hU2).2.2.2; have hu := blkLt hU2; have hB2h := Lib.hid hB2; have z0 := (cells4 ((hB2.block _ hx0).trans HX0.out)).1.1; have z1 := (cells4 ((hB2.block _ hx0).trans HX0.out)).1.2.1; have z2 := (cells4 ((hB2.block _ hx0).trans HX0.out)).1.2.2.1; have z3 := (cells4 ((hB2.block _ hx0).trans HX0.out)).1.2.2.2; have hxx2 := Nat.lt_of_lt_of_le hx0 hB2.size))
  all_goals go_wp2
  all_goals
    go_ret
    refine ⟨rfl, bCall HB0.out ?_⟩
    first | exact bAlloc hB2h.out | exact below3 hB2h.out hB1.size | exact below3 hB2h.out (Nat.le_refl _)
/-- the block that 'two' makes -/
def TwoB (op : Int) (s t : Ex) (A B : Option Addr) (c d : Nat) (w : World) (e : Ending) (w' : World) : Prop := ∃ g, e = .returned (aggE op 0 0 (some ⟨g, 0, none⟩) 2 2) ∧ w.heap.size ≤ g ∧
  w'.heap[g]? = some (.cells #[.int .i64 s.op, .int .i64 s.n, .int .i64 s.unit, .slice A s.kids.length (s.kids.length + c), .int .i64 t.op, .int .i64 t.n, .int .i64 t.unit, .slice B t.kids.length (t.kids.length + d)] 29 (0, 0)) ∧ Below w.heap.size w w'
set_option maxHeartbeats 1000000 in
set_option maxRecDepth 100000 in
theorem two_blk (op : Int) (s t : Ex) (A B : Option Addr) (c d : Nat) (w : World) : Calls Tryd.prog 18 #[.int .i64 op, ev s A c, ev t B d] w (TwoB op s t A B c d w) := by
  go_enter Tryd.func18, Tryd.ntmps18
  go_wp2
  have hb := ((((Below.refl w.heap.size w).alloc (Nat.le_refl _) (.cells (eArr s A c) 29)).alloc (by simp) (.cells (eArr t B d) 29)).alloc (by simp <;> omega) (.cells (arrE op 0 0 (some ⟨w.heap.size + 1 + 1 + 1, 0, none⟩) 2 2) 29)).alloc (by simp <;> omega) (.cells #[.int .i64 s.op, .int .i64 s.n, .int .i64 s.unit, .slice A s.kids.length (s.kids.length + c), .int .i64 t.op, .int .i64 t.n, .int .i64 t.unit, .slice B t.kids.length (t.kids.length + d)] 29)
  exact bodyPost_ret (v := aggE op 0 0 (some ⟨w.heap.size + 1 + 1 + 1, 0, none⟩) 2 2) (by simp [results, Tryd.results18, go_sem]) rfl ⟨_, rfl, by omega, newBlk _ _ _ (by simp), hb⟩
theorem set4 {w : World} {b : Nat} {v0 v1 v2 v3 x y z u : Value} {T : TypeId} (h : w.heap[b]? = some (.cells #[v0, v1, v2, v3] T (0, 0))) :
    ((((w.setCell ⟨b, 0, none⟩ x).setCell ⟨b, 1, none⟩ y).setCell ⟨b, 2, none⟩ z).setCell ⟨b, 3, none⟩ u).heap[b]? = some (.cells #[x, y, z, u] T (0, 0)) := by
  have g0 : (w.setCell ⟨b, 0, none⟩ x).heap[b]? = some (.cells #[x, v1, v2, v3] T (0, 0)) := by rw [heap_setCell_same w b 0 _ _ _ h]; simp
  have g1 : ((w.setCell ⟨b, 0, none⟩ x).setCell ⟨b, 1, none⟩ y).heap[b]? = some (.cells #[x, y, v2, v3] T (0, 0)) := by rw [heap_setCell_same _ b 1 _ _ _ g0]; simp
  have g2 : (((w.setCell ⟨b, 0, none⟩ x).setCell ⟨b, 1, none⟩ y).setCell ⟨b, 2, none⟩ z).heap[b]? = some (.cells #[x, y, z, v3] T (0, 0)) := by rw [heap_setCell_same _ b 2 _ _ _ g1]; simp
  rw [heap_setCell_same _ b 3 _ _ _ g2]; simp
theorem one_kid {w : World} {b : Nat} {t : Ex} {A : Option Addr} {c : Nat} {T : TypeId} (h : w.heap[b]? = some (.cells (eArr t A c) T (0, 0))) (ht : t.kids.length ≤ maxLen) (hA : KidsE w t.kids A) : KidsE w [t] (some ⟨b, 0, none⟩) := by
  obtain ⟨⟨e0, e1, e2, e3⟩, -⟩ := cells4 h
  unfold KidsE
  refine ⟨b, 0, rfl, OneE.mk' (A := A) (c := c) e0 e1 e2 e3 ht hA, ?_⟩
  unfold KidsE
  trivial
theorem far4 {w : World} {b c i : Nat} {x y z u : Value} (h : c ≠ b) : ((((w.setCell ⟨b, 0, none⟩ x).setCell ⟨b, 1, none⟩ y).setCell ⟨b, 2, none⟩ z).setCell ⟨b, 3, none⟩ u).cell? ⟨c, i, none⟩ = w.cell? ⟨c, i, none⟩ :=
  World.cell?_of_block (a := ⟨c, i, none⟩) ((heap_setCell_other _ _ _ _ h).trans ((heap_setCell_other _ _ _ _ h).trans ((heap_setCell_other _ _ _ _ h).trans (heap_setCell_other _ _ _ _ h))))
theorem far4b {w : World} {b c : Nat} {x y z u : Value} (h : c ≠ b) : ((((w.setCell ⟨b, 0, none⟩ x).setCell ⟨b, 1, none⟩ y).setCell ⟨b, 2, none⟩ z).setCell ⟨b, 3, none⟩ u).heap[c]? = w.heap[c]? :=
  (heap_setCell_other _ _ _ _ h).trans ((heap_setCell_other _ _ _ _ h).trans ((heap_setCell_other _ _ _ _ h).trans (heap_setCell_other _ _ _ _ h)))
end Go.Proofs.YtmofclpheioepaaDoor
