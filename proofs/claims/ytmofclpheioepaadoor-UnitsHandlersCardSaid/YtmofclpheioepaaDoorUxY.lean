/- The law UnitsHandlers returns true, whatever the argument; condition: the listed package-level variables hold what the text lays. -/
import Derived.Test.YtmofclpheioepaaDoorUxO
import Derived.Test.YtmofclpheioepaaDoorUxV
namespace Go.Proofs.YtmofclpheioepaaDoor
open Go.RowKit
set_option linter.unusedVariables false
set_option linter.unusedSimpArgs false

theorem ret_bH {a b : Bool} (h : a = b) : Ending.returned (.bool a) = .returned (.bool b) := by rw [h]
theorem handM_nil (s : List Pw) : handM s [] = 0 := by simp [handM, evL, stsM]
theorem cellsN {w : World} {b : Nat} {cs : Array Value} {T : TypeId} (h : w.heap[b]? = some (.cells cs T (0, 0))) (j : Nat) : w.frozen? ⟨b, j, none⟩ = false := by simp [World.frozen?, h]
theorem nilR (w : World) : StsR w [] none := by unfold StsR; trivial
theorem solo0 (s : List Pw) (l : List St) : chkL s [l, [], [], [], []] 0 = if handM s l = 0 then (-1, 0) else (0, handM s l) := by
  by_cases h : handM s l = 0 <;> simp [chkL, handM_nil, h]
theorem setH0 {w : World} {b : Nat} {x v0 v1 v2 v3 v4 v5 v6 v7 v8 : Value} {T : TypeId} (h : w.heap[b]? = some (.cells #[v0, v1, v2, v3, v4, v5, v6, v7, v8] T (0, 0))) :
    (w.setCell ⟨b, 2, none⟩ x).heap[b]? = some (.cells #[v0, v1, x, v3, v4, v5, v6, v7, v8] T (0, 0)) := by rw [heap_setCell_same w b 2 _ _ _ h]; simp
/-- Check of a program with this handler alone -/
theorem soloC0 (vs : List Vr) (VA : Option Addr) (vm : Nat) (o : On) (a : OnA) (w : World) (hL : LaidW w) (hV : VarsR w vs VA) (hO : OnR w o a) {r : Int × Int} (hr : checkM (vs.map (·.u)) [o.l0, [], [], [], []] = r) :
    Calls Tryd.prog 13 #[.agg #[.string ⟨#[]⟩, .slice VA vs.length vm, .slice a.a0 o.l0.length a.m0, .slice none 0 0, .slice none 0 0, .slice none 0 0, .slice none 0 0, .int .i64 0, .int .i64 0]] w (VV (.tuple #[.int .i64 r.1, .int .i64 r.2]) w) := by
  have := Check_any ⟨#[]⟩ vs VA vm ⟨o.l0, [], [], [], []⟩ ⟨a.a0, none, none, none, none, a.m0, 0, 0, 0, 0⟩ 0 0 w hL hV ⟨hO.r0, nilR w, nilR w, nilR w, nilR w, hO.n0, Nat.zero_le _, Nat.zero_le _, Nat.zero_le _, Nat.zero_le _⟩
  rw [show (On.list ⟨o.l0, [], [], [], []⟩) = [o.l0, [], [], [], []] from rfl, hr] at this
  exact this
theorem solo1 (s : List Pw) (l : List St) : chkL s [[], l, [], [], []] 0 = if handM s l = 0 then (-1, 0) else (1, handM s l) := by
  by_cases h : handM s l = 0 <;> simp [chkL, handM_nil, h]
theorem setH1 {w : World} {b : Nat} {x v0 v1 v2 v3 v4 v5 v6 v7 v8 : Value} {T : TypeId} (h : w.heap[b]? = some (.cells #[v0, v1, v2, v3, v4, v5, v6, v7, v8] T (0, 0))) :
    (w.setCell ⟨b, 3, none⟩ x).heap[b]? = some (.cells #[v0, v1, v2, x, v4, v5, v6, v7, v8] T (0, 0)) := by rw [heap_setCell_same w b 3 _ _ _ h]; simp
/-- Check of a program with this handler alone -/
theorem soloC1 (vs : List Vr) (VA : Option Addr) (vm : Nat) (o : On) (a : OnA) (w : World) (hL : LaidW w) (hV : VarsR w vs VA) (hO : OnR w o a) {r : Int × Int} (hr : checkM (vs.map (·.u)) [[], o.l1, [], [], []] = r) :
    Calls Tryd.prog 13 #[.agg #[.string ⟨#[]⟩, .slice VA vs.length vm, .slice none 0 0, .slice a.a1 o.l1.length a.m1, .slice none 0 0, .slice none 0 0, .slice none 0 0, .int .i64 0, .int .i64 0]] w (VV (.tuple #[.int .i64 r.1, .int .i64 r.2]) w) := by
  have := Check_any ⟨#[]⟩ vs VA vm ⟨[], o.l1, [], [], []⟩ ⟨none, a.a1, none, none, none, 0, a.m1, 0, 0, 0⟩ 0 0 w hL hV ⟨nilR w, hO.r1, nilR w, nilR w, nilR w, Nat.zero_le _, hO.n1, Nat.zero_le _, Nat.zero_le _, Nat.zero_le _⟩
  rw [show (On.list ⟨[], o.l1, [], [], []⟩) = [[], o.l1, [], [], []] from rfl, hr] at this
  exact this
theorem solo2 (s : List Pw) (l : List St) : chkL s [[], [], l, [], []] 0 = if handM s l = 0 then (-1, 0) else (2, handM s l) := by
  by_cases h : handM s l = 0 <;> simp [chkL, handM_nil, h]
theorem setH2 {w : World} {b : Nat} {x v0 v1 v2 v3 v4 v5 v6 v7 v8 : Value} {T : TypeId} (h : w.heap[b]? = some (.cells #[v0, v1, v2, v3, v4, v5, v6, v7, v8] T (0, 0))) :
    (w.setCell ⟨b, 4, none⟩ x).heap[b]? = some (.cells #[v0, v1, v2, v3, x, v5, v6, v7, v8] T (0, 0)) := by rw [heap_setCell_same w b 4 _ _ _ h]; simp
/-- Check of a program with this handler alone -/
theorem soloC2 (vs : List Vr) (VA : Option Addr) (vm : Nat) (o : On) (a : OnA) (w : World) (hL : LaidW w) (hV : VarsR w vs VA) (hO : OnR w o a) {r : Int × Int} (hr : checkM (vs.map (·.u)) [[], [], o.l2, [], []] = r) :
    Calls Tryd.prog 13 #[.agg #[.string ⟨#[]⟩, .slice VA vs.length vm, .slice none 0 0, .slice none 0 0, .slice a.a2 o.l2.length a.m2, .slice none 0 0, .slice none 0 0, .int .i64 0, .int .i64 0]] w (VV (.tuple #[.int .i64 r.1, .int .i64 r.2]) w) := by
  have := Check_any ⟨#[]⟩ vs VA vm ⟨[], [], o.l2, [], []⟩ ⟨none, none, a.a2, none, none, 0, 0, a.m2, 0, 0⟩ 0 0 w hL hV ⟨nilR w, nilR w, hO.r2, nilR w, nilR w, Nat.zero_le _, Nat.zero_le _, hO.n2, Nat.zero_le _, Nat.zero_le _⟩
  rw [show (On.list ⟨[], [], o.l2, [], []⟩) = [[], [], o.l2, [], []] from rfl, hr] at this
  exact this
theorem solo3 (s : List Pw) (l : List St) : chkL s [[], [], [], l, []] 0 = if handM s l = 0 then (-1, 0) else (3, handM s l) := by
  by_cases h : handM s l = 0 <;> simp [chkL, handM_nil, h]
theorem setH3 {w : World} {b : Nat} {x v0 v1 v2 v3 v4 v5 v6 v7 v8 : Value} {T : TypeId} (h : w.heap[b]? = some (.cells #[v0, v1, v2, v3, v4, v5, v6, v7, v8] T (0, 0))) :
    (w.setCell ⟨b, 5, none⟩ x).heap[b]? = some (.cells #[v0, v1, v2, v3, v4, x, v6, v7, v8] T (0, 0)) := by rw [heap_setCell_same w b 5 _ _ _ h]; simp
/-- Check of a program with this handler alone -/
theorem soloC3 (vs : List Vr) (VA : Option Addr) (vm : Nat) (o : On) (a : OnA) (w : World) (hL : LaidW w) (hV : VarsR w vs VA) (hO : OnR w o a) {r : Int × Int} (hr : checkM (vs.map (·.u)) [[], [], [], o.l3, []] = r) :
    Calls Tryd.prog 13 #[.agg #[.string ⟨#[]⟩, .slice VA vs.length vm, .slice none 0 0, .slice none 0 0, .slice none 0 0, .slice a.a3 o.l3.length a.m3, .slice none 0 0, .int .i64 0, .int .i64 0]] w (VV (.tuple #[.int .i64 r.1, .int .i64 r.2]) w) := by
  have := Check_any ⟨#[]⟩ vs VA vm ⟨[], [], [], o.l3, []⟩ ⟨none, none, none, a.a3, none, 0, 0, 0, a.m3, 0⟩ 0 0 w hL hV ⟨nilR w, nilR w, nilR w, hO.r3, nilR w, Nat.zero_le _, Nat.zero_le _, Nat.zero_le _, hO.n3, Nat.zero_le _⟩
  rw [show (On.list ⟨[], [], [], o.l3, []⟩) = [[], [], [], o.l3, []] from rfl, hr] at this
  exact this
theorem solo4 (s : List Pw) (l : List St) : chkL s [[], [], [], [], l] 0 = if handM s l = 0 then (-1, 0) else (4, handM s l) := by
  by_cases h : handM s l = 0 <;> simp [chkL, handM_nil, h]
theorem setH4 {w : World} {b : Nat} {x v0 v1 v2 v3 v4 v5 v6 v7 v8 : Value} {T : TypeId} (h : w.heap[b]? = some (.cells #[v0, v1, v2, v3, v4, v5, v6, v7, v8] T (0, 0))) :
    (w.setCell ⟨b, 6, none⟩ x).heap[b]? = some (.cells #[v0, v1, v2, v3, v4, v5, x, v7, v8] T (0, 0)) := by rw [heap_setCell_same w b 6 _ _ _ h]; simp
/-- Check of a program with this handler alone -/
theorem soloC4 (vs : List Vr) (VA : Option Addr) (vm : Nat) (o : On) (a : OnA) (w : World) (hL : LaidW w) (hV : VarsR w vs VA) (hO : OnR w o a) {r : Int × Int} (hr : checkM (vs.map (·.u)) [[], [], [], [], o.l4] = r) :
    Calls Tryd.prog 13 #[.agg #[.string ⟨#[]⟩, .slice VA vs.length vm, .slice none 0 0, .slice none 0 0, .slice none 0 0, .slice none 0 0, .slice a.a4 o.l4.length a.m4, .int .i64 0, .int .i64 0]] w (VV (.tuple #[.int .i64 r.1, .int .i64 r.2]) w) := by
  have := Check_any ⟨#[]⟩ vs VA vm ⟨[], [], [], [], o.l4⟩ ⟨none, none, none, none, a.a4, 0, 0, 0, 0, a.m4⟩ 0 0 w hL hV ⟨nilR w, nilR w, nilR w, nilR w, hO.r4, Nat.zero_le _, Nat.zero_le _, Nat.zero_le _, Nat.zero_le _, hO.n4⟩
  rw [show (On.list ⟨[], [], [], [], o.l4⟩) = [[], [], [], [], o.l4] from rfl, hr] at this
  exact this
set_option maxHeartbeats 4000000 in
set_option maxRecDepth 100000 in
theorem UHandlers_any (x : ByteArray) (vs : List Vr) (VA : Option Addr) (vm : Nat) (o : On) (a : OnA) (wi pa : Int) (w : World) (hL : LaidW w) (hV : VarsR w vs VA) (hO : OnR w o a) :
    Calls Tryd.prog 6 #[pgv x VA vs.length vm o a wi pa] w (BB true w) := by
  have HX := Lib.hid (newBlk w (.cells (pgArr x VA vs.length vm o a wi pa) 26) _ rfl)
  have HB := Lib.hid ((Below.refl w.heap.size w).alloc (Nat.le_refl _) (.cells (pgArr x VA vs.length vm o a wi pa) 26))
  have HL := Lib.hid hL
  have HV := Lib.hid hV
  have HO := Lib.hid hO
  have HFew := Lib.hid (fun wx (h : Below w.heap.size w wx) => Few_any x VA vs.length vm o a wi pa wx (hO.below h))
  obtain ⟨⟨ri, re⟩, hr1⟩ : ∃ r, checkM (vs.map (·.u)) o.list = r := ⟨_, rfl⟩
  have HC := Lib.hid (fun wx (h : Below w.heap.size w wx) => by
    have := Check_any x vs VA vm o a wi pa wx (hL.below h) (hV.below h) (hO.below h)
    rw [hr1] at this
    exact this)
  clear hO
  obtain ⟨s0, s1, s2, s3, s4, s5, s6, s7, s8⟩ := cells9 HX.out
  have hx := blkLt HX.out
  cases hf : fewM vs.length x.size o with
  | false =>
    rw [hf] at HFew
    clear hf hV hr1 HC
    generalize vs.length = vn at *
    go_enter Tryd.func6, Tryd.ntmps6
    go_wp2_with (first
      | (go_at_call 8; refine (head_any _ (HL.out.below HB.out)).mono ?_; rintro e wn ⟨rfl, hbn⟩; have HX := Lib.hid ((hbn.block _ (by have := blkLt HX.out; simp; try omega)).trans HX.out); have HB := Lib.hid (HB.out.trans (hbn.mono HB.out.size)); clear s0 s1 s2 s3 s4 s5 s6 s7 s8 hx; obtain ⟨s0, s1, s2, s3, s4, s5, s6, s7, s8⟩ := cells9 HX.out; have hx := blkLt HX.out; clear hbn)
      | (go_at_call 9; refine (HFew.out _ HB.out).mono ?_; rintro e wn ⟨rfl, hbn⟩; have HX := Lib.hid ((hbn.block _ (by have := blkLt HX.out; simp; try omega)).trans HX.out); have HB := Lib.hid (HB.out.trans (hbn.mono HB.out.size)); clear s0 s1 s2 s3 s4 s5 s6 s7 s8 hx; obtain ⟨s0, s1, s2, s3, s4, s5, s6, s7, s8⟩ := cells9 HX.out; have hx := blkLt HX.out; clear hbn))
    go_ret
    exact ⟨rfl, HB.out⟩
  | true =>
    rw [hf] at HFew
    clear hf hV hL
    rcases hq : scopeM (vs.map (·.u)) with _ | s
    · obtain ⟨rfl, rfl⟩ : ri = 0 ∧ re = 1 := by
        simp only [checkM, hq, Prod.mk.injEq] at hr1
        exact ⟨hr1.1.symm, hr1.2.symm⟩
      have HJ := Lib.hid (fun wx (h : Below w.heap.size w wx) => soloC0 vs VA vm o a wx (HL.out.below h) (HV.out.below h) (HO.out.below h) (r := (0, 1)) (by simp only [checkM, hq]))
      clear hq hr1
      go_enter Tryd.func6, Tryd.ntmps6
      go_wp2_with (first
        | (go_at_call 8; refine (head_any _ (HL.out.below HB.out)).mono ?_; rintro e wn ⟨rfl, hbn⟩; have HX := Lib.hid ((hbn.block _ (by have := blkLt HX.out; simp; try omega)).trans HX.out); have HB := Lib.hid (HB.out.trans (hbn.mono HB.out.size)); clear s0 s1 s2 s3 s4 s5 s6 s7 s8 hx; obtain ⟨s0, s1, s2, s3, s4, s5, s6, s7, s8⟩ := cells9 HX.out; have hx := blkLt HX.out; clear hbn)
        | (go_at_call 9; refine (HFew.out _ HB.out).mono ?_; rintro e wn ⟨rfl, hbn⟩; have HX := Lib.hid ((hbn.block _ (by have := blkLt HX.out; simp; try omega)).trans HX.out); have HB := Lib.hid (HB.out.trans (hbn.mono HB.out.size)); clear s0 s1 s2 s3 s4 s5 s6 s7 s8 hx; obtain ⟨s0, s1, s2, s3, s4, s5, s6, s7, s8⟩ := cells9 HX.out; have hx := blkLt HX.out; clear hbn)
        | (go_at_call_of 13 (Value.string x); refine (HC.out _ HB.out).mono ?_; rintro e wn ⟨rfl, hbn⟩; have HX := Lib.hid ((hbn.block _ (by have := blkLt HX.out; simp; try omega)).trans HX.out); have HB := Lib.hid (HB.out.trans (hbn.mono HB.out.size)); clear s0 s1 s2 s3 s4 s5 s6 s7 s8 hx; obtain ⟨s0, s1, s2, s3, s4, s5, s6, s7, s8⟩ := cells9 HX.out; have hx := blkLt HX.out; clear hbn))
      go_loopg [7] 5 (fun gk i wr => gk = 5 ∧ i = .int .i64 0 ∧ Hid (Below w.heap.size w wr) ∧ Hid (wr.heap[w.heap.size]? = some (.cells (pgArr x VA vs.length vm o a wi pa) 26 (0, 0))))
      case atStart => exact ⟨rfl, rfl, HB, HX⟩
      case round =>
        obtain ⟨rfl, rfl, hW, hX⟩ := hrel
        clear HX HB s0 s1 s2 s3 s4 s5 s6 s7 s8 hx
        obtain ⟨s0, s1, s2, s3, s4, s5, s6, s7, s8⟩ := cells9 hX.out
        have hx := blkLt hX.out
        go_upto_region 11 with fail
        obtain ⟨W3, hW3⟩ : ∃ W3, W3 = (wr.alloc (.cells #[.string ⟨#[]⟩, .slice VA vs.length vm, .slice a.a0 o.l0.length a.m0, .slice none 0 0, .slice none 0 0, .slice none 0 0, .slice none 0 0, .int .i64 0, .int .i64 0] 26)) := ⟨_, rfl⟩
        rw [← hW3]
        have HY : Hid (W3.heap[wr.heap.size]? = some (.cells #[.string ⟨#[]⟩, .slice VA vs.length vm, .slice a.a0 o.l0.length a.m0, .slice none 0 0, .slice none 0 0, .slice none 0 0, .slice none 0 0, .int .i64 0, .int .i64 0] 26 (0, 0))) := Lib.hid (by rw [hW3]; exact newBlk _ _ _ rfl)
        have HX3 : Hid (W3.heap[w.heap.size]? = some (.cells (pgArr x VA vs.length vm o a wi pa) 26 (0, 0))) := Lib.hid (by rw [hW3]; exact (Below.heap_alloc _ _ _ hx).trans hX.out)
        have hB3 : Hid (Below w.heap.size w W3) := Lib.hid (by rw [hW3]; exact bAlloc hW.out)
        clear hW3 s0 s1 s2 s3 s4 s5 s6 s7 s8 hx
        obtain ⟨s0, s1, s2, s3, s4, s5, s6, s7, s8⟩ := cells9 HY.out
        have hx := blkLt HY.out
        go_wp2_with (go_at_call 13; refine (HJ.out _ hB3.out).mono ?_; rintro e w4 ⟨rfl, hb4⟩; have hB4 := Lib.hid (hB3.out.trans (hb4.mono hB3.out.size)); have HX4 := Lib.hid ((hb4.block _ (blkLt HX3.out)).trans HX3.out); clear hb4)
        go_ret
        exact ⟨rfl, hB4.out⟩
    · have hE0 : Hid (chkL s (o.list.drop 0) 0 = (ri, re)) := Lib.hid (by simpa only [checkM, hq, List.drop_zero] using hr1)
      clear hr1
      have HS0 := Lib.hid (fun wx (h : Below w.heap.size w wx) => soloC0 vs VA vm o a wx (HL.out.below h) (HV.out.below h) (HO.out.below h) (r := if handM s o.l0 = 0 then (-1, 0) else (0, handM s o.l0)) (by simp only [checkM, hq]; exact solo0 s o.l0))
      have HS1 := Lib.hid (fun wx (h : Below w.heap.size w wx) => soloC1 vs VA vm o a wx (HL.out.below h) (HV.out.below h) (HO.out.below h) (r := if handM s o.l1 = 0 then (-1, 0) else (1, handM s o.l1)) (by simp only [checkM, hq]; exact solo1 s o.l1))
      have HS2 := Lib.hid (fun wx (h : Below w.heap.size w wx) => soloC2 vs VA vm o a wx (HL.out.below h) (HV.out.below h) (HO.out.below h) (r := if handM s o.l2 = 0 then (-1, 0) else (2, handM s o.l2)) (by simp only [checkM, hq]; exact solo2 s o.l2))
      have HS3 := Lib.hid (fun wx (h : Below w.heap.size w wx) => soloC3 vs VA vm o a wx (HL.out.below h) (HV.out.below h) (HO.out.below h) (r := if handM s o.l3 = 0 then (-1, 0) else (3, handM s o.l3)) (by simp only [checkM, hq]; exact solo3 s o.l3))
      have HS4 := Lib.hid (fun wx (h : Below w.heap.size w wx) => soloC4 vs VA vm o a wx (HL.out.below h) (HV.out.below h) (HO.out.below h) (r := if handM s o.l4 = 0 then (-1, 0) else (4, handM s o.l4)) (by simp only [checkM, hq]; exact solo4 s o.l4))
      clear hq
      go_enter Tryd.func6, Tryd.ntmps6
      go_wp2_with (first
        | (go_at_call 8; refine (head_any _ (HL.out.below HB.out)).mono ?_; rintro e wn ⟨rfl, hbn⟩; have HX := Lib.hid ((hbn.block _ (by have := blkLt HX.out; simp; try omega)).trans HX.out); have HB := Lib.hid (HB.out.trans (hbn.mono HB.out.size)); clear s0 s1 s2 s3 s4 s5 s6 s7 s8 hx; obtain ⟨s0, s1, s2, s3, s4, s5, s6, s7, s8⟩ := cells9 HX.out; have hx := blkLt HX.out; clear hbn)
        | (go_at_call 9; refine (HFew.out _ HB.out).mono ?_; rintro e wn ⟨rfl, hbn⟩; have HX := Lib.hid ((hbn.block _ (by have := blkLt HX.out; simp; try omega)).trans HX.out); have HB := Lib.hid (HB.out.trans (hbn.mono HB.out.size)); clear s0 s1 s2 s3 s4 s5 s6 s7 s8 hx; obtain ⟨s0, s1, s2, s3, s4, s5, s6, s7, s8⟩ := cells9 HX.out; have hx := blkLt HX.out; clear hbn)
        | (go_at_call_of 13 (Value.string x); refine (HC.out _ HB.out).mono ?_; rintro e wn ⟨rfl, hbn⟩; have HX := Lib.hid ((hbn.block _ (by have := blkLt HX.out; simp; try omega)).trans HX.out); have HB := Lib.hid (HB.out.trans (hbn.mono HB.out.size)); clear s0 s1 s2 s3 s4 s5 s6 s7 s8 hx; obtain ⟨s0, s1, s2, s3, s4, s5, s6, s7, s8⟩ := cells9 HX.out; have hx := blkLt HX.out; clear hbn))
      go_loopg [7] 5 (fun gk i wr => ∃ (j : Nat), j + gk = 5 ∧ i = .int .i64 j ∧ Hid (chkL s (o.list.drop j) j = (ri, re)) ∧ Hid (Below w.heap.size w wr) ∧ Hid (wr.heap[w.heap.size]? = some (.cells (pgArr x VA vs.length vm o a wi pa) 26 (0, 0))))
      case atStart => exact ⟨0, rfl, rfl, hE0, HB, HX⟩
      case round =>
        obtain ⟨j, hj, rfl, hE, hW, hX⟩ := hrel
        clear HX HB s0 s1 s2 s3 s4 s5 s6 s7 s8 hx
        match j, hj with
        | 0, hj =>
          obtain rfl : gk = 5 := by omega
          have hE1 : (if handM s o.l0 = 0 then chkL s (o.list.drop 1) 1 else ((0 : Int), handM s o.l0)) = (ri, re) := hE.out
          have HJ := HS0
          clear hE HS0
          by_cases h0 : handM s o.l0 = 0
          · as_aux_lemma =>
              rw [if_pos h0] at hE1
              rw [if_pos h0] at HJ
              have hG := Lib.hid hE1
              clear hE1 h0
              obtain ⟨s0, s1, s2, s3, s4, s5, s6, s7, s8⟩ := cells9 hX.out
              have hx := blkLt hX.out
              go_upto_region 11 with fail
              obtain ⟨W3, hW3⟩ : ∃ W3, W3 = (wr.alloc (.cells #[.string ⟨#[]⟩, .slice VA vs.length vm, .slice a.a0 o.l0.length a.m0, .slice none 0 0, .slice none 0 0, .slice none 0 0, .slice none 0 0, .int .i64 0, .int .i64 0] 26)) := ⟨_, rfl⟩
              rw [← hW3]
              have HY : Hid (W3.heap[wr.heap.size]? = some (.cells #[.string ⟨#[]⟩, .slice VA vs.length vm, .slice a.a0 o.l0.length a.m0, .slice none 0 0, .slice none 0 0, .slice none 0 0, .slice none 0 0, .int .i64 0, .int .i64 0] 26 (0, 0))) := Lib.hid (by rw [hW3]; exact newBlk _ _ _ rfl)
              have HX3 : Hid (W3.heap[w.heap.size]? = some (.cells (pgArr x VA vs.length vm o a wi pa) 26 (0, 0))) := Lib.hid (by rw [hW3]; exact (Below.heap_alloc _ _ _ hx).trans hX.out)
              have hB3 : Hid (Below w.heap.size w W3) := Lib.hid (by rw [hW3]; exact bAlloc hW.out)
              clear hW3 s0 s1 s2 s3 s4 s5 s6 s7 s8 hx
              obtain ⟨s0, s1, s2, s3, s4, s5, s6, s7, s8⟩ := cells9 HY.out
              have hx := blkLt HY.out
              go_wp2_with (go_at_call 13; refine (HJ.out _ hB3.out).mono ?_; rintro e w4 ⟨rfl, hb4⟩; have hB4 := Lib.hid (hB3.out.trans (hb4.mono hB3.out.size)); have HX4 := Lib.hid ((hb4.block _ (blkLt HX3.out)).trans HX3.out); clear hb4)
              go_roundg 4
              case measure => omega
              case rel => exact ⟨1, by omega, by go_num, hG, hB4, HX4⟩
          · as_aux_lemma =>
              rw [if_neg h0] at hE1
              rw [if_neg h0] at HJ
              obtain ⟨h1, h2⟩ := Prod.mk.inj hE1
              subst h1 h2
              clear hE1
              have h0f : (handM s o.l0 == 0) = false := by simp [h0]
              generalize handM s o.l0 = er at *
              obtain ⟨s0, s1, s2, s3, s4, s5, s6, s7, s8⟩ := cells9 hX.out
              have hx := blkLt hX.out
              go_upto_region 11 with fail
              obtain ⟨W3, hW3⟩ : ∃ W3, W3 = (wr.alloc (.cells #[.string ⟨#[]⟩, .slice VA vs.length vm, .slice a.a0 o.l0.length a.m0, .slice none 0 0, .slice none 0 0, .slice none 0 0, .slice none 0 0, .int .i64 0, .int .i64 0] 26)) := ⟨_, rfl⟩
              rw [← hW3]
              have HY : Hid (W3.heap[wr.heap.size]? = some (.cells #[.string ⟨#[]⟩, .slice VA vs.length vm, .slice a.a0 o.l0.length a.m0, .slice none 0 0, .slice none 0 0, .slice none 0 0, .slice none 0 0, .int .i64 0, .int .i64 0] 26 (0, 0))) := Lib.hid (by rw [hW3]; exact newBlk _ _ _ rfl)
              have HX3 : Hid (W3.heap[w.heap.size]? = some (.cells (pgArr x VA vs.length vm o a wi pa) 26 (0, 0))) := Lib.hid (by rw [hW3]; exact (Below.heap_alloc _ _ _ hx).trans hX.out)
              have hB3 : Hid (Below w.heap.size w W3) := Lib.hid (by rw [hW3]; exact bAlloc hW.out)
              clear hW3 s0 s1 s2 s3 s4 s5 s6 s7 s8 hx
              obtain ⟨s0, s1, s2, s3, s4, s5, s6, s7, s8⟩ := cells9 HY.out
              have hx := blkLt HY.out
              go_wp2_with (go_at_call 13; refine (HJ.out _ hB3.out).mono ?_; rintro e w4 ⟨rfl, hb4⟩; have hB4 := Lib.hid (hB3.out.trans (hb4.mono hB3.out.size)); have HX4 := Lib.hid ((hb4.block _ (blkLt HX3.out)).trans HX3.out); clear hb4)
              go_ret
              exact ⟨ret_bH (by simp), hB4.out⟩
        | 1, hj =>
          obtain rfl : gk = 4 := by omega
          have hE1 : (if handM s o.l1 = 0 then chkL s (o.list.drop 2) 2 else ((1 : Int), handM s o.l1)) = (ri, re) := hE.out
          have HJ := HS1
          clear hE HS1
          by_cases h0 : handM s o.l1 = 0
          · as_aux_lemma =>
              rw [if_pos h0] at hE1
              rw [if_pos h0] at HJ
              have hG := Lib.hid hE1
              clear hE1 h0
              obtain ⟨s0, s1, s2, s3, s4, s5, s6, s7, s8⟩ := cells9 hX.out
              have hx := blkLt hX.out
              go_upto_region 11 with fail
              obtain ⟨W3, hW3⟩ : ∃ W3, W3 = (wr.alloc (.cells #[.string ⟨#[]⟩, .slice VA vs.length vm, .slice none 0 0, .slice a.a1 o.l1.length a.m1, .slice none 0 0, .slice none 0 0, .slice none 0 0, .int .i64 0, .int .i64 0] 26)) := ⟨_, rfl⟩
              rw [← hW3]
              have HY : Hid (W3.heap[wr.heap.size]? = some (.cells #[.string ⟨#[]⟩, .slice VA vs.length vm, .slice none 0 0, .slice a.a1 o.l1.length a.m1, .slice none 0 0, .slice none 0 0, .slice none 0 0, .int .i64 0, .int .i64 0] 26 (0, 0))) := Lib.hid (by rw [hW3]; exact newBlk _ _ _ rfl)
              have HX3 : Hid (W3.heap[w.heap.size]? = some (.cells (pgArr x VA vs.length vm o a wi pa) 26 (0, 0))) := Lib.hid (by rw [hW3]; exact (Below.heap_alloc _ _ _ hx).trans hX.out)
              have hB3 : Hid (Below w.heap.size w W3) := Lib.hid (by rw [hW3]; exact bAlloc hW.out)
              clear hW3 s0 s1 s2 s3 s4 s5 s6 s7 s8 hx
              obtain ⟨s0, s1, s2, s3, s4, s5, s6, s7, s8⟩ := cells9 HY.out
              have hx := blkLt HY.out
              go_wp2_with (go_at_call 13; refine (HJ.out _ hB3.out).mono ?_; rintro e w4 ⟨rfl, hb4⟩; have hB4 := Lib.hid (hB3.out.trans (hb4.mono hB3.out.size)); have HX4 := Lib.hid ((hb4.block _ (blkLt HX3.out)).trans HX3.out); clear hb4)
              go_roundg 3
              case measure => omega
              case rel => exact ⟨2, by omega, by go_num, hG, hB4, HX4⟩
          · as_aux_lemma =>
              rw [if_neg h0] at hE1
              rw [if_neg h0] at HJ
              obtain ⟨h1, h2⟩ := Prod.mk.inj hE1
              subst h1 h2
              clear hE1
              have h0f : (handM s o.l1 == 0) = false := by simp [h0]
              generalize handM s o.l1 = er at *
              obtain ⟨s0, s1, s2, s3, s4, s5, s6, s7, s8⟩ := cells9 hX.out
              have hx := blkLt hX.out
              go_upto_region 11 with fail
              obtain ⟨W3, hW3⟩ : ∃ W3, W3 = (wr.alloc (.cells #[.string ⟨#[]⟩, .slice VA vs.length vm, .slice none 0 0, .slice a.a1 o.l1.length a.m1, .slice none 0 0, .slice none 0 0, .slice none 0 0, .int .i64 0, .int .i64 0] 26)) := ⟨_, rfl⟩
              rw [← hW3]
              have HY : Hid (W3.heap[wr.heap.size]? = some (.cells #[.string ⟨#[]⟩, .slice VA vs.length vm, .slice none 0 0, .slice a.a1 o.l1.length a.m1, .slice none 0 0, .slice none 0 0, .slice none 0 0, .int .i64 0, .int .i64 0] 26 (0, 0))) := Lib.hid (by rw [hW3]; exact newBlk _ _ _ rfl)
              have HX3 : Hid (W3.heap[w.heap.size]? = some (.cells (pgArr x VA vs.length vm o a wi pa) 26 (0, 0))) := Lib.hid (by rw [hW3]; exact (Below.heap_alloc _ _ _ hx).trans hX.out)
              have hB3 : Hid (Below w.heap.size w W3) := Lib.hid (by rw [hW3]; exact bAlloc hW.out)
              clear hW3 s0 s1 s2 s3 s4 s5 s6 s7 s8 hx
              obtain ⟨s0, s1, s2, s3, s4, s5, s6, s7, s8⟩ := cells9 HY.out
              have hx := blkLt HY.out
              go_wp2_with (go_at_call 13; refine (HJ.out _ hB3.out).mono ?_; rintro e w4 ⟨rfl, hb4⟩; have hB4 := Lib.hid (hB3.out.trans (hb4.mono hB3.out.size)); have HX4 := Lib.hid ((hb4.block _ (blkLt HX3.out)).trans HX3.out); clear hb4)
              go_ret
              exact ⟨ret_bH (by simp), hB4.out⟩
        | 2, hj =>
          obtain rfl : gk = 3 := by omega
          have hE1 : (if handM s o.l2 = 0 then chkL s (o.list.drop 3) 3 else ((2 : Int), handM s o.l2)) = (ri, re) := hE.out
          have HJ := HS2
          clear hE HS2
          by_cases h0 : handM s o.l2 = 0
          · as_aux_lemma =>
              rw [if_pos h0] at hE1
              rw [if_pos h0] at HJ
              have hG := Lib.hid hE1
              clear hE1 h0
              obtain ⟨s0, s1, s2, s3, s4, s5, s6, s7, s8⟩ := cells9 hX.out
              have hx := blkLt hX.out
              go_upto_region 11 with fail
              obtain ⟨W3, hW3⟩ : ∃ W3, W3 = (wr.alloc (.cells #[.string ⟨#[]⟩, .slice VA vs.length vm, .slice none 0 0, .slice none 0 0, .slice a.a2 o.l2.length a.m2, .slice none 0 0, .slice none 0 0, .int .i64 0, .int .i64 0] 26)) := ⟨_, rfl⟩
              rw [← hW3]
              have HY : Hid (W3.heap[wr.heap.size]? = some (.cells #[.string ⟨#[]⟩, .slice VA vs.length vm, .slice none 0 0, .slice none 0 0, .slice a.a2 o.l2.length a.m2, .slice none 0 0, .slice none 0 0, .int .i64 0, .int .i64 0] 26 (0, 0))) := Lib.hid (by rw [hW3]; exact newBlk _ _ _ rfl)
              have HX3 : Hid (W3.heap[w.heap.size]? = some (.cells (pgArr x VA vs.length vm o a wi pa) 26 (0, 0))) := Lib.hid (by rw [hW3]; exact (Below.heap_alloc _ _ _ hx).trans hX.out)
              have hB3 : Hid (Below w.heap.size w W3) := Lib.hid (by rw [hW3]; exact bAlloc hW.out)
              clear hW3 s0 s1 s2 s3 s4 s5 s6 s7 s8 hx
              obtain ⟨s0, s1, s2, s3, s4, s5, s6, s7, s8⟩ := cells9 HY.out
              have hx := blkLt HY.out
              go_wp2_with (go_at_call 13; refine (HJ.out _ hB3.out).mono ?_; rintro e w4 ⟨rfl, hb4⟩; have hB4 := Lib.hid (hB3.out.trans (hb4.mono hB3.out.size)); have HX4 := Lib.hid ((hb4.block _ (blkLt HX3.out)).trans HX3.out); clear hb4)
              go_roundg 2
              case measure => omega
              case rel => exact ⟨3, by omega, by go_num, hG, hB4, HX4⟩
          · as_aux_lemma =>
              rw [if_neg h0] at hE1
              rw [if_neg h0] at HJ
              obtain ⟨h1, h2⟩ := Prod.mk.inj hE1
              subst h1 h2
              clear hE1
              have h0f : (handM s o.l2 == 0) = false := by simp [h0]
              generalize handM s o.l2 = er at *
              obtain ⟨s0, s1, s2, s3, s4, s5, s6, s7, s8⟩ := cells9 hX.out
              have hx := blkLt hX.out
              go_upto_region 11 with fail
              obtain ⟨W3, hW3⟩ : ∃ W3, W3 = (wr.alloc (.cells #[.string ⟨#[]⟩, .slice VA vs.length vm, .slice none 0 0, .slice none 0 0, .slice a.a2 o.l2.length a.m2, .slice none 0 0, .slice none 0 0, .int .i64 0, .int .i64 0] 26)) := ⟨_, rfl⟩
              rw [← hW3]
              have HY : Hid (W3.heap[wr.heap.size]? = some (.cells #[.string ⟨#[]⟩, .slice VA vs.length vm, .slice none 0 0, .slice none 0 0, .slice a.a2 o.l2.length a.m2, .slice none 0 0, .slice none 0 0, .int .i64 0, .int .i64 0] 26 (0, 0))) := Lib.hid (by rw [hW3]; exact newBlk _ _ _ rfl)
              have HX3 : Hid (W3.heap[w.heap.size]? = some (.cells (pgArr x VA vs.length vm o a wi pa) 26 (0, 0))) := Lib.hid (by rw [hW3]; exact (Below.heap_alloc _ _ _ hx).trans hX.out)
              have hB3 : Hid (Below w.heap.size w W3) := Lib.hid (by rw [hW3]; exact bAlloc hW.out)
              clear hW3 s0 s1 s2 s3 s4 s5 s6 s7 s8 hx
              obtain ⟨s0, s1, s2, s3, s4, s5, s6, s7, s8⟩ := cells9 HY.out
              have hx := blkLt HY.out
              go_wp2_with (go_at_call 13; refine (HJ.out _ hB3.out).mono ?_; rintro e w4 ⟨rfl, hb4⟩; have hB4 := Lib.hid (hB3.out.trans (hb4.mono hB3.out.size)); have HX4 := Lib.hid ((hb4.block _ (blkLt HX3.out)).trans HX3.out); clear hb4)
              go_ret
              exact ⟨ret_bH (by simp), hB4.out⟩
        | 3, hj =>
          obtain rfl : gk = 2 := by omega
          have hE1 : (if handM s o.l3 = 0 then chkL s (o.list.drop 4) 4 else ((3 : Int), handM s o.l3)) = (ri, re) := hE.out
          have HJ := HS3
          clear hE HS3
          by_cases h0 : handM s o.l3 = 0
          · as_aux_lemma =>
              rw [if_pos h0] at hE1
              rw [if_pos h0] at HJ
              have hG := Lib.hid hE1
              clear hE1 h0
              obtain ⟨s0, s1, s2, s3, s4, s5, s6, s7, s8⟩ := cells9 hX.out
              have hx := blkLt hX.out
              go_upto_region 11 with fail
              obtain ⟨W3, hW3⟩ : ∃ W3, W3 = (wr.alloc (.cells #[.string ⟨#[]⟩, .slice VA vs.length vm, .slice none 0 0, .slice none 0 0, .slice none 0 0, .slice a.a3 o.l3.length a.m3, .slice none 0 0, .int .i64 0, .int .i64 0] 26)) := ⟨_, rfl⟩
              rw [← hW3]
              have HY : Hid (W3.heap[wr.heap.size]? = some (.cells #[.string ⟨#[]⟩, .slice VA vs.length vm, .slice none 0 0, .slice none 0 0, .slice none 0 0, .slice a.a3 o.l3.length a.m3, .slice none 0 0, .int .i64 0, .int .i64 0] 26 (0, 0))) := Lib.hid (by rw [hW3]; exact newBlk _ _ _ rfl)
              have HX3 : Hid (W3.heap[w.heap.size]? = some (.cells (pgArr x VA vs.length vm o a wi pa) 26 (0, 0))) := Lib.hid (by rw [hW3]; exact (Below.heap_alloc _ _ _ hx).trans hX.out)
              have hB3 : Hid (Below w.heap.size w W3) := Lib.hid (by rw [hW3]; exact bAlloc hW.out)
              clear hW3 s0 s1 s2 s3 s4 s5 s6 s7 s8 hx
              obtain ⟨s0, s1, s2, s3, s4, s5, s6, s7, s8⟩ := cells9 HY.out
              have hx := blkLt HY.out
              go_wp2_with (go_at_call 13; refine (HJ.out _ hB3.out).mono ?_; rintro e w4 ⟨rfl, hb4⟩; have hB4 := Lib.hid (hB3.out.trans (hb4.mono hB3.out.size)); have HX4 := Lib.hid ((hb4.block _ (blkLt HX3.out)).trans HX3.out); clear hb4)
              go_roundg 1
              case measure => omega
              case rel => exact ⟨4, by omega, by go_num, hG, hB4, HX4⟩
          · as_aux_lemma =>
              rw [if_neg h0] at hE1
              rw [if_neg h0] at HJ
              obtain ⟨h1, h2⟩ := Prod.mk.inj hE1
              subst h1 h2
              clear hE1
              have h0f : (handM s o.l3 == 0) = false := by simp [h0]
              generalize handM s o.l3 = er at *
              obtain ⟨s0, s1, s2, s3, s4, s5, s6, s7, s8⟩ := cells9 hX.out
              have hx := blkLt hX.out
              go_upto_region 11 with fail
              obtain ⟨W3, hW3⟩ : ∃ W3, W3 = (wr.alloc (.cells #[.string ⟨#[]⟩, .slice VA vs.length vm, .slice none 0 0, .slice none 0 0, .slice none 0 0, .slice a.a3 o.l3.length a.m3, .slice none 0 0, .int .i64 0, .int .i64 0] 26)) := ⟨_, rfl⟩
              rw [← hW3]
              have HY : Hid (W3.heap[wr.heap.size]? = some (.cells #[.string ⟨#[]⟩, .slice VA vs.length vm, .slice none 0 0, .slice none 0 0, .slice none 0 0, .slice a.a3 o.l3.length a.m3, .slice none 0 0, .int .i64 0, .int .i64 0] 26 (0, 0))) := Lib.hid (by rw [hW3]; exact newBlk _ _ _ rfl)
              have HX3 : Hid (W3.heap[w.heap.size]? = some (.cells (pgArr x VA vs.length vm o a wi pa) 26 (0, 0))) := Lib.hid (by rw [hW3]; exact (Below.heap_alloc _ _ _ hx).trans hX.out)
              have hB3 : Hid (Below w.heap.size w W3) := Lib.hid (by rw [hW3]; exact bAlloc hW.out)
              clear hW3 s0 s1 s2 s3 s4 s5 s6 s7 s8 hx
              obtain ⟨s0, s1, s2, s3, s4, s5, s6, s7, s8⟩ := cells9 HY.out
              have hx := blkLt HY.out
              go_wp2_with (go_at_call 13; refine (HJ.out _ hB3.out).mono ?_; rintro e w4 ⟨rfl, hb4⟩; have hB4 := Lib.hid (hB3.out.trans (hb4.mono hB3.out.size)); have HX4 := Lib.hid ((hb4.block _ (blkLt HX3.out)).trans HX3.out); clear hb4)
              go_ret
              exact ⟨ret_bH (by simp), hB4.out⟩
        | 4, hj =>
          obtain rfl : gk = 1 := by omega
          have hE1 : (if handM s o.l4 = 0 then chkL s (o.list.drop 5) 5 else ((4 : Int), handM s o.l4)) = (ri, re) := hE.out
          have HJ := HS4
          clear hE HS4
          by_cases h0 : handM s o.l4 = 0
          · as_aux_lemma =>
              rw [if_pos h0] at hE1
              rw [if_pos h0] at HJ
              have hG := Lib.hid hE1
              clear hE1 h0
              obtain ⟨s0, s1, s2, s3, s4, s5, s6, s7, s8⟩ := cells9 hX.out
              have hx := blkLt hX.out
              go_upto_region 11 with fail
              obtain ⟨W3, hW3⟩ : ∃ W3, W3 = (wr.alloc (.cells #[.string ⟨#[]⟩, .slice VA vs.length vm, .slice none 0 0, .slice none 0 0, .slice none 0 0, .slice none 0 0, .slice a.a4 o.l4.length a.m4, .int .i64 0, .int .i64 0] 26)) := ⟨_, rfl⟩
              rw [← hW3]
              have HY : Hid (W3.heap[wr.heap.size]? = some (.cells #[.string ⟨#[]⟩, .slice VA vs.length vm, .slice none 0 0, .slice none 0 0, .slice none 0 0, .slice none 0 0, .slice a.a4 o.l4.length a.m4, .int .i64 0, .int .i64 0] 26 (0, 0))) := Lib.hid (by rw [hW3]; exact newBlk _ _ _ rfl)
              have HX3 : Hid (W3.heap[w.heap.size]? = some (.cells (pgArr x VA vs.length vm o a wi pa) 26 (0, 0))) := Lib.hid (by rw [hW3]; exact (Below.heap_alloc _ _ _ hx).trans hX.out)
              have hB3 : Hid (Below w.heap.size w W3) := Lib.hid (by rw [hW3]; exact bAlloc hW.out)
              clear hW3 s0 s1 s2 s3 s4 s5 s6 s7 s8 hx
              obtain ⟨s0, s1, s2, s3, s4, s5, s6, s7, s8⟩ := cells9 HY.out
              have hx := blkLt HY.out
              go_wp2_with (go_at_call 13; refine (HJ.out _ hB3.out).mono ?_; rintro e w4 ⟨rfl, hb4⟩; have hB4 := Lib.hid (hB3.out.trans (hb4.mono hB3.out.size)); have HX4 := Lib.hid ((hb4.block _ (blkLt HX3.out)).trans HX3.out); clear hb4)
              go_roundg 0
              case measure => omega
              case rel => exact ⟨5, by omega, by go_num, hG, hB4, HX4⟩
          · as_aux_lemma =>
              rw [if_neg h0] at hE1
              rw [if_neg h0] at HJ
              obtain ⟨h1, h2⟩ := Prod.mk.inj hE1
              subst h1 h2
              clear hE1
              have h0f : (handM s o.l4 == 0) = false := by simp [h0]
              generalize handM s o.l4 = er at *
              obtain ⟨s0, s1, s2, s3, s4, s5, s6, s7, s8⟩ := cells9 hX.out
              have hx := blkLt hX.out
              go_upto_region 11 with fail
              obtain ⟨W3, hW3⟩ : ∃ W3, W3 = (wr.alloc (.cells #[.string ⟨#[]⟩, .slice VA vs.length vm, .slice none 0 0, .slice none 0 0, .slice none 0 0, .slice none 0 0, .slice a.a4 o.l4.length a.m4, .int .i64 0, .int .i64 0] 26)) := ⟨_, rfl⟩
              rw [← hW3]
              have HY : Hid (W3.heap[wr.heap.size]? = some (.cells #[.string ⟨#[]⟩, .slice VA vs.length vm, .slice none 0 0, .slice none 0 0, .slice none 0 0, .slice none 0 0, .slice a.a4 o.l4.length a.m4, .int .i64 0, .int .i64 0] 26 (0, 0))) := Lib.hid (by rw [hW3]; exact newBlk _ _ _ rfl)
              have HX3 : Hid (W3.heap[w.heap.size]? = some (.cells (pgArr x VA vs.length vm o a wi pa) 26 (0, 0))) := Lib.hid (by rw [hW3]; exact (Below.heap_alloc _ _ _ hx).trans hX.out)
              have hB3 : Hid (Below w.heap.size w W3) := Lib.hid (by rw [hW3]; exact bAlloc hW.out)
              clear hW3 s0 s1 s2 s3 s4 s5 s6 s7 s8 hx
              obtain ⟨s0, s1, s2, s3, s4, s5, s6, s7, s8⟩ := cells9 HY.out
              have hx := blkLt HY.out
              go_wp2_with (go_at_call 13; refine (HJ.out _ hB3.out).mono ?_; rintro e w4 ⟨rfl, hb4⟩; have hB4 := Lib.hid (hB3.out.trans (hb4.mono hB3.out.size)); have HX4 := Lib.hid ((hb4.block _ (blkLt HX3.out)).trans HX3.out); clear hb4)
              go_ret
              exact ⟨ret_bH (by simp), hB4.out⟩
        | 5, hj =>
          obtain rfl : gk = 0 := by omega
          have hE1 : ((-1 : Int), (0 : Int)) = (ri, re) := hE.out
          obtain ⟨h1, h2⟩ := Prod.mk.inj hE1
          subst h1 h2
          clear hE hE1
          go_wp2_with fail
          go_ret
          exact ⟨rfl, hW.out⟩
        | j + 6, hj => omega
end Go.Proofs.YtmofclpheioepaaDoor
