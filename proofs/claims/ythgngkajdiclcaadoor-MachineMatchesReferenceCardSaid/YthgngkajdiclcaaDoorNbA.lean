/- Package machine: a machine in memory; between, isValue, push, pop, operands, floor. -/
import Derived.Test.YthgngkajdiclcaaDoorNaA
import Derived.Test.YthgngkajdiclcaaDoorKyC
namespace Go.Proofs.YthgngkajdiclcaaDoor
open Go.RowKit
set_option linter.unusedVariables false
set_option linter.unusedSimpArgs false
namespace N
open K
theorem ret_int {k : IntKind} {a b : Int} (h : a = b) : Ending.returned (.int k a) = .returned (.int k b) := by rw [h]
theorem ret_bool {a b : Bool} (h : a = b) : Ending.returned (.bool a) = .returned (.bool b) := by rw [h]
/-- the stack's cells, its top first -/
def Stk (cs : Array Value) : List Int → Prop
  | [] => True
  | n :: r => cs[6 + r.length]? = some (.int .i64 n) ∧ Stk cs r
theorem Stk.set {cs : Array Value} {i : Nat} {v : Value} : ∀ {s : List Int}, Stk cs s → 6 + s.length ≤ i → Stk (cs.setIfInBounds i v) s
  | [], _, _ => trivial
  | n :: r, h, hi => by
    simp only [List.length_cons] at hi
    exact ⟨by rw [Array.getElem?_setIfInBounds_ne (by omega)]; exact h.1, Stk.set h.2 (by omega)⟩
/-- what the cells of a machine hold -/
structure MC (cs : Array Value) (VS SS : Value) (i0 i1 i2 i3 : Int) (s : List Int) : Prop where
  size : cs.size = 71
  c0 : cs[0]? = some VS
  c1 : cs[1]? = some SS
  c2 : cs[2]? = some (.int .i64 i0)
  c3 : cs[3]? = some (.int .i64 i1)
  c4 : cs[4]? = some (.int .i64 i2)
  c5 : cs[5]? = some (.int .i64 i3)
  c70 : cs[70]? = some (.int .i64 s.length)
  stk : Stk cs s
  hl : s.length ≤ 64
theorem MC.put {cs : Array Value} {VS SS : Value} {i0 i1 i2 i3 : Int} {s : List Int} (h : MC cs VS SS i0 i1 i2 i3 s) (n : Int) (hl : s.length < 64) : MC ((cs.setIfInBounds (6 + s.length) (.int .i64 n)).setIfInBounds 70 (.int .i64 ((s.length : Int) + 1))) VS SS i0 i1 i2 i3 (n :: s) := by
  have hs := h.size
  refine ⟨by simp [hs], ?_, ?_, ?_, ?_, ?_, ?_, ?_, ⟨?_, ?_⟩, by simp; omega⟩
  · rw [Array.getElem?_setIfInBounds_ne (by omega), Array.getElem?_setIfInBounds_ne (by omega)]; exact h.c0
  · rw [Array.getElem?_setIfInBounds_ne (by omega), Array.getElem?_setIfInBounds_ne (by omega)]; exact h.c1
  · rw [Array.getElem?_setIfInBounds_ne (by omega), Array.getElem?_setIfInBounds_ne (by omega)]; exact h.c2
  · rw [Array.getElem?_setIfInBounds_ne (by omega), Array.getElem?_setIfInBounds_ne (by omega)]; exact h.c3
  · rw [Array.getElem?_setIfInBounds_ne (by omega), Array.getElem?_setIfInBounds_ne (by omega)]; exact h.c4
  · rw [Array.getElem?_setIfInBounds_ne (by omega), Array.getElem?_setIfInBounds_ne (by omega)]; exact h.c5
  · rw [Array.getElem?_setIfInBounds_self_of_lt (by simp; omega)]; simp
  · rw [Array.getElem?_setIfInBounds_ne (by omega), Array.getElem?_setIfInBounds_self_of_lt (by omega)]
  · exact Stk.set (Stk.set h.stk (Nat.le_refl _)) (by omega)
theorem MC.take {cs : Array Value} {VS SS : Value} {i0 i1 i2 i3 n : Int} {s : List Int} (h : MC cs VS SS i0 i1 i2 i3 (n :: s)) : MC (cs.setIfInBounds 70 (.int .i64 s.length)) VS SS i0 i1 i2 i3 s := by
  have hs := h.size
  have hl := h.hl
  simp only [List.length_cons] at hl
  refine ⟨by simp [hs], ?_, ?_, ?_, ?_, ?_, ?_, ?_, Stk.set h.stk.2 (by omega), by omega⟩
  · rw [Array.getElem?_setIfInBounds_ne (by omega)]; exact h.c0
  · rw [Array.getElem?_setIfInBounds_ne (by omega)]; exact h.c1
  · rw [Array.getElem?_setIfInBounds_ne (by omega)]; exact h.c2
  · rw [Array.getElem?_setIfInBounds_ne (by omega)]; exact h.c3
  · rw [Array.getElem?_setIfInBounds_ne (by omega)]; exact h.c4
  · rw [Array.getElem?_setIfInBounds_ne (by omega)]; exact h.c5
  · rw [Array.getElem?_setIfInBounds_self_of_lt (by omega)]
/-- a machine at a block -/
def MAt (w : World) (b : Nat) (VS SS : Value) (i0 i1 i2 i3 : Int) (s : List Int) : Prop := ∃ cs, w.heap[b]? = some (.cells cs 54 (0, 0)) ∧ MC cs VS SS i0 i1 i2 i3 s
theorem MAt.keep {w w' : World} {b : Nat} {VS SS : Value} {i0 i1 i2 i3 : Int} {s : List Int} (h : MAt w b VS SS i0 i1 i2 i3 s) (hk : w'.heap[b]? = w.heap[b]?) : MAt w' b VS SS i0 i1 i2 i3 s := by
  obtain ⟨cs, h1, h2⟩ := h
  exact ⟨cs, hk.trans h1, h2⟩
theorem MAt.lt {w : World} {b : Nat} {VS SS : Value} {i0 i1 i2 i3 : Int} {s : List Int} (h : MAt w b VS SS i0 i1 i2 i3 s) : b < w.heap.size := by
  obtain ⟨cs, h1, h2⟩ := h
  exact blkLt h1
theorem MAt.gr {w w' : World} {b : Nat} {VS SS : Value} {i0 i1 i2 i3 : Int} {s : List Int} (h : MAt w b VS SS i0 i1 i2 i3 s) (hg : Gr w w') : MAt w' b VS SS i0 i1 i2 i3 s := h.keep (hg.block _ h.lt)
theorem MAt.cells {w : World} {b : Nat} {VS SS : Value} {i0 i1 i2 i3 : Int} {s : List Int} (h : MAt w b VS SS i0 i1 i2 i3 s) :
    w.cell? ⟨b, 0, none⟩ = some VS ∧ w.cell? ⟨b, 1, none⟩ = some SS ∧ w.cell? ⟨b, 2, none⟩ = some (.int .i64 i0) ∧ w.cell? ⟨b, 3, none⟩ = some (.int .i64 i1) ∧ w.cell? ⟨b, 4, none⟩ = some (.int .i64 i2) ∧ w.cell? ⟨b, 5, none⟩ = some (.int .i64 i3) ∧ w.cell? ⟨b, 70, none⟩ = some (.int .i64 s.length) := by
  obtain ⟨cs, h1, h2⟩ := h
  have e : ∀ j, w.cell? ⟨b, j, none⟩ = cs[j]? := fun j => cell_of_row _ _ j _ _ (0, 0) h1
  exact ⟨(e 0).trans h2.c0, (e 1).trans h2.c1, (e 2).trans h2.c2, (e 3).trans h2.c3, (e 4).trans h2.c4, (e 5).trans h2.c5, (e 70).trans h2.c70⟩
theorem MAt.fz {w : World} {b : Nat} {VS SS : Value} {i0 i1 i2 i3 : Int} {s : List Int} (h : MAt w b VS SS i0 i1 i2 i3 s) (i : Nat) : w.frozen? ⟨b, i, none⟩ = false := by
  obtain ⟨cs, h1, h2⟩ := h
  simp [World.frozen?, h1]
theorem MAt.any {w : World} {b : Nat} {VS SS : Value} {i0 i1 i2 i3 : Int} {s : List Int} (h : MAt w b VS SS i0 i1 i2 i3 s) (i : Nat) (hi : i < 71) : ∃ u, w.cell? ⟨b, i, none⟩ = some u := by
  obtain ⟨cs, h1, h2⟩ := h
  have hs := h2.size
  exact ⟨cs[i], by rw [cell_of_row _ _ i _ _ (0, 0) h1]; simp⟩
theorem MAt.top {w : World} {b : Nat} {VS SS : Value} {i0 i1 i2 i3 n : Int} {s : List Int} (h : MAt w b VS SS i0 i1 i2 i3 (n :: s)) : w.cell? ⟨b, 6 + s.length, none⟩ = some (.int .i64 n) := by
  obtain ⟨cs, h1, h2⟩ := h
  rw [cell_of_row _ _ _ _ _ (0, 0) h1]
  exact h2.stk.1
/-- a number is written above the stack -/
def MMid (w : World) (b : Nat) (VS SS : Value) (i0 i1 i2 i3 : Int) (s : List Int) (n : Int) : Prop := ∃ cs : Array Value, w.heap[b]? = some (.cells (cs.setIfInBounds (6 + s.length) (.int .i64 n)) 54 (0, 0)) ∧ MC cs VS SS i0 i1 i2 i3 s
theorem MMid.gr {w w' : World} {b : Nat} {VS SS : Value} {i0 i1 i2 i3 n : Int} {s : List Int} (h : MMid w b VS SS i0 i1 i2 i3 s n) (hg : Gr w w') : MMid w' b VS SS i0 i1 i2 i3 s n := by
  obtain ⟨cs, h1, h2⟩ := h
  exact ⟨cs, grBlk hg h1, h2⟩
theorem MAt.mid {w : World} {b : Nat} {VS SS : Value} {i0 i1 i2 i3 : Int} {s : List Int} (h : MAt w b VS SS i0 i1 i2 i3 s) (n : Int) : MMid (w.setCell ⟨b, 6 + s.length, none⟩ (.int .i64 n)) b VS SS i0 i1 i2 i3 s n := by
  obtain ⟨cs, h1, h2⟩ := h
  exact ⟨cs, by rw [heap_setCell_same w b _ _ _ _ h1], h2⟩
theorem MMid.fin {w : World} {b : Nat} {VS SS : Value} {i0 i1 i2 i3 n : Int} {s : List Int} (h : MMid w b VS SS i0 i1 i2 i3 s n) (hl : s.length < 64) :
    w.cell? ⟨b, 70, none⟩ = some (.int .i64 s.length) ∧ w.frozen? ⟨b, 70, none⟩ = false ∧ MAt (w.setCell ⟨b, 70, none⟩ (.int .i64 ((s.length : Int) + 1))) b VS SS i0 i1 i2 i3 (n :: s) := by
  obtain ⟨cs, h1, h2⟩ := h
  refine ⟨?_, by simp [World.frozen?, h1], _, by rw [heap_setCell_same _ b 70 _ _ _ h1], h2.put n hl⟩
  rw [cell_of_row _ _ 70 _ _ (0, 0) h1, Array.getElem?_setIfInBounds_ne (by omega)]
  exact h2.c70
theorem MAt.take {w : World} {b : Nat} {VS SS : Value} {i0 i1 i2 i3 n : Int} {s : List Int} (h : MAt w b VS SS i0 i1 i2 i3 (n :: s)) :
    MAt (w.setCell ⟨b, 70, none⟩ (.int .i64 s.length)) b VS SS i0 i1 i2 i3 s ∧ (w.setCell ⟨b, 70, none⟩ (.int .i64 s.length)).cell? ⟨b, 6 + s.length, none⟩ = some (.int .i64 n) := by
  obtain ⟨cs, h1, h2⟩ := h
  have g0 : (w.setCell ⟨b, 70, none⟩ (.int .i64 s.length)).heap[b]? = some (.cells (cs.setIfInBounds 70 (.int .i64 s.length)) 54 (0, 0)) := by rw [heap_setCell_same w b _ _ _ _ h1]
  have hl := h2.hl
  simp only [List.length_cons] at hl
  refine ⟨⟨_, g0, h2.take⟩, ?_⟩
  rw [cell_of_row _ _ _ _ _ (0, 0) g0, Array.getElem?_setIfInBounds_ne (by omega)]
  exact h2.stk.1
def btw (n lo hi : Int) : Bool := decide (lo ≤ n) && decide (n ≤ hi)
theorem btw_iff {n lo hi : Int} : btw n lo hi = true ↔ lo ≤ n ∧ n ≤ hi := by simp [btw]
theorem between_any (n lo hi : Int) (w : World) : Calls Tryd.prog 44 #[.int .i64 n, .int .i64 lo, .int .i64 hi] w (SS (.bool (btw n lo hi)) w) := by
  go_enter Tryd.func44, Tryd.ntmps44
  go_wp2
  all_goals
    go_ret
    refine ⟨?_, rfl⟩
    simp [btw, *]
  all_goals omega
theorem isValue_any (n : Int) (w : World) : Calls Tryd.prog 43 #[.int .i64 n] w (SS (.bool (vN n)) w) := by
  go_enter Tryd.func43, Tryd.ntmps43
  go_wp2_with (go_at_call 44; refine (between_any _ _ _ _).mono ?_; rintro e w1 ⟨rfl, rfl⟩)
  go_ret
  exact ⟨rfl, rfl⟩
/-- what a push leaves -/
def PuP (b : Nat) (VS SS : Value) (i0 i1 i2 i3 : Int) (s : List Int) (r : Int × Int) (w : World) (e : Ending) (w' : World) : Prop :=
  e = .returned (.int .i64 r.2) ∧ MAt w' b VS SS i0 i1 i2 i3 (if r.2 = 0 then r.1 :: s else s) ∧ w.grownBy w' (some b)
set_option maxHeartbeats 1000000 in
set_option maxRecDepth 100000 in
theorem push_any (n : Int) (b : Nat) (VS SS : Value) (i0 i1 i2 i3 : Int) (s : List Int) (w : World) (hM : MAt w b VS SS i0 i1 i2 i3 s) (hl : s.length < 64) :
    Calls Tryd.prog 45 #[.pointer (some ⟨b, 0, none⟩), .int .i64 n] w (PuP b VS SS i0 i1 i2 i3 s (rng n) w) := by
  have hV := Lib.hid (isValue_any n)
  unfold rng
  rcases hv : vN n with _ | _
  · rw [if_neg (by decide)]
    rw [hv] at hV
    have HM := Lib.hid hM
    clear hM hv
    go_enter Tryd.func45, Tryd.ntmps45
    go_wp2_with (go_at_call 43; refine (hV.out _).mono ?_; rintro e w1 ⟨rfl, rfl⟩)
    go_ret
    exact ⟨rfl, HM.out, gbRefl _ _⟩
  · rw [if_pos rfl]
    rw [hv] at hV
    obtain ⟨-, -, -, -, -, -, e70⟩ := hM.cells
    have HM := Lib.hid hM
    have hbl := Lib.hid hM.lt
    clear hM hv
    obtain ⟨sl, hsl⟩ : ∃ sl, sl = s.length := ⟨_, rfl⟩
    have hslH := Lib.hid hsl
    rw [← hsl] at e70 hl
    clear hsl
    have q1 : IntKind.i64.wrap ((sl : Int) + 1) = (sl : Int) + 1 := IntWalk.i64_in _ (by omega)
    go_enter Tryd.func45, Tryd.ntmps45
    go_upto_region 3 with (go_at_call 43; refine (hV.out _).mono ?_; rintro e w1 ⟨rfl, hw1⟩; rw [hw1]; clear hw1)
    refine wp_region_X (S := fun wq => Gr w wq) [9] (by kernel_rfl) (grDrew _) (fun hHeld => ?_)
    have hSG : Hid (∀ wp wq : World, Gr w wp → Gr wp wq → Gr w wq) := Lib.hid (fun _ _ h k => h.tr k)
    first
     | (refine xk hSG 0 [6, 7, 8, 9] (v := ?_) rfl (by kernel_rfl) (fun _ _ _ h => h) (by rfl) ?_ hHeld ?_; rotate_left; focus (intro w' hSw; have e70 := grCell hSw e70; go_simp; (try with_reducible rfl)))
     | refine xn hSG 0 [6, 7, 8, 9] rfl (by kernel_rfl) (fun _ _ _ h => h) (by rfl) hHeld ?_
    (try simp only [zq1, zq2, zq3, Act.put, zq4, zq5, zq6])
    first
     | (refine xk hSG 1 [2, 3, 4, 8, 9] (v := ?_) rfl (by kernel_rfl) (fun _ _ _ h => h) (by rfl) ?_ hHeld ?_; rotate_left; focus (intro w' hSw; have e70 := grCell hSw e70; go_simp; (try with_reducible rfl)))
     | refine xn hSG 1 [2, 3, 4, 8, 9] rfl (by kernel_rfl) (fun _ _ _ h => h) (by rfl) hHeld ?_
    (try simp only [zq1, zq2, zq3, Act.put, zq4, zq5, zq6])
    first
     | (refine xk hSG 2 [3, 4, 8, 9] (v := ?_) rfl (by kernel_rfl) (fun _ _ _ h => h) (by rfl) ?_ hHeld ?_; rotate_left; focus (intro w' hSw; have e70 := grCell hSw e70; go_simp; (try with_reducible rfl)))
     | refine xn hSG 2 [3, 4, 8, 9] rfl (by kernel_rfl) (fun _ _ _ h => h) (by rfl) hHeld ?_
    (try simp only [zq1, zq2, zq3, Act.put, zq4, zq5, zq6])
    first
     | (refine xk hSG 3 [4, 8, 9] (v := ?_) rfl (by kernel_rfl) (fun _ _ _ h => h) (by rfl) ?_ hHeld ?_; rotate_left; focus (intro w' hSw; have e70 := grCell hSw e70; go_simp; (try with_reducible rfl)))
     | refine xn hSG 3 [4, 8, 9] rfl (by kernel_rfl) (fun _ _ _ h => h) (by rfl) hHeld ?_
    (try simp only [zq1, zq2, zq3, Act.put, zq4, zq5, zq6])
    first
     | (refine xk hSG 4 [8, 9] (v := ?_) rfl (by kernel_rfl) (fun _ _ _ h => h) (by rfl) ?_ hHeld ?_; rotate_left; focus (intro w' hSw; have e70 := grCell hSw e70; go_simp; (try with_reducible rfl)))
     | refine xn hSG 4 [8, 9] rfl (by kernel_rfl) (fun _ _ _ h => h) (by rfl) hHeld ?_
    (try simp only [zq1, zq2, zq3, Act.put, zq4, zq5, zq6])
    first
     | (refine xk hSG 5 [8, 9] (v := ?_) rfl (by kernel_rfl) (fun _ _ _ h => h) (by rfl) ?_ hHeld ?_; rotate_left; focus (intro w' hSw; have e70 := grCell hSw e70; go_simp; (try with_reducible rfl)))
     | refine xn hSG 5 [8, 9] rfl (by kernel_rfl) (fun _ _ _ h => h) (by rfl) hHeld ?_
    (try simp only [zq1, zq2, zq3, Act.put, zq4, zq5, zq6])
    first
     | (refine xk hSG 6 [7, 8, 9] (v := ?_) rfl (by kernel_rfl) (fun _ _ _ h => h) (by rfl) ?_ hHeld ?_; rotate_left; focus (intro w' hSw; have e70 := grCell hSw e70; go_simp; (try with_reducible rfl)))
     | refine xn hSG 6 [7, 8, 9] rfl (by kernel_rfl) (fun _ _ _ h => h) (by rfl) hHeld ?_
    (try simp only [zq1, zq2, zq3, Act.put, zq4, zq5, zq6])
    first
     | (refine xk hSG 7 [8, 9] (v := ?_) rfl (by kernel_rfl) (fun _ _ _ h => h) (by rfl) ?_ hHeld ?_; rotate_left; focus (intro w' hSw; have e70 := grCell hSw e70; go_simp; (try with_reducible rfl)))
     | refine xn hSG 7 [8, 9] rfl (by kernel_rfl) (fun _ _ _ h => h) (by rfl) hHeld ?_
    (try simp only [zq1, zq2, zq3, Act.put, zq4, zq5, zq6])
    refine xk hSG 8 [9] (v := .pointer (some ⟨b, 6 + sl, none⟩)) rfl (by kernel_rfl) (fun _ _ _ h => h) (by rfl) ?_ hHeld ?_
    focus (intro w' hSw; have e70 := grCell hSw e70; go_simp; (try (intro hq; omega)))
    (try simp only [zq1, zq2, zq3, Act.put, zq4, zq5, zq6])
    refine wpAnyX_oneX (i := 9) (by kernel_rfl) (by kernel_rfl) rfl (fun w6 hg K hK => ?_)
    have hg6 := hHeld.out.tr hg
    have HM6 := HM.out.gr hg6
    obtain ⟨u0, ex⟩ := HM6.any (6 + sl) (by omega)
    have d1 := HM6.fz (6 + sl)
    go_simp
    refine hK.out _ _ ?_
    clear hK K hg ex d1 hHeld hSG e70
    have HMM := Lib.hid (show MMid (w6.setCell ⟨b, 6 + sl, none⟩ (.int .i64 n)) b VS SS i0 i1 i2 i3 s n by rw [hslH.out]; exact HM6.mid n)
    have hB := Lib.hid (show w.grownBy (w6.setCell ⟨b, 6 + sl, none⟩ (.int .i64 n)) (some b) from gbSet (gbGr hg6))
    clear HM6 hg6
    refine wpAnyX_done (by kernel_rfl) (fun w7 hg => ?_) _
    have HM7 := HMM.out.gr hg
    obtain ⟨f70, z70, HF⟩ := HM7.fin (by rw [← hslH.out]; exact hl)
    rw [← hslH.out] at f70 HF
    have HF := Lib.hid HF
    have hB7 := Lib.hid (gbTrans hB.out (gbGr hg))
    clear hg HM7 HMM hB HM hbl hslH
    go_wp2
    go_ret
    exact ⟨rfl, HF.out, gbSet hB7.out⟩
end N
end Go.Proofs.YthgngkajdiclcaaDoor
