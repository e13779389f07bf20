/- Package machine: the state in memory; pushVariable, pushInput, store. -/
import Derived.Test.YthgngkajdiclcaaDoorNbD
namespace Go.Proofs.YthgngkajdiclcaaDoor
open Go.RowKit
set_option linter.unusedVariables false
set_option linter.unusedSimpArgs false
namespace N
open K
/-- a state of the machine's own: a block that is not below B, and not b -/
def StO (B b : Nat) (w : World) (st : List Int) (SA : Option Addr) : Prop := st = [] ∨ ∃ g cs T, SA = some ⟨g, 0, none⟩ ∧ B ≤ g ∧ g ≠ b ∧ w.heap[g]? = some (.cells cs T (0, 0)) ∧ ∀ (i : Nat) (n : Int), st[i]? = some n → cs[i]? = some (.int .i64 n)
theorem StO.keep {B b : Nat} {w w' : World} {st : List Int} {SA : Option Addr} (h : StO B b w st SA) (hk : ∀ k, k < w.heap.size → k ≠ b → w'.heap[k]? = w.heap[k]?) : StO B b w' st SA := by
  rcases h with h | ⟨g, cs, T, h1, h2, h3, h4, h5⟩
  · exact .inl h
  · exact .inr ⟨g, cs, T, h1, h2, h3, (hk g (blkLt h4) h3).trans h4, h5⟩
theorem StO.gb {B b : Nat} {w w' : World} {st : List Int} {SA : Option Addr} (h : StO B b w st SA) (hk : w.grownBy w' (some b)) : StO B b w' st SA := h.keep (fun k h1 h2 => hk.block k h1 (fun e => h2 (by cases e; rfl)))
theorem StO.gr {B b : Nat} {w w' : World} {st : List Int} {SA : Option Addr} (h : StO B b w st SA) (hk : Gr w w') : StO B b w' st SA := h.keep (fun k h1 _ => hk.block k h1)
theorem StO.at {B b : Nat} {w : World} {st : List Int} {SA : Option Addr} (h : StO B b w st SA) {k : Nat} {n : Int} (hk : st[k]? = some n) : ∃ g, SA = some ⟨g, 0, none⟩ ∧ B ≤ g ∧ g ≠ b ∧ g < w.heap.size ∧ w.cell? ⟨g, k, none⟩ = some (.int .i64 n) ∧ w.frozen? ⟨g, k, none⟩ = false ∧
    ∀ m : Int, StO B b (w.setCell ⟨g, k, none⟩ (.int .i64 m)) (st.set k m) SA := by
  rcases h with h | ⟨g, cs, T, h1, h2, h3, h4, h5⟩
  · subst h; simp at hk
  · refine ⟨g, h1, h2, h3, blkLt h4, (cell_of_row _ _ k _ _ (0, 0) h4).trans (h5 k n hk), frz h4 k, fun m => .inr ⟨g, cs.setIfInBounds k (.int .i64 m), T, h1, h2, h3, by rw [heap_setCell_same w g _ _ _ _ h4], fun i n' hi => ?_⟩⟩
    have hkl := (Array.getElem?_eq_some_iff.1 (h5 k n hk)).1
    by_cases e : k = i
    · subst e
      rw [Array.getElem?_setIfInBounds_self_of_lt hkl]
      have : k < st.length := (List.getElem?_eq_some_iff.1 hk).1
      simp [this] at hi
      rw [hi]
    · rw [Array.getElem?_setIfInBounds_ne e]
      rw [List.getElem?_set_ne e] at hi
      exact h5 i n' hi
/-- ranges of variables in memory -/
def VsR (w : World) (vs : List (Int × Int)) (A : Option Addr) : Prop := vs = [] ∨ ∃ g o, A = some ⟨g, o, none⟩ ∧ ∀ (i : Nat) (v : Int × Int), vs[i]? = some v → w.cell? ⟨g, o + i * 5 + 2, none⟩ = some (.int .i64 v.1) ∧ w.cell? ⟨g, o + i * 5 + 3, none⟩ = some (.int .i64 v.2)
theorem VsR.gr {w w' : World} {vs : List (Int × Int)} {A : Option Addr} (h : VsR w vs A) (hg : Gr w w') : VsR w' vs A := by
  rcases h with h | ⟨g, o, hA, h⟩
  · exact .inl h
  · exact .inr ⟨g, o, hA, fun i v hv => ⟨grCell hg (h i v hv).1, grCell hg (h i v hv).2⟩⟩
theorem VsR.at {w : World} {vs : List (Int × Int)} {A : Option Addr} (h : VsR w vs A) {i : Nat} {v : Int × Int} (hv : vs[i]? = some v) : ∃ g o, A = some ⟨g, o, none⟩ ∧ w.cell? ⟨g, o + i * 5 + 2, none⟩ = some (.int .i64 v.1) ∧ w.cell? ⟨g, o + i * 5 + 3, none⟩ = some (.int .i64 v.2) := by
  rcases h with h | ⟨g, o, hA, h⟩
  · subst h; simp at hv
  · exact ⟨g, o, hA, h i v hv⟩
set_option maxHeartbeats 1000000 in
set_option maxRecDepth 100000 in
theorem pushVariable_any (B k : Nat) (n : Int) (st : List Int) (SA : Option Addr) (sc : Nat) (hk : st[k]? = some n) (b : Nat) (VS : Value) (i0 i1 i2 i3 : Int) (s : List Int) (w : World) (hM : MAt w b VS (.slice SA st.length sc) i0 i1 i2 i3 s) (hO : StO B b w st SA) (hl : s.length < 64) :
    Calls Tryd.prog 46 #[.pointer (some ⟨b, 0, none⟩), .int .i64 k] w (PuP b VS (.slice SA st.length sc) i0 i1 i2 i3 s (rng n) w) := by
  have hkl : k < st.length := (List.getElem?_eq_some_iff.1 hk).1
  obtain ⟨g, rfl, -, -, -, c0, -, -⟩ := hO.at hk
  have HPu := Lib.hid (push_any n b VS (.slice (some ⟨g, 0, none⟩) st.length sc) i0 i1 i2 i3 s w hM hl)
  obtain ⟨-, e1, -, -, -, -, -⟩ := hM.cells
  clear hM hO hk hl
  generalize st.length = sl at *
  go_enter Tryd.func46, Tryd.ntmps46
  go_wp2_with (go_at_call 45; refine HPu.out.mono ?_; rintro e w3 ⟨rfl, hM3, hb3⟩; have HM3 := Lib.hid hM3; have HB3 := Lib.hid hb3; clear hM3 hb3)
  go_ret
  exact ⟨rfl, HM3.out, HB3.out⟩
set_option maxHeartbeats 1000000 in
set_option maxRecDepth 100000 in
theorem pushInput_any (k : Nat) (n : Int) (b : Nat) (VS SS : Value) (i0 i1 i2 i3 : Int) (hk : [i0, i1, i2, i3][k]? = some n) (s : List Int) (w : World) (hM : MAt w b VS SS i0 i1 i2 i3 s) (hl : s.length < 64) :
    Calls Tryd.prog 47 #[.pointer (some ⟨b, 0, none⟩), .int .i64 k] w (PuP b VS SS i0 i1 i2 i3 s (rng n) w) := by
  have HPu := Lib.hid (push_any n b VS SS i0 i1 i2 i3 s w hM hl)
  obtain ⟨-, -, e2, e3, e4, e5, -⟩ := hM.cells
  clear hM hl
  rcases k with _ | _ | _ | _ | k
  · obtain rfl : i0 = n := by simpa using hk
    clear hk
    go_enter Tryd.func47, Tryd.ntmps47
    go_wp2_with (go_at_call 45; refine HPu.out.mono ?_; rintro e w3 ⟨rfl, hM3, hb3⟩; have HM3 := Lib.hid hM3; have HB3 := Lib.hid hb3; clear hM3 hb3)
    go_ret
    exact ⟨rfl, HM3.out, HB3.out⟩
  · obtain rfl : i1 = n := by simpa using hk
    clear hk
    go_enter Tryd.func47, Tryd.ntmps47
    go_wp2_with (go_at_call 45; refine HPu.out.mono ?_; rintro e w3 ⟨rfl, hM3, hb3⟩; have HM3 := Lib.hid hM3; have HB3 := Lib.hid hb3; clear hM3 hb3)
    go_ret
    exact ⟨rfl, HM3.out, HB3.out⟩
  · obtain rfl : i2 = n := by simpa using hk
    clear hk
    go_enter Tryd.func47, Tryd.ntmps47
    go_wp2_with (go_at_call 45; refine HPu.out.mono ?_; rintro e w3 ⟨rfl, hM3, hb3⟩; have HM3 := Lib.hid hM3; have HB3 := Lib.hid hb3; clear hM3 hb3)
    go_ret
    exact ⟨rfl, HM3.out, HB3.out⟩
  · obtain rfl : i3 = n := by simpa using hk
    clear hk
    go_enter Tryd.func47, Tryd.ntmps47
    go_wp2_with (go_at_call 45; refine HPu.out.mono ?_; rintro e w3 ⟨rfl, hM3, hb3⟩; have HM3 := Lib.hid hM3; have HB3 := Lib.hid hb3; clear hM3 hb3)
    go_ret
    exact ⟨rfl, HM3.out, HB3.out⟩
  · simp at hk
theorem belOf {w w2 : World} (h : w2 = w) : Below w.heap.size w w2 := by subst h; exact Below.refl _ _
/-- only block b and the state's have changed -/
structure Kp (b : Nat) (SA : Option Addr) (w w' : World) : Prop where
  os : w'.os = w.os
  tape : w'.tape = w.tape
  output : w'.output = w.output
  size : w.heap.size ≤ w'.heap.size
  block : ∀ k, k < w.heap.size → k ≠ b → (∀ g, SA = some ⟨g, 0, none⟩ → k ≠ g) → w'.heap[k]? = w.heap[k]?
theorem Kp.gb {b : Nat} {SA : Option Addr} {w w' : World} (h : w.grownBy w' (some b)) : Kp b SA w w' := ⟨h.os, h.tape, h.output, h.size, fun k hk hn _ => h.block k hk (fun e => hn (by cases e; rfl))⟩
theorem Kp.gr {b : Nat} {SA : Option Addr} {a w w' : World} (h : Kp b SA a w) (hg : Gr w w') : Kp b SA a w' :=
  ⟨hg.os.trans h.os, hg.tape.trans h.tape, hg.output.trans h.output, Nat.le_trans h.size hg.size, fun k hk hn hs => (hg.block k (Nat.lt_of_lt_of_le hk h.size)).trans (h.block k hk hn hs)⟩
theorem Kp.set {b g i : Nat} {a w : World} {v : Value} (h : Kp b (some ⟨g, 0, none⟩) a w) : Kp b (some ⟨g, 0, none⟩) a (w.setCell ⟨g, i, none⟩ v) :=
  ⟨h.os, h.tape, h.output, by simpa using h.size, fun k hk hn hs => (heap_setCell_other w _ k v (hs g rfl)).trans (h.block k hk hn hs)⟩
theorem Kp.trans {b : Nat} {SA : Option Addr} {x y z : World} (h : Kp b SA x y) (k : Kp b SA y z) : Kp b SA x z :=
  ⟨k.os.trans h.os, k.tape.trans h.tape, k.output.trans h.output, Nat.le_trans h.size k.size, fun i hi hn hs => (k.block i (Nat.lt_of_lt_of_le hi h.size) hn hs).trans (h.block i hi hn hs)⟩
/-- what an operation leaves -/
def OpP (W0 : World) (b : Nat) (VS : Value) (SA : Option Addr) (sl sc : Nat) (i0 i1 i2 i3 : Int) (r : Cf × Int) (w : World) (e : Ending) (w' : World) : Prop :=
  e = .returned (.int .i64 r.2) ∧ MAt w' b VS (.slice SA sl sc) i0 i1 i2 i3 r.1.s ∧ StO W0.heap.size b w' r.1.st SA ∧ Gr W0 w' ∧ Kp b SA w w'
set_option maxHeartbeats 2000000 in
set_option maxRecDepth 100000 in
theorem store_any (W0 : World) (k : Nat) (n m : Int) (v : Int × Int) (st : List Int) (SA : Option Addr) (sc : Nat) (vs : List (Int × Int)) (VA : Option Addr) (vc : Nat) (hk : st[k]? = some m) (hv : vs[k]? = some v) (b : Nat) (i0 i1 i2 i3 : Int) (s : List Int) (w : World)
    (hM : MAt w b (.slice VA vs.length vc) (.slice SA st.length sc) i0 i1 i2 i3 (n :: s)) (hO : StO W0.heap.size b w st SA) (hV : VsR W0 vs VA) (hG : Gr W0 w) (hb : W0.heap.size ≤ b) (at_ : Nat) :
    Calls Tryd.prog 55 #[.pointer (some ⟨b, 0, none⟩), .int .i64 k] w (OpP W0 b (.slice VA vs.length vc) SA st.length sc i0 i1 i2 i3 (if btw2 n v = true then (⟨s, st.set k n, at_⟩, 0) else (⟨s, st, at_⟩, 15)) w) := by
  have hkl : k < st.length := (List.getElem?_eq_some_iff.1 hk).1
  have hvl : k < vs.length := (List.getElem?_eq_some_iff.1 hv).1
  obtain ⟨gv, ov, rfl, v0, v1⟩ := hV.at hv
  obtain ⟨lo, hi⟩ := v
  obtain ⟨W3, hW3⟩ : ∃ W3, W3 = (w.alloc (.cells #[.int .i64 0] 3)).alloc (.cells (ptrs [w.heap.size]) 86) := ⟨_, rfl⟩
  have hG3 : Gr w W3 := by rw [hW3]; exact (grAlloc _ _).tr (grAlloc _ _)
  have HM := Lib.hid (hM.gr hG3)
  have hbl := hM.lt
  have hS : PS w.heap.size b (w.heap.size + 1) [w.heap.size] := ⟨by simp; omega, by simp, by omega⟩
  have hQ : PQ w.heap.size b (w.heap.size + 1) [w.heap.size] W3 := by
    refine ⟨by rw [hW3]; exact nBlk _ _ _ (by simp), fun p hp => ⟨0, ?_⟩⟩
    simp only [List.mem_cons, List.not_mem_nil, or_false] at hp
    rw [hW3, hp]
    exact grBlk (grAlloc _ _) (nBlk _ _ _ rfl)
  have HP := Lib.hid (fun c => pop_any w.heap.size b (w.heap.size + 1) c (.slice (some ⟨gv, ov, none⟩) vs.length vc) (.slice SA st.length sc) i0 i1 i2 i3 [w.heap.size] [n] s W3 HM.out rfl (by simp) hS hQ hG3.size)
  have HG := Lib.hid hG
  have HG3 := Lib.hid hG3
  have HO := Lib.hid hO
  have hkH := Lib.hid hk
  have hbH := Lib.hid hb
  have hblH := Lib.hid hbl
  clear hS hQ hM hG3 hG hO hk hv hV hb HM
  obtain ⟨R, hR⟩ : ∃ R, (if btw2 n (lo, hi) = true then ((⟨s, st.set k n, at_⟩, 0) : Cf × Int) else (⟨s, st, at_⟩, 15)) = R := ⟨_, rfl⟩
  rw [hR]
  have hRH := Lib.hid hR
  clear hR
  have HBt := Lib.hid (between_any n lo hi)
  generalize hsl : st.length = sl at *
  generalize vs.length = vl at *
  go_enter Tryd.func55, Tryd.ntmps55
  go_upto_region 3 with (go_at_call 64; rw [show ((w.alloc (.cells #[.int .i64 0] 3)).alloc (.cells #[.pointer (some ⟨w.heap.size, 0, none⟩)] 86)) = W3 from hW3.symm]; refine (HP.out _).mono ?_; rintro e w4 ⟨rfl, hM4, hW4, hC4⟩; have hx4 := hW4 0 _ _ (by simp) rfl rfl; have HM4 := Lib.hid hM4; have HC4 := Lib.hid hC4; have HX4 := Lib.hid hx4; clear hM4 hW4 hC4 hx4 HP)
  clear hW3
  have cx : w4.cell? ⟨w.heap.size, 0, none⟩ = some (.int .i64 n) := (cell_of_row _ _ 0 _ _ (0, 0) HX4.out).trans rfl
  have hC0 : Ch w.heap.size b w w4 := ((Ch.refl _ _ _).gr (Nat.le_refl _) HG3.out).trans HC4.out
  have hG4 : Gr W0 w4 := HG.out.trans ⟨hC0.os, hC0.tape, hC0.output, hC0.size, fun q hq => hC0.block q (Nat.lt_of_lt_of_le hq HG.out.size) (by have := hbH.out; omega)⟩
  have HG4 := Lib.hid hG4
  have hO4 : StO W0.heap.size b w4 st SA := HO.out.keep (fun q h1 h2 => hC0.block q h1 h2)
  obtain ⟨g, hSA, hgB, hgb, hgl, s0, sf, sset⟩ := hO4.at hkH.out
  subst hSA
  have HK4 := Lib.hid (show Kp b (some ⟨g, 0, none⟩) w w4 from Kp.gb hC0.gb)
  have HO4 := Lib.hid hO4
  clear sset s0 sf hO4 hC0 HC4 HO HG HG3
  have z0 := grCell hG4 v0
  have z1 := grCell hG4 v1
  obtain ⟨e0, e1, -, -, -, -, -⟩ := HM4.out.cells
  clear v0 v1 hG4
  rcases hbb : btw n lo hi with _ | _
  · rw [hbb] at HBt
    have hR2 : R = (⟨s, st, at_⟩, 15) := by rw [← hRH.out, show btw2 n (lo, hi) = btw n lo hi from rfl, hbb]; rfl
    clear hRH hbb
    subst hR2
    refine wp_region_G (S := fun wq => Gr w4 wq) (by kernel_rfl) (grDrew _) (fun hHeld => ?_)
    have hSG : Hid (∀ wp wq : World, Gr w4 wp → Gr wp wq → Gr w4 wq) := Lib.hid (fun _ _ h k => h.tr k)
    have hmv := Lib.hid (fun (wq : World) (hq : Gr w4 wq) => And.intro (grCell hq cx) (And.intro (grCell hq e0) (And.intro (grCell hq z0) (grCell hq z1))))
    first
     | (refine tk hSG 0 (v := ?_) rfl (by kernel_rfl) (fun _ _ _ h => h) (by rfl) ?_ hHeld ?_; rotate_left; focus (intro w' hSw; obtain ⟨cx, e0, z0, z1⟩ := hmv.out _ hSw; go_simp; (try with_reducible rfl)))
     | refine tn hSG 0 rfl (by kernel_rfl) (fun _ _ _ h => h) (by rfl) hHeld ?_
    (try simp only [zq1, zq2, zq3, Act.put, zq4, zq5, zq6])
    first
     | (refine tk hSG 1 (v := ?_) rfl (by kernel_rfl) (fun _ _ _ h => h) (by rfl) ?_ hHeld ?_; rotate_left; focus (intro w' hSw; obtain ⟨cx, e0, z0, z1⟩ := hmv.out _ hSw; go_simp; (try with_reducible rfl)))
     | refine tn hSG 1 rfl (by kernel_rfl) (fun _ _ _ h => h) (by rfl) hHeld ?_
    (try simp only [zq1, zq2, zq3, Act.put, zq4, zq5, zq6])
    first
     | (refine tk hSG 2 (v := ?_) rfl (by kernel_rfl) (fun _ _ _ h => h) (by rfl) ?_ hHeld ?_; rotate_left; focus (intro w' hSw; obtain ⟨cx, e0, z0, z1⟩ := hmv.out _ hSw; go_simp; (try with_reducible rfl)))
     | refine tn hSG 2 rfl (by kernel_rfl) (fun _ _ _ h => h) (by rfl) hHeld ?_
    (try simp only [zq1, zq2, zq3, Act.put, zq4, zq5, zq6])
    first
     | (refine tk hSG 3 (v := ?_) rfl (by kernel_rfl) (fun _ _ _ h => h) (by rfl) ?_ hHeld ?_; rotate_left; focus (intro w' hSw; obtain ⟨cx, e0, z0, z1⟩ := hmv.out _ hSw; go_simp; (try with_reducible rfl)))
     | refine tn hSG 3 rfl (by kernel_rfl) (fun _ _ _ h => h) (by rfl) hHeld ?_
    (try simp only [zq1, zq2, zq3, Act.put, zq4, zq5, zq6])
    first
     | (refine tk hSG 4 (v := ?_) rfl (by kernel_rfl) (fun _ _ _ h => h) (by rfl) ?_ hHeld ?_; rotate_left; focus (intro w' hSw; obtain ⟨cx, e0, z0, z1⟩ := hmv.out _ hSw; go_simp; (try with_reducible rfl)))
     | refine tn hSG 4 rfl (by kernel_rfl) (fun _ _ _ h => h) (by rfl) hHeld ?_
    (try simp only [zq1, zq2, zq3, Act.put, zq4, zq5, zq6])
    first
     | (refine tk hSG 5 (v := ?_) rfl (by kernel_rfl) (fun _ _ _ h => h) (by rfl) ?_ hHeld ?_; rotate_left; focus (intro w' hSw; obtain ⟨cx, e0, z0, z1⟩ := hmv.out _ hSw; go_simp; (try with_reducible rfl)))
     | refine tn hSG 5 rfl (by kernel_rfl) (fun _ _ _ h => h) (by rfl) hHeld ?_
    (try simp only [zq1, zq2, zq3, Act.put, zq4, zq5, zq6])
    refine tk hSG 6 (v := .pointer (some ⟨gv, ov + k * 5, none⟩)) rfl (by kernel_rfl) (fun _ _ _ h => h) (by rfl) ?_ hHeld ?_
    focus (intro w' hSw; obtain ⟨cx, e0, z0, z1⟩ := hmv.out _ hSw; go_simp; (try (intro hq; omega)))
    (try simp only [zq1, zq2, zq3, Act.put, zq4, zq5, zq6])
    first
     | (refine tk hSG 7 (v := ?_) rfl (by kernel_rfl) (fun _ _ _ h => h) (by rfl) ?_ hHeld ?_; rotate_left; focus (intro w' hSw; obtain ⟨cx, e0, z0, z1⟩ := hmv.out _ hSw; go_simp; (try with_reducible rfl)))
     | refine tn hSG 7 rfl (by kernel_rfl) (fun _ _ _ h => h) (by rfl) hHeld ?_
    (try simp only [zq1, zq2, zq3, Act.put, zq4, zq5, zq6])
    first
     | (refine tk hSG 8 (v := ?_) rfl (by kernel_rfl) (fun _ _ _ h => h) (by rfl) ?_ hHeld ?_; rotate_left; focus (intro w' hSw; obtain ⟨cx, e0, z0, z1⟩ := hmv.out _ hSw; go_simp; (try with_reducible rfl)))
     | refine tn hSG 8 rfl (by kernel_rfl) (fun _ _ _ h => h) (by rfl) hHeld ?_
    (try simp only [zq1, zq2, zq3, Act.put, zq4, zq5, zq6])
    first
     | (refine tk hSG 9 (v := ?_) rfl (by kernel_rfl) (fun _ _ _ h => h) (by rfl) ?_ hHeld ?_; rotate_left; focus (intro w' hSw; obtain ⟨cx, e0, z0, z1⟩ := hmv.out _ hSw; go_simp; (try with_reducible rfl)))
     | refine tn hSG 9 rfl (by kernel_rfl) (fun _ _ _ h => h) (by rfl) hHeld ?_
    (try simp only [zq1, zq2, zq3, Act.put, zq4, zq5, zq6])
    first
     | (refine tk hSG 10 (v := ?_) rfl (by kernel_rfl) (fun _ _ _ h => h) (by rfl) ?_ hHeld ?_; rotate_left; focus (intro w' hSw; obtain ⟨cx, e0, z0, z1⟩ := hmv.out _ hSw; go_simp; (try with_reducible rfl)))
     | refine tn hSG 10 rfl (by kernel_rfl) (fun _ _ _ h => h) (by rfl) hHeld ?_
    (try simp only [zq1, zq2, zq3, Act.put, zq4, zq5, zq6])
    first
     | (refine tk hSG 11 (v := ?_) rfl (by kernel_rfl) (fun _ _ _ h => h) (by rfl) ?_ hHeld ?_; rotate_left; focus (intro w' hSw; obtain ⟨cx, e0, z0, z1⟩ := hmv.out _ hSw; go_simp; (try with_reducible rfl)))
     | refine tn hSG 11 rfl (by kernel_rfl) (fun _ _ _ h => h) (by rfl) hHeld ?_
    (try simp only [zq1, zq2, zq3, Act.put, zq4, zq5, zq6])
    first
     | (refine tk hSG 12 (v := ?_) rfl (by kernel_rfl) (fun _ _ _ h => h) (by rfl) ?_ hHeld ?_; rotate_left; focus (intro w' hSw; obtain ⟨cx, e0, z0, z1⟩ := hmv.out _ hSw; go_simp; (try with_reducible rfl)))
     | refine tn hSG 12 rfl (by kernel_rfl) (fun _ _ _ h => h) (by rfl) hHeld ?_
    (try simp only [zq1, zq2, zq3, Act.put, zq4, zq5, zq6])
    first
     | (refine tk hSG 13 (v := ?_) rfl (by kernel_rfl) (fun _ _ _ h => h) (by rfl) ?_ hHeld ?_; rotate_left; focus (intro w' hSw; obtain ⟨cx, e0, z0, z1⟩ := hmv.out _ hSw; go_simp; (try with_reducible rfl)))
     | refine tn hSG 13 rfl (by kernel_rfl) (fun _ _ _ h => h) (by rfl) hHeld ?_
    (try simp only [zq1, zq2, zq3, Act.put, zq4, zq5, zq6])
    refine tk hSG 14 (v := .pointer (some ⟨gv, ov + k * 5, none⟩)) rfl (by kernel_rfl) (fun _ _ _ h => h) (by rfl) ?_ hHeld ?_
    focus (intro w' hSw; obtain ⟨cx, e0, z0, z1⟩ := hmv.out _ hSw; go_simp; (try (intro hq; omega)))
    (try simp only [zq1, zq2, zq3, Act.put, zq4, zq5, zq6])
    first
     | (refine tk hSG 15 (v := ?_) rfl (by kernel_rfl) (fun _ _ _ h => h) (by rfl) ?_ hHeld ?_; rotate_left; focus (intro w' hSw; obtain ⟨cx, e0, z0, z1⟩ := hmv.out _ hSw; go_simp; (try with_reducible rfl)))
     | refine tn hSG 15 rfl (by kernel_rfl) (fun _ _ _ h => h) (by rfl) hHeld ?_
    (try simp only [zq1, zq2, zq3, Act.put, zq4, zq5, zq6])
    first
     | (refine tk hSG 16 (v := ?_) rfl (by kernel_rfl) (fun _ _ _ h => h) (by rfl) ?_ hHeld ?_; rotate_left; focus (intro w' hSw; obtain ⟨cx, e0, z0, z1⟩ := hmv.out _ hSw; go_simp; (try with_reducible rfl)))
     | refine tn hSG 16 rfl (by kernel_rfl) (fun _ _ _ h => h) (by rfl) hHeld ?_
    (try simp only [zq1, zq2, zq3, Act.put, zq4, zq5, zq6])
    refine tc hSG 17 (v := .bool false) rfl (by kernel_rfl) (fun _ _ _ h => h) (by rfl) ?_ hHeld ?_
    focus (intro wz hSw K hK; obtain ⟨cx, e0, z0, z1⟩ := hmv.out _ hSw; go_simp; go_at_call 44; refine (HBt.out _).mono ?_; rintro e w2 ⟨rfl, hw⟩; have hb2 := belOf hw; exact hK.out _ hb2)
    (try simp only [zq1, zq2, zq3, Act.put, zq4, zq5, zq6])
    first
     | (refine tk hSG 18 (v := ?_) rfl (by kernel_rfl) (fun _ _ _ h => h) (by rfl) ?_ hHeld ?_; rotate_left; focus (intro w' hSw; obtain ⟨cx, e0, z0, z1⟩ := hmv.out _ hSw; go_simp; (try with_reducible rfl)))
     | refine tn hSG 18 rfl (by kernel_rfl) (fun _ _ _ h => h) (by rfl) hHeld ?_
    (try simp only [zq1, zq2, zq3, Act.put, zq4, zq5, zq6])
    refine wpAnyG_done (by kernel_rfl) (fun w5 hgD => ?_) _
    have hg5 : Gr w4 w5 := (grDrew w4).tr hgD
    clear hgD hSG hHeld
    have HG5 := Lib.hid (HG4.out.tr hg5)
    have HM5 := Lib.hid (HM4.out.gr hg5)
    have HO5 := Lib.hid (HO4.out.gr hg5)
    have HK5 := Lib.hid (HK4.out.gr hg5)
    clear cx e0 e1 z0 z1 hg5 HM4 HO4 HG4 HX4
    go_wp2
    go_ret
    exact ⟨rfl, HM5.out, HO5.out, HG5.out, HK5.out⟩
  · rw [hbb] at HBt
    have hR2 : R = (⟨s, st.set k n, at_⟩, 0) := by rw [← hRH.out, show btw2 n (lo, hi) = btw n lo hi from rfl, hbb]; rfl
    clear hRH hbb
    subst hR2
    refine wp_region_G (S := fun wq => Gr w4 wq) (by kernel_rfl) (grDrew _) (fun hHeld => ?_)
    have hSG : Hid (∀ wp wq : World, Gr w4 wp → Gr wp wq → Gr w4 wq) := Lib.hid (fun _ _ h k => h.tr k)
    have hmv := Lib.hid (fun (wq : World) (hq : Gr w4 wq) => And.intro (grCell hq cx) (And.intro (grCell hq e0) (And.intro (grCell hq z0) (grCell hq z1))))
    first
     | (refine tk hSG 0 (v := ?_) rfl (by kernel_rfl) (fun _ _ _ h => h) (by rfl) ?_ hHeld ?_; rotate_left; focus (intro w' hSw; obtain ⟨cx, e0, z0, z1⟩ := hmv.out _ hSw; go_simp; (try with_reducible rfl)))
     | refine tn hSG 0 rfl (by kernel_rfl) (fun _ _ _ h => h) (by rfl) hHeld ?_
    (try simp only [zq1, zq2, zq3, Act.put, zq4, zq5, zq6])
    first
     | (refine tk hSG 1 (v := ?_) rfl (by kernel_rfl) (fun _ _ _ h => h) (by rfl) ?_ hHeld ?_; rotate_left; focus (intro w' hSw; obtain ⟨cx, e0, z0, z1⟩ := hmv.out _ hSw; go_simp; (try with_reducible rfl)))
     | refine tn hSG 1 rfl (by kernel_rfl) (fun _ _ _ h => h) (by rfl) hHeld ?_
    (try simp only [zq1, zq2, zq3, Act.put, zq4, zq5, zq6])
    first
     | (refine tk hSG 2 (v := ?_) rfl (by kernel_rfl) (fun _ _ _ h => h) (by rfl) ?_ hHeld ?_; rotate_left; focus (intro w' hSw; obtain ⟨cx, e0, z0, z1⟩ := hmv.out _ hSw; go_simp; (try with_reducible rfl)))
     | refine tn hSG 2 rfl (by kernel_rfl) (fun _ _ _ h => h) (by rfl) hHeld ?_
    (try simp only [zq1, zq2, zq3, Act.put, zq4, zq5, zq6])
    first
     | (refine tk hSG 3 (v := ?_) rfl (by kernel_rfl) (fun _ _ _ h => h) (by rfl) ?_ hHeld ?_; rotate_left; focus (intro w' hSw; obtain ⟨cx, e0, z0, z1⟩ := hmv.out _ hSw; go_simp; (try with_reducible rfl)))
     | refine tn hSG 3 rfl (by kernel_rfl) (fun _ _ _ h => h) (by rfl) hHeld ?_
    (try simp only [zq1, zq2, zq3, Act.put, zq4, zq5, zq6])
    first
     | (refine tk hSG 4 (v := ?_) rfl (by kernel_rfl) (fun _ _ _ h => h) (by rfl) ?_ hHeld ?_; rotate_left; focus (intro w' hSw; obtain ⟨cx, e0, z0, z1⟩ := hmv.out _ hSw; go_simp; (try with_reducible rfl)))
     | refine tn hSG 4 rfl (by kernel_rfl) (fun _ _ _ h => h) (by rfl) hHeld ?_
    (try simp only [zq1, zq2, zq3, Act.put, zq4, zq5, zq6])
    first
     | (refine tk hSG 5 (v := ?_) rfl (by kernel_rfl) (fun _ _ _ h => h) (by rfl) ?_ hHeld ?_; rotate_left; focus (intro w' hSw; obtain ⟨cx, e0, z0, z1⟩ := hmv.out _ hSw; go_simp; (try with_reducible rfl)))
     | refine tn hSG 5 rfl (by kernel_rfl) (fun _ _ _ h => h) (by rfl) hHeld ?_
    (try simp only [zq1, zq2, zq3, Act.put, zq4, zq5, zq6])
    refine tk hSG 6 (v := .pointer (some ⟨gv, ov + k * 5, none⟩)) rfl (by kernel_rfl) (fun _ _ _ h => h) (by rfl) ?_ hHeld ?_
    focus (intro w' hSw; obtain ⟨cx, e0, z0, z1⟩ := hmv.out _ hSw; go_simp; (try (intro hq; omega)))
    (try simp only [zq1, zq2, zq3, Act.put, zq4, zq5, zq6])
    first
     | (refine tk hSG 7 (v := ?_) rfl (by kernel_rfl) (fun _ _ _ h => h) (by rfl) ?_ hHeld ?_; rotate_left; focus (intro w' hSw; obtain ⟨cx, e0, z0, z1⟩ := hmv.out _ hSw; go_simp; (try with_reducible rfl)))
     | refine tn hSG 7 rfl (by kernel_rfl) (fun _ _ _ h => h) (by rfl) hHeld ?_
    (try simp only [zq1, zq2, zq3, Act.put, zq4, zq5, zq6])
    first
     | (refine tk hSG 8 (v := ?_) rfl (by kernel_rfl) (fun _ _ _ h => h) (by rfl) ?_ hHeld ?_; rotate_left; focus (intro w' hSw; obtain ⟨cx, e0, z0, z1⟩ := hmv.out _ hSw; go_simp; (try with_reducible rfl)))
     | refine tn hSG 8 rfl (by kernel_rfl) (fun _ _ _ h => h) (by rfl) hHeld ?_
    (try simp only [zq1, zq2, zq3, Act.put, zq4, zq5, zq6])
    first
     | (refine tk hSG 9 (v := ?_) rfl (by kernel_rfl) (fun _ _ _ h => h) (by rfl) ?_ hHeld ?_; rotate_left; focus (intro w' hSw; obtain ⟨cx, e0, z0, z1⟩ := hmv.out _ hSw; go_simp; (try with_reducible rfl)))
     | refine tn hSG 9 rfl (by kernel_rfl) (fun _ _ _ h => h) (by rfl) hHeld ?_
    (try simp only [zq1, zq2, zq3, Act.put, zq4, zq5, zq6])
    first
     | (refine tk hSG 10 (v := ?_) rfl (by kernel_rfl) (fun _ _ _ h => h) (by rfl) ?_ hHeld ?_; rotate_left; focus (intro w' hSw; obtain ⟨cx, e0, z0, z1⟩ := hmv.out _ hSw; go_simp; (try with_reducible rfl)))
     | refine tn hSG 10 rfl (by kernel_rfl) (fun _ _ _ h => h) (by rfl) hHeld ?_
    (try simp only [zq1, zq2, zq3, Act.put, zq4, zq5, zq6])
    first
     | (refine tk hSG 11 (v := ?_) rfl (by kernel_rfl) (fun _ _ _ h => h) (by rfl) ?_ hHeld ?_; rotate_left; focus (intro w' hSw; obtain ⟨cx, e0, z0, z1⟩ := hmv.out _ hSw; go_simp; (try with_reducible rfl)))
     | refine tn hSG 11 rfl (by kernel_rfl) (fun _ _ _ h => h) (by rfl) hHeld ?_
    (try simp only [zq1, zq2, zq3, Act.put, zq4, zq5, zq6])
    first
     | (refine tk hSG 12 (v := ?_) rfl (by kernel_rfl) (fun _ _ _ h => h) (by rfl) ?_ hHeld ?_; rotate_left; focus (intro w' hSw; obtain ⟨cx, e0, z0, z1⟩ := hmv.out _ hSw; go_simp; (try with_reducible rfl)))
     | refine tn hSG 12 rfl (by kernel_rfl) (fun _ _ _ h => h) (by rfl) hHeld ?_
    (try simp only [zq1, zq2, zq3, Act.put, zq4, zq5, zq6])
    first
     | (refine tk hSG 13 (v := ?_) rfl (by kernel_rfl) (fun _ _ _ h => h) (by rfl) ?_ hHeld ?_; rotate_left; focus (intro w' hSw; obtain ⟨cx, e0, z0, z1⟩ := hmv.out _ hSw; go_simp; (try with_reducible rfl)))
     | refine tn hSG 13 rfl (by kernel_rfl) (fun _ _ _ h => h) (by rfl) hHeld ?_
    (try simp only [zq1, zq2, zq3, Act.put, zq4, zq5, zq6])
    refine tk hSG 14 (v := .pointer (some ⟨gv, ov + k * 5, none⟩)) rfl (by kernel_rfl) (fun _ _ _ h => h) (by rfl) ?_ hHeld ?_
    focus (intro w' hSw; obtain ⟨cx, e0, z0, z1⟩ := hmv.out _ hSw; go_simp; (try (intro hq; omega)))
    (try simp only [zq1, zq2, zq3, Act.put, zq4, zq5, zq6])
    first
     | (refine tk hSG 15 (v := ?_) rfl (by kernel_rfl) (fun _ _ _ h => h) (by rfl) ?_ hHeld ?_; rotate_left; focus (intro w' hSw; obtain ⟨cx, e0, z0, z1⟩ := hmv.out _ hSw; go_simp; (try with_reducible rfl)))
     | refine tn hSG 15 rfl (by kernel_rfl) (fun _ _ _ h => h) (by rfl) hHeld ?_
    (try simp only [zq1, zq2, zq3, Act.put, zq4, zq5, zq6])
    first
     | (refine tk hSG 16 (v := ?_) rfl (by kernel_rfl) (fun _ _ _ h => h) (by rfl) ?_ hHeld ?_; rotate_left; focus (intro w' hSw; obtain ⟨cx, e0, z0, z1⟩ := hmv.out _ hSw; go_simp; (try with_reducible rfl)))
     | refine tn hSG 16 rfl (by kernel_rfl) (fun _ _ _ h => h) (by rfl) hHeld ?_
    (try simp only [zq1, zq2, zq3, Act.put, zq4, zq5, zq6])
    refine tc hSG 17 (v := .bool true) rfl (by kernel_rfl) (fun _ _ _ h => h) (by rfl) ?_ hHeld ?_
    focus (intro wz hSw K hK; obtain ⟨cx, e0, z0, z1⟩ := hmv.out _ hSw; go_simp; go_at_call 44; refine (HBt.out _).mono ?_; rintro e w2 ⟨rfl, hw⟩; have hb2 := belOf hw; exact hK.out _ hb2)
    (try simp only [zq1, zq2, zq3, Act.put, zq4, zq5, zq6])
    first
     | (refine tk hSG 18 (v := ?_) rfl (by kernel_rfl) (fun _ _ _ h => h) (by rfl) ?_ hHeld ?_; rotate_left; focus (intro w' hSw; obtain ⟨cx, e0, z0, z1⟩ := hmv.out _ hSw; go_simp; (try with_reducible rfl)))
     | refine tn hSG 18 rfl (by kernel_rfl) (fun _ _ _ h => h) (by rfl) hHeld ?_
    (try simp only [zq1, zq2, zq3, Act.put, zq4, zq5, zq6])
    refine wpAnyG_done (by kernel_rfl) (fun w5 hgD => ?_) _
    have hg5 : Gr w4 w5 := (grDrew w4).tr hgD
    clear hgD hSG hHeld
    have HG5 := Lib.hid (HG4.out.tr hg5)
    have HM5 := Lib.hid (HM4.out.gr hg5)
    have HO5 := Lib.hid (HO4.out.gr hg5)
    have HK5 := Lib.hid (HK4.out.gr hg5)
    have cx5 := grCell hg5 cx
    have e5 := grCell hg5 e1
    clear cx e0 e1 z0 z1 hg5 HM4 HO4 HG4 HX4
    go_upto_region 5 with fail
    refine wp_region_X (S := fun wq => Gr w5 wq) [7] (by kernel_rfl) (grDrew _) (fun hHeld => ?_)
    have hSG : Hid (∀ wp wq : World, Gr w5 wp → Gr wp wq → Gr w5 wq) := Lib.hid (fun _ _ h k => h.tr k)
    have hmv := Lib.hid (fun (wq : World) (hq : Gr w5 wq) => And.intro (grCell hq cx5) (grCell hq e5))
    first
     | (refine xk hSG 0 [1, 2, 3, 6, 7] (v := ?_) rfl (by kernel_rfl) (fun _ _ _ h => h) (by rfl) ?_ hHeld ?_; rotate_left; focus (intro w' hSw; obtain ⟨cx5, e5⟩ := hmv.out _ hSw; go_simp; (try with_reducible rfl)))
     | refine xn hSG 0 [1, 2, 3, 6, 7] rfl (by kernel_rfl) (fun _ _ _ h => h) (by rfl) hHeld ?_
    (try simp only [zq1, zq2, zq3, Act.put, zq4, zq5, zq6])
    first
     | (refine xk hSG 1 [2, 3, 6, 7] (v := ?_) rfl (by kernel_rfl) (fun _ _ _ h => h) (by rfl) ?_ hHeld ?_; rotate_left; focus (intro w' hSw; obtain ⟨cx5, e5⟩ := hmv.out _ hSw; go_simp; (try with_reducible rfl)))
     | refine xn hSG 1 [2, 3, 6, 7] rfl (by kernel_rfl) (fun _ _ _ h => h) (by rfl) hHeld ?_
    (try simp only [zq1, zq2, zq3, Act.put, zq4, zq5, zq6])
    first
     | (refine xk hSG 2 [3, 6, 7] (v := ?_) rfl (by kernel_rfl) (fun _ _ _ h => h) (by rfl) ?_ hHeld ?_; rotate_left; focus (intro w' hSw; obtain ⟨cx5, e5⟩ := hmv.out _ hSw; go_simp; (try with_reducible rfl)))
     | refine xn hSG 2 [3, 6, 7] rfl (by kernel_rfl) (fun _ _ _ h => h) (by rfl) hHeld ?_
    (try simp only [zq1, zq2, zq3, Act.put, zq4, zq5, zq6])
    first
     | (refine xk hSG 3 [6, 7] (v := ?_) rfl (by kernel_rfl) (fun _ _ _ h => h) (by rfl) ?_ hHeld ?_; rotate_left; focus (intro w' hSw; obtain ⟨cx5, e5⟩ := hmv.out _ hSw; go_simp; (try with_reducible rfl)))
     | refine xn hSG 3 [6, 7] rfl (by kernel_rfl) (fun _ _ _ h => h) (by rfl) hHeld ?_
    (try simp only [zq1, zq2, zq3, Act.put, zq4, zq5, zq6])
    first
     | (refine xk hSG 4 [6, 7] (v := ?_) rfl (by kernel_rfl) (fun _ _ _ h => h) (by rfl) ?_ hHeld ?_; rotate_left; focus (intro w' hSw; obtain ⟨cx5, e5⟩ := hmv.out _ hSw; go_simp; (try with_reducible rfl)))
     | refine xn hSG 4 [6, 7] rfl (by kernel_rfl) (fun _ _ _ h => h) (by rfl) hHeld ?_
    (try simp only [zq1, zq2, zq3, Act.put, zq4, zq5, zq6])
    first
     | (refine xk hSG 5 [6, 7] (v := ?_) rfl (by kernel_rfl) (fun _ _ _ h => h) (by rfl) ?_ hHeld ?_; rotate_left; focus (intro w' hSw; obtain ⟨cx5, e5⟩ := hmv.out _ hSw; go_simp; (try with_reducible rfl)))
     | refine xn hSG 5 [6, 7] rfl (by kernel_rfl) (fun _ _ _ h => h) (by rfl) hHeld ?_
    (try simp only [zq1, zq2, zq3, Act.put, zq4, zq5, zq6])
    refine xk hSG 6 [7] (v := .pointer (some ⟨g, k, none⟩)) rfl (by kernel_rfl) (fun _ _ _ h => h) (by rfl) ?_ hHeld ?_
    focus (intro w' hSw; obtain ⟨cx5, e5⟩ := hmv.out _ hSw; go_simp; (try (intro hq; omega)))
    (try simp only [zq1, zq2, zq3, Act.put, zq4, zq5, zq6])
    refine wpAnyX_oneX (i := 7) (by kernel_rfl) (by kernel_rfl) rfl (fun w6 hg K hK => ?_)
    have hg6 := hHeld.out.tr hg
    obtain ⟨g2, hg2, -, -, -, s0, sf, sset⟩ := (HO5.out.gr hg6).at hkH.out
    obtain rfl : g = g2 := by simpa using hg2
    go_simp
    refine hK.out _ _ ?_
    clear hK K hg hHeld hSG cx5 e5 s0 sf
    have hO6 := Lib.hid (sset n)
    have hM6 := Lib.hid ((HM5.out.gr hg6).keep (w' := w6.setCell ⟨g, k, none⟩ (.int .i64 n)) (oth rfl (Ne.symm hgb)))
    have hG6 := Lib.hid (belK (i := k) (u := .int .i64 n) (HG5.out.tr hg6) hgB)
    have hK6 := Lib.hid (Kp.set (i := k) (v := .int .i64 n) (HK5.out.gr hg6))
    clear hg6 sset HM5 HO5 HG5
    refine wpAnyX_done (by kernel_rfl) (fun w7 hg => ?_) _
    have hO7 := Lib.hid (hO6.out.gr hg)
    have hM7 := Lib.hid (hM6.out.gr hg)
    have hG7 := Lib.hid (Gr.tr hG6.out hg)
    have hK7 := Lib.hid (hK6.out.gr hg)
    clear hg hO6 hM6 hG6
    go_wp2
    go_ret
    exact ⟨rfl, hM7.out, hO7.out, hG7.out, hK7.out⟩
end N
end Go.Proofs.YthgngkajdiclcaaDoor
