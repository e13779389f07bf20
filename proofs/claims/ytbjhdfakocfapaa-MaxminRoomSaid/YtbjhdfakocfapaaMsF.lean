/- Package maxmin: the level of a limit, and of a link. -/
import Derived.Test.YtbjhdfakocfapaaMsE
import Derived.Deep.DeepCutAuto
import Derived.Deep.Cut
namespace Go.Proofs.Ytbjhdfakocfapaa
open Go.RowKit
set_option linter.unusedVariables false
set_option linter.unusedSimpArgs false
attribute [local go_sem] Oper.semAt_some
theorem qbSet {w : World} {b : Nat} {v0 v1 x y : Value} {T : TypeId} (h : w.heap[b]? = some (.cells #[v0, v1] T (0, 0))) : ((w.setCell ⟨b, 0, none⟩ x).setCell ⟨b, 1, none⟩ y).heap[b]? = some (.cells #[x, y] T (0, 0)) := by
  have h1 : (w.setCell ⟨b, 0, none⟩ x).heap[b]? = some (.cells #[x, v1] T (0, 0)) := by rw [heap_setCell_same _ _ 0 _ _ _ h]; simp
  rw [heap_setCell_same _ _ 1 _ _ _ h1]; simp
theorem inSet {w : World} {b : Nat} {v x : Value} {T : TypeId} (h : w.heap[b]? = some (.cells #[v] T (0, 0))) : (w.setCell ⟨b, 0, none⟩ x).heap[b]? = some (.cells #[x] T (0, 0)) := by
  rw [heap_setCell_same _ _ 0 _ _ _ h]; simp
theorem far2' {w : World} {b c : Nat} {x y : Value} {o : Obj} (h : c ≠ b) (H : w.heap[c]? = some o) : ((w.setCell ⟨b, 0, none⟩ x).setCell ⟨b, 1, none⟩ y).heap[c]? = some o := setK H h
theorem far1 {w : World} {b c : Nat} {x : Value} {o : Obj} (h : c ≠ b) (H : w.heap[c]? = some o) : (w.setCell ⟨b, 0, none⟩ x).heap[c]? = some o := (Below.heap_setCell _ _ _ _ h).trans H
theorem bel1 {B b : Nat} {a w : World} {x : Value} (h : Below B a w) (hb : B ≤ b) : Below B a (w.setCell ⟨b, 0, none⟩ x) := h.setCell (p := ⟨b, 0, none⟩) hb _
theorem up2 {B b : Nat} {X w : World} {x y : Value} (h : Up B X w) (hb : b < B) : Up B X ((w.setCell ⟨b, 0, none⟩ x).setCell ⟨b, 1, none⟩ y) := (h.setCell (p := ⟨b, 0, none⟩) hb _).setCell (p := ⟨b, 1, none⟩) hb _
theorem up1 {B b : Nat} {X w : World} {x : Value} (h : Up B X w) (hb : b < B) : Up B X (w.setCell ⟨b, 0, none⟩ x) := h.setCell (p := ⟨b, 0, none⟩) hb _
theorem num_get {l : List Int} {i : Nat} (h : i < l.length) : l[i]? = some (num l i) := by simp [num, h]
set_option maxHeartbeats 4000000 in
set_option maxRecDepth 100000 in
theorem limlevel_any (W0 : World) (F R X : Nat) (n : Net) (a : NetA) (xs : List Q) (fx : List Bool) (i : Nat) (hi : i < n.l.length) (w : World) (hf : FilR W0 F R X n a xs fx w) :
    Calls Try.prog 132 #[.agg #[.pointer (some ⟨F, 0, none⟩), .int .i64 (i : Int)]] w (VV (qv ⟨num n.l i, 1⟩) w) := by
  obtain ⟨W1, hW1⟩ : ∃ W1, W1 = (w.alloc (limB F i)).alloc (qb ⟨0, 0⟩) := ⟨_, rfl⟩
  have G1 : Gr w W1 := by rw [hW1]; exact (grAlloc _ _).tr (grAlloc _ _)
  have B1 : W1.heap[w.heap.size]? = some (limB F i) := by rw [hW1]; exact mvAlloc (newBlk _ _ _ rfl)
  have R1 : W1.heap[w.heap.size + 1]? = some (qb ⟨0, 0⟩) := by rw [hW1]; exact newBlk _ _ _ (by simp)
  have z1 : W1.heap.size = w.heap.size + 2 := by rw [hW1]; simp
  have hf1 := hf.up G1
  obtain ⟨⟨s0, s1⟩, -⟩ := cells2 B1
  obtain ⟨-, -, f2, -⟩ := cells5 hf1.fil
  obtain ⟨g, o, hA, hc⟩ := hf1.netw.2.2.addr (by omega)
  have c0 := hc i _ (num_get hi)
  rw [hA] at f2
  generalize num n.l i = q at *
  have HR := Lib.hid R1
  have HG := Lib.hid G1
  clear hf hf1 hc hA B1 R1 G1
  go_enter Try.func132, Try.ntmps132
  go_upto_region 1 with fail
  have e1 : w.heap.size + 1 = (w.alloc (limB F i)).heap.size := by simp
  rw [← hW1]
  clear hW1 e1
  refine wp_region_X (S := fun wq => Gr W1 wq) [11] (by kernel_rfl) (grDrew _) (fun hHeld => ?_)
  have hSG : Hid (∀ wp wq : World, Gr W1 wp → Gr wp wq → Gr W1 wq) := Lib.hid (fun _ _ h k => h.tr k)
  have hmv := Lib.hid (fun (wq : World) (hq : Gr W1 wq) => And.intro (grCell hq s0) (And.intro (grCell hq s1) (And.intro (grCell hq f2) (grCell hq c0))))
  first
   | (refine xk hSG 0 [1, 2, 3, 4, 5, 8, 9, 10, 11] (v := ?_) rfl (by kernel_rfl) (fun _ _ _ h => h) (by rfl) ?_ hHeld ?_; rotate_left; focus (intro w' hSw; obtain ⟨s0, s1, f2, c0⟩ := hmv.out _ hSw; go_simp; (try with_reducible rfl)))
   | refine xn hSG 0 [1, 2, 3, 4, 5, 8, 9, 10, 11] rfl (by kernel_rfl) (fun _ _ _ h => h) (by rfl) hHeld ?_
  (try simp only [zq1, zq2, zq3, Act.put, zq4, zq5, zq6])
  first
   | (refine xk hSG 1 [2, 3, 4, 5, 8, 9, 10, 11] (v := ?_) rfl (by kernel_rfl) (fun _ _ _ h => h) (by rfl) ?_ hHeld ?_; rotate_left; focus (intro w' hSw; obtain ⟨s0, s1, f2, c0⟩ := hmv.out _ hSw; go_simp; (try with_reducible rfl)))
   | refine xn hSG 1 [2, 3, 4, 5, 8, 9, 10, 11] rfl (by kernel_rfl) (fun _ _ _ h => h) (by rfl) hHeld ?_
  (try simp only [zq1, zq2, zq3, Act.put, zq4, zq5, zq6])
  first
   | (refine xk hSG 2 [3, 4, 5, 8, 9, 10, 11] (v := ?_) rfl (by kernel_rfl) (fun _ _ _ h => h) (by rfl) ?_ hHeld ?_; rotate_left; focus (intro w' hSw; obtain ⟨s0, s1, f2, c0⟩ := hmv.out _ hSw; go_simp; (try with_reducible rfl)))
   | refine xn hSG 2 [3, 4, 5, 8, 9, 10, 11] rfl (by kernel_rfl) (fun _ _ _ h => h) (by rfl) hHeld ?_
  (try simp only [zq1, zq2, zq3, Act.put, zq4, zq5, zq6])
  first
   | (refine xk hSG 3 [4, 5, 8, 9, 10, 11] (v := ?_) rfl (by kernel_rfl) (fun _ _ _ h => h) (by rfl) ?_ hHeld ?_; rotate_left; focus (intro w' hSw; obtain ⟨s0, s1, f2, c0⟩ := hmv.out _ hSw; go_simp; (try with_reducible rfl)))
   | refine xn hSG 3 [4, 5, 8, 9, 10, 11] rfl (by kernel_rfl) (fun _ _ _ h => h) (by rfl) hHeld ?_
  (try simp only [zq1, zq2, zq3, Act.put, zq4, zq5, zq6])
  first
   | (refine xk hSG 4 [5, 8, 9, 10, 11] (v := ?_) rfl (by kernel_rfl) (fun _ _ _ h => h) (by rfl) ?_ hHeld ?_; rotate_left; focus (intro w' hSw; obtain ⟨s0, s1, f2, c0⟩ := hmv.out _ hSw; go_simp; (try with_reducible rfl)))
   | refine xn hSG 4 [5, 8, 9, 10, 11] rfl (by kernel_rfl) (fun _ _ _ h => h) (by rfl) hHeld ?_
  (try simp only [zq1, zq2, zq3, Act.put, zq4, zq5, zq6])
  first
   | (refine xk hSG 5 [8, 9, 10, 11] (v := ?_) rfl (by kernel_rfl) (fun _ _ _ h => h) (by rfl) ?_ hHeld ?_; rotate_left; focus (intro w' hSw; obtain ⟨s0, s1, f2, c0⟩ := hmv.out _ hSw; go_simp; (try with_reducible rfl)))
   | refine xn hSG 5 [8, 9, 10, 11] rfl (by kernel_rfl) (fun _ _ _ h => h) (by rfl) hHeld ?_
  (try simp only [zq1, zq2, zq3, Act.put, zq4, zq5, zq6])
  first
   | (refine xk hSG 6 [7, 8, 9, 10, 11] (v := ?_) rfl (by kernel_rfl) (fun _ _ _ h => h) (by rfl) ?_ hHeld ?_; rotate_left; focus (intro w' hSw; obtain ⟨s0, s1, f2, c0⟩ := hmv.out _ hSw; go_simp; (try with_reducible rfl)))
   | refine xn hSG 6 [7, 8, 9, 10, 11] rfl (by kernel_rfl) (fun _ _ _ h => h) (by rfl) hHeld ?_
  (try simp only [zq1, zq2, zq3, Act.put, zq4, zq5, zq6])
  first
   | (refine xk hSG 7 [8, 9, 10, 11] (v := ?_) rfl (by kernel_rfl) (fun _ _ _ h => h) (by rfl) ?_ hHeld ?_; rotate_left; focus (intro w' hSw; obtain ⟨s0, s1, f2, c0⟩ := hmv.out _ hSw; go_simp; (try with_reducible rfl)))
   | refine xn hSG 7 [8, 9, 10, 11] rfl (by kernel_rfl) (fun _ _ _ h => h) (by rfl) hHeld ?_
  (try simp only [zq1, zq2, zq3, Act.put, zq4, zq5, zq6])
  refine xk hSG 8 [9, 10, 11] (v := .pointer (some ⟨g, o + i, none⟩)) rfl (by kernel_rfl) (fun _ _ _ h => h) (by rfl) ?_ hHeld ?_
  focus (intro w' hSw; obtain ⟨s0, s1, f2, c0⟩ := hmv.out _ hSw; go_simp; (try (intro hq; omega)))
  (try simp only [zq1, zq2, zq3, Act.put, zq4, zq5, zq6])
  first
   | (refine xk hSG 9 [10, 11] (v := ?_) rfl (by kernel_rfl) (fun _ _ _ h => h) (by rfl) ?_ hHeld ?_; rotate_left; focus (intro w' hSw; obtain ⟨s0, s1, f2, c0⟩ := hmv.out _ hSw; go_simp; (try with_reducible rfl)))
   | refine xn hSG 9 [10, 11] rfl (by kernel_rfl) (fun _ _ _ h => h) (by rfl) hHeld ?_
  (try simp only [zq1, zq2, zq3, Act.put, zq4, zq5, zq6])
  refine xc hSG 10 [11] (v := qv ⟨q, 1⟩) rfl (by kernel_rfl) (fun _ _ _ h => h) (by rfl) ?_ hHeld ?_
  focus (intro wz hSw K hK; obtain ⟨s0, s1, f2, c0⟩ := hmv.out _ hSw; go_simp; go_at_call 52; refine (whole_any _ _).mono ?_; rintro e w2 ⟨rfl, hb2⟩; first | exact hK.out _ hb2 | (have h9 := hK.out _ hb2; (try simp only [zq1, zq2, zq3, Act.put, zq4, zq5, zq6] at h9 ⊢); exact h9) | (have h9 := hK.out _ hb2; go_simp; exact h9))
  (try simp only [zq1, zq2, zq3, Act.put, zq4, zq5, zq6])
  refine wpAnyX_oneX (i := 11) (by kernel_rfl) (by kernel_rfl) rfl (fun w5 hg K hK => ?_)
  have hg5 := hHeld.out.tr hg
  have R5 := grBlk hg5 HR.out
  obtain ⟨⟨r0, r1⟩, r2, r3⟩ := cells2 R5
  go_simp
  refine hK.out _ _ ?_
  refine wpAnyX_done (by kernel_rfl) (fun w7 hg => ?_) _
  have R7 := grBlk hg (qbSet (x := .int .i64 q) (y := .int .i64 1) R5)
  have G7 : Gr w w7 := Below.trans (below2 (HG.out.tr hg5) (Nat.le_succ _)) (hg.mono (by have := hg5.size; simp [World.setCell]; omega))
  clear hK K hHeld hSG hmv hg5 R5 r0 r1 r2 r3 hg
  clear hg
  clear s0 s1 f2 c0
  go_wp2
  exact bodyPost_ret (v := qv ⟨q, 1⟩) (by simp [results, Try.results132, go_sem, (cells2 R7).1.1, (cells2 R7).1.2]) rfl ⟨rfl, G7⟩
set_option maxHeartbeats 8000000 in
set_option maxRecDepth 100000 in
theorem level_any (W0 : World) (F R X : Nat) (n : Net) (a : NetA) (xs : List Q) (fx : List Bool) (l : Nat) (hl : l < n.c.length) (hN : n.f.length ≤ 1000000) (hrow : ∀ r ∈ n.f, r.length ≤ 1000000) (w : World) (hf : FilR W0 F R X n a xs fx w) :
    Calls Try.prog 127 #[.agg #[.pointer (some ⟨F, 0, none⟩), .int .i64 (l : Int)]] w (VV (qv (lev n xs fx (.link l))) w) := by
  obtain ⟨W1, hW1⟩ : ∃ W1, W1 = (w.alloc (lnkB F l)).alloc (qb ⟨0, 0⟩) := ⟨_, rfl⟩
  have G1 : Gr w W1 := by rw [hW1]; exact (grAlloc _ _).tr (grAlloc _ _)
  have B1 : W1.heap[w.heap.size]? = some (lnkB F l) := by rw [hW1]; exact mvAlloc (newBlk _ _ _ rfl)
  have R1 : W1.heap[w.heap.size + 1]? = some (qb ⟨0, 0⟩) := by rw [hW1]; exact newBlk _ _ _ (by simp)
  have z1 : W1.heap.size = w.heap.size + 2 := by rw [hW1]; simp
  have hf1 := hf.up G1
  obtain ⟨⟨s0, s1⟩, -⟩ := cells2 B1
  obtain ⟨f0, -⟩ := cells5 hf1.fil
  obtain ⟨g, o, hA, hc⟩ := hf1.netw.1.addr (by omega)
  have c0 := hc l _ (num_get hl)
  rw [hA] at f0
  obtain ⟨L, hL⟩ : ∃ L, onL n.f (l : Int) = L := ⟨_, rfl⟩
  obtain ⟨cap, hcap⟩ : ∃ cap, num n.c l = cap := ⟨_, rfl⟩
  obtain ⟨S, hS⟩ : ∃ S : Nat → Q × Int, (fun k => lvK n xs fx l k) = S := ⟨_, rfl⟩
  have hS0 : S 0 = (⟨cap, 1⟩, 0) := by rw [← hS]; show lvK n xs fx l 0 = _; unfold lvK; rw [hcap]; simp
  have hSs : ∀ k (h : k < L.length), S (k + 1) = lvStep xs fx (S k) L[k] := by
    intro k h; rw [← hS]; show lvK n xs fx l (k + 1) = lvStep xs fx (lvK n xs fx l k) L[k]; unfold lvK; rw [hL]; exact foldl_take _ _ _ h
  have hSn : ∀ k, k ≤ L.length → 0 ≤ (S k).2 ∧ (S k).2 ≤ k := by
    intro k
    induction k with
    | zero => intro _; rw [hS0]; simp
    | succ k ih =>
      intro h
      have := ih (by omega)
      rw [hSs k (by omega)]
      unfold lvStep
      split <;> simp <;> omega
  have hlev : lev n xs fx (.link l) = (divM (S L.length).1 ⟨(S L.length).2, 1⟩).1 := by rw [← hS, ← hL]; rfl
  rw [hlev]
  have hlt : ∀ i ∈ L, i < n.f.length := fun i hi => by rw [← hL] at hi; exact (sel_mem.1 hi).1
  have hLn : L.length ≤ n.f.length := by rw [← hL]; unfold onL sel; exact Nat.le_trans (List.length_filter_le _ _) (by simp)
  rw [hcap] at c0
  have HR := Lib.hid R1
  have HB := Lib.hid B1
  have HG := Lib.hid G1
  have HF := Lib.hid hf
  have HS := Lib.hid (And.intro hS0 (And.intro hSs hSn))
  have HL := Lib.hid (And.intro hL (And.intro hlt hLn))
  clear hf hf1 hc hA B1 R1 G1 hS0 hSs hSn hS hlev hcap hL hlt hLn
  refine (callsIn_wide (n := 0)).1 ?_
  refine callsIn_of_wp_marks Try.func127 rfl trivial ?_ rfl
  simp only [Try.ntmps127, List.size_toArray, List.length_cons, List.length_nil, Nat.reduceAdd, Nat.reduceSub, Array.replicate_succ, Array.replicate_zero, List.push_toArray, List.append_toArray, List.nil_append, List.cons_append]
  refine wpIn_wide.2 (np ?_)
  go_upto_region 1 with fail
  have e1 : w.heap.size + 1 = (w.alloc (lnkB F l)).heap.size := by simp
  rw [← hW1]
  clear hW1 e1
  go_cut [3, 4] from 8 to 58 (fun s3 s4 wx => ∃ p3 p4 : Nat, s3 = .pointer (some ⟨p3, 0, none⟩) ∧ s4 = .pointer (some ⟨p4, 0, none⟩) ∧ W1.heap.size ≤ p3 ∧ W1.heap.size ≤ p4 ∧ p3 ≠ p4 ∧ p3 < wx.heap.size ∧ p4 < wx.heap.size ∧ Hid (wx.heap[p3]? = some (qb ⟨cap, 1⟩)) ∧ Hid (wx.heap[p4]? = some (intB 0)) ∧ Hid (Gr W1 wx))
  case first =>
    refine wp_region_G (S := fun wq => Gr W1 wq) (by kernel_rfl) (grDrew _) (fun hHeld => ?_)
    have hSG : Hid (∀ wp wq : World, Gr W1 wp → Gr wp wq → Gr W1 wq) := Lib.hid (fun _ _ h k => h.tr k)
    have hmv := Lib.hid (fun (wq : World) (hq : Gr W1 wq) => And.intro (grCell hq s0) (And.intro (grCell hq s1) (And.intro (grCell hq f0) (grCell hq c0))))
    first
     | (refine tk hSG 0 (v := ?_) rfl (by kernel_rfl) (fun _ _ _ h => h) (by rfl) ?_ hHeld ?_; rotate_left; focus (intro w' hSw; obtain ⟨s0, s1, f0, c0⟩ := hmv.out _ hSw; go_simp; (try with_reducible rfl)))
     | refine tn hSG 0 rfl (by kernel_rfl) (fun _ _ _ h => h) (by rfl) hHeld ?_
    (try simp only [zq1, zq2, zq3, Act.put, zq4, zq5, zq6])
    first
     | (refine tk hSG 1 (v := ?_) rfl (by kernel_rfl) (fun _ _ _ h => h) (by rfl) ?_ hHeld ?_; rotate_left; focus (intro w' hSw; obtain ⟨s0, s1, f0, c0⟩ := hmv.out _ hSw; go_simp; (try with_reducible rfl)))
     | refine tn hSG 1 rfl (by kernel_rfl) (fun _ _ _ h => h) (by rfl) hHeld ?_
    (try simp only [zq1, zq2, zq3, Act.put, zq4, zq5, zq6])
    first
     | (refine tk hSG 2 (v := ?_) rfl (by kernel_rfl) (fun _ _ _ h => h) (by rfl) ?_ hHeld ?_; rotate_left; focus (intro w' hSw; obtain ⟨s0, s1, f0, c0⟩ := hmv.out _ hSw; go_simp; (try with_reducible rfl)))
     | refine tn hSG 2 rfl (by kernel_rfl) (fun _ _ _ h => h) (by rfl) hHeld ?_
    (try simp only [zq1, zq2, zq3, Act.put, zq4, zq5, zq6])
    first
     | (refine tk hSG 3 (v := ?_) rfl (by kernel_rfl) (fun _ _ _ h => h) (by rfl) ?_ hHeld ?_; rotate_left; focus (intro w' hSw; obtain ⟨s0, s1, f0, c0⟩ := hmv.out _ hSw; go_simp; (try with_reducible rfl)))
     | refine tn hSG 3 rfl (by kernel_rfl) (fun _ _ _ h => h) (by rfl) hHeld ?_
    (try simp only [zq1, zq2, zq3, Act.put, zq4, zq5, zq6])
    first
     | (refine tk hSG 4 (v := ?_) rfl (by kernel_rfl) (fun _ _ _ h => h) (by rfl) ?_ hHeld ?_; rotate_left; focus (intro w' hSw; obtain ⟨s0, s1, f0, c0⟩ := hmv.out _ hSw; go_simp; (try with_reducible rfl)))
     | refine tn hSG 4 rfl (by kernel_rfl) (fun _ _ _ h => h) (by rfl) hHeld ?_
    (try simp only [zq1, zq2, zq3, Act.put, zq4, zq5, zq6])
    first
     | (refine tk hSG 5 (v := ?_) rfl (by kernel_rfl) (fun _ _ _ h => h) (by rfl) ?_ hHeld ?_; rotate_left; focus (intro w' hSw; obtain ⟨s0, s1, f0, c0⟩ := hmv.out _ hSw; go_simp; (try with_reducible rfl)))
     | refine tn hSG 5 rfl (by kernel_rfl) (fun _ _ _ h => h) (by rfl) hHeld ?_
    (try simp only [zq1, zq2, zq3, Act.put, zq4, zq5, zq6])
    first
     | (refine tk hSG 6 (v := ?_) rfl (by kernel_rfl) (fun _ _ _ h => h) (by rfl) ?_ hHeld ?_; rotate_left; focus (intro w' hSw; obtain ⟨s0, s1, f0, c0⟩ := hmv.out _ hSw; go_simp; (try with_reducible rfl)))
     | refine tn hSG 6 rfl (by kernel_rfl) (fun _ _ _ h => h) (by rfl) hHeld ?_
    (try simp only [zq1, zq2, zq3, Act.put, zq4, zq5, zq6])
    first
     | (refine tk hSG 7 (v := ?_) rfl (by kernel_rfl) (fun _ _ _ h => h) (by rfl) ?_ hHeld ?_; rotate_left; focus (intro w' hSw; obtain ⟨s0, s1, f0, c0⟩ := hmv.out _ hSw; go_simp; (try with_reducible rfl)))
     | refine tn hSG 7 rfl (by kernel_rfl) (fun _ _ _ h => h) (by rfl) hHeld ?_
    (try simp only [zq1, zq2, zq3, Act.put, zq4, zq5, zq6])
    refine tk hSG 8 (v := .pointer (some ⟨g, o + l, none⟩)) rfl (by kernel_rfl) (fun _ _ _ h => h) (by rfl) ?_ hHeld ?_
    focus (intro w' hSw; obtain ⟨s0, s1, f0, c0⟩ := hmv.out _ hSw; go_simp; (try (intro hq; omega)))
    (try simp only [zq1, zq2, zq3, Act.put, zq4, zq5, zq6])
    first
     | (refine tk hSG 9 (v := ?_) rfl (by kernel_rfl) (fun _ _ _ h => h) (by rfl) ?_ hHeld ?_; rotate_left; focus (intro w' hSw; obtain ⟨s0, s1, f0, c0⟩ := hmv.out _ hSw; go_simp; (try with_reducible rfl)))
     | refine tn hSG 9 rfl (by kernel_rfl) (fun _ _ _ h => h) (by rfl) hHeld ?_
    (try simp only [zq1, zq2, zq3, Act.put, zq4, zq5, zq6])
    refine tc hSG 10 (v := qv ⟨cap, 1⟩) rfl (by kernel_rfl) (fun _ _ _ h => h) (by rfl) ?_ hHeld ?_
    focus (intro wz hSw K hK; obtain ⟨s0, s1, f0, c0⟩ := hmv.out _ hSw; go_simp; go_at_call 52; refine (whole_any _ _).mono ?_; rintro e w2 ⟨rfl, hb2⟩; first | exact hK.out _ hb2 | (have h9 := hK.out _ hb2; (try simp only [zq1, zq2, zq3, Act.put, zq4, zq5, zq6] at h9 ⊢); exact h9) | (have h9 := hK.out _ hb2; go_simp; exact h9))
    (try simp only [zq1, zq2, zq3, Act.put, zq4, zq5, zq6])
    clear s0 s1 f0 c0 hmv
    refine wpAnyG_ready (rs := [11, 12]) (by kernel_rfl) (by simp) (AllG.cons rfl (fun w4 hg K hK => ?_) (AllG.cons rfl (fun w4 hg K hK => ?_) AllG.nil))
    · skip
      have hgS := hSG.out _ _ hHeld.out hg
      go_simp
      refine hK.out _ _ (hgS.tr (grAlloc _ _)) (fun hHeld => ?_)
      have A4 := newBlk w4 (qb ⟨0, 0⟩) _ rfl
      have z4 : W1.heap.size ≤ w4.heap.size ∧ (w4.alloc (qb ⟨0, 0⟩)).heap.size = w4.heap.size + 1 := ⟨hgS.size, by simp⟩
      clear hK K hg hgS
      (try simp only [zq1, zq2, zq3, Act.put, zq4, zq5, zq6])
      refine wpAnyG_ready (rs := [12]) (by kernel_rfl) (by simp) (AllG.cons rfl (fun w5 hg K hK => ?_) AllG.nil)
      have hgS := hSG.out _ _ hHeld.out hg
      have z5 : w4.heap.size + 1 ≤ w5.heap.size ∧ (w5.alloc (intB 0)).heap.size = w5.heap.size + 1 := ⟨by have := hg.size; simp at this; omega, by simp⟩
      have A5 := mvAlloc (o := intB 0) (grBlk hg A4)
      have C5 := newBlk w5 (intB 0) _ rfl
      go_simp
      refine hK.out _ _ (hgS.tr (grAlloc _ _)) (fun hHeld => ?_)
      clear hK K hg hgS A4
      (try simp only [zq1, zq2, zq3, Act.put, zq4, zq5, zq6])
      refine wpAnyG_ready (rs := [13]) (by kernel_rfl) (by simp) (AllG.cons rfl (fun wS hg K hK => ?_) AllG.nil)
      have hgS := hSG.out _ _ hHeld.out hg
      have A6 := grBlk hg A5
      have C6 := grBlk hg C5
      obtain ⟨⟨r0, r1⟩, r2, r3⟩ := cells2 A6
      go_simp
      refine hK.out _ _ (below2 hgS (by omega)) (fun hHeld => ?_)
      have A7 := qbSet (x := .int .i64 cap) (y := .int .i64 1) A6
      have C7 := far2' (b := w4.heap.size) (x := .int .i64 cap) (y := .int .i64 1) (by omega) C6
      clear hK K hg A6 C6 r0 r1 r2 r3 hgS A5 C5
      (try simp only [zq1, zq2, zq3, Act.put, zq4, zq5, zq6])
      refine wpAnyG_ready (rs := [14]) (by kernel_rfl) (by simp) (AllG.cons rfl (fun wT hg K hK => ?_) AllG.nil)
      have hgS := hSG.out _ _ hHeld.out hg
      have A8 := grBlk hg A7
      have C8 := grBlk hg C7
      obtain ⟨r0, r2⟩ := cells1 C8
      go_simp
      refine hK.out _ _ (bel1 hgS (by omega)) (fun hHeld => ?_)
      have C9 := inSet (x := .int .i64 0) C8
      have A9 := far1 (b := w5.heap.size) (x := .int .i64 0) (by omega) A8
      clear hK K hg A8 C8 r0 r2 hgS A7 C7
      (try simp only [zq1, zq2, zq3, Act.put, zq4, zq5, zq6])
      refine wpAnyG_done (by kernel_rfl) (fun w9 hg => ?_) _
      have hg9 := hSG.out _ _ hHeld.out hg
      have A := Lib.hid (grBlk hg A9)
      have C := Lib.hid (grBlk hg C9)
      have z9 := hg.size
      simp only [World.size_setCell] at z9
      clear hg A9 C9 hHeld hSG
      go_wp2_with fail
      go_meet
      exact ⟨_, _, rfl, rfl, by omega, by omega, by omega, blkLt A.out, blkLt C.out, A, C, Lib.hid hg9⟩
    · skip
      have hgS := hSG.out _ _ hHeld.out hg
      go_simp
      refine hK.out _ _ (hgS.tr (grAlloc _ _)) (fun hHeld => ?_)
      have C4 := newBlk w4 (intB 0) _ rfl
      have z4 : W1.heap.size ≤ w4.heap.size ∧ (w4.alloc (intB 0)).heap.size = w4.heap.size + 1 := ⟨hgS.size, by simp⟩
      clear hK K hg hgS
      (try simp only [zq1, zq2, zq3, Act.put, zq4, zq5, zq6])
      refine wpAnyG_ready (rs := [11]) (by kernel_rfl) (by simp) (AllG.cons rfl (fun w5 hg K hK => ?_) AllG.nil)
      have hgS := hSG.out _ _ hHeld.out hg
      have z5 : w4.heap.size + 1 ≤ w5.heap.size ∧ (w5.alloc (qb ⟨0, 0⟩)).heap.size = w5.heap.size + 1 := ⟨by have := hg.size; simp at this; omega, by simp⟩
      have C5 := mvAlloc (o := qb ⟨0, 0⟩) (grBlk hg C4)
      have A5 := newBlk w5 (qb ⟨0, 0⟩) _ rfl
      go_simp
      refine hK.out _ _ (hgS.tr (grAlloc _ _)) (fun hHeld => ?_)
      clear hK K hg hgS C4
      (try simp only [zq1, zq2, zq3, Act.put, zq4, zq5, zq6])
      refine wpAnyG_ready (rs := [13]) (by kernel_rfl) (by simp) (AllG.cons rfl (fun wS hg K hK => ?_) AllG.nil)
      have hgS := hSG.out _ _ hHeld.out hg
      have A6 := grBlk hg A5
      have C6 := grBlk hg C5
      obtain ⟨⟨r0, r1⟩, r2, r3⟩ := cells2 A6
      go_simp
      refine hK.out _ _ (below2 hgS (by omega)) (fun hHeld => ?_)
      have A7 := qbSet (x := .int .i64 cap) (y := .int .i64 1) A6
      have C7 := far2' (b := w5.heap.size) (x := .int .i64 cap) (y := .int .i64 1) (by omega) C6
      clear hK K hg A6 C6 r0 r1 r2 r3 hgS A5 C5
      (try simp only [zq1, zq2, zq3, Act.put, zq4, zq5, zq6])
      refine wpAnyG_ready (rs := [14]) (by kernel_rfl) (by simp) (AllG.cons rfl (fun wT hg K hK => ?_) AllG.nil)
      have hgS := hSG.out _ _ hHeld.out hg
      have A8 := grBlk hg A7
      have C8 := grBlk hg C7
      obtain ⟨r0, r2⟩ := cells1 C8
      go_simp
      refine hK.out _ _ (bel1 hgS (by omega)) (fun hHeld => ?_)
      have C9 := inSet (x := .int .i64 0) C8
      have A9 := far1 (b := w4.heap.size) (x := .int .i64 0) (by omega) A8
      clear hK K hg A8 C8 r0 r2 hgS A7 C7
      (try simp only [zq1, zq2, zq3, Act.put, zq4, zq5, zq6])
      refine wpAnyG_done (by kernel_rfl) (fun w9 hg => ?_) _
      have hg9 := hSG.out _ _ hHeld.out hg
      have A := Lib.hid (grBlk hg A9)
      have C := Lib.hid (grBlk hg C9)
      have z9 := hg.size
      simp only [World.size_setCell] at z9
      clear hg A9 C9 hHeld hSG
      go_wp2_with fail
      go_meet
      exact ⟨_, _, rfl, rfl, by omega, by omega, by omega, blkLt A.out, blkLt C.out, A, C, Lib.hid hg9⟩
  case rest =>
    obtain ⟨p3, p4, rfl, rfl, hp3, hp4, hne, hl3, hl4, A, C, G1⟩ := hcut
    have G := Lib.hid (HG.out.tr G1.out)
    have PP := Lib.hid (And.intro hp3 (And.intro hp4 (And.intro hne (And.intro hl3 (And.intro hl4 z1)))))
    clear s0 s1 f0 c0 hp3 hp4 hne hl3 hl4 z1
    have HB2 := Lib.hid (show wc.heap[w.heap.size]? = some (lnkB F l) from grBlk G1.out HB.out)
    have HR2 := Lib.hid (show wc.heap[w.heap.size + 1]? = some (qb ⟨0, 0⟩) from grBlk G1.out HR.out)
    have hf2 := HF.out.up G.out
    obtain ⟨⟨s0, s1⟩, -⟩ := cells2 HB2.out
    obtain ⟨f0, f1, f2, -⟩ := cells5 hf2.fil
    have HT := Lib.hid (fun bn => thr_iter n a (l : Int) bn (bn + 1) hN hrow)
    rw [HL.out.1] at HT
    clear hf2
    go_upto_region 2 with fail
    refine wp_region_G (S := fun wq => Gr wc wq) (by kernel_rfl) (grDrew _) (fun hHeld => ?_)
    have hSG : Hid (∀ wp wq : World, Gr wc wp → Gr wp wq → Gr wc wq) := Lib.hid (fun _ _ h k => h.tr k)
    have hmv := Lib.hid (fun (wq : World) (hq : Gr wc wq) => And.intro (grCell hq s0) (And.intro (grCell hq s1) (And.intro (grCell hq f0) (And.intro (grCell hq f1) (grCell hq f2)))))
    first
     | (refine tk hSG 0 (v := ?_) rfl (by kernel_rfl) (fun _ _ _ h => h) (by rfl) ?_ hHeld ?_; rotate_left; focus (intro w' hSw; obtain ⟨s0, s1, f0, f1, f2⟩ := hmv.out _ hSw; go_simp; (try with_reducible rfl)))
     | refine tn hSG 0 rfl (by kernel_rfl) (fun _ _ _ h => h) (by rfl) hHeld ?_
    (try simp only [zq1, zq2, zq3, Act.put, zq4, zq5, zq6])
    first
     | (refine tk hSG 1 (v := ?_) rfl (by kernel_rfl) (fun _ _ _ h => h) (by rfl) ?_ hHeld ?_; rotate_left; focus (intro w' hSw; obtain ⟨s0, s1, f0, f1, f2⟩ := hmv.out _ hSw; go_simp; (try with_reducible rfl)))
     | refine tn hSG 1 rfl (by kernel_rfl) (fun _ _ _ h => h) (by rfl) hHeld ?_
    (try simp only [zq1, zq2, zq3, Act.put, zq4, zq5, zq6])
    first
     | (refine tk hSG 2 (v := ?_) rfl (by kernel_rfl) (fun _ _ _ h => h) (by rfl) ?_ hHeld ?_; rotate_left; focus (intro w' hSw; obtain ⟨s0, s1, f0, f1, f2⟩ := hmv.out _ hSw; go_simp; (try with_reducible rfl)))
     | refine tn hSG 2 rfl (by kernel_rfl) (fun _ _ _ h => h) (by rfl) hHeld ?_
    (try simp only [zq1, zq2, zq3, Act.put, zq4, zq5, zq6])
    first
     | (refine tk hSG 3 (v := ?_) rfl (by kernel_rfl) (fun _ _ _ h => h) (by rfl) ?_ hHeld ?_; rotate_left; focus (intro w' hSw; obtain ⟨s0, s1, f0, f1, f2⟩ := hmv.out _ hSw; go_simp; (try with_reducible rfl)))
     | refine tn hSG 3 rfl (by kernel_rfl) (fun _ _ _ h => h) (by rfl) hHeld ?_
    (try simp only [zq1, zq2, zq3, Act.put, zq4, zq5, zq6])
    first
     | (refine tk hSG 4 (v := ?_) rfl (by kernel_rfl) (fun _ _ _ h => h) (by rfl) ?_ hHeld ?_; rotate_left; focus (intro w' hSw; obtain ⟨s0, s1, f0, f1, f2⟩ := hmv.out _ hSw; go_simp; (try with_reducible rfl)))
     | refine tn hSG 4 rfl (by kernel_rfl) (fun _ _ _ h => h) (by rfl) hHeld ?_
    (try simp only [zq1, zq2, zq3, Act.put, zq4, zq5, zq6])
    first
     | (refine tk hSG 5 (v := ?_) rfl (by kernel_rfl) (fun _ _ _ h => h) (by rfl) ?_ hHeld ?_; rotate_left; focus (intro w' hSw; obtain ⟨s0, s1, f0, f1, f2⟩ := hmv.out _ hSw; go_simp; (try with_reducible rfl)))
     | refine tn hSG 5 rfl (by kernel_rfl) (fun _ _ _ h => h) (by rfl) hHeld ?_
    (try simp only [zq1, zq2, zq3, Act.put, zq4, zq5, zq6])
    first
     | (refine tk hSG 6 (v := ?_) rfl (by kernel_rfl) (fun _ _ _ h => h) (by rfl) ?_ hHeld ?_; rotate_left; focus (intro w' hSw; obtain ⟨s0, s1, f0, f1, f2⟩ := hmv.out _ hSw; go_simp; (try with_reducible rfl)))
     | refine tn hSG 6 rfl (by kernel_rfl) (fun _ _ _ h => h) (by rfl) hHeld ?_
    (try simp only [zq1, zq2, zq3, Act.put, zq4, zq5, zq6])
    refine wpAnyG_ready (rs := [7]) (by kernel_rfl) (by simp) (AllG.cons rfl (fun w5 hgL K hK => ?_) AllG.nil)
    have hgL := (grDrew wc).tr hgL
    have s0 := grCell hgL s0
    have s1 := grCell hgL s1
    have f0 := grCell hgL f0
    have f1 := grCell hgL f1
    have f2 := grCell hgL f2
    go_simp
    go_at_call 84; refine (through_any n a _ _).mono ?_; rintro e w6 ⟨rfl, rfl⟩
    refine hK.out _ _ (hgL.tr ((grAlloc _ _).tr (grAlloc _ _))) (fun _ => ?_)
    (try simp only [zq1, zq2, zq3, Act.put, zq4, zq5, zq6])
    refine wpAnyG_done (by kernel_rfl) (fun w9 hg9 => ?_) _
    have n9 := grBlk hg9 (mvAlloc (newBlk w5 (netB n a) _ rfl))
    have l9 := grBlk hg9 (newBlk (w5.alloc (netB n a)) (intB (l : Int)) (w5.heap.size + 1) (by simp))
    have G9 : Gr wc w9 := hgL.tr (((grAlloc _ _).tr (grAlloc _ _)).tr hg9)
    have z9 : wc.heap.size ≤ w5.heap.size ∧ w5.heap.size + 2 ≤ w9.heap.size := ⟨hgL.size, by have := hg9.size; simpa using this⟩
    clear hK hHeld hmv hgL hSG hg9
    clear s0 s1 f0 f1 f2
    clear s0 s1 f0 f1 f2
    generalize w5.heap.size = bn at *
    clear hgL
    have HN := Lib.hid n9
    have HLk := Lib.hid l9
    have HZ := Lib.hid z9
    have HG9 := Lib.hid G9
    have HTb := Lib.hid (HT.out bn)
    clear n9 l9 z9 G9 HT
    go_wp2
    refine' range_law (gf := 102) (lb := #[ptr bn, ptr (bn + 1)]) rfl (enters_of Try.func102 (by kernel_rfl) rfl) HTb.out (fun _ => rfl)
      (fun k V => Below w.heap.size w V ∧ V.heap[w.heap.size]? = some (lnkB F l) ∧ V.heap[w.heap.size + 1]? = some (qb ⟨0, 0⟩) ∧ V.heap[bn]? = some (netB n a) ∧ V.heap[bn + 1]? = some (intB (l : Int)) ∧ V.heap[p3]? = some (qb (S k).1) ∧ V.heap[p4]? = some (intB (S k).2) ∧ w9.heap.size ≤ V.heap.size)
      (fun _ _ => False) ?hJ ?hJx ?hRd ?h0 _ ?assign ?body ?done ?stop
    case hJ =>
      rintro k A B ⟨h1, h2, h3, h4, h5, h6, h7, h8⟩ hb
      have := PP.out
      have := HZ.out
      exact ⟨h1.trans (hb.mono (by omega)), (hb.block _ (by omega)).trans h2, (hb.block _ (by omega)).trans h3, (hb.block _ (by omega)).trans h4, (hb.block _ (by omega)).trans h5, (hb.block _ (by omega)).trans h6, (hb.block _ (by omega)).trans h7, Nat.le_trans h8 hb.size⟩
    case hJx => exact fun _ _ _ h _ => h
    case hRd =>
      rintro k A hk ⟨h1, h2, h3, h4, h5, h6, h7, h8⟩
      exact ⟨h4, h5, (HF.out.up h1).netw.2.1⟩
    case h0 =>
      rw [HS.out.1]
      exact ⟨G.out.tr HG9.out, grBlk HG9.out HB2.out, grBlk HG9.out HR2.out, HN.out, HLk.out, grBlk HG9.out A.out, grBlk HG9.out C.out, Nat.le_refl _⟩
    case assign =>
      intro lx x V K hK
      gi_wp2
      exact hK
    case body =>
      rintro l1 k hk V hsz ⟨h1, h2, h3, h4, h5, h6, h7, h8⟩
      have hf := HF.out.up h1
      obtain ⟨i, hi⟩ : ∃ i, L[k] = i := ⟨_, rfl⟩
      have hin : i < n.f.length := by rw [← hi]; exact HL.out.2.1 _ (List.getElem_mem hk)
      have hstep := HS.out.2.1 k hk
      have hcnt := HS.out.2.2 k (Nat.le_of_lt hk)
      have hLn := HL.out.2.2
      rw [hi] at hstep ⊢
      rw [hstep]
      clear hstep hi
      generalize S k = sk at *
      obtain ⟨sq, sn⟩ := sk
      simp only at h6 h7 hcnt
      obtain ⟨⟨s0, s1⟩, -⟩ := cells2 h2
      obtain ⟨f0, f1, f2, f3, f4⟩ := cells5 hf.fil
      have x0 := bC_at hf.fixs (i := i) (by rw [hf.lf]; exact hin)
      obtain ⟨q0, q1⟩ := qC_at hf.rats (i := i) (by rw [hf.lx]; exact hin)
      obtain ⟨⟨r0, r1⟩, r2, r3⟩ := cells2 h6
      obtain ⟨c0, c1⟩ := cells1 h7
      have HV := Lib.hid (And.intro h1 (And.intro h2 (And.intro h3 (And.intro h4 (And.intro h5 h8)))))
      have H67 := Lib.hid (And.intro h6 h7)
      have e1 : fxd fx i = true → lvStep xs fx (sq, sn) i = ((subM sq (rat xs i)).1, sn) := fun h => by unfold lvStep; rw [if_pos h]
      have e2 : fxd fx i = false → lvStep xs fx (sq, sn) i = (sq, sn + 1) := fun h => by unfold lvStep; rw [if_neg (by rw [h]; decide)]
      clear h1 h2 h3 h4 h5 h6 h7 h8 hf f0 f1 f2
      generalize rat xs i = rq at *
      rcases hb : fxd fx i with _ | _
      · rw [e2 hb]
        rw [hb] at x0
        have q9 : IntKind.i64.wrap (sn + 1) = sn + 1 := IntWalk.i64_in _ (by omega)
        clear e1 e2 hb hcnt
        gi_wp2
        obtain ⟨h1, h2, h3, h4, h5, h8⟩ := HV.out
        obtain ⟨h6, h7⟩ := H67.out
        have := PP.out
        have := HZ.out
        exact ⟨up1 (Up.refl _ _) (by omega), bel1 h1 (by omega), far1 (by omega) h2, far1 (by omega) h3, far1 (by omega) h4, far1 (by omega) h5, far1 (by omega) h6, inSet h7, by rw [World.size_setCell]; exact h8⟩
      · rw [e1 hb]
        rw [hb] at x0
        obtain ⟨sr, hsr⟩ : ∃ sr, subM sq rq = sr := ⟨_, rfl⟩
        have HSub := Lib.hid (fun wx => Sub_any sq rq wx)
        rw [hsr] at HSub ⊢
        clear e1 e2 hb hcnt hsr
        gi_wp2_with fail
        refine wpIn_region_X (S := fun wq => Gr V wq) [13, 12] (by kernel_rfl) (by kernel_rfl) (by rintro ⟨_, _, h⟩; exact h) (grDrew _) (fun hHeld => ?_)
        have hSG : Hid (∀ wp wq : World, Gr V wp → Gr wp wq → Gr V wq) := Lib.hid (fun _ _ h k => h.tr k)
        have hmv := Lib.hid (fun (wq : World) (hq : Gr V wq) => And.intro (grCell hq r0) (And.intro (grCell hq r1) (And.intro (grCell hq s0) (And.intro (grCell hq s1) (And.intro (grCell hq f3) (And.intro (grCell hq q0) (grCell hq q1)))))))
        first
         | (refine xk hSG 0 [9, 10, 11, 12, 13] (v := ?_) rfl (by kernel_rfl) (fun _ _ _ h => h) (by rfl) ?_ hHeld ?_; rotate_left; focus (intro w' hSw; obtain ⟨r0, r1, s0, s1, f3, q0, q1⟩ := hmv.out _ hSw; go_simp; (try with_reducible rfl)))
         | refine xn hSG 0 [9, 10, 11, 12, 13] rfl (by kernel_rfl) (fun _ _ _ h => h) (by rfl) hHeld ?_
        (try simp only [zq1, zq2, zq3, Act.put, zq4, zq5, zq6])
        first
         | (refine xk hSG 1 [2, 3, 4, 5, 7, 8, 9, 10, 11, 12, 13] (v := ?_) rfl (by kernel_rfl) (fun _ _ _ h => h) (by rfl) ?_ hHeld ?_; rotate_left; focus (intro w' hSw; obtain ⟨r0, r1, s0, s1, f3, q0, q1⟩ := hmv.out _ hSw; go_simp; (try with_reducible rfl)))
         | refine xn hSG 1 [2, 3, 4, 5, 7, 8, 9, 10, 11, 12, 13] rfl (by kernel_rfl) (fun _ _ _ h => h) (by rfl) hHeld ?_
        (try simp only [zq1, zq2, zq3, Act.put, zq4, zq5, zq6])
        first
         | (refine xk hSG 2 [3, 4, 5, 7, 8, 9, 10, 11, 12, 13] (v := ?_) rfl (by kernel_rfl) (fun _ _ _ h => h) (by rfl) ?_ hHeld ?_; rotate_left; focus (intro w' hSw; obtain ⟨r0, r1, s0, s1, f3, q0, q1⟩ := hmv.out _ hSw; go_simp; (try with_reducible rfl)))
         | refine xn hSG 2 [3, 4, 5, 7, 8, 9, 10, 11, 12, 13] rfl (by kernel_rfl) (fun _ _ _ h => h) (by rfl) hHeld ?_
        (try simp only [zq1, zq2, zq3, Act.put, zq4, zq5, zq6])
        first
         | (refine xk hSG 3 [4, 5, 7, 8, 9, 10, 11, 12, 13] (v := ?_) rfl (by kernel_rfl) (fun _ _ _ h => h) (by rfl) ?_ hHeld ?_; rotate_left; focus (intro w' hSw; obtain ⟨r0, r1, s0, s1, f3, q0, q1⟩ := hmv.out _ hSw; go_simp; (try with_reducible rfl)))
         | refine xn hSG 3 [4, 5, 7, 8, 9, 10, 11, 12, 13] rfl (by kernel_rfl) (fun _ _ _ h => h) (by rfl) hHeld ?_
        (try simp only [zq1, zq2, zq3, Act.put, zq4, zq5, zq6])
        first
         | (refine xk hSG 4 [5, 7, 8, 9, 10, 11, 12, 13] (v := ?_) rfl (by kernel_rfl) (fun _ _ _ h => h) (by rfl) ?_ hHeld ?_; rotate_left; focus (intro w' hSw; obtain ⟨r0, r1, s0, s1, f3, q0, q1⟩ := hmv.out _ hSw; go_simp; (try with_reducible rfl)))
         | refine xn hSG 4 [5, 7, 8, 9, 10, 11, 12, 13] rfl (by kernel_rfl) (fun _ _ _ h => h) (by rfl) hHeld ?_
        (try simp only [zq1, zq2, zq3, Act.put, zq4, zq5, zq6])
        first
         | (refine xk hSG 5 [7, 8, 9, 10, 11, 12, 13] (v := ?_) rfl (by kernel_rfl) (fun _ _ _ h => h) (by rfl) ?_ hHeld ?_; rotate_left; focus (intro w' hSw; obtain ⟨r0, r1, s0, s1, f3, q0, q1⟩ := hmv.out _ hSw; go_simp; (try with_reducible rfl)))
         | refine xn hSG 5 [7, 8, 9, 10, 11, 12, 13] rfl (by kernel_rfl) (fun _ _ _ h => h) (by rfl) hHeld ?_
        (try simp only [zq1, zq2, zq3, Act.put, zq4, zq5, zq6])
        first
         | (refine xk hSG 6 [7, 8, 9, 10, 11, 12, 13] (v := ?_) rfl (by kernel_rfl) (fun _ _ _ h => h) (by rfl) ?_ hHeld ?_; rotate_left; focus (intro w' hSw; obtain ⟨r0, r1, s0, s1, f3, q0, q1⟩ := hmv.out _ hSw; go_simp; (try with_reducible rfl)))
         | refine xn hSG 6 [7, 8, 9, 10, 11, 12, 13] rfl (by kernel_rfl) (fun _ _ _ h => h) (by rfl) hHeld ?_
        (try simp only [zq1, zq2, zq3, Act.put, zq4, zq5, zq6])
        refine xk hSG 7 [8, 9, 10, 11, 12, 13] (v := .pointer (some ⟨R, i * 2, none⟩)) rfl (by kernel_rfl) (fun _ _ _ h => h) (by rfl) ?_ hHeld ?_
        focus (intro w' hSw; obtain ⟨r0, r1, s0, s1, f3, q0, q1⟩ := hmv.out _ hSw; go_simp; (try (intro hq; omega)))
        (try simp only [zq1, zq2, zq3, Act.put, zq4, zq5, zq6])
        first
         | (refine xk hSG 8 [9, 10, 11, 12, 13] (v := ?_) rfl (by kernel_rfl) (fun _ _ _ h => h) (by rfl) ?_ hHeld ?_; rotate_left; focus (intro w' hSw; obtain ⟨r0, r1, s0, s1, f3, q0, q1⟩ := hmv.out _ hSw; go_simp; (try with_reducible rfl)))
         | refine xn hSG 8 [9, 10, 11, 12, 13] rfl (by kernel_rfl) (fun _ _ _ h => h) (by rfl) hHeld ?_
        (try simp only [zq1, zq2, zq3, Act.put, zq4, zq5, zq6])
        refine xc hSG 9 [10, 11, 12, 13] (v := qr sr) rfl (by kernel_rfl) (fun _ _ _ h => h) (by rfl) ?_ hHeld ?_
        focus (intro wz hSw K hK; obtain ⟨r0, r1, s0, s1, f3, q0, q1⟩ := hmv.out _ hSw; go_simp; go_at_call 128; refine (HSub.out _).mono ?_; rintro e w2 ⟨rfl, hb2⟩; first | exact hK.out _ hb2 | (have h9 := hK.out _ hb2; (try simp only [zq1, zq2, zq3, Act.put, zq4, zq5, zq6] at h9 ⊢); exact h9) | (have h9 := hK.out _ hb2; go_simp; exact h9))
        (try simp only [zq1, zq2, zq3, Act.put, zq4, zq5, zq6])
        first
         | (refine xk hSG 10 [11, 12, 13] (v := ?_) rfl (by kernel_rfl) (fun _ _ _ h => h) (by rfl) ?_ hHeld ?_; rotate_left; focus (intro w' hSw; obtain ⟨r0, r1, s0, s1, f3, q0, q1⟩ := hmv.out _ hSw; go_simp; (try with_reducible rfl)))
         | refine xn hSG 10 [11, 12, 13] rfl (by kernel_rfl) (fun _ _ _ h => h) (by rfl) hHeld ?_
        (try simp only [zq1, zq2, zq3, Act.put, zq4, zq5, zq6])
        refine xp 12 (v := ?_) rfl (by kernel_rfl) (fun _ _ _ h => h) (by rfl) ?_ ?_; rotate_left; focus (intro w'; go_simp; (try with_reducible rfl))
        (try simp only [zq1, zq2, zq3, Act.put, zq4, zq5, zq6])
        first
         | (refine xk hSG 11 [13] (v := ?_) rfl (by kernel_rfl) (fun _ _ _ h => h) (by rfl) ?_ hHeld ?_; rotate_left; focus (intro w' hSw; obtain ⟨r0, r1, s0, s1, f3, q0, q1⟩ := hmv.out _ hSw; go_simp; (try with_reducible rfl)))
         | refine xn hSG 11 [13] rfl (by kernel_rfl) (fun _ _ _ h => h) (by rfl) hHeld ?_
        (try simp only [zq1, zq2, zq3, Act.put, zq4, zq5, zq6])
        refine wpAnyX_oneX (i := 13) (by kernel_rfl) (by kernel_rfl) rfl (fun w5 hg K hK => ?_)
        have hg5 := hHeld.out.tr hg
        have R5 := grBlk hg5 H67.out.1
        have C5 := grBlk hg5 H67.out.2
        clear r0 r1 r2 r3
        obtain ⟨⟨r0, r1⟩, r2, r3⟩ := cells2 R5
        go_simp
        refine hK.out _ _ ?_
        refine wpAnyX_done (by kernel_rfl) (fun w7 hg => ?_) _
        obtain ⟨h1, h2, h3, h4, h5, h8⟩ := HV.out
        have := PP.out
        have := HZ.out
        have z5 := hg5.size
        have z7 := hg.size
        simp only [World.size_setCell] at z7
        have R7 := grBlk hg (qbSet (x := .int .i64 sr.1.n) (y := .int .i64 sr.1.d) R5)
        have T2 := grBlk hg (far2' (b := p3) (x := .int .i64 sr.1.n) (y := .int .i64 sr.1.d) (by omega) (grBlk hg5 h2))
        have T3 := grBlk hg (far2' (b := p3) (x := .int .i64 sr.1.n) (y := .int .i64 sr.1.d) (by omega) (grBlk hg5 h3))
        have T4 := grBlk hg (far2' (b := p3) (x := .int .i64 sr.1.n) (y := .int .i64 sr.1.d) (by omega) (grBlk hg5 h4))
        have T5 := grBlk hg (far2' (b := p3) (x := .int .i64 sr.1.n) (y := .int .i64 sr.1.d) (by omega) (grBlk hg5 h5))
        have T7 := grBlk hg (far2' (b := p3) (x := .int .i64 sr.1.n) (y := .int .i64 sr.1.d) (by omega) C5)
        have G7 : Below w.heap.size w _ := Below.trans (below2 (b := p3) (v0 := .int .i64 sr.1.n) (v1 := .int .i64 sr.1.d) (h1.trans (hg5.mono h1.size)) (by omega)) (hg.mono (by simp only [World.size_setCell]; have := h1.size; omega))
        have U7 : Up w9.heap.size V w7 := (up2 (b := p3) (x := .int .i64 sr.1.n) (y := .int .i64 sr.1.d) (belUp hg5 _) (by omega)).trans (belUp hg _)
        clear hK K hHeld hSG hmv hg5 R5 C5 r0 r1 r2 r3
        gi_wp2
        exact ⟨U7, G7, T2, T3, T4, T5, R7, T7, by omega⟩
    case done =>
      rintro V hsz ⟨h1, h2, h3, h4, h5, h6, h7, h8⟩ hD
      generalize S L.length = sk at *
      obtain ⟨sq, sn⟩ := sk
      simp only at h6 h7
      obtain ⟨⟨r0, r1⟩, r2, r3⟩ := cells2 h6
      obtain ⟨c0, c1⟩ := cells1 h7
      obtain ⟨dr, hdr⟩ : ∃ dr, divM sq ⟨sn, 1⟩ = dr := ⟨_, rfl⟩
      have HDiv := Lib.hid (fun wx => Div_any sq ⟨sn, 1⟩ wx)
      rw [hdr] at HDiv
      have HV := Lib.hid (And.intro h1 (And.intro h3 hD))
      have HW := Lib.hid (fun wx => whole_any sn wx)
      have hsz2 := Lib.hid (And.intro hsz h8)
      clear h1 h3 hD h2 h4 h5 h6 h7 h8 hsz
      go_upto_region 7 with fail
      refine wp_region_G (S := fun wq => Gr V wq) (by kernel_rfl) (grDrew _) (fun hHeld => ?_)
      have hSG : Hid (∀ wp wq : World, Gr V wp → Gr wp wq → Gr V wq) := Lib.hid (fun _ _ h k => h.tr k)
      have hmv := Lib.hid (fun (wq : World) (hq : Gr V wq) => And.intro (grCell hq r0) (And.intro (grCell hq r1) (grCell hq c0)))
      first
       | (refine tk hSG 0 (v := ?_) rfl (by kernel_rfl) (fun _ _ _ h => h) (by rfl) ?_ hHeld ?_; rotate_left; focus (intro w' hSw; obtain ⟨r0, r1, c0⟩ := hmv.out _ hSw; go_simp; (try with_reducible rfl)))
       | refine tn hSG 0 rfl (by kernel_rfl) (fun _ _ _ h => h) (by rfl) hHeld ?_
      (try simp only [zq1, zq2, zq3, Act.put, zq4, zq5, zq6])
      first
       | (refine tk hSG 1 (v := ?_) rfl (by kernel_rfl) (fun _ _ _ h => h) (by rfl) ?_ hHeld ?_; rotate_left; focus (intro w' hSw; obtain ⟨r0, r1, c0⟩ := hmv.out _ hSw; go_simp; (try with_reducible rfl)))
       | refine tn hSG 1 rfl (by kernel_rfl) (fun _ _ _ h => h) (by rfl) hHeld ?_
      (try simp only [zq1, zq2, zq3, Act.put, zq4, zq5, zq6])
      refine tc hSG 2 (v := qv ⟨sn, 1⟩) rfl (by kernel_rfl) (fun _ _ _ h => h) (by rfl) ?_ hHeld ?_
      focus (intro wz hSw K hK; obtain ⟨r0, r1, c0⟩ := hmv.out _ hSw; go_simp; go_at_call 52; refine (HW.out _).mono ?_; rintro e w2 ⟨rfl, hb2⟩; first | exact hK.out _ hb2 | (have h9 := hK.out _ hb2; (try simp only [zq1, zq2, zq3, Act.put, zq4, zq5, zq6] at h9 ⊢); exact h9) | (have h9 := hK.out _ hb2; go_simp; exact h9))
      (try simp only [zq1, zq2, zq3, Act.put, zq4, zq5, zq6])
      refine tc hSG 3 (v := qr dr) rfl (by kernel_rfl) (fun _ _ _ h => h) (by rfl) ?_ hHeld ?_
      focus (intro wz hSw K hK; obtain ⟨r0, r1, c0⟩ := hmv.out _ hSw; go_simp; go_at_call 129; refine (HDiv.out _).mono ?_; rintro e w2 ⟨rfl, hb2⟩; first | exact hK.out _ hb2 | (have h9 := hK.out _ hb2; (try simp only [zq1, zq2, zq3, Act.put, zq4, zq5, zq6] at h9 ⊢); exact h9) | (have h9 := hK.out _ hb2; go_simp; exact h9))
      (try simp only [zq1, zq2, zq3, Act.put, zq4, zq5, zq6])
      first
       | (refine tk hSG 4 (v := ?_) rfl (by kernel_rfl) (fun _ _ _ h => h) (by rfl) ?_ hHeld ?_; rotate_left; focus (intro w' hSw; obtain ⟨r0, r1, c0⟩ := hmv.out _ hSw; go_simp; (try with_reducible rfl)))
       | refine tn hSG 4 rfl (by kernel_rfl) (fun _ _ _ h => h) (by rfl) hHeld ?_
      (try simp only [zq1, zq2, zq3, Act.put, zq4, zq5, zq6])
      first
       | (refine tk hSG 5 (v := ?_) rfl (by kernel_rfl) (fun _ _ _ h => h) (by rfl) ?_ hHeld ?_; rotate_left; focus (intro w' hSw; obtain ⟨r0, r1, c0⟩ := hmv.out _ hSw; go_simp; (try with_reducible rfl)))
       | refine tn hSG 5 rfl (by kernel_rfl) (fun _ _ _ h => h) (by rfl) hHeld ?_
      (try simp only [zq1, zq2, zq3, Act.put, zq4, zq5, zq6])
      first
       | (refine tk hSG 6 (v := ?_) rfl (by kernel_rfl) (fun _ _ _ h => h) (by rfl) ?_ hHeld ?_; rotate_left; focus (intro w' hSw; obtain ⟨r0, r1, c0⟩ := hmv.out _ hSw; go_simp; (try with_reducible rfl)))
       | refine tn hSG 6 rfl (by kernel_rfl) (fun _ _ _ h => h) (by rfl) hHeld ?_
      (try simp only [zq1, zq2, zq3, Act.put, zq4, zq5, zq6])
      clear r0 r1 c0 r2 r3 c1
      clear HW HDiv
      refine wpAnyG_ready (rs := [7]) (by kernel_rfl) (by simp) (AllG.cons rfl (fun w4 hg K hK => ?_) AllG.nil)
      have hgS := hSG.out _ _ hHeld.out hg
      go_simp
      refine hK.out _ _ (hgS.tr (grAlloc _ _)) (fun hHeld => ?_)
      have A4 := newBlk w4 (qb ⟨0, 0⟩) _ rfl
      have z4 : V.heap.size ≤ w4.heap.size := hgS.size
      clear hK K hg hgS
      (try simp only [zq1, zq2, zq3, Act.put, zq4, zq5, zq6])
      refine wpAnyG_ready (rs := [8]) (by kernel_rfl) (by simp) (AllG.cons rfl (fun w5 hg K hK => ?_) AllG.nil)
      have hgS := hSG.out _ _ hHeld.out hg
      have A5 := grBlk hg A4
      obtain ⟨⟨r0, r1⟩, r2, r3⟩ := cells2 A5
      go_simp
      refine hK.out _ _ (below2 hgS z4) (fun hHeld => ?_)
      have A6 := qbSet (x := .int .i64 dr.1.n) (y := .int .i64 dr.1.d) A5
      clear hK K hg hgS A4 A5 r0 r1 r2 r3
      (try simp only [zq1, zq2, zq3, Act.put, zq4, zq5, zq6])
      first
       | (refine tk hSG 9 (v := ?_) rfl (by kernel_rfl) (fun _ _ _ h => h) (by rfl) ?_ hHeld ?_; rotate_left; focus (intro w' hSw; obtain ⟨r0, r1, c0⟩ := hmv.out _ hSw; go_simp; (try with_reducible rfl)))
       | refine tn hSG 9 rfl (by kernel_rfl) (fun _ _ _ h => h) (by rfl) hHeld ?_
      (try simp only [zq1, zq2, zq3, Act.put, zq4, zq5, zq6])
      clear hmv
      refine wpAnyG_done (by kernel_rfl) (fun w9' hg => ?_) _
      have hg9 := hSG.out _ _ hHeld.out hg
      have A := grBlk hg A6
      have z5 := blkLt A
      generalize w4.heap.size = p6 at *
      obtain ⟨h1, h3, hD⟩ := HV.out
      have R9 := grBlk hg9 h3
      have D9 := grBlk hg9 hD
      have G9' : Below w.heap.size w w9' := h1.trans (hg9.mono h1.size)
      obtain ⟨⟨r0, r1⟩, r2, r3⟩ := cells2 R9
      obtain ⟨⟨b0, b1⟩, -⟩ := cells2 A
      clear hg hHeld hSG hg9
      clear A6
      go_wp2
      have := PP.out
      have := HZ.out
      have := hsz2.out
      have D10 := far2' (b := w.heap.size + 1) (x := .int .i64 dr.1.n) (y := .int .i64 dr.1.d) (by omega) D9
      have R10 : ((((w9'.setCell ⟨w.heap.size + 1, 0, none⟩ (.int .i64 dr.1.n)).setCell ⟨w.heap.size + 1, 1, none⟩ (.int .i64 dr.1.d))).putObj w9.heap.size (.deferred none)).heap[w.heap.size + 1]? = some (qb dr.1) := by
        rw [World.putObj_heap_other (by omega)]; exact qbSet R9
      exact ret_ofc (v := qv dr.1) D10 (by simp [results, Try.results127, go_sem, (cells2 R10).1.1, (cells2 R10).1.2]) ⟨rfl, (below2 G9' (by omega)).trans (belPut _ (by omega))⟩
    case stop =>
      rintro c V hsz h hD
      exact h.elim
end Go.Proofs.Ytbjhdfakocfapaa
