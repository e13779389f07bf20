/- Texts of one proof: CxL. -/
import Derived.Test.YtljknappbnoikaaGreatDoorZo
import Derived.Test.YtljknappbnoikaaGreatDoorZp
import Derived.Test.YtljknappbnoikaaGreatDoorZe
set_option linter.unusedVariables false
set_option linter.unusedSimpArgs false
set_option maxRecDepth 100000
set_option maxHeartbeats 8000000
namespace Go.Proofs.YtljknappbnoikaaGreatDoor
open Go.RowKit
namespace C
abbrev zOn : Array Value := #[.slice none 0 0, .slice none 0 0, .slice none 0 0, .slice none 0 0, .slice none 0 0]
theorem handlers_nil (S A : Option Addr) (n m c : Nat) (w : World) : Calls Tryz.prog 97 #[.slice S n m, .slice A 0 c] w (V1 (.agg zOn) w) := by
 have HB := Lib.hid (bAllocC (o := .cells zOn 24) (bAllocC (o := .cells zOn 24) (Below.refl w.heap.size w)))
 have HR := Lib.hid ((Below.heap_alloc (w.alloc (.cells zOn 24)) (.cells zOn 24) w.heap.size (by simp)).trans (newBlkC w (.cells zOn 24) _ rfl))
 have HO := Lib.hid (newBlkC (w.alloc (.cells zOn 24)) (.cells zOn 24) (w.heap.size + 1) (by simp))
 obtain ⟨⟨r0, r1, r2, r3, r4⟩, d0, d1, d2, d3, d4⟩ := cells5C HR.out
 obtain ⟨⟨o0, o1, o2, o3, o4⟩, -⟩ := cells5C HO.out
 go_enter Tryz.func97, Tryz.ntmps97
 go_wp2_with fail
 go_loopg [11] 0 (fun gk i wr => i = .int .i64 0 ∧ gk = 0 ∧ wr = (w.alloc (.cells zOn 24)).alloc (.cells zOn 24))
 case atStart => exact ⟨rfl, rfl, rfl⟩
 case round =>
  obtain ⟨rfl, rfl, rfl⟩ := hrel
  go_wp2_with fail
  exact bodyPost_ret (v := .agg zOn) (by simp [results, Tryz.results97, go_sem, r0, r1, r2, r3, r4]) rfl ⟨rfl, HB.out⟩
theorem VNds.snocG {B B' : Nat} {w w2 : World} {v : Value} {ts : List Nd} {t : Nd} {A : Option Addr} {c g cap H : Nat} {vs : List Value} (hown : w.ownsRow B 79 6 v ts.length vs) (hr : RowsR w (Beside B v) ts vs) (hk : KidsR w (From B') t.kids A)
  (hv : ∀ k, v.ownBlock = some k → k < B') (hB : B ≤ B') (hg : w.grownBy w2 v.ownBlock)
  (hown2 : w2.ownsRow B 79 6 (.slice (some ⟨g, 0, none⟩) (ts.length + 1) cap) (ts.length + 1) (vs ++ nCells t A c)) (hat : v.ownBlock = some g ∨ g = H) (hH : w.heap.size ≤ H) :
  VNds B w2 (.slice (some ⟨g, 0, none⟩) (ts.length + 1) cap) (ts ++ [t]) := by
 have hkeep : ∀ k, Beside B v k → k < w.heap.size → w2.heap[k]? = w.heap[k]? ∧ Beside B (.slice (some ⟨g, 0, none⟩) (ts.length + 1) cap) k := by
  intro k hk1 hk2
  refine ⟨hg.block k hk2 (fun e => hk1.2 e.symm), hk1.1, ?_⟩
  simp only [Value.ownBlock]
  intro e
  rcases hat with h1 | h1
  ·exact hk1.2 (h1.trans e)
  ·cases e; omega
 have hk' : KidsR w2 (Beside B (.slice (some ⟨g, 0, none⟩) (ts.length + 1) cap)) t.kids A :=
  hk.keep (fun k hk1 hk2 => hkeep k ⟨Nat.le_trans hB hk1, fun e => by have := hv k e; exact absurd this (Nat.not_lt.2 hk1)⟩ hk2)
 exact ⟨vs ++ nCells t A c, by simpa using hown2, RowsR.app (RowsR.one t A c hk') ts vs (hr.keep hkeep)⟩
theorem scO (w : World) (b i k : Nat) (v : Value) (h : k ≠ b) : (w.setCell ⟨b, i, none⟩ v).heap[k]? = w.heap[k]? := heap_setCell_other _ _ _ _ h
theorem belowSet {B b i : Nat} {a w : World} {u : Value} (h : Below B a w) (hb : B ≤ b) : Below B a (w.setCell ⟨b, i, none⟩ u) := h.setCell hb _
def vNd (v : U.Vr) : Nd := .mk 7 v.x v.u 0 0 [numNd v.lo, numNd v.hi, numNd v.i]
def useNd (n : Int) (y : ByteArray) : Nd := .mk 9 y n 0 0 []
def nameAt (vs : List U.Vr) (k : Int) : ByteArray := ((vs[k.toNat]?).map U.Vr.x).getD ⟨#[]⟩
def declKids (vs : List U.Vr) (wi pa : Int) : List Nd := vs.map vNd ++ (useNd 0 (nameAt vs wi) :: (if pa = -1 then [] else [useNd 1 (nameAt vs pa)]))
def declNd (x : ByteArray) (vs : List U.Vr) (wi pa : Int) : Nd := .mk 1 ⟨#[]⟩ 0 0 0 [.mk 6 x 0 0 0 (declKids vs wi pa)]
abbrev itArr (x : ByteArray) (v : Value) : Array Value := #[.int .i64 6, .string x, .int .i64 0, .int .i64 0, .int .i64 0, v]
def TreeP (t : Nd) (w : World) (e : Ending) (w' : World) : Prop := (∃ A c, e = .returned (nv t A c) ∧ KidsR w' (From 0) t.kids A) ∧ Below w.heap.size w w'
theorem TreeP.mk' {t t' : Nd} {w w' : World} {A : Option Addr} {c : Nat} (ht : t = t') (hk : KidsR w' (From 0) t'.kids A) (hb : Below w.heap.size w w') : TreeP t w (.returned (nv t' A c)) w' := by subst ht; exact ⟨⟨A, c, rfl, hk⟩, hb⟩
abbrev wEnd (w : World) (r : Nat) (x : ByteArray) (vk : Value) : World := ((((((w.setCell ⟨r, 0, none⟩ (.int .i64 1)).setCell ⟨r, 1, none⟩ (.string ⟨#[]⟩)).setCell ⟨r, 2, none⟩ (.int .i64 0)).setCell ⟨r, 3, none⟩ (.int .i64 0)).setCell ⟨r, 4, none⟩ (.int .i64 0)).setCell ⟨r, 5, none⟩ (.slice (some ⟨w.heap.size, 0, none⟩) 1 1)).alloc (.cells (itArr x vk) 79)
theorem decl_end {w w' : World} {x : ByteArray} {vk : Value} {ts : List Nd} {z0 z1 z2 z3 z4 z5 : Value} (hR : w'.heap[w.heap.size + 1]? = some (.cells #[z0, z1, z2, z3, z4, z5] 79 (0, 0))) (hO : VNds (w.heap.size + 1 + 1 + 1) w' vk ts) (hB : Below w.heap.size w w') (hs : w.heap.size + 1 + 1 + 1 ≤ w'.heap.size) :
  ((wEnd w' (w.heap.size + 1) x vk).cell? ⟨w.heap.size + 1, 0, none⟩ = some (.int .i64 1) ∧ (wEnd w' (w.heap.size + 1) x vk).cell? ⟨w.heap.size + 1, 1, none⟩ = some (.string ⟨#[]⟩) ∧ (wEnd w' (w.heap.size + 1) x vk).cell? ⟨w.heap.size + 1, 2, none⟩ = some (.int .i64 0) ∧ (wEnd w' (w.heap.size + 1) x vk).cell? ⟨w.heap.size + 1, 3, none⟩ = some (.int .i64 0) ∧ (wEnd w' (w.heap.size + 1) x vk).cell? ⟨w.heap.size + 1, 4, none⟩ = some (.int .i64 0) ∧ (wEnd w' (w.heap.size + 1) x vk).cell? ⟨w.heap.size + 1, 5, none⟩ = some (.slice (some ⟨w'.heap.size, 0, none⟩) 1 1)) ∧
  KidsR (wEnd w' (w.heap.size + 1) x vk) (From 0) [.mk 6 x 0 0 0 ts] (some ⟨w'.heap.size, 0, none⟩) ∧ Below w.heap.size w (wEnd w' (w.heap.size + 1) x vk) := by
 obtain ⟨w6, hw6⟩ : ∃ w6, w6 = (((((w'.setCell ⟨w.heap.size + 1, 0, none⟩ (.int .i64 1)).setCell ⟨w.heap.size + 1, 1, none⟩ (.string ⟨#[]⟩)).setCell ⟨w.heap.size + 1, 2, none⟩ (.int .i64 0)).setCell ⟨w.heap.size + 1, 3, none⟩ (.int .i64 0)).setCell ⟨w.heap.size + 1, 4, none⟩ (.int .i64 0)).setCell ⟨w.heap.size + 1, 5, none⟩ (.slice (some ⟨w'.heap.size, 0, none⟩) 1 1) := ⟨_, rfl⟩
 have h6 : w6.heap[w.heap.size + 1]? = some (.cells #[.int .i64 1, .string ⟨#[]⟩, .int .i64 0, .int .i64 0, .int .i64 0, .slice (some ⟨w'.heap.size, 0, none⟩) 1 1] 79 (0, 0)) := by rw [hw6]; exact set6_5 (set6_4 (set6_3 (set6_2 (set6_1 (set6_0 hR)))))
 have hsz : w6.heap.size = w'.heap.size := by rw [hw6]; simp [World.setCell]
 have hoth : ∀ k, k ≠ w.heap.size + 1 → w6.heap[k]? = w'.heap[k]? := fun k hk => by
  rw [hw6]
  exact (scO _ _ _ _ _ hk).trans ((scO _ _ _ _ _ hk).trans ((scO _ _ _ _ _ hk).trans ((scO _ _ _ _ _ hk).trans ((scO _ _ _ _ _ hk).trans (scO _ _ _ _ _ hk)))))
 have hB6 : Below w.heap.size w w6 := by
  rw [hw6]
  exact belowSet (belowSet (belowSet (belowSet (belowSet (belowSet hB (by omega)) (by omega)) (by omega)) (by omega)) (by omega)) (by omega)
 show (_ ∧ _ ∧ _ ∧ _ ∧ _ ∧ _) ∧ _ ∧ _
 unfold wEnd
 rw [← hw6]
 have h7 := (Below.heap_alloc w6 (.cells (itArr x vk) 79) (w.heap.size + 1) (by omega)).trans h6
 have h8 := newBlkC w6 (.cells (itArr x vk) 79) w'.heap.size hsz.symm
 obtain ⟨⟨c0, c1, c2, c3, c4, c5⟩, -⟩ := cells6 h7
 obtain ⟨⟨i0, i1, i2, i3, i4, i5⟩, -⟩ := cells6 h8
 obtain ⟨A, c, rfl, hk⟩ := hO.kids
 refine ⟨⟨c0, c1, c2, c3, c4, c5⟩, ?_, bAllocC hB6⟩
 unfold KidsR
 refine ⟨_, _, rfl, Nat.zero_le _, ?_, by unfold KidsR; trivial⟩
 unfold OneR
 exact ⟨A, c, i0, i1, i2, i3, i4, i5, KidsR.keep (fun k h1 h2 => ⟨(Below.heap_alloc _ _ _ (by omega)).trans (hoth k (by unfold From at h1; omega)), Nat.zero_le _⟩) _ _ hk⟩
theorem nameAt_get (vs : List U.Vr) (k : Nat) (h : k < vs.length) : nameAt vs k = (vs[k]).x := by
 unfold nameAt
 rw [Int.toNat_natCast, List.getElem?_eq_getElem h]
 rfl
theorem declarations_any (x : ByteArray) (vs : List U.Vr) (VA : Option Addr) (vm : Nat) (o : U.On) (a : U.OnA) (wi pa : Int) (w : World) (hV : U.VarsR w vs VA) (hlen : vs.length ≤ 1000) (hwi : 0 ≤ wi ∧ wi < vs.length) (hpa : pa = -1 ∨ (0 ≤ pa ∧ pa < vs.length)) :
  Calls Tryz.prog 37 #[U.pgv x VA vs.length vm o a wi pa] w (TreeP (declNd x vs wi pa) w) := by
 obtain ⟨wn, rfl⟩ : ∃ wn : Nat, wi = wn := ⟨wi.toNat, by omega⟩
 have hwn : wn < vs.length := by omega
 obtain ⟨gv, ov, rfl, hat0⟩ := hV.addr (by omega)
 have HAT := Lib.hid hat0
 obtain ⟨i0, hi, hz0, hz1, hz2⟩ := info_parts ndInfo
 obtain ⟨W3, hW3⟩ : ∃ W3, W3 = ((w.alloc (.cells (U.pgArr x (some ⟨gv, ov, none⟩) vs.length vm o a wn pa) 26)).alloc (.cells #[.int .i64 0, .string ⟨#[]⟩, .int .i64 0, .int .i64 0, .int .i64 0, .slice none 0 0] 79)).alloc (.cells (itArr x (.slice none 0 0)) 79) := ⟨_, rfl⟩
 have HB : Hid (Below w.heap.size w W3) := Lib.hid (by rw [hW3]; exact bAllocC (bAllocC (bAllocC (Below.refl _ _))))
 have HP : Hid (W3.heap[w.heap.size]? = some (.cells (U.pgArr x (some ⟨gv, ov, none⟩) vs.length vm o a wn pa) 26 (0, 0))) := Lib.hid (by rw [hW3]; exact (Below.heap_alloc _ _ _ (by simp; omega)).trans ((Below.heap_alloc _ _ _ (by simp)).trans (newBlkC _ _ _ rfl)))
 have HR : Hid (W3.heap[w.heap.size + 1]? = some (.cells #[.int .i64 0, .string ⟨#[]⟩, .int .i64 0, .int .i64 0, .int .i64 0, .slice none 0 0] 79 (0, 0))) := Lib.hid (by rw [hW3]; exact (Below.heap_alloc _ _ _ (by simp)).trans (newBlkC _ _ _ (by simp)))
 have HI : Hid (W3.heap[w.heap.size + 1 + 1]? = some (.cells (itArr x (.slice none 0 0)) 79 (0, 0))) := Lib.hid (by rw [hW3]; exact newBlkC _ _ _ (by simp))
 have hs3 : W3.heap.size = w.heap.size + 1 + 1 + 1 := by rw [hW3]; simp
 obtain ⟨p0, p1, p2, p3, p4, p5, p6, p7, p8⟩ := U.cells9 HP.out
 clear hV hat0 hwi
 go_enter Tryz.func37, Tryz.ntmps37
 go_upto_region 2 with fail
 rw [← hW3]
 clear hW3
 go_wp2_with fail
 go_loopg [12] (vs.length) (fun gk i wr => ∃ (k : Nat) (acc : List Nd) (v : Value), k + gk = vs.length ∧ i = .int .i64 k ∧ acc.length = k ∧ Hid (acc = (vs.take k).map vNd) ∧ Hid (wr.heap[w.heap.size + 1 + 1]? = some (.cells (itArr x v) 79 (0, 0))) ∧ Hid (VNds (w.heap.size + 1 + 1 + 1) wr v acc) ∧ Hid (wr.heap[w.heap.size]? = some (.cells (U.pgArr x (some ⟨gv, ov, none⟩) vs.length vm o a wn pa) 26 (0, 0))) ∧ Hid (wr.heap[w.heap.size + 1]? = some (.cells #[.int .i64 0, .string ⟨#[]⟩, .int .i64 0, .int .i64 0, .int .i64 0, .slice none 0 0] 79 (0, 0))) ∧ Hid (Below w.heap.size w wr) ∧ w.heap.size + 1 + 1 + 1 ≤ wr.heap.size)
 case atStart => exact ⟨0, [], .slice none 0 0, by omega, rfl, rfl, Lib.hid rfl, HI, Lib.hid (VNds.nil _ _), HP, HR, HB, by omega⟩
 case round =>
  obtain ⟨k, acc, v0, hk, rfl, hacc, hA, hI, hO, hP, hR, hB, hsz⟩ := hrel
  clear HI HP HR HB p0 p1 p2 p3 p4 p5 p6 p7 p8
  obtain ⟨p0, p1, p2, p3, p4, p5, p6, p7, p8⟩ := U.cells9 hP.out
  obtain ⟨⟨t0, t1, t2, t3, t4, y5⟩, -⟩ := cells6 hI.out
  by_cases hlt : k < vs.length
  case pos =>
    obtain ⟨gk2, rfl⟩ : ∃ g2, gk = g2 + 1 := ⟨gk - 1, by omega⟩
    have hak : acc.length ≤ 1000 := by omega
    have haccH := Lib.hid hacc
    clear hacc
    obtain ⟨e0, e1, e2, e3, e4⟩ := HAT.out _ _ (List.getElem?_eq_getElem hlt)
    have e0 := grCell hB.out e0
    have e1 := grCell hB.out e1
    have e2 := grCell hB.out e2
    have e3 := grCell hB.out e3
    have e4 := grCell hB.out e4
    have hA2 : Hid (acc ++ [vNd vs[k]] = (vs.take (k + 1)).map vNd) := Lib.hid (by rw [hA.out, List.take_add_one, List.getElem?_eq_getElem hlt, List.map_append]; rfl)
    generalize vs[k] = u at *
    obtain ⟨W5, hW5⟩ : ∃ W5, W5 = wr.alloc (.cells (vrArr u) 46) := ⟨_, rfl⟩
    have hG5 : Gr wr W5 := by rw [hW5]; exact grAlloc _ _
    have hQ5 : W5.heap[wr.heap.size]? = some (.cells (vrArr u) 46 (0, 0)) := by rw [hW5]; exact newBlkC _ _ _ rfl
    have hs5 : W5.heap.size = wr.heap.size + 1 := by rw [hW5]; simp
    go_upto_region 5 with fail
    rw [← hW5]
    clear hW5
    obtain ⟨⟨q0, q1, q2, q3, q4⟩, -⟩ := cells5C hQ5
    have y5 := grCell hG5 y5
    obtain ⟨vs7, hown, hrows⟩ := hO.out
    have hol := hown.lt
    have hown := Lib.hid hown
    have hrows := Lib.hid hrows
    refine wp_region_X (S := fun wq => Gr W5 wq) [16, 17, 18] (by kernel_rfl) (grDrew _) (fun hHeld => ?_)
    have hSG : Hid (∀ wp wq : World, Gr W5 wp → Gr wp wq → Gr W5 wq) := Lib.hid (fun _ _ h k => h.tr k)
    have hmv := Lib.hid (fun (wq : World) (hq : Gr W5 wq) => And.intro (grCell hq y5) (And.intro (grCell hq q0) (And.intro (grCell hq q1) (And.intro (grCell hq q2) (And.intro (grCell hq q3) (grCell hq q4))))))
    first
     | (refine xk hSG 0 [1, 16, 17, 18] (v := ?_) rfl (by kernel_rfl) (fun _ _ _ h => h) (by rfl) ?_ hHeld ?_; rotate_left; focus (intro w' hSw; obtain ⟨y5, q0, q1, q2, q3, q4⟩ := hmv.out _ hSw; go_simp; (try with_reducible rfl)))
     | refine xn hSG 0 [1, 16, 17, 18] rfl (by kernel_rfl) (fun _ _ _ h => h) (by rfl) hHeld ?_
    (try simp only [zq1, zq2, zq3, Act.put, zq4, zq5, zq6])
    first
     | (refine xk hSG 1 [16, 17, 18] (v := ?_) rfl (by kernel_rfl) (fun _ _ _ h => h) (by rfl) ?_ hHeld ?_; rotate_left; focus (intro w' hSw; obtain ⟨y5, q0, q1, q2, q3, q4⟩ := hmv.out _ hSw; go_simp; (try with_reducible rfl)))
     | refine xn hSG 1 [16, 17, 18] rfl (by kernel_rfl) (fun _ _ _ h => h) (by rfl) hHeld ?_
    (try simp only [zq1, zq2, zq3, Act.put, zq4, zq5, zq6])
    first
     | (refine xk hSG 2 [3, 14, 15, 16, 17, 18] (v := ?_) rfl (by kernel_rfl) (fun _ _ _ h => h) (by rfl) ?_ hHeld ?_; rotate_left; focus (intro w' hSw; obtain ⟨y5, q0, q1, q2, q3, q4⟩ := hmv.out _ hSw; go_simp; (try with_reducible rfl)))
     | refine xn hSG 2 [3, 14, 15, 16, 17, 18] rfl (by kernel_rfl) (fun _ _ _ h => h) (by rfl) hHeld ?_
    (try simp only [zq1, zq2, zq3, Act.put, zq4, zq5, zq6])
    first
     | (refine xk hSG 3 [14, 15, 16, 17, 18] (v := ?_) rfl (by kernel_rfl) (fun _ _ _ h => h) (by rfl) ?_ hHeld ?_; rotate_left; focus (intro w' hSw; obtain ⟨y5, q0, q1, q2, q3, q4⟩ := hmv.out _ hSw; go_simp; (try with_reducible rfl)))
     | refine xn hSG 3 [14, 15, 16, 17, 18] rfl (by kernel_rfl) (fun _ _ _ h => h) (by rfl) hHeld ?_
    (try simp only [zq1, zq2, zq3, Act.put, zq4, zq5, zq6])
    first
     | (refine xk hSG 4 [5, 14, 15, 16, 17, 18] (v := ?_) rfl (by kernel_rfl) (fun _ _ _ h => h) (by rfl) ?_ hHeld ?_; rotate_left; focus (intro w' hSw; obtain ⟨y5, q0, q1, q2, q3, q4⟩ := hmv.out _ hSw; go_simp; (try with_reducible rfl)))
     | refine xn hSG 4 [5, 14, 15, 16, 17, 18] rfl (by kernel_rfl) (fun _ _ _ h => h) (by rfl) hHeld ?_
    (try simp only [zq1, zq2, zq3, Act.put, zq4, zq5, zq6])
    first
     | (refine xk hSG 5 [14, 15, 16, 17, 18] (v := ?_) rfl (by kernel_rfl) (fun _ _ _ h => h) (by rfl) ?_ hHeld ?_; rotate_left; focus (intro w' hSw; obtain ⟨y5, q0, q1, q2, q3, q4⟩ := hmv.out _ hSw; go_simp; (try with_reducible rfl)))
     | refine xn hSG 5 [14, 15, 16, 17, 18] rfl (by kernel_rfl) (fun _ _ _ h => h) (by rfl) hHeld ?_
    (try simp only [zq1, zq2, zq3, Act.put, zq4, zq5, zq6])
    first
     | (refine xk hSG 6 [7, 12, 13, 14, 15, 16, 17, 18] (v := ?_) rfl (by kernel_rfl) (fun _ _ _ h => h) (by rfl) ?_ hHeld ?_; rotate_left; focus (intro w' hSw; obtain ⟨y5, q0, q1, q2, q3, q4⟩ := hmv.out _ hSw; go_simp; (try with_reducible rfl)))
     | refine xn hSG 6 [7, 12, 13, 14, 15, 16, 17, 18] rfl (by kernel_rfl) (fun _ _ _ h => h) (by rfl) hHeld ?_
    (try simp only [zq1, zq2, zq3, Act.put, zq4, zq5, zq6])
    first
     | (refine xk hSG 7 [12, 13, 14, 15, 16, 17, 18] (v := ?_) rfl (by kernel_rfl) (fun _ _ _ h => h) (by rfl) ?_ hHeld ?_; rotate_left; focus (intro w' hSw; obtain ⟨y5, q0, q1, q2, q3, q4⟩ := hmv.out _ hSw; go_simp; (try with_reducible rfl)))
     | refine xn hSG 7 [12, 13, 14, 15, 16, 17, 18] rfl (by kernel_rfl) (fun _ _ _ h => h) (by rfl) hHeld ?_
    (try simp only [zq1, zq2, zq3, Act.put, zq4, zq5, zq6])
    first
     | (refine xk hSG 8 [9, 12, 13, 14, 15, 16, 17, 18] (v := ?_) rfl (by kernel_rfl) (fun _ _ _ h => h) (by rfl) ?_ hHeld ?_; rotate_left; focus (intro w' hSw; obtain ⟨y5, q0, q1, q2, q3, q4⟩ := hmv.out _ hSw; go_simp; (try with_reducible rfl)))
     | refine xn hSG 8 [9, 12, 13, 14, 15, 16, 17, 18] rfl (by kernel_rfl) (fun _ _ _ h => h) (by rfl) hHeld ?_
    (try simp only [zq1, zq2, zq3, Act.put, zq4, zq5, zq6])
    first
     | (refine xk hSG 9 [12, 13, 14, 15, 16, 17, 18] (v := ?_) rfl (by kernel_rfl) (fun _ _ _ h => h) (by rfl) ?_ hHeld ?_; rotate_left; focus (intro w' hSw; obtain ⟨y5, q0, q1, q2, q3, q4⟩ := hmv.out _ hSw; go_simp; (try with_reducible rfl)))
     | refine xn hSG 9 [12, 13, 14, 15, 16, 17, 18] rfl (by kernel_rfl) (fun _ _ _ h => h) (by rfl) hHeld ?_
    (try simp only [zq1, zq2, zq3, Act.put, zq4, zq5, zq6])
    first
     | (refine xk hSG 10 [11, 12, 13, 14, 15, 16, 17, 18] (v := ?_) rfl (by kernel_rfl) (fun _ _ _ h => h) (by rfl) ?_ hHeld ?_; rotate_left; focus (intro w' hSw; obtain ⟨y5, q0, q1, q2, q3, q4⟩ := hmv.out _ hSw; go_simp; (try with_reducible rfl)))
     | refine xn hSG 10 [11, 12, 13, 14, 15, 16, 17, 18] rfl (by kernel_rfl) (fun _ _ _ h => h) (by rfl) hHeld ?_
    (try simp only [zq1, zq2, zq3, Act.put, zq4, zq5, zq6])
    first
     | (refine xk hSG 11 [12, 13, 14, 15, 16, 17, 18] (v := ?_) rfl (by kernel_rfl) (fun _ _ _ h => h) (by rfl) ?_ hHeld ?_; rotate_left; focus (intro w' hSw; obtain ⟨y5, q0, q1, q2, q3, q4⟩ := hmv.out _ hSw; go_simp; (try with_reducible rfl)))
     | refine xn hSG 11 [12, 13, 14, 15, 16, 17, 18] rfl (by kernel_rfl) (fun _ _ _ h => h) (by rfl) hHeld ?_
    (try simp only [zq1, zq2, zq3, Act.put, zq4, zq5, zq6])
    refine wpAnyX_one (i := 12) (by kernel_rfl) rfl (fun w6 hg K hK => ?_)
    have hgS := hSG.out _ _ hHeld.out hg
    go_simp
    refine hK.out _ _ (hgS.tr (grAlloc _ _)) (fun hHeld => ?_)
    clear hK K hg
    have hs6 := hgS.size
    have hN6 := newBlkC w6 (.cells #[.int .i64 u.lo, .int .i64 u.hi, .int .i64 u.i] 3) _ rfl
    have hI6 : IntsAt (w6.alloc (.cells #[.int .i64 u.lo, .int .i64 u.hi, .int .i64 u.i] 3)) [u.lo, u.hi, u.i] w6.heap.size 0 := fun i n hn => by
     rw [cell_of_row _ _ (0 + i) _ _ (0, 0) hN6]
     match i, hn with
     | 0, hn => cases hn; rfl
     | 1, hn => cases hn; rfl
     | 2, hn => cases hn; rfl
     | i + 3, hn => simp at hn
    clear hgS hN6
    refine wpAnyX_one (i := 13) (by kernel_rfl) rfl (fun w7 hg K hK => ?_)
    have hgS := hSG.out _ _ hHeld.out hg
    go_simp
    have hs7 : w6.heap.size + 1 ≤ w7.heap.size := by have := hg.size; simpa using this
    go_at_call 60
    refine (numbers_any [u.lo, u.hi, u.i] w6.heap.size 0 3 w7 (hI6.below hg) (by simp)).mono ?_
    rintro e w8 ⟨⟨A2, c2, rfl, hk2⟩, hb8⟩
    refine hK.out _ _ (hgS.tr hb8) (fun hHeld => ?_)
    clear hK K hg hI6 hgS
    have hs8 := hb8.size
    first
     | (refine xk hSG 14 [15, 16, 17, 18] (v := ?_) rfl (by kernel_rfl) (fun _ _ _ h => h) (by rfl) ?_ hHeld ?_; rotate_left; focus (intro w' hSw; obtain ⟨y5, q0, q1, q2, q3, q4⟩ := hmv.out _ hSw; go_simp; (try with_reducible rfl)))
     | refine xn hSG 14 [15, 16, 17, 18] rfl (by kernel_rfl) (fun _ _ _ h => h) (by rfl) hHeld ?_
    (try simp only [zq1, zq2, zq3, Act.put, zq4, zq5, zq6])
    refine wpAnyX_one (i := 15) (by kernel_rfl) rfl (fun w9 hg K hK => ?_)
    have hgS := hSG.out _ _ hHeld.out hg
    go_simp
    refine hK.out _ _ (hgS.tr (grAlloc _ _)) (fun hHeld => ?_)
    clear hK K
    have hs9 := hg.size
    have HN9 := Lib.hid (newBlkC w9 (.cells (ndA (vNd u) A2 c2) 79) _ rfl)
    have hk9 : KidsR (w9.alloc (.cells (ndA (vNd u) A2 c2) 79)) (From w7.heap.size) (vNd u).kids A2 := KidsR.keep (P' := From w7.heap.size) (fun k h1 h2 => ⟨(Below.heap_alloc _ _ _ (Nat.lt_of_lt_of_le h2 hg.size)).trans (hg.block k h2), h1⟩) _ _ hk2
    clear hk2 hg
    refine wpAnyX_oneX (i := 16) (by kernel_rfl) (by kernel_rfl) rfl (fun w10 hg K hK => ?_)
    have hG10 : Gr W5 w10 := (hgS.tr (grAlloc _ _)).tr hg
    have HN10 := Lib.hid (grBlk hg HN9.out)
    have hk10 : KidsR w10 (From w7.heap.size) (vNd u).kids A2 := KidsR.keep (P' := From w7.heap.size) (fun k h1 h2 => ⟨hg.block k h2, h1⟩) _ _ hk9
    have hG10' : Gr wr w10 := hG5.tr hG10
    have hown10 := Lib.hid (World.ownsRow.kept hown.out (row := none) ⟨hG10'.os, hG10'.tape, hG10'.output, hG10'.size, fun k hk _ => hG10'.block k hk⟩ (Classical.em _))
    have hs10 : w9.heap.size + 1 ≤ w10.heap.size := by have := hg.size; simpa using this
    refine step_append_lies _ (by rfl) _ _ _ (by rfl) (w.heap.size + 1 + 1 + 1) 79 i0 _ 6 72 Tryz.underlying77 hi hz0 hz1 hz2 rfl (by decide) _ acc.length vs7 (by rfl) hown10.out ⟨w9.heap.size, 0, none⟩ 1 1 (nCells (vNd u) A2 c2) (by rfl) (by rfl) (World.news_of_block (cs := ndA (vNd u) A2 c2) (t := 79) (fr := (0, 0)) HN10.out) (nd_one _ _ _) (by decide) (by unfold maxLen; omega) (by omega) (by first | omega | (simp; omega)) _ rfl ?_
    intro gb cap w11 hown11 hgrow hat11 hlt11
    have hO11 : Hid (VNds (w.heap.size + 1 + 1 + 1) w11 (.slice (some ⟨gb, 0, none⟩) (acc.length + 1) cap) (acc ++ [vNd u])) := Lib.hid (VNds.snocG (B' := w7.heap.size) hown10.out (RowsR.keep (P' := Beside (w.heap.size + 1 + 1 + 1) _) (fun k h1 h2 => ⟨hG10'.block k h2, h1⟩) _ _ hrows.out) hk10 (fun k e => by have := (hol k e).2; omega) (by omega) hgrow hown11 hat11 (Nat.le_refl _))
    have hgb : ∀ k, k < w.heap.size + 1 + 1 + 1 → w11.heap[k]? = wr.heap[k]? := fun k hk => (hgrow.block k (by omega) (fun e => by have := (hol _ e.symm).1; omega)).trans (hG10'.block k (by omega))
    have HB11 : Hid (Below w.heap.size w w11) := Lib.hid ((hB.out.trans (hG10'.mono hB.out.size)).trans (gbBelowC hgrow (by omega) (fun k e => by have := (hol k e).1; omega)))
    have HP11 := Lib.hid ((hgb w.heap.size (by omega)).trans hP.out)
    have HR11 := Lib.hid ((hgb (w.heap.size + 1) (by omega)).trans hR.out)
    have HI11 := Lib.hid ((hgb (w.heap.size + 1 + 1) (by omega)).trans hI.out)
    have hs11 := hgrow.size
    refine hK.out _ _ ?_
    clear hK K hg hgS hHeld hSG hown11 hgrow hat11 hgb hown hrows hol
    refine wpAnyX_oneX (i := 17) (by kernel_rfl) (by kernel_rfl) rfl (fun w11b hg K hK => ?_)
    go_simp
    refine hK.out _ _ ?_
    clear hK K
    have hgA := hg
    clear hg
    refine wpAnyX_oneX (i := 18) (by kernel_rfl) (by kernel_rfl) rfl (fun w12 hg K hK => ?_)
    have hg := hgA.tr hg
    clear hgA
    have HI12 := Lib.hid (grBlk hg HI11.out)
    obtain ⟨⟨t0, t1, t2, t3, t4, t5⟩, g0, g1, g2, g3, g4, g5⟩ := cells6 HI12.out
    go_simp
    refine hK.out _ _ ?_
    clear hK K
    have HI12 := Lib.hid (set6_5 (v := .slice (some ⟨gb, 0, none⟩) (acc.length + 1) cap) HI12.out)
    have HP12 := Lib.hid ((scO w12 (w.heap.size + 1 + 1) 5 (w.heap.size) (.slice (some ⟨gb, 0, none⟩) (acc.length + 1) cap) (by omega)).trans (grBlk hg HP11.out))
    have HR12 := Lib.hid ((scO w12 (w.heap.size + 1 + 1) 5 (w.heap.size + 1) (.slice (some ⟨gb, 0, none⟩) (acc.length + 1) cap) (by omega)).trans (grBlk hg HR11.out))
    have HB12 := Lib.hid (belowSet (u := .slice (some ⟨gb, 0, none⟩) (acc.length + 1) cap) (i := 5) (HB11.out.trans (hg.mono HB11.out.size)) (show w.heap.size ≤ w.heap.size + 1 + 1 by omega))
    have hO12 := Lib.hid (VNds.keep (fun k h1 h2 => (scO w12 (w.heap.size + 1 + 1) 5 (k) (.slice (some ⟨gb, 0, none⟩) (acc.length + 1) cap) (by omega)).trans (hg.block k h2)) hO11.out)
    have hs12 := hg.size
    clear hg
    refine wpAnyX_done (by kernel_rfl) (fun w13 hg => ?_) _
    have HI := Lib.hid (grBlk hg HI12.out)
    have HP := Lib.hid (grBlk hg HP12.out)
    have HR := Lib.hid (grBlk hg HR12.out)
    have HB := Lib.hid (HB12.out.trans (hg.mono HB12.out.size))
    have hO := Lib.hid (VNds.keep (fun k h1 h2 => hg.block k h2) hO12.out)
    have hs13 := hg.size
    go_wp2_with fail
    go_roundg gk2
    case measure => omega
    case rel => exact ⟨k + 1, acc ++ [vNd u], _, by omega, by go_num, by simp [haccH.out], hA2, HI, hO, HP, HR, HB, by simp at hs13; omega⟩
  case neg =>
    have haccH := Lib.hid hacc
    have hak : acc.length ≤ 1000 := by omega
    have hAA : Hid (acc = vs.map vNd) := Lib.hid (by rw [hA.out, List.take_of_length_le (by omega)])
    have hkl : decide ((k : Int) < (vs.length : Int)) = false := by simp; omega
    have HI := hI
    have HP := hP
    have HR := hR
    have HB := hB
    clear hacc hI hP hR hB hA
    generalize huw : vs[wn] = uw at *
    have huw := Lib.hid huw
    go_upto_region 7 with fail
    obtain ⟨vs7, hown, hrows⟩ := hO.out
    have hol := hown.lt
    have hown := Lib.hid hown
    have hrows := Lib.hid hrows
    obtain ⟨p0, p1, p2, p3, p4, p5, p6, p7, p8⟩ := U.cells9 HP.out
    obtain ⟨⟨t0, t1, t2, t3, t4, y5⟩, -⟩ := cells6 HI.out
    have e0 := grCell HB.out (HAT.out _ _ (List.getElem?_eq_getElem hwn)).1
    have hsz := HB.out.size
    refine wp_region_X (S := fun wq => Gr wr wq) [11, 12, 13] (by kernel_rfl) (grDrew _) (fun hHeld => ?_)
    have hSG : Hid (∀ wp wq : World, Gr wr wp → Gr wp wq → Gr wr wq) := Lib.hid (fun _ _ h k => h.tr k)
    have hmv := Lib.hid (fun (wq : World) (hq : Gr wr wq) => And.intro (grCell hq p1) (And.intro (grCell hq p7) (And.intro (grCell hq y5) (grCell hq e0))))
    first
     | (refine xk hSG 0 [1, 11, 12, 13] (v := ?_) rfl (by kernel_rfl) (fun _ _ _ h => h) (by rfl) ?_ hHeld ?_; rotate_left; focus (intro w' hSw; obtain ⟨p1, p7, y5, e0⟩ := hmv.out _ hSw; go_simp; (try with_reducible rfl)))
     | refine xn hSG 0 [1, 11, 12, 13] rfl (by kernel_rfl) (fun _ _ _ h => h) (by rfl) hHeld ?_
    (try simp only [zq1, zq2, zq3, Act.put, zq4, zq5, zq6])
    first
     | (refine xk hSG 1 [11, 12, 13] (v := ?_) rfl (by kernel_rfl) (fun _ _ _ h => h) (by rfl) ?_ hHeld ?_; rotate_left; focus (intro w' hSw; obtain ⟨p1, p7, y5, e0⟩ := hmv.out _ hSw; go_simp; (try with_reducible rfl)))
     | refine xn hSG 1 [11, 12, 13] rfl (by kernel_rfl) (fun _ _ _ h => h) (by rfl) hHeld ?_
    (try simp only [zq1, zq2, zq3, Act.put, zq4, zq5, zq6])
    first
     | (refine xk hSG 2 [3, 6, 7, 8, 9, 10, 11, 12, 13] (v := ?_) rfl (by kernel_rfl) (fun _ _ _ h => h) (by rfl) ?_ hHeld ?_; rotate_left; focus (intro w' hSw; obtain ⟨p1, p7, y5, e0⟩ := hmv.out _ hSw; go_simp; (try with_reducible rfl)))
     | refine xn hSG 2 [3, 6, 7, 8, 9, 10, 11, 12, 13] rfl (by kernel_rfl) (fun _ _ _ h => h) (by rfl) hHeld ?_
    (try simp only [zq1, zq2, zq3, Act.put, zq4, zq5, zq6])
    first
     | (refine xk hSG 3 [6, 7, 8, 9, 10, 11, 12, 13] (v := ?_) rfl (by kernel_rfl) (fun _ _ _ h => h) (by rfl) ?_ hHeld ?_; rotate_left; focus (intro w' hSw; obtain ⟨p1, p7, y5, e0⟩ := hmv.out _ hSw; go_simp; (try with_reducible rfl)))
     | refine xn hSG 3 [6, 7, 8, 9, 10, 11, 12, 13] rfl (by kernel_rfl) (fun _ _ _ h => h) (by rfl) hHeld ?_
    (try simp only [zq1, zq2, zq3, Act.put, zq4, zq5, zq6])
    first
     | (refine xk hSG 4 [5, 6, 7, 8, 9, 10, 11, 12, 13] (v := ?_) rfl (by kernel_rfl) (fun _ _ _ h => h) (by rfl) ?_ hHeld ?_; rotate_left; focus (intro w' hSw; obtain ⟨p1, p7, y5, e0⟩ := hmv.out _ hSw; go_simp; (try with_reducible rfl)))
     | refine xn hSG 4 [5, 6, 7, 8, 9, 10, 11, 12, 13] rfl (by kernel_rfl) (fun _ _ _ h => h) (by rfl) hHeld ?_
    (try simp only [zq1, zq2, zq3, Act.put, zq4, zq5, zq6])
    first
     | (refine xk hSG 5 [6, 7, 8, 9, 10, 11, 12, 13] (v := ?_) rfl (by kernel_rfl) (fun _ _ _ h => h) (by rfl) ?_ hHeld ?_; rotate_left; focus (intro w' hSw; obtain ⟨p1, p7, y5, e0⟩ := hmv.out _ hSw; go_simp; (try with_reducible rfl)))
     | refine xn hSG 5 [6, 7, 8, 9, 10, 11, 12, 13] rfl (by kernel_rfl) (fun _ _ _ h => h) (by rfl) hHeld ?_
    (try simp only [zq1, zq2, zq3, Act.put, zq4, zq5, zq6])
    refine xk hSG 6 [7, 8, 9, 10, 11, 12, 13] (v := .pointer (some ⟨gv, ov + wn * 5, none⟩)) rfl (by kernel_rfl) (fun _ _ _ h => h) (by rfl) ?_ hHeld ?_
    focus (intro w' hSw; obtain ⟨p1, p7, y5, e0⟩ := hmv.out _ hSw; go_simp; (try (intro hq; omega)))
    (try simp only [zq1, zq2, zq3, Act.put, zq4, zq5, zq6])
    first
     | (refine xk hSG 7 [8, 9, 10, 11, 12, 13] (v := ?_) rfl (by kernel_rfl) (fun _ _ _ h => h) (by rfl) ?_ hHeld ?_; rotate_left; focus (intro w' hSw; obtain ⟨p1, p7, y5, e0⟩ := hmv.out _ hSw; go_simp; (try with_reducible rfl)))
     | refine xn hSG 7 [8, 9, 10, 11, 12, 13] rfl (by kernel_rfl) (fun _ _ _ h => h) (by rfl) hHeld ?_
    (try simp only [zq1, zq2, zq3, Act.put, zq4, zq5, zq6])
    first
     | (refine xk hSG 8 [9, 10, 11, 12, 13] (v := ?_) rfl (by kernel_rfl) (fun _ _ _ h => h) (by rfl) ?_ hHeld ?_; rotate_left; focus (intro w' hSw; obtain ⟨p1, p7, y5, e0⟩ := hmv.out _ hSw; go_simp; (try with_reducible rfl)))
     | refine xn hSG 8 [9, 10, 11, 12, 13] rfl (by kernel_rfl) (fun _ _ _ h => h) (by rfl) hHeld ?_
    (try simp only [zq1, zq2, zq3, Act.put, zq4, zq5, zq6])
    first
     | (refine xk hSG 9 [10, 11, 12, 13] (v := ?_) rfl (by kernel_rfl) (fun _ _ _ h => h) (by rfl) ?_ hHeld ?_; rotate_left; focus (intro w' hSw; obtain ⟨p1, p7, y5, e0⟩ := hmv.out _ hSw; go_simp; (try with_reducible rfl)))
     | refine xn hSG 9 [10, 11, 12, 13] rfl (by kernel_rfl) (fun _ _ _ h => h) (by rfl) hHeld ?_
    (try simp only [zq1, zq2, zq3, Act.put, zq4, zq5, zq6])
    refine wpAnyX_one (i := 10) (by kernel_rfl) rfl (fun w6 hg K hK => ?_)
    have hgS := hSG.out _ _ hHeld.out hg
    go_simp
    refine hK.out _ _ (hgS.tr (grAlloc _ _)) (fun hHeld => ?_)
    clear hK K hg
    have HN6 := Lib.hid (newBlkC w6 (.cells (ndA (useNd 0 uw.x) none 0) 79) _ rfl)
    refine wpAnyX_oneX (i := 11) (by kernel_rfl) (by kernel_rfl) rfl (fun w7 hg K hK => ?_)
    have hG7 : Gr wr w7 := (hgS.tr (grAlloc _ _)).tr hg
    have HN7 := Lib.hid (grBlk hg HN6.out)
    have hown7 := Lib.hid (World.ownsRow.kept hown.out (row := none) ⟨hG7.os, hG7.tape, hG7.output, hG7.size, fun k hk _ => hG7.block k hk⟩ (Classical.em _))
    have hs6 := hgS.size
    have hs7 : w6.heap.size + 1 ≤ w7.heap.size := by have := hg.size; simpa using this
    refine step_append_lies _ (by rfl) _ _ _ (by rfl) (w.heap.size + 1 + 1 + 1) 79 i0 _ 6 72 Tryz.underlying77 hi hz0 hz1 hz2 rfl (by decide) _ acc.length vs7 (by rfl) hown7.out ⟨w6.heap.size, 0, none⟩ 1 1 (nCells (useNd 0 uw.x) none 0) (by rfl) (by rfl) (World.news_of_block (cs := ndA (useNd 0 uw.x) none 0) (t := 79) (fr := (0, 0)) HN7.out) (nd_one _ _ _) (by decide) (by unfold maxLen; omega) (by omega) (by first | omega | (simp; omega)) _ rfl ?_
    intro gb cap w8 hown8 hgrow hat8 hlt8
    have hO8 : Hid (VNds (w.heap.size + 1 + 1 + 1) w8 (.slice (some ⟨gb, 0, none⟩) (acc.length + 1) cap) (acc ++ [useNd 0 uw.x])) := Lib.hid (VNds.snocG (B' := w7.heap.size) hown7.out (RowsR.keep (P' := Beside (w.heap.size + 1 + 1 + 1) _) (fun k h1 h2 => ⟨hG7.block k h2, h1⟩) _ _ hrows.out) (by unfold useNd Nd.kids KidsR; trivial) (fun k e => Nat.lt_of_lt_of_le (hol k e).2 hG7.size) (by omega) hgrow hown8 hat8 (Nat.le_refl _))
    have hgb : ∀ k, k < w.heap.size + 1 + 1 + 1 → w8.heap[k]? = wr.heap[k]? := fun k hk => (hgrow.block k (by omega) (fun e => by have := (hol _ e.symm).1; omega)).trans (hG7.block k (by omega))
    have HB8 : Hid (Below w.heap.size w w8) := Lib.hid ((HB.out.trans (hG7.mono hsz)).trans (gbBelowC hgrow (by omega) (fun k e => by have := (hol k e).1; omega)))
    have HP8 := Lib.hid ((hgb w.heap.size (by omega)).trans HP.out)
    have HR8 := Lib.hid ((hgb (w.heap.size + 1) (by omega)).trans HR.out)
    have HI8 := Lib.hid ((hgb (w.heap.size + 1 + 1) (by omega)).trans HI.out)
    have hs8 := hgrow.size
    refine hK.out _ _ ?_
    clear hK K hg hgS hHeld hSG hown8 hgrow hat8 hgb hown hrows hol
    refine wpAnyX_oneX (i := 12) (by kernel_rfl) (by kernel_rfl) rfl (fun w8b hg K hK => ?_)
    go_simp
    refine hK.out _ _ ?_
    clear hK K
    have hgA := hg
    clear hg
    refine wpAnyX_oneX (i := 13) (by kernel_rfl) (by kernel_rfl) rfl (fun w9 hg K hK => ?_)
    have hg := hgA.tr hg
    clear hgA
    have HI9 := Lib.hid (grBlk hg HI8.out)
    obtain ⟨⟨t0, t1, t2, t3, t4, t5⟩, g0, g1, g2, g3, g4, g5⟩ := cells6 HI9.out
    go_simp
    refine hK.out _ _ ?_
    clear hK K
    have HI9 := Lib.hid (set6_5 (v := .slice (some ⟨gb, 0, none⟩) (acc.length + 1) cap) HI9.out)
    have HP9 := Lib.hid ((scO w9 (w.heap.size + 1 + 1) 5 (w.heap.size) (.slice (some ⟨gb, 0, none⟩) (acc.length + 1) cap) (by omega)).trans (grBlk hg HP8.out))
    have HR9 := Lib.hid ((scO w9 (w.heap.size + 1 + 1) 5 (w.heap.size + 1) (.slice (some ⟨gb, 0, none⟩) (acc.length + 1) cap) (by omega)).trans (grBlk hg HR8.out))
    have HB9 := Lib.hid (belowSet (u := .slice (some ⟨gb, 0, none⟩) (acc.length + 1) cap) (i := 5) (HB8.out.trans (hg.mono HB8.out.size)) (show w.heap.size ≤ w.heap.size + 1 + 1 by omega))
    have hO9 := Lib.hid (VNds.keep (fun k h1 h2 => (scO w9 (w.heap.size + 1 + 1) 5 (k) (.slice (some ⟨gb, 0, none⟩) (acc.length + 1) cap) (by omega)).trans (hg.block k h2)) hO8.out)
    have hs9 := hg.size
    clear hg
    refine wpAnyX_done (by kernel_rfl) (fun w10 hg => ?_) _
    have HI := Lib.hid (grBlk hg HI9.out)
    have HP := Lib.hid (grBlk hg HP9.out)
    have HR := Lib.hid (grBlk hg HR9.out)
    have HB := Lib.hid (HB9.out.trans (hg.mono HB9.out.size))
    have hO := Lib.hid (VNds.keep (fun k h1 h2 => hg.block k h2) hO9.out)
    have hsw : w.heap.size + 1 + 1 + 1 ≤ w10.heap.size := by have := hg.size; simp at this; omega
    clear hg HI8 HI9 HP8 HP9 HR8 HR9 HB8 HB9 hO8 hO9 HN6 HN7 hown7 hG7 hs6 hs7 hs8 hs9 p0 p1 p2 p3 p4 p5 p6 p7 p8 t0 t1 t2 t3 t4 y5 e0
    obtain ⟨p0, p1, p2, p3, p4, p5, p6, p7, p8⟩ := U.cells9 HP.out
    obtain ⟨⟨t0, t1, t2, t3, t4, y5⟩, -⟩ := cells6 HI.out
    obtain ⟨⟨r0, r1, r2, r3, r4, r5⟩, d0, d1, d2, d3, d4, d5⟩ := cells6 HR.out
    have rl := blkLtC HR.out
    have il := blkLtC HI.out
    have pl := blkLtC HP.out
    by_cases hm1 : pa = -1
    ·subst hm1
     go_wp2_with fail
     obtain ⟨⟨f0, f1, f2, f3, f4, f5⟩, hkE, hbE⟩ := decl_end (x := x) HR.out hO.out HB.out hsw
     have hD : declNd x vs wn (-1) = .mk 1 ⟨#[]⟩ 0 0 0 [.mk 6 x 0 0 0 (acc ++ [useNd 0 uw.x])] := by unfold declNd declKids; rw [if_pos rfl, nameAt_get vs wn hwn, huw.out, hAA.out] <;> simp
     exact bodyPost_ret (v := nv (.mk 1 ⟨#[]⟩ 0 0 0 [.mk 6 x 0 0 0 (acc ++ [useNd 0 uw.x])]) (some ⟨w10.heap.size, 0, none⟩) 0) (by simp [results, Tryz.results37, go_sem, f0, f1, f2, f3, f4, f5, Nd.kind, Nd.name, Nd.n, Nd.unit, Nd.at0, Nd.kids]) rfl (TreeP.mk' hD hkE hbE)
    ·obtain ⟨pn, rfl⟩ : ∃ pn : Nat, pa = pn := ⟨pa.toNat, by omega⟩
     have hpn : pn < vs.length := by omega
     have hneg : (((pn : Int)) != -1) = true := by simp <;> omega
     generalize hup : vs[pn] = up at *
     have hup := Lib.hid hup
     clear rl il pl
     obtain ⟨acc2, hacc2⟩ : ∃ l, l = acc ++ [useNd 0 uw.x] := ⟨_, rfl⟩
     rw [← hacc2] at hO
     have hak2 : acc2.length ≤ 1001 := by rw [hacc2]; simp; omega
     have hl2 : Hid (acc2.length = acc.length + 1) := Lib.hid (by rw [hacc2]; simp)
     have hacc2H := Lib.hid hacc2
     clear hacc2
     go_upto_region 9 with fail
     obtain ⟨vs7, hown, hrows⟩ := hO.out
     rw [hl2.out] at hown
     have hol := hown.lt
     have hown := Lib.hid hown
     have hrows := Lib.hid hrows
     obtain ⟨p0, p1, p2, p3, p4, p5, p6, p7, p8⟩ := U.cells9 HP.out
     obtain ⟨⟨t0, t1, t2, t3, t4, y5⟩, -⟩ := cells6 HI.out
     have e0 := grCell HB.out (HAT.out _ _ (List.getElem?_eq_getElem hpn)).1
     have hsz := HB.out.size
     refine wp_region_X (S := fun wq => Gr w10 wq) [11, 12, 13] (by kernel_rfl) (grDrew _) (fun hHeld => ?_)
     have hSG : Hid (∀ wp wq : World, Gr w10 wp → Gr wp wq → Gr w10 wq) := Lib.hid (fun _ _ h k => h.tr k)
     have hmv := Lib.hid (fun (wq : World) (hq : Gr w10 wq) => And.intro (grCell hq p1) (And.intro (grCell hq p8) (And.intro (grCell hq y5) (grCell hq e0))))
     first
      | (refine xk hSG 0 [1, 11, 12, 13] (v := ?_) rfl (by kernel_rfl) (fun _ _ _ h => h) (by rfl) ?_ hHeld ?_; rotate_left; focus (intro w' hSw; obtain ⟨p1, p8, y5, e0⟩ := hmv.out _ hSw; go_simp; (try with_reducible rfl)))
      | refine xn hSG 0 [1, 11, 12, 13] rfl (by kernel_rfl) (fun _ _ _ h => h) (by rfl) hHeld ?_
     (try simp only [zq1, zq2, zq3, Act.put, zq4, zq5, zq6])
     first
      | (refine xk hSG 1 [11, 12, 13] (v := ?_) rfl (by kernel_rfl) (fun _ _ _ h => h) (by rfl) ?_ hHeld ?_; rotate_left; focus (intro w' hSw; obtain ⟨p1, p8, y5, e0⟩ := hmv.out _ hSw; go_simp; (try with_reducible rfl)))
      | refine xn hSG 1 [11, 12, 13] rfl (by kernel_rfl) (fun _ _ _ h => h) (by rfl) hHeld ?_
     (try simp only [zq1, zq2, zq3, Act.put, zq4, zq5, zq6])
     first
      | (refine xk hSG 2 [3, 6, 7, 8, 9, 10, 11, 12, 13] (v := ?_) rfl (by kernel_rfl) (fun _ _ _ h => h) (by rfl) ?_ hHeld ?_; rotate_left; focus (intro w' hSw; obtain ⟨p1, p8, y5, e0⟩ := hmv.out _ hSw; go_simp; (try with_reducible rfl)))
      | refine xn hSG 2 [3, 6, 7, 8, 9, 10, 11, 12, 13] rfl (by kernel_rfl) (fun _ _ _ h => h) (by rfl) hHeld ?_
     (try simp only [zq1, zq2, zq3, Act.put, zq4, zq5, zq6])
     first
      | (refine xk hSG 3 [6, 7, 8, 9, 10, 11, 12, 13] (v := ?_) rfl (by kernel_rfl) (fun _ _ _ h => h) (by rfl) ?_ hHeld ?_; rotate_left; focus (intro w' hSw; obtain ⟨p1, p8, y5, e0⟩ := hmv.out _ hSw; go_simp; (try with_reducible rfl)))
      | refine xn hSG 3 [6, 7, 8, 9, 10, 11, 12, 13] rfl (by kernel_rfl) (fun _ _ _ h => h) (by rfl) hHeld ?_
     (try simp only [zq1, zq2, zq3, Act.put, zq4, zq5, zq6])
     first
      | (refine xk hSG 4 [5, 6, 7, 8, 9, 10, 11, 12, 13] (v := ?_) rfl (by kernel_rfl) (fun _ _ _ h => h) (by rfl) ?_ hHeld ?_; rotate_left; focus (intro w' hSw; obtain ⟨p1, p8, y5, e0⟩ := hmv.out _ hSw; go_simp; (try with_reducible rfl)))
      | refine xn hSG 4 [5, 6, 7, 8, 9, 10, 11, 12, 13] rfl (by kernel_rfl) (fun _ _ _ h => h) (by rfl) hHeld ?_
     (try simp only [zq1, zq2, zq3, Act.put, zq4, zq5, zq6])
     first
      | (refine xk hSG 5 [6, 7, 8, 9, 10, 11, 12, 13] (v := ?_) rfl (by kernel_rfl) (fun _ _ _ h => h) (by rfl) ?_ hHeld ?_; rotate_left; focus (intro w' hSw; obtain ⟨p1, p8, y5, e0⟩ := hmv.out _ hSw; go_simp; (try with_reducible rfl)))
      | refine xn hSG 5 [6, 7, 8, 9, 10, 11, 12, 13] rfl (by kernel_rfl) (fun _ _ _ h => h) (by rfl) hHeld ?_
     (try simp only [zq1, zq2, zq3, Act.put, zq4, zq5, zq6])
     refine xk hSG 6 [7, 8, 9, 10, 11, 12, 13] (v := .pointer (some ⟨gv, ov + pn * 5, none⟩)) rfl (by kernel_rfl) (fun _ _ _ h => h) (by rfl) ?_ hHeld ?_
     focus (intro w' hSw; obtain ⟨p1, p8, y5, e0⟩ := hmv.out _ hSw; go_simp; (try (intro hq; omega)))
     (try simp only [zq1, zq2, zq3, Act.put, zq4, zq5, zq6])
     first
      | (refine xk hSG 7 [8, 9, 10, 11, 12, 13] (v := ?_) rfl (by kernel_rfl) (fun _ _ _ h => h) (by rfl) ?_ hHeld ?_; rotate_left; focus (intro w' hSw; obtain ⟨p1, p8, y5, e0⟩ := hmv.out _ hSw; go_simp; (try with_reducible rfl)))
      | refine xn hSG 7 [8, 9, 10, 11, 12, 13] rfl (by kernel_rfl) (fun _ _ _ h => h) (by rfl) hHeld ?_
     (try simp only [zq1, zq2, zq3, Act.put, zq4, zq5, zq6])
     first
      | (refine xk hSG 8 [9, 10, 11, 12, 13] (v := ?_) rfl (by kernel_rfl) (fun _ _ _ h => h) (by rfl) ?_ hHeld ?_; rotate_left; focus (intro w' hSw; obtain ⟨p1, p8, y5, e0⟩ := hmv.out _ hSw; go_simp; (try with_reducible rfl)))
      | refine xn hSG 8 [9, 10, 11, 12, 13] rfl (by kernel_rfl) (fun _ _ _ h => h) (by rfl) hHeld ?_
     (try simp only [zq1, zq2, zq3, Act.put, zq4, zq5, zq6])
     first
      | (refine xk hSG 9 [10, 11, 12, 13] (v := ?_) rfl (by kernel_rfl) (fun _ _ _ h => h) (by rfl) ?_ hHeld ?_; rotate_left; focus (intro w' hSw; obtain ⟨p1, p8, y5, e0⟩ := hmv.out _ hSw; go_simp; (try with_reducible rfl)))
      | refine xn hSG 9 [10, 11, 12, 13] rfl (by kernel_rfl) (fun _ _ _ h => h) (by rfl) hHeld ?_
     (try simp only [zq1, zq2, zq3, Act.put, zq4, zq5, zq6])
     refine wpAnyX_one (i := 10) (by kernel_rfl) rfl (fun y6 hg K hK => ?_)
     have hgS := hSG.out _ _ hHeld.out hg
     go_simp
     refine hK.out _ _ (hgS.tr (grAlloc _ _)) (fun hHeld => ?_)
     clear hK K hg
     have HN6 := Lib.hid (newBlkC y6 (.cells (ndA (useNd 1 up.x) none 0) 79) _ rfl)
     refine wpAnyX_oneX (i := 11) (by kernel_rfl) (by kernel_rfl) rfl (fun y7 hg K hK => ?_)
     have hG7 : Gr w10 y7 := (hgS.tr (grAlloc _ _)).tr hg
     have HN7 := Lib.hid (grBlk hg HN6.out)
     have hown7 := Lib.hid (World.ownsRow.kept hown.out (row := none) ⟨hG7.os, hG7.tape, hG7.output, hG7.size, fun k hk _ => hG7.block k hk⟩ (Classical.em _))
     have hs6 := hgS.size
     have hs7 : y6.heap.size + 1 ≤ y7.heap.size := by have := hg.size; simpa using this
     refine step_append_lies _ (by rfl) _ _ _ (by rfl) (w.heap.size + 1 + 1 + 1) 79 i0 _ 6 72 Tryz.underlying77 hi hz0 hz1 hz2 rfl (by decide) _ (acc.length + 1) vs7 (by rfl) hown7.out ⟨y6.heap.size, 0, none⟩ 1 1 (nCells (useNd 1 up.x) none 0) (by rfl) (by rfl) (World.news_of_block (cs := ndA (useNd 1 up.x) none 0) (t := 79) (fr := (0, 0)) HN7.out) (nd_one _ _ _) (by decide) (by unfold maxLen; omega) (by omega) (by first | omega | (simp; omega)) _ rfl ?_
     intro gb cap y8 hown8 hgrow hat8 hlt8
     have hO8 : Hid (VNds (w.heap.size + 1 + 1 + 1) y8 (.slice (some ⟨gb, 0, none⟩) ((acc.length + 1) + 1) cap) (acc2 ++ [useNd 1 up.x])) := Lib.hid (by have := VNds.snocG (ts := acc2) (t := useNd 1 up.x) (A := none) (vs := vs7) (B' := y7.heap.size) (by rw [hl2.out]; exact hown7.out) (RowsR.keep (P' := Beside (w.heap.size + 1 + 1 + 1) _) (fun k h1 h2 => ⟨hG7.block k h2, h1⟩) _ _ hrows.out) (by unfold useNd Nd.kids KidsR; trivial) (fun k e => Nat.lt_of_lt_of_le (hol k e).2 hG7.size) (by omega) hgrow (by rw [hl2.out]; exact hown8) hat8 (Nat.le_refl _); rw [hl2.out] at this; exact this)
     have hgb : ∀ k, k < w.heap.size + 1 + 1 + 1 → y8.heap[k]? = w10.heap[k]? := fun k hk => (hgrow.block k (by omega) (fun e => by have := (hol _ e.symm).1; omega)).trans (hG7.block k (by omega))
     have HB8 : Hid (Below w.heap.size w y8) := Lib.hid ((HB.out.trans (hG7.mono hsz)).trans (gbBelowC hgrow (by omega) (fun k e => by have := (hol k e).1; omega)))
     have HP8 := Lib.hid ((hgb w.heap.size (by omega)).trans HP.out)
     have HR8 := Lib.hid ((hgb (w.heap.size + 1) (by omega)).trans HR.out)
     have HI8 := Lib.hid ((hgb (w.heap.size + 1 + 1) (by omega)).trans HI.out)
     have hs8 := hgrow.size
     refine hK.out _ _ ?_
     clear hK K hg hgS hHeld hSG hown8 hgrow hat8 hgb hown hrows hol
     refine wpAnyX_oneX (i := 12) (by kernel_rfl) (by kernel_rfl) rfl (fun y8b hg K hK => ?_)
     go_simp
     refine hK.out _ _ ?_
     clear hK K
     have hgA := hg
     clear hg
     refine wpAnyX_oneX (i := 13) (by kernel_rfl) (by kernel_rfl) rfl (fun y9 hg K hK => ?_)
     have hg := hgA.tr hg
     clear hgA
     have HI9 := Lib.hid (grBlk hg HI8.out)
     obtain ⟨⟨t0, t1, t2, t3, t4, t5⟩, g0, g1, g2, g3, g4, g5⟩ := cells6 HI9.out
     go_simp
     refine hK.out _ _ ?_
     clear hK K
     have HI9 := Lib.hid (set6_5 (v := .slice (some ⟨gb, 0, none⟩) ((acc.length + 1) + 1) cap) HI9.out)
     have HP9 := Lib.hid ((scO y9 (w.heap.size + 1 + 1) 5 (w.heap.size) (.slice (some ⟨gb, 0, none⟩) ((acc.length + 1) + 1) cap) (by omega)).trans (grBlk hg HP8.out))
     have HR9 := Lib.hid ((scO y9 (w.heap.size + 1 + 1) 5 (w.heap.size + 1) (.slice (some ⟨gb, 0, none⟩) ((acc.length + 1) + 1) cap) (by omega)).trans (grBlk hg HR8.out))
     have HB9 := Lib.hid (belowSet (u := .slice (some ⟨gb, 0, none⟩) ((acc.length + 1) + 1) cap) (i := 5) (HB8.out.trans (hg.mono HB8.out.size)) (show w.heap.size ≤ w.heap.size + 1 + 1 by omega))
     have hO9 := Lib.hid (VNds.keep (fun k h1 h2 => (scO y9 (w.heap.size + 1 + 1) 5 (k) (.slice (some ⟨gb, 0, none⟩) ((acc.length + 1) + 1) cap) (by omega)).trans (hg.block k h2)) hO8.out)
     have hs9 := hg.size
     clear hg
     refine wpAnyX_done (by kernel_rfl) (fun y10 hg => ?_) _
     have HI := Lib.hid (grBlk hg HI9.out)
     have HP := Lib.hid (grBlk hg HP9.out)
     have HR := Lib.hid (grBlk hg HR9.out)
     have HB := Lib.hid (HB9.out.trans (hg.mono HB9.out.size))
     have hO := Lib.hid (VNds.keep (fun k h1 h2 => hg.block k h2) hO9.out)
     have hsw : w.heap.size + 1 + 1 + 1 ≤ y10.heap.size := by have := hg.size; simp at this; omega
     clear hg HI8 HI9 HP8 HP9 HR8 HR9 HB8 HB9 hO8 hO9 HN6 HN7 hown7 hG7 hs6 hs7 hs8 hs9 p0 p1 p2 p3 p4 p5 p6 p7 p8 t0 t1 t2 t3 t4 y5 e0
     obtain ⟨⟨t0, t1, t2, t3, t4, y5⟩, -⟩ := cells6 HI.out
     obtain ⟨⟨r0, r1, r2, r3, r4, r5⟩, d0, d1, d2, d3, d4, d5⟩ := cells6 HR.out
     have rl := blkLtC HR.out
     have il := blkLtC HI.out
     go_wp2_with fail
     obtain ⟨⟨f0, f1, f2, f3, f4, f5⟩, hkE, hbE⟩ := decl_end (x := x) HR.out hO.out HB.out hsw
     have hD : declNd x vs wn pn = .mk 1 ⟨#[]⟩ 0 0 0 [.mk 6 x 0 0 0 (acc2 ++ [useNd 1 up.x])] := by unfold declNd declKids; rw [if_neg hm1, nameAt_get vs wn hwn, huw.out, nameAt_get vs pn hpn, hup.out, hacc2H.out, hAA.out] <;> simp
     exact bodyPost_ret (v := nv (.mk 1 ⟨#[]⟩ 0 0 0 [.mk 6 x 0 0 0 (acc2 ++ [useNd 1 up.x])]) (some ⟨y10.heap.size, 0, none⟩) 0) (by simp [results, Tryz.results37, go_sem, f0, f1, f2, f3, f4, f5, Nd.kind, Nd.name, Nd.n, Nd.unit, Nd.at0, Nd.kids]) rfl (TreeP.mk' hD hkE hbE)
end C
end Go.Proofs.YtljknappbnoikaaGreatDoor
