/- Texts of one proof: UxD, UxE. -/
import Derived.Test.YtljknappbnoikaaGreatDoorZa
import Derived.ChangeKeysEq
set_option linter.unusedVariables false
set_option linter.unusedSimpArgs false
set_option maxRecDepth 100000
set_option maxHeartbeats 8000000
namespace Go.Proofs.YtljknappbnoikaaGreatDoor.U
open Go.RowKit
def curA (p q : Pw) (z : Int) : Nat → Array Value
 | 0 => pArr p
 | 1 => #[.int .i64 (p.a + z * q.a), .int .i64 p.b, .int .i64 p.c]
 | 2 => #[.int .i64 (p.a + z * q.a), .int .i64 (p.b + z * q.b), .int .i64 p.c]
 | _ => pArr (addP p q z)
theorem mul_wrap {z x : Int} (hz : z = 1 ∨ z = -1) (hx : -4 ≤ x ∧ x ≤ 4) : IntKind.i64.wrap (z * x) = z * x ∧ -4 ≤ z * x ∧ z * x ≤ 4 := by
 rcases hz with rfl | rfl
 ·exact ⟨IntWalk.i64_in _ (by omega), by omega, by omega⟩
 ·exact ⟨IntWalk.i64_in _ (by omega), by omega, by omega⟩
theorem add_any (p q : Pw) (z : Int) (hz : z = 1 ∨ z = -1) (hp : rgB p = true) (hq : rgB q = true) (w : World) : Calls Tryz.prog 142 #[pv p, pv q, .int .i64 z] w (VV (pv (addP p q z)) w) := by
 obtain ⟨pa, pb, pc⟩ := rg_iff hp
 obtain ⟨qa, qb, qc⟩ := rg_iff hq
 obtain ⟨ma, ma1, ma2⟩ := mul_wrap hz qa
 obtain ⟨mb, mb1, mb2⟩ := mul_wrap hz qb
 obtain ⟨mc, mc1, mc2⟩ := mul_wrap hz qc
 have sa : IntKind.i64.wrap (p.a + z * q.a) = p.a + z * q.a := IntWalk.i64_in _ (by omega)
 have sb : IntKind.i64.wrap (p.b + z * q.b) = p.b + z * q.b := IntWalk.i64_in _ (by omega)
 have sc : IntKind.i64.wrap (p.c + z * q.c) = p.c + z * q.c := IntWalk.i64_in _ (by omega)
 have HM := Lib.hid (And.intro ma (And.intro mb (And.intro mc (And.intro sa (And.intro sb sc)))))
 have HB0 := Lib.hid ((((Below.refl w.heap.size w).alloc (Nat.le_refl _) (.cells (pArr p) 125)).alloc (by simp <;> omega) (.cells (pArr q) 125)).alloc (by simp <;> omega) (.cells (pArr ⟨0, 0, 0⟩) 125))
 have HA0 : Hid ((((w.alloc (.cells (pArr p) 125)).alloc (.cells (pArr q) 125)).alloc (.cells (pArr ⟨0, 0, 0⟩) 125)).heap[w.heap.size]? = some (.cells (pArr p) 125 (0, 0))) :=
  Lib.hid ((Below.heap_alloc _ _ _ (by simp <;> omega)).trans ((Below.heap_alloc _ _ _ (by simp <;> omega)).trans (newBlk _ _ _ rfl)))
 have HQ0 : Hid ((((w.alloc (.cells (pArr p) 125)).alloc (.cells (pArr q) 125)).alloc (.cells (pArr ⟨0, 0, 0⟩) 125)).heap[w.heap.size + 1]? = some (.cells (pArr q) 125 (0, 0))) :=
  Lib.hid ((Below.heap_alloc _ _ _ (by simp <;> omega)).trans (newBlk _ _ _ (by simp <;> omega)))
 have HR0 : Hid ((((w.alloc (.cells (pArr p) 125)).alloc (.cells (pArr q) 125)).alloc (.cells (pArr ⟨0, 0, 0⟩) 125)).heap[w.heap.size + 2]? = some (.cells (pArr ⟨0, 0, 0⟩) 125 (0, 0))) :=
  Lib.hid (newBlk _ _ _ (by simp <;> omega))
 clear pa pb pc qa qb qc ma ma1 ma2 mb mb1 mb2 mc mc1 mc2 sa sb sc hz hp hq
 go_enter Tryz.func142, Tryz.ntmps142
 go_wp2_with fail
 go_loopg [9] 3 (fun gk i wr => ∃ (j : Nat), j + gk = 3 ∧ i = .int .i64 j ∧ Hid (wr.heap[w.heap.size]? = some (.cells (curA p q z j) 125 (0, 0))) ∧ Hid (wr.heap[w.heap.size + 1]? = some (.cells (pArr q) 125 (0, 0))) ∧
  Hid (wr.heap[w.heap.size + 2]? = some (.cells (pArr ⟨0, 0, 0⟩) 125 (0, 0))) ∧ Hid (Below w.heap.size w wr))
 case atStart => exact ⟨0, rfl, rfl, HA0, HQ0, HR0, HB0⟩
 case round =>
  obtain ⟨j, hj, rfl, hA, hQ, hR, hW⟩ := hrel
  obtain ⟨⟨q0, q1, q2⟩, -⟩ := cells3 hQ.out
  have hx0 := blkLt hA.out
  have hx1 := blkLt hQ.out
  have hx2 := blkLt hR.out
  match j, hj with
  | 0, hj =>
   obtain rfl : gk = 3 := by omega
   obtain ⟨⟨a0, a1, a2⟩, d0, d1, d2⟩ := cells3 hA.out
   obtain ⟨ma, -, -, sa, -, -⟩ := HM.out
   have hA2 : Hid ((wr.setCell ⟨w.heap.size, 0, none⟩ (.int .i64 (p.a + z * q.a))).heap[w.heap.size]? = some (.cells (curA p q z 1) 125 (0, 0))) := Lib.hid (by rw [heap_setCell_same _ _ _ _ _ _ hA.out]; rfl)
   have hQ2 : Hid ((wr.setCell ⟨w.heap.size, 0, none⟩ (.int .i64 (p.a + z * q.a))).heap[w.heap.size + 1]? = some (.cells (pArr q) 125 (0, 0))) := Lib.hid ((heap_setCell_other _ _ _ _ (by simp)).trans hQ.out)
   have hR2 : Hid ((wr.setCell ⟨w.heap.size, 0, none⟩ (.int .i64 (p.a + z * q.a))).heap[w.heap.size + 2]? = some (.cells (pArr ⟨0, 0, 0⟩) 125 (0, 0))) := Lib.hid ((heap_setCell_other _ _ _ _ (by simp)).trans hR.out)
   have hW2 : Hid (Below w.heap.size w (wr.setCell ⟨w.heap.size, 0, none⟩ (.int .i64 (p.a + z * q.a))).drew) := Lib.hid ((belowSet hW.out (Nat.le_refl _)).drew)
   go_wp2_with fail
   go_region
   all_goals
    go_wp2
    go_roundg 2
    case measure => omega
    case rel => exact ⟨1, by omega, by go_num, hA2, hQ2, hR2, hW2⟩
  | 1, hj =>
   obtain rfl : gk = 2 := by omega
   obtain ⟨⟨a0, a1, a2⟩, d0, d1, d2⟩ := cells3 hA.out
   obtain ⟨-, ma, -, -, sa, -⟩ := HM.out
   have hA2 : Hid ((wr.setCell ⟨w.heap.size, 1, none⟩ (.int .i64 (p.b + z * q.b))).heap[w.heap.size]? = some (.cells (curA p q z 2) 125 (0, 0))) := Lib.hid (by rw [heap_setCell_same _ _ _ _ _ _ hA.out]; rfl)
   have hQ2 : Hid ((wr.setCell ⟨w.heap.size, 1, none⟩ (.int .i64 (p.b + z * q.b))).heap[w.heap.size + 1]? = some (.cells (pArr q) 125 (0, 0))) := Lib.hid ((heap_setCell_other _ _ _ _ (by simp)).trans hQ.out)
   have hR2 : Hid ((wr.setCell ⟨w.heap.size, 1, none⟩ (.int .i64 (p.b + z * q.b))).heap[w.heap.size + 2]? = some (.cells (pArr ⟨0, 0, 0⟩) 125 (0, 0))) := Lib.hid ((heap_setCell_other _ _ _ _ (by simp)).trans hR.out)
   have hW2 : Hid (Below w.heap.size w (wr.setCell ⟨w.heap.size, 1, none⟩ (.int .i64 (p.b + z * q.b))).drew) := Lib.hid ((belowSet hW.out (Nat.le_refl _)).drew)
   go_wp2_with fail
   go_region
   all_goals
    go_wp2
    go_roundg 1
    case measure => omega
    case rel => exact ⟨2, by omega, by go_num, hA2, hQ2, hR2, hW2⟩
  | 2, hj =>
   obtain rfl : gk = 1 := by omega
   obtain ⟨⟨a0, a1, a2⟩, d0, d1, d2⟩ := cells3 hA.out
   obtain ⟨-, -, ma, -, -, sa⟩ := HM.out
   have hA2 : Hid ((wr.setCell ⟨w.heap.size, 2, none⟩ (.int .i64 (p.c + z * q.c))).heap[w.heap.size]? = some (.cells (curA p q z 3) 125 (0, 0))) := Lib.hid (by rw [heap_setCell_same _ _ _ _ _ _ hA.out]; rfl)
   have hQ2 : Hid ((wr.setCell ⟨w.heap.size, 2, none⟩ (.int .i64 (p.c + z * q.c))).heap[w.heap.size + 1]? = some (.cells (pArr q) 125 (0, 0))) := Lib.hid ((heap_setCell_other _ _ _ _ (by simp)).trans hQ.out)
   have hR2 : Hid ((wr.setCell ⟨w.heap.size, 2, none⟩ (.int .i64 (p.c + z * q.c))).heap[w.heap.size + 2]? = some (.cells (pArr ⟨0, 0, 0⟩) 125 (0, 0))) := Lib.hid ((heap_setCell_other _ _ _ _ (by simp)).trans hR.out)
   have hW2 : Hid (Below w.heap.size w (wr.setCell ⟨w.heap.size, 2, none⟩ (.int .i64 (p.c + z * q.c))).drew) := Lib.hid ((belowSet hW.out (Nat.le_refl _)).drew)
   go_wp2_with fail
   go_region
   all_goals
    go_wp2
    go_roundg 0
    case measure => omega
    case rel => exact ⟨3, by omega, by go_num, hA2, hQ2, hR2, hW2⟩
  | j + 3, hj =>
   obtain rfl : j = 0 := by omega
   obtain rfl : gk = 0 := by omega
   obtain ⟨⟨a0, a1, a2⟩, -⟩ := cells3 hA.out
   obtain ⟨⟨b0, b1, b2⟩, d0, d1, d2⟩ := cells3 hR.out
   obtain ⟨f0, f1, f2⟩ := res3 (x := .int .i64 (p.a + z * q.a)) (y := .int .i64 (p.b + z * q.b)) (z := .int .i64 (p.c + z * q.c)) hR.out
   have hF := Lib.hid (below3 (v0 := .int .i64 (p.a + z * q.a)) (v1 := .int .i64 (p.b + z * q.b)) (v2 := .int .i64 (p.c + z * q.c)) hW.out (Nat.le_add_right w.heap.size 2))
   go_wp2
   exact bodyPost_ret (v := pv (addP p q z)) (by simp [results, Tryz.results142, go_sem, f0, f1, f2, addP]) rfl ⟨rfl, hF.out⟩
theorem intInfo : ∃ i, Tryz.prog.info? 3 = some i := Option.isSome_iff_exists.1 (show (Tryz.prog.info? 3).isSome = true by kernel_rfl)
theorem run_pw_eq (p q : Pw) (w : World) : (Op.equalIn 10000 125 (.agg #[.int .i64 p.a, .int .i64 p.b, .int .i64 p.c]) (.agg #[.int .i64 q.a, .int .i64 q.b, .int .i64 q.c])).run Tryz.prog w = .ok (decide (p = q)) w := by
 obtain ⟨i, hi⟩ := intInfo
 have hc : Tryz.prog.cellsOf 3 = 1 := by kernel_rfl
 have hk : Tryz.prog.plainKey 3 = true := by kernel_rfl
 have he : ∀ x y : Int, (Op.equalIn 9999 3 (.int .i64 x) (.int .i64 y)).run Tryz.prog w = .ok (x == y) w := fun x y => run_equalIn_int w 9998 3 .i64 .i64 x y Tryz.underlying3
 have hp : ∀ x y z : Value, (part 3 #[x, y, z] 0).run Tryz.prog w = .ok x w ∧ (part 3 #[x, y, z] 1).run Tryz.prog w = .ok y w ∧ (part 3 #[x, y, z] 2).run Tryz.prog w = .ok z w :=
  fun x y z => ⟨run_part_plain w hk rfl, run_part_plain w hk rfl, run_part_plain w hk rfl⟩
 rw [show (10000 : Nat) = 9999 + 1 from rfl, run_equalIn_array w 9999 _ _ Tryz.underlying125 hi, hc, show List.range 3 = [0, 1, 2] from rfl]
 obtain ⟨a, b, c⟩ := p
 obtain ⟨a', b', c'⟩ := q
 have h0 := (hp (.int .i64 a) (.int .i64 b) (.int .i64 c))
 have h1 := (hp (.int .i64 a') (.int .i64 b') (.int .i64 c'))
 by_cases ea : a = a'
 ·subst ea
  by_cases eb : b = b'
  ·subst eb
   by_cases ec : c = c'
   ·subst ec
    simp [Op.eqItems, Sem.run_bind, h0, h1, he]
   ·simp [Op.eqItems, Sem.run_bind, h0, h1, he, ec]
  ·simp [Op.eqItems, Sem.run_bind, h0, h1, he, eb]
 ·simp [Op.eqItems, Sem.run_bind, h0, h1, he, ea]
end Go.Proofs.YtljknappbnoikaaGreatDoor.U
namespace Go.Proofs.YtljknappbnoikaaGreatDoor.U
open Go.RowKit
def EE (r : Except Int Pw) (w : World) (e : Ending) (w' : World) : Prop :=
 (match r with
  | .ok p => e = .returned (pv p)
  | .error er => e = .panicked [{ v := .iface 34 (.int .i64 er), recovered := false }]) ∧ Below w.heap.size w w'
theorem limited_any (p : Pw) (w : World) : Calls Tryz.prog 141 #[pv p] w (EE (limP p) w) := by
 have HB0 := Lib.hid (((Below.refl w.heap.size w).alloc (Nat.le_refl _) (.cells (pArr p) 125)).alloc (by simp) (.cells (pArr ⟨0, 0, 0⟩) 125))
 have HA0 : Hid (((w.alloc (.cells (pArr p) 125)).alloc (.cells (pArr ⟨0, 0, 0⟩) 125)).heap[w.heap.size]? = some (.cells (pArr p) 125 (0, 0))) :=
  Lib.hid ((Below.heap_alloc _ _ _ (by simp)).trans (newBlk _ _ _ rfl))
 have HR0 : Hid (((w.alloc (.cells (pArr p) 125)).alloc (.cells (pArr ⟨0, 0, 0⟩) 125)).heap[w.heap.size + 1]? = some (.cells (pArr ⟨0, 0, 0⟩) 125 (0, 0))) :=
  Lib.hid (newBlk _ _ _ (by simp))
 have HI := Lib.hid (inRange_any p)
 unfold limP
 cases hr : rgB p with
 | true =>
  rw [hr] at HI
  have HN := Lib.hid (need_any true 13)
  clear hr
  go_enter Tryz.func141, Tryz.ntmps141
  go_wp2_with (first
   | (go_at_call 154; refine (HI.out _).mono ?_; rintro e w1 ⟨rfl, hb1⟩; have HA1 := Lib.hid ((hb1.block _ (by simp <;> omega)).trans HA0.out); have HR1 := Lib.hid ((hb1.block _ (by simp)).trans HR0.out); have HB1 := Lib.hid (HB0.out.trans (hb1.mono (by simp <;> omega))); obtain ⟨⟨a0, a1, a2⟩, -⟩ := cells3 HA1.out; obtain ⟨⟨b0, b1, b2⟩, d0, d1, d2⟩ := cells3 HR1.out; clear hb1)
   | (go_at_call 139; refine (HN.out _).mono ?_; rintro e w2 ⟨he, rfl⟩; simp only [if_true] at he; subst he))
  obtain ⟨f0, f1, f2⟩ := res3 (x := .int .i64 p.a) (y := .int .i64 p.b) (z := .int .i64 p.c) HR1.out
  have hF := Lib.hid (below3 (v0 := .int .i64 p.a) (v1 := .int .i64 p.b) (v2 := .int .i64 p.c) HB1.out (Nat.le_add_right w.heap.size 1))
  exact bodyPost_ret (v := pv p) (by simp [results, Tryz.results141, go_sem, f0, f1, f2]) rfl ⟨rfl, hF.out⟩
 | false =>
  rw [hr] at HI
  have HN := Lib.hid (need_any false 13)
  clear hr
  go_enter Tryz.func141, Tryz.ntmps141
  go_wp2_with (first
   | (go_at_call 154; refine (HI.out _).mono ?_; rintro e w1 ⟨rfl, hb1⟩; have HB1 := Lib.hid (HB0.out.trans (hb1.mono (by simp <;> omega))); clear hb1)
   | (go_at_call 139; refine (HN.out _).mono ?_; rintro e w2 ⟨he, rfl⟩; simp only [Bool.false_eq_true, if_false] at he; subst he))
  exact ⟨rfl, rfl, HB1.out⟩
abbrev aggE (op n u : Int) (A : Option Addr) (k m : Nat) : Value := .agg #[.int .i64 op, .int .i64 n, .int .i64 u, .slice A k m]
abbrev arrE (op n u : Int) (A : Option Addr) (k m : Nat) : Array Value := #[.int .i64 op, .int .i64 n, .int .i64 u, .slice A k m]
theorem isFormed_any (op n u : Int) (A B : Option Addr) (k m l c : Nat) (hl : l ≤ 12) (w : World) : Calls Tryz.prog 140 #[.slice B l c, aggE op n u A k m] w (BB (formB l op n u k) w) := by
 have HB0 := Lib.hid ((Below.refl w.heap.size w).alloc (Nat.le_refl _) (.cells (arrE op n u A k m) 66))
 go_enter Tryz.func140, Tryz.ntmps140
 go_wp2_with (first
  | (go_at_call 100; refine (between_any _ _ _ _).mono ?_; rintro e w1 ⟨rfl, rfl⟩)
  | (go_at_call 70; refine (isKind_any _ _).mono ?_; rintro e w1 ⟨rfl, rfl⟩)
  | (go_at_call 83; refine (isIndex_any _ _ (by omega) _).mono ?_; rintro e w1 ⟨rfl, rfl⟩))
 all_goals
  go_ret
  refine ⟨?_, (Below.refl _ _).alloc (Nat.le_refl _) _⟩
  clear HB0
  simp_all [formB]
 all_goals
  intro h9
  first | omega | (exfalso; omega)
theorem cells4 {w : World} {b : Nat} {v0 v1 v2 v3 : Value} {T : TypeId} (h : w.heap[b]? = some (.cells #[v0, v1, v2, v3] T (0, 0))) :
  (w.cell? ⟨b, 0, none⟩ = some v0 ∧ w.cell? ⟨b, 1, none⟩ = some v1 ∧ w.cell? ⟨b, 2, none⟩ = some v2 ∧ w.cell? ⟨b, 3, none⟩ = some v3) ∧ w.frozen? ⟨b, 0, none⟩ = false ∧ w.frozen? ⟨b, 1, none⟩ = false ∧ w.frozen? ⟨b, 2, none⟩ = false ∧ w.frozen? ⟨b, 3, none⟩ = false := by
 refine ⟨⟨?_, ?_, ?_, ?_⟩, ?_, ?_, ?_, ?_⟩
 ·rw [cell_of_row _ _ 0 _ _ (0, 0) h]; rfl
 ·rw [cell_of_row _ _ 1 _ _ (0, 0) h]; rfl
 ·rw [cell_of_row _ _ 2 _ _ (0, 0) h]; rfl
 ·rw [cell_of_row _ _ 3 _ _ (0, 0) h]; rfl
 all_goals simp [World.frozen?, h]
theorem ret_i {a b : Int} (h : a = b) : Ending.returned (.int .i64 a) = .returned (.int .i64 b) := by rw [h]
theorem spK_drop (ts : List Ex) (k : Nat) (hk : k < ts.length) (n : Int) (h : 0 ≤ n) : spK (ts.drop k) n = spK (ts.drop (k + 1)) (spE ts[k] n) := by
 rw [List.drop_eq_getElem_cons hk, spK, if_pos h]
theorem spK_neg (ts : List Ex) (k : Nat) (n : Int) (h : n < 0) : spK (ts.drop k) n = n := by
 cases hd : ts.drop k with
 | nil => rfl
 | cons t us => rw [spK, if_neg (by omega)]
theorem spE_le (t : Ex) (n : Int) (h : 0 ≤ n) : spE t n ≤ n - 1 ∧ -1 ≤ spE t n := by
 have := spE_max t n h
 have := t.size_pos
 omega
theorem spare_step (t : Ex) (ih : ∀ u ∈ t.kids, ∀ (w : World) (n : Int) (A : Option Addr) (c : Nat), 0 ≤ n → n ≤ 10000 → KidsE w u.kids A → Calls Tryz.prog 101 #[ev u A c, .int .i64 n] w (VV (.int .i64 (spE u n)) w))
  (w : World) (n : Int) (A : Option Addr) (c : Nat) (h0 : 0 ≤ n) (h1 : n ≤ 10000) (hK : KidsE w t.kids A) :
  Calls Tryz.prog 101 #[ev t A c, .int .i64 n] w (VV (.int .i64 (spE t n)) w) := by
 obtain ⟨r, hr⟩ : ∃ r, spE t n = r := ⟨_, rfl⟩
 rw [hr]
 have hr' : spK t.kids (n - 1) = r := by rw [← hr]; cases t; rfl
 have hR := Lib.hid hr'
 have IH := Lib.hid ih
 have hKH := Lib.hid hK
 clear hr hr' ih hK
 have q0 : IntKind.i64.wrap (n - 1) = n - 1 := IntWalk.i64_in _ (by omega)
 go_enter Tryz.func101, Tryz.ntmps101
 go_wp2
 clear q0
 go_loopg [1, 5] (t.kids.length) (fun gk m i wr => ∃ (k : Nat) (mv : Int), k + gk = t.kids.length ∧ i = .int .i64 k ∧ m = .int .i64 mv ∧ -1 ≤ mv ∧ mv + k ≤ n - 1 ∧ Hid (spK (t.kids.drop k) mv = r) ∧ Hid (wr.heap[w.heap.size]? = some (.cells (eArr t A c) 66 (0, 0))) ∧ Hid (Below w.heap.size w wr))
 case atStart => exact ⟨0, n - 1, by omega, rfl, rfl, by omega, by omega, hR.out, newBlk _ _ _ rfl, (Below.refl _ _).alloc (Nat.le_refl _) _⟩
 case round =>
  obtain ⟨k, mv, hk, rfl, rfl, hm1, hm2, hS, hB, hW⟩ := hrel
  obtain ⟨⟨b0, b1, b2, b3⟩, -⟩ := cells4 hB.out
  have hxb := blkLt hB.out
  clear b0 b1 b2
  by_cases hneg : 0 ≤ mv
  ·by_cases hlt : k < t.kids.length
   ·obtain ⟨g, rfl⟩ : ∃ g, gk = g + 1 := ⟨gk - 1, by omega⟩
    have hS1 := hS.out
    rw [spK_drop _ _ hlt _ hneg] at hS1
    have hS1 := Lib.hid hS1
    have hKw : KidsE wr t.kids A := hKH.out.below hW.out
    obtain ⟨ga, oa, rfl⟩ := hKw.addr (by omega)
    obtain ⟨A1, c1, ⟨e0, e1, e2, e3⟩, -, hK1⟩ := (hKw.get _ _ _ k _ (List.getElem?_eq_getElem hlt)).cells
    have hmem : t.kids[k] ∈ t.kids := List.getElem_mem hlt
    have hI := Lib.hid (IH.out _ hmem wr mv A1 c1 hneg (by omega) hK1)
    have hsp := spE_le t.kids[k] mv hneg
    clear hS hK1 hKw hmem
    generalize t.kids[k] = u at *
    have hlt2 : k < t.kids.length := hlt
    go_wp2_with fail
    refine hI.out.mono ?_
    rintro e w2 ⟨rfl, hb2⟩
    have hB2 := Lib.hid ((hb2.block _ hxb).trans hB.out)
    have hW2 := Lib.hid (hW.out.trans (hb2.mono hW.out.size))
    clear hb2 e0 e1 e2 e3
    go_wp2
    go_roundg g
    case measure => omega
    case rel => exact ⟨k + 1, spE u mv, by omega, by go_num, rfl, by omega, by omega, hS1, hB2, hW2⟩
   ·have hF : Hid (mv = r) := by have := hS.out; rw [List.drop_eq_nil_of_le (by omega)] at this; exact this
    clear hS
    go_wp2
    go_ret
    exact ⟨ret_i hF.out, hW.out⟩
  ·have hF : Hid (mv = r) := by have := hS.out; rw [spK_neg _ _ _ (by omega)] at this; exact this
   have hng : decide (0 ≤ mv) = false := by simp; omega
   clear hS
   by_cases hlt : k < t.kids.length
   all_goals
    go_wp2
    go_ret
    exact ⟨ret_i hF.out, hW.out⟩
mutual
theorem spare_any : ∀ (t : Ex) (w : World) (n : Int) (A : Option Addr) (c : Nat), 0 ≤ n → n ≤ 10000 → KidsE w t.kids A → Calls Tryz.prog 101 #[ev t A c, .int .i64 n] w (VV (.int .i64 (spE t n)) w)
 | .mk k x m kids => fun w n A c h0 h1 hK => spare_step (.mk k x m kids) (spare_all kids) w n A c h0 h1 hK
theorem spare_all : ∀ (ts : List Ex), ∀ u ∈ ts, ∀ (w : World) (n : Int) (A : Option Addr) (c : Nat), 0 ≤ n → n ≤ 10000 → KidsE w u.kids A → Calls Tryz.prog 101 #[ev u A c, .int .i64 n] w (VV (.int .i64 (spE u n)) w)
 | [], u, hu => by cases hu
 | t :: ts, u, hu => by
  rcases List.mem_cons.1 hu with h | h
  ·rw [h]; exact spare_any t
  ·exact spare_all ts u h
end
theorem isLong_any (t : Ex) (w : World) (A : Option Addr) (c : Nat) (hK : KidsE w t.kids A) : Calls Tryz.prog 86 #[ev t A c] w (BB (decide (60 < t.size)) w) := by
 have e : decide (60 < t.size) = decide (spE t 60 < 0) := by
  have := spE_max t 60 (by decide)
  rw [this, decide_eq_decide]
  omega
 rw [e]
 have HS := Lib.hid (spare_any t (w.alloc (.cells (eArr t A c) 66)) 60 A c (by decide) (by decide) (hK.below ((Below.refl _ _).alloc (Nat.le_refl _) _)))
 clear e hK
 go_enter Tryz.func86, Tryz.ntmps86
 go_wp2_with (go_at_call 101; refine HS.out.mono ?_; rintro e w1 ⟨rfl, hb1⟩)
 go_ret
 exact ⟨rfl, ((Below.refl _ _).alloc (Nat.le_refl _) _).trans (hb1.mono (by simp))⟩
end Go.Proofs.YtljknappbnoikaaGreatDoor.U
