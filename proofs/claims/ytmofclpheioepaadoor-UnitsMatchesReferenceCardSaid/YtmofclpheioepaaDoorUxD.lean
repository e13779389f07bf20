/- Contracts of package units: sums and limits of units. -/
import Derived.Test.YtmofclpheioepaaDoorUxC
import Derived.ChangeKeysEq
namespace Go.Proofs.YtmofclpheioepaaDoor
open Go.RowKit
set_option linter.unusedVariables false
set_option linter.unusedSimpArgs false

def curA (p q : Pw) (z : Int) : Nat → Array Value
  | 0 => pArr p
  | 1 => #[.int .i64 (p.a + z * q.a), .int .i64 p.b, .int .i64 p.c]
  | 2 => #[.int .i64 (p.a + z * q.a), .int .i64 (p.b + z * q.b), .int .i64 p.c]
  | _ => pArr (addP p q z)
theorem mul_wrap {z x : Int} (hz : z = 1 ∨ z = -1) (hx : -4 ≤ x ∧ x ≤ 4) : IntKind.i64.wrap (z * x) = z * x ∧ -4 ≤ z * x ∧ z * x ≤ 4 := by
  rcases hz with rfl | rfl
  · exact ⟨IntWalk.i64_in _ (by omega), by omega, by omega⟩
  · exact ⟨IntWalk.i64_in _ (by omega), by omega, by omega⟩
set_option maxHeartbeats 1000000 in
set_option maxRecDepth 100000 in
theorem add_any (p q : Pw) (z : Int) (hz : z = 1 ∨ z = -1) (hp : rgB p = true) (hq : rgB q = true) (w : World) : Calls Tryd.prog 51 #[pv p, pv q, .int .i64 z] w (VV (pv (addP p q z)) w) := by
  obtain ⟨pa, pb, pc⟩ := rg_iff hp
  obtain ⟨qa, qb, qc⟩ := rg_iff hq
  obtain ⟨ma, ma1, ma2⟩ := mul_wrap hz qa
  obtain ⟨mb, mb1, mb2⟩ := mul_wrap hz qb
  obtain ⟨mc, mc1, mc2⟩ := mul_wrap hz qc
  have sa : IntKind.i64.wrap (p.a + z * q.a) = p.a + z * q.a := IntWalk.i64_in _ (by omega)
  have sb : IntKind.i64.wrap (p.b + z * q.b) = p.b + z * q.b := IntWalk.i64_in _ (by omega)
  have sc : IntKind.i64.wrap (p.c + z * q.c) = p.c + z * q.c := IntWalk.i64_in _ (by omega)
  have HM := Lib.hid (And.intro ma (And.intro mb (And.intro mc (And.intro sa (And.intro sb sc)))))
  have HB0 := Lib.hid ((((Below.refl w.heap.size w).alloc (Nat.le_refl _) (.cells (pArr p) 67)).alloc (by simp <;> omega) (.cells (pArr q) 67)).alloc (by simp <;> omega) (.cells (pArr ⟨0, 0, 0⟩) 67))
  have HA0 : Hid ((((w.alloc (.cells (pArr p) 67)).alloc (.cells (pArr q) 67)).alloc (.cells (pArr ⟨0, 0, 0⟩) 67)).heap[w.heap.size]? = some (.cells (pArr p) 67 (0, 0))) :=
    Lib.hid ((Below.heap_alloc _ _ _ (by simp <;> omega)).trans ((Below.heap_alloc _ _ _ (by simp <;> omega)).trans (newBlk _ _ _ rfl)))
  have HQ0 : Hid ((((w.alloc (.cells (pArr p) 67)).alloc (.cells (pArr q) 67)).alloc (.cells (pArr ⟨0, 0, 0⟩) 67)).heap[w.heap.size + 1]? = some (.cells (pArr q) 67 (0, 0))) :=
    Lib.hid ((Below.heap_alloc _ _ _ (by simp <;> omega)).trans (newBlk _ _ _ (by simp <;> omega)))
  have HR0 : Hid ((((w.alloc (.cells (pArr p) 67)).alloc (.cells (pArr q) 67)).alloc (.cells (pArr ⟨0, 0, 0⟩) 67)).heap[w.heap.size + 2]? = some (.cells (pArr ⟨0, 0, 0⟩) 67 (0, 0))) :=
    Lib.hid (newBlk _ _ _ (by simp <;> omega))
  clear pa pb pc qa qb qc ma ma1 ma2 mb mb1 mb2 mc mc1 mc2 sa sb sc hz hp hq
  go_enter Tryd.func51, Tryd.ntmps51
  go_wp2_with fail
  go_loopg [9] 3 (fun gk i wr => ∃ (j : Nat), j + gk = 3 ∧ i = .int .i64 j ∧ Hid (wr.heap[w.heap.size]? = some (.cells (curA p q z j) 67 (0, 0))) ∧ Hid (wr.heap[w.heap.size + 1]? = some (.cells (pArr q) 67 (0, 0))) ∧
    Hid (wr.heap[w.heap.size + 2]? = some (.cells (pArr ⟨0, 0, 0⟩) 67 (0, 0))) ∧ Hid (Below w.heap.size w wr))
  case atStart => exact ⟨0, rfl, rfl, HA0, HQ0, HR0, HB0⟩
  case round =>
    obtain ⟨j, hj, rfl, hA, hQ, hR, hW⟩ := hrel
    obtain ⟨⟨q0, q1, q2⟩, -⟩ := cells3 hQ.out
    have hx0 := blkLt hA.out
    have hx1 := blkLt hQ.out
    have hx2 := blkLt hR.out
    match j, hj with
    | 0, hj =>
      obtain rfl : gk = 3 := by omega
      obtain ⟨⟨a0, a1, a2⟩, d0, d1, d2⟩ := cells3 hA.out
      obtain ⟨ma, -, -, sa, -, -⟩ := HM.out
      have hA2 : Hid ((wr.setCell ⟨w.heap.size, 0, none⟩ (.int .i64 (p.a + z * q.a))).heap[w.heap.size]? = some (.cells (curA p q z 1) 67 (0, 0))) := Lib.hid (by rw [heap_setCell_same _ _ _ _ _ _ hA.out]; rfl)
      have hQ2 : Hid ((wr.setCell ⟨w.heap.size, 0, none⟩ (.int .i64 (p.a + z * q.a))).heap[w.heap.size + 1]? = some (.cells (pArr q) 67 (0, 0))) := Lib.hid ((heap_setCell_other _ _ _ _ (by simp)).trans hQ.out)
      have hR2 : Hid ((wr.setCell ⟨w.heap.size, 0, none⟩ (.int .i64 (p.a + z * q.a))).heap[w.heap.size + 2]? = some (.cells (pArr ⟨0, 0, 0⟩) 67 (0, 0))) := Lib.hid ((heap_setCell_other _ _ _ _ (by simp)).trans hR.out)
      have hW2 : Hid (Below w.heap.size w (wr.setCell ⟨w.heap.size, 0, none⟩ (.int .i64 (p.a + z * q.a))).drew) := Lib.hid ((belowSet hW.out (Nat.le_refl _)).drew)
      go_wp2_with fail
      go_region
      all_goals
        go_wp2
        go_roundg 2
        case measure => omega
        case rel => exact ⟨1, by omega, by go_num, hA2, hQ2, hR2, hW2⟩
    | 1, hj =>
      obtain rfl : gk = 2 := by omega
      obtain ⟨⟨a0, a1, a2⟩, d0, d1, d2⟩ := cells3 hA.out
      obtain ⟨-, ma, -, -, sa, -⟩ := HM.out
      have hA2 : Hid ((wr.setCell ⟨w.heap.size, 1, none⟩ (.int .i64 (p.b + z * q.b))).heap[w.heap.size]? = some (.cells (curA p q z 2) 67 (0, 0))) := Lib.hid (by rw [heap_setCell_same _ _ _ _ _ _ hA.out]; rfl)
      have hQ2 : Hid ((wr.setCell ⟨w.heap.size, 1, none⟩ (.int .i64 (p.b + z * q.b))).heap[w.heap.size + 1]? = some (.cells (pArr q) 67 (0, 0))) := Lib.hid ((heap_setCell_other _ _ _ _ (by simp)).trans hQ.out)
      have hR2 : Hid ((wr.setCell ⟨w.heap.size, 1, none⟩ (.int .i64 (p.b + z * q.b))).heap[w.heap.size + 2]? = some (.cells (pArr ⟨0, 0, 0⟩) 67 (0, 0))) := Lib.hid ((heap_setCell_other _ _ _ _ (by simp)).trans hR.out)
      have hW2 : Hid (Below w.heap.size w (wr.setCell ⟨w.heap.size, 1, none⟩ (.int .i64 (p.b + z * q.b))).drew) := Lib.hid ((belowSet hW.out (Nat.le_refl _)).drew)
      go_wp2_with fail
      go_region
      all_goals
        go_wp2
        go_roundg 1
        case measure => omega
        case rel => exact ⟨2, by omega, by go_num, hA2, hQ2, hR2, hW2⟩
    | 2, hj =>
      obtain rfl : gk = 1 := by omega
      obtain ⟨⟨a0, a1, a2⟩, d0, d1, d2⟩ := cells3 hA.out
      obtain ⟨-, -, ma, -, -, sa⟩ := HM.out
      have hA2 : Hid ((wr.setCell ⟨w.heap.size, 2, none⟩ (.int .i64 (p.c + z * q.c))).heap[w.heap.size]? = some (.cells (curA p q z 3) 67 (0, 0))) := Lib.hid (by rw [heap_setCell_same _ _ _ _ _ _ hA.out]; rfl)
      have hQ2 : Hid ((wr.setCell ⟨w.heap.size, 2, none⟩ (.int .i64 (p.c + z * q.c))).heap[w.heap.size + 1]? = some (.cells (pArr q) 67 (0, 0))) := Lib.hid ((heap_setCell_other _ _ _ _ (by simp)).trans hQ.out)
      have hR2 : Hid ((wr.setCell ⟨w.heap.size, 2, none⟩ (.int .i64 (p.c + z * q.c))).heap[w.heap.size + 2]? = some (.cells (pArr ⟨0, 0, 0⟩) 67 (0, 0))) := Lib.hid ((heap_setCell_other _ _ _ _ (by simp)).trans hR.out)
      have hW2 : Hid (Below w.heap.size w (wr.setCell ⟨w.heap.size, 2, none⟩ (.int .i64 (p.c + z * q.c))).drew) := Lib.hid ((belowSet hW.out (Nat.le_refl _)).drew)
      go_wp2_with fail
      go_region
      all_goals
        go_wp2
        go_roundg 0
        case measure => omega
        case rel => exact ⟨3, by omega, by go_num, hA2, hQ2, hR2, hW2⟩
    | j + 3, hj =>
      obtain rfl : j = 0 := by omega
      obtain rfl : gk = 0 := by omega
      obtain ⟨⟨a0, a1, a2⟩, -⟩ := cells3 hA.out
      obtain ⟨⟨b0, b1, b2⟩, d0, d1, d2⟩ := cells3 hR.out
      obtain ⟨f0, f1, f2⟩ := res3 (x := .int .i64 (p.a + z * q.a)) (y := .int .i64 (p.b + z * q.b)) (z := .int .i64 (p.c + z * q.c)) hR.out
      have hF := Lib.hid (below3 (v0 := .int .i64 (p.a + z * q.a)) (v1 := .int .i64 (p.b + z * q.b)) (v2 := .int .i64 (p.c + z * q.c)) hW.out (Nat.le_add_right w.heap.size 2))
      go_wp2
      exact bodyPost_ret (v := pv (addP p q z)) (by simp [results, Tryd.results51, go_sem, f0, f1, f2, addP]) rfl ⟨rfl, hF.out⟩
theorem intInfo : ∃ i, Tryd.prog.info? 3 = some i := Option.isSome_iff_exists.1 (show (Tryd.prog.info? 3).isSome = true by kernel_rfl)
theorem run_pw_eq (p q : Pw) (w : World) : (Op.equalIn 10000 67 (.agg #[.int .i64 p.a, .int .i64 p.b, .int .i64 p.c]) (.agg #[.int .i64 q.a, .int .i64 q.b, .int .i64 q.c])).run Tryd.prog w = .ok (decide (p = q)) w := by
  obtain ⟨i, hi⟩ := intInfo
  have hc : Tryd.prog.cellsOf 3 = 1 := by kernel_rfl
  have hk : Tryd.prog.plainKey 3 = true := by kernel_rfl
  have he : ∀ x y : Int, (Op.equalIn 9999 3 (.int .i64 x) (.int .i64 y)).run Tryd.prog w = .ok (x == y) w := fun x y => run_equalIn_int w 9998 3 .i64 .i64 x y Tryd.underlying3
  have hp : ∀ x y z : Value, (part 3 #[x, y, z] 0).run Tryd.prog w = .ok x w ∧ (part 3 #[x, y, z] 1).run Tryd.prog w = .ok y w ∧ (part 3 #[x, y, z] 2).run Tryd.prog w = .ok z w :=
    fun x y z => ⟨run_part_plain w hk rfl, run_part_plain w hk rfl, run_part_plain w hk rfl⟩
  rw [show (10000 : Nat) = 9999 + 1 from rfl, run_equalIn_array w 9999 _ _ Tryd.underlying67 hi, hc, show List.range 3 = [0, 1, 2] from rfl]
  obtain ⟨a, b, c⟩ := p
  obtain ⟨a', b', c'⟩ := q
  have h0 := (hp (.int .i64 a) (.int .i64 b) (.int .i64 c))
  have h1 := (hp (.int .i64 a') (.int .i64 b') (.int .i64 c'))
  by_cases ea : a = a'
  · subst ea
    by_cases eb : b = b'
    · subst eb
      by_cases ec : c = c'
      · subst ec
        simp [Op.eqItems, Sem.run_bind, h0, h1, he]
      · simp [Op.eqItems, Sem.run_bind, h0, h1, he, ec]
    · simp [Op.eqItems, Sem.run_bind, h0, h1, he, eb]
  · simp [Op.eqItems, Sem.run_bind, h0, h1, he, ea]
end Go.Proofs.YtmofclpheioepaaDoor
