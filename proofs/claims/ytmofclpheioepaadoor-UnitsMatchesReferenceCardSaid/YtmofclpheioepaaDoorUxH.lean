/- Contracts of package units: infer with its recovery. -/
import Derived.Test.YtmofclpheioepaaDoorUxF
import Derived.Recover
import Derived.Defers
namespace Go.Proofs.YtmofclpheioepaaDoor
open Go.RowKit
set_option linter.unusedVariables false
set_option linter.unusedSimpArgs false

def resP : Except Int Pw → Pw × Int
  | .ok p => (p, 0)
  | .error er => (⟨0, 0, 0⟩, er)
theorem ta_nil (w : World) : (Instr.typeAssert .nilIface 20 35 true).run Tryd.prog w = .ok (.tuple #[.int .i64 0, .bool false]) w := by
  simp [Instr.typeAssert, go_sem]
theorem ta_err (er : Int) (w : World) : (Instr.typeAssert (.iface 35 (.int .i64 er)) 20 35 true).run Tryd.prog w = .ok (.tuple #[.int .i64 er, .bool true]) w := by
  simp [Instr.typeAssert, go_sem]
set_option maxHeartbeats 1000000 in
set_option maxRecDepth 100000 in
theorem inf_idle (p : Addr) (w : World) :
    CallsD Tryd.prog 39 #[.pointer (some p)] .returning w fun e u' w' => e = .returned (.tuple #[]) ∧ u' = .returning ∧ w' = w := by
  refine callsD_of_wpS Tryd.func39 rfl fun c₀ cs hu => ?_
  apply wpS_seq
  apply wpS_region
  simp [wpOpsS, go_sem, recoverD, hu, Tryd.ntmps39, Exit.thenS, ta_nil, Array.replicate_succ]
  refine wpS_of_wp ?_
  go_wp2
  cases c₀
  simp_all [bodyPostS, results, Tryd.results39]
set_option maxHeartbeats 1000000 in
set_option maxRecDepth 100000 in
theorem inf_rec (b : Nat) (er : Int) (w : World) (v0 : Value) (hb : w.heap[b]? = some (.cells #[v0] 35 (0, 0))) :
    CallsD Tryd.prog 39 #[.pointer (some ⟨b, 0, none⟩)] (.panicking [{ v := .iface 35 (.int .i64 er), recovered := false }]) w fun e u' w' =>
      e = .returned (.tuple #[]) ∧ u' = .panicking [{ v := .iface 35 (.int .i64 er), recovered := true }] ∧ w' = w.setCell ⟨b, 0, none⟩ (.int .i64 er) := by
  refine callsD_of_wpS Tryd.func39 rfl fun c₀ cs hu => ?_
  apply wpS_seq
  apply wpS_region
  simp [wpOpsS, go_sem, recoverD, hu, Tryd.ntmps39, Exit.thenS, ta_err, Array.replicate_succ]
  refine wpS_of_wp ?_
  obtain ⟨hc, hf⟩ : w.cell? ⟨b, 0, none⟩ = some v0 ∧ w.frozen? ⟨b, 0, none⟩ = false := ⟨by rw [cell_of_row _ _ 0 _ _ (0, 0) hb]; rfl, by simp [World.frozen?, hb]⟩
  have hlt := blkLt hb
  clear hb
  go_wp2
  exact ⟨rfl, _, rfl, .tuple #[], by simp [results, Tryd.results39], rfl, rfl, rfl⟩
set_option maxHeartbeats 2000000 in
set_option maxRecDepth 100000 in
theorem infer_any {s : List Pw} (hs : allRg s) (hl : s.length ≤ 12) (t : Ex) (w : World) (A B : Option Addr) (c d : Nat) (hL : LaidW w) (hP : PwsR w s B) (hK : KidsE w t.kids A) (hsz : t.size ≤ 60) :
    Calls Tryd.prog 30 #[.slice B s.length (s.length + d), ev t A c] w (VV (.tuple #[pv (resP (inf s t)).1, .int .i64 (resP (inf s t)).2]) w) := by
  have hmf : ∀ (fn : Fn) (first cap : Array Value) (w : World), (Instr.makeFunc fn first cap).run Tryd.prog w = .ok (.func fn first cap) w := fun _ _ _ _ => rfl
  have HB0 := (((Below.refl w.heap.size w).alloc (Nat.le_refl _) (.cells (eArr t A c) 29)).alloc (by simp) (.cells (pArr ⟨0, 0, 0⟩) 67)).alloc (by simp <;> omega) (.cells #[.int .i64 0] 35)
  have HP0 : Hid ((((w.alloc (.cells (eArr t A c) 29)).alloc (.cells (pArr ⟨0, 0, 0⟩) 67)).alloc (.cells #[.int .i64 0] 35)).heap[w.heap.size + 1]? = some (.cells (pArr ⟨0, 0, 0⟩) 67 (0, 0))) :=
    Lib.hid ((Below.heap_alloc _ _ _ (by simp)).trans (newBlk _ _ _ (by simp)))
  have HE0 : Hid ((((w.alloc (.cells (eArr t A c) 29)).alloc (.cells (pArr ⟨0, 0, 0⟩) 67)).alloc (.cells #[.int .i64 0] 35)).heap[w.heap.size + 1 + 1]? = some (.cells #[.int .i64 0] 35 (0, 0))) :=
    Lib.hid (newBlk _ _ _ (by simp))
  have HI := Lib.hid (expr_any hs hl t _ A B c d (hL.below HB0) (hP.below HB0) (hK.below HB0) hsz)
  have HB0 := Lib.hid HB0
  obtain ⟨r, hr⟩ : ∃ r, inf s t = r := ⟨_, rfl⟩
  rw [hr] at HI ⊢
  clear hr hL hP hK hs hl hsz
  go_enter_defers Tryd.func30, Tryd.ntmps30
  go_wp2_with fail
  refine HI.out.mono ?_
  rintro e w1 ⟨he, hb1⟩
  have hP1 := Lib.hid ((hb1.block (w.heap.size + 1) (by simp <;> omega)).trans HP0.out)
  have hE1 := Lib.hid ((hb1.block (w.heap.size + 1 + 1) (by simp)).trans HE0.out)
  have hW1 := Lib.hid (HB0.out.trans (hb1.mono (by simp <;> omega)))
  clear hb1 HP0 HE0 HB0 HI
  have hx1 := blkLt hE1.out
  rcases r with er | p
  · simp only at he
    subst he
    go_wp2
    refine leaves_cons (f := 39) (args := #[.pointer (some ⟨w.heap.size + 1 + 1, 0, none⟩)]) (by simp) (by simp [go_sem]) ?_
    refine (inf_rec (w.heap.size + 1 + 1) er w1 _ hE1.out).mono ?_
    rintro e u' w'' ⟨rfl, rfl, rfl⟩
    obtain ⟨⟨c0, c1, c2⟩, -⟩ := cells3 hP1.out
    have f0 : (w1.setCell ⟨w.heap.size + 1 + 1, 0, none⟩ (.int .i64 er)).cell? ⟨w.heap.size + 1 + 1, 0, none⟩ = some (.int .i64 er) := World.cell?_setCell_same _ _ _ (u := .int .i64 0) (by rw [cell_of_row _ _ 0 _ _ (0, 0) hE1.out]; rfl)
    have hF := Lib.hid (belowSet (u := .int .i64 er) (i := 0) hW1.out (show w.heap.size ≤ w.heap.size + 1 + 1 by omega))
    simp [Leaves, settle, results, Tryd.results30, go_sem, c0, c1, c2, f0]
    exact ⟨rfl, hF.out⟩
  · simp only at he
    subst he
    obtain ⟨⟨c0, c1, c2⟩, d0, d1, d2⟩ := cells3 hP1.out
    have e0 : w1.cell? ⟨w.heap.size + 1 + 1, 0, none⟩ = some (.int .i64 0) := by rw [cell_of_row _ _ 0 _ _ (0, 0) hE1.out]; rfl
    have e1 : w1.frozen? ⟨w.heap.size + 1 + 1, 0, none⟩ = false := by simp [World.frozen?, hE1.out]
    go_wp2
    refine leaves_cons (f := 39) (args := #[.pointer (some ⟨w.heap.size + 1 + 1, 0, none⟩)]) (by simp) (by simp [go_sem]) ?_
    refine (inf_idle _ _).mono ?_
    rintro e u' w'' ⟨rfl, rfl, rfl⟩
    obtain ⟨f0, f1, f2⟩ := res3 (x := .int .i64 p.a) (y := .int .i64 p.b) (z := .int .i64 p.c) hP1.out
    have f3 : ((((w1.setCell ⟨w.heap.size + 1, 0, none⟩ (.int .i64 p.a)).setCell ⟨w.heap.size + 1, 1, none⟩ (.int .i64 p.b)).setCell ⟨w.heap.size + 1, 2, none⟩ (.int .i64 p.c)).setCell ⟨w.heap.size + 1 + 1, 0, none⟩ (.int .i64 0)).cell? ⟨w.heap.size + 1 + 1, 0, none⟩ = some (.int .i64 0) := World.cell?_setCell_same _ _ _ (u := .int .i64 0) (by rw [cell_of_row _ _ 0 _ _ (0, 0) ((heap_setCell_other _ _ _ _ (by simp)).trans ((heap_setCell_other _ _ _ _ (by simp)).trans ((heap_setCell_other _ _ _ _ (by simp)).trans hE1.out)))]; rfl)
    have hF := Lib.hid (belowSet (u := .int .i64 0) (i := 0) (below3 (v0 := .int .i64 p.a) (v1 := .int .i64 p.b) (v2 := .int .i64 p.c) hW1.out (Nat.le_add_right w.heap.size 1)) (show w.heap.size ≤ w.heap.size + 1 + 1 by omega))
    simp [Leaves, settle, results, Tryd.results30, go_sem, f0, f1, f2, f3]
    exact ⟨rfl, hF.out⟩
end Go.Proofs.YtmofclpheioepaaDoor
