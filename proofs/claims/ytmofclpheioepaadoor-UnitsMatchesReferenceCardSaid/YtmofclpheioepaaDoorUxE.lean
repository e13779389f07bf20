/- Contracts of package units: limited, isFormed, spare, isLong. -/
import Derived.Test.YtmofclpheioepaaDoorUxD
namespace Go.Proofs.YtmofclpheioepaaDoor
open Go.RowKit
set_option linter.unusedVariables false
set_option linter.unusedSimpArgs false

/-- what a call leaves: a unit, or a panic with an error -/
def EE (r : Except Int Pw) (w : World) (e : Ending) (w' : World) : Prop :=
  (match r with
    | .ok p => e = .returned (pv p)
    | .error er => e = .panicked [{ v := .iface 35 (.int .i64 er), recovered := false }]) ∧ Below w.heap.size w w'
set_option maxHeartbeats 1000000 in
set_option maxRecDepth 100000 in
theorem limited_any (p : Pw) (w : World) : Calls Tryd.prog 50 #[pv p] w (EE (limP p) w) := by
  have HB0 := Lib.hid (((Below.refl w.heap.size w).alloc (Nat.le_refl _) (.cells (pArr p) 67)).alloc (by simp) (.cells (pArr ⟨0, 0, 0⟩) 67))
  have HA0 : Hid (((w.alloc (.cells (pArr p) 67)).alloc (.cells (pArr ⟨0, 0, 0⟩) 67)).heap[w.heap.size]? = some (.cells (pArr p) 67 (0, 0))) :=
    Lib.hid ((Below.heap_alloc _ _ _ (by simp)).trans (newBlk _ _ _ rfl))
  have HR0 : Hid (((w.alloc (.cells (pArr p) 67)).alloc (.cells (pArr ⟨0, 0, 0⟩) 67)).heap[w.heap.size + 1]? = some (.cells (pArr ⟨0, 0, 0⟩) 67 (0, 0))) :=
    Lib.hid (newBlk _ _ _ (by simp))
  have HI := Lib.hid (inRange_any p)
  unfold limP
  cases hr : rgB p with
  | true =>
    rw [hr] at HI
    have HN := Lib.hid (need_any true 13)
    clear hr
    go_enter Tryd.func50, Tryd.ntmps50
    go_wp2_with (first
      | (go_at_call 57; refine (HI.out _).mono ?_; rintro e w1 ⟨rfl, hb1⟩; have HA1 := Lib.hid ((hb1.block _ (by simp <;> omega)).trans HA0.out); have HR1 := Lib.hid ((hb1.block _ (by simp)).trans HR0.out); have HB1 := Lib.hid (HB0.out.trans (hb1.mono (by simp <;> omega))); obtain ⟨⟨a0, a1, a2⟩, -⟩ := cells3 HA1.out; obtain ⟨⟨b0, b1, b2⟩, d0, d1, d2⟩ := cells3 HR1.out; clear hb1)
      | (go_at_call 48; refine (HN.out _).mono ?_; rintro e w2 ⟨he, rfl⟩; simp only [if_true] at he; subst he))
    obtain ⟨f0, f1, f2⟩ := res3 (x := .int .i64 p.a) (y := .int .i64 p.b) (z := .int .i64 p.c) HR1.out
    have hF := Lib.hid (below3 (v0 := .int .i64 p.a) (v1 := .int .i64 p.b) (v2 := .int .i64 p.c) HB1.out (Nat.le_add_right w.heap.size 1))
    exact bodyPost_ret (v := pv p) (by simp [results, Tryd.results50, go_sem, f0, f1, f2]) rfl ⟨rfl, hF.out⟩
  | false =>
    rw [hr] at HI
    have HN := Lib.hid (need_any false 13)
    clear hr
    go_enter Tryd.func50, Tryd.ntmps50
    go_wp2_with (first
      | (go_at_call 57; refine (HI.out _).mono ?_; rintro e w1 ⟨rfl, hb1⟩; have HB1 := Lib.hid (HB0.out.trans (hb1.mono (by simp <;> omega))); clear hb1)
      | (go_at_call 48; refine (HN.out _).mono ?_; rintro e w2 ⟨he, rfl⟩; simp only [Bool.false_eq_true, if_false] at he; subst he))
    exact ⟨rfl, rfl, HB1.out⟩
abbrev aggE (op n u : Int) (A : Option Addr) (k m : Nat) : Value := .agg #[.int .i64 op, .int .i64 n, .int .i64 u, .slice A k m]
abbrev arrE (op n u : Int) (A : Option Addr) (k m : Nat) : Array Value := #[.int .i64 op, .int .i64 n, .int .i64 u, .slice A k m]
set_option maxHeartbeats 1000000 in
set_option maxRecDepth 100000 in
theorem isFormed_any (op n u : Int) (A B : Option Addr) (k m l c : Nat) (hl : l ≤ 12) (w : World) : Calls Tryd.prog 49 #[.slice B l c, aggE op n u A k m] w (BB (formB l op n u k) w) := by
  have HB0 := Lib.hid ((Below.refl w.heap.size w).alloc (Nat.le_refl _) (.cells (arrE op n u A k m) 29))
  go_enter Tryd.func49, Tryd.ntmps49
  go_wp2_with (first
    | (go_at_call 56; refine (between_any _ _ _ _).mono ?_; rintro e w1 ⟨rfl, rfl⟩)
    | (go_at_call 36; refine (isKind_any _ _).mono ?_; rintro e w1 ⟨rfl, rfl⟩)
    | (go_at_call 47; refine (isIndex_any _ _ (by omega) _).mono ?_; rintro e w1 ⟨rfl, rfl⟩))
  all_goals
    go_ret
    refine ⟨?_, (Below.refl _ _).alloc (Nat.le_refl _) _⟩
    clear HB0
    simp_all [formB]
  all_goals
    intro h9
    first | omega | (exfalso; omega)
theorem cells4 {w : World} {b : Nat} {v0 v1 v2 v3 : Value} {T : TypeId} (h : w.heap[b]? = some (.cells #[v0, v1, v2, v3] T (0, 0))) :
    (w.cell? ⟨b, 0, none⟩ = some v0 ∧ w.cell? ⟨b, 1, none⟩ = some v1 ∧ w.cell? ⟨b, 2, none⟩ = some v2 ∧ w.cell? ⟨b, 3, none⟩ = some v3) ∧ w.frozen? ⟨b, 0, none⟩ = false ∧ w.frozen? ⟨b, 1, none⟩ = false ∧ w.frozen? ⟨b, 2, none⟩ = false ∧ w.frozen? ⟨b, 3, none⟩ = false := by
  refine ⟨⟨?_, ?_, ?_, ?_⟩, ?_, ?_, ?_, ?_⟩
  · rw [cell_of_row _ _ 0 _ _ (0, 0) h]; rfl
  · rw [cell_of_row _ _ 1 _ _ (0, 0) h]; rfl
  · rw [cell_of_row _ _ 2 _ _ (0, 0) h]; rfl
  · rw [cell_of_row _ _ 3 _ _ (0, 0) h]; rfl
  all_goals simp [World.frozen?, h]
theorem ret_i {a b : Int} (h : a = b) : Ending.returned (.int .i64 a) = .returned (.int .i64 b) := by rw [h]
theorem spK_drop (ts : List Ex) (k : Nat) (hk : k < ts.length) (n : Int) (h : 0 ≤ n) : spK (ts.drop k) n = spK (ts.drop (k + 1)) (spE ts[k] n) := by
  rw [List.drop_eq_getElem_cons hk, spK, if_pos h]
theorem spK_neg (ts : List Ex) (k : Nat) (n : Int) (h : n < 0) : spK (ts.drop k) n = n := by
  cases hd : ts.drop k with
  | nil => rfl
  | cons t us => rw [spK, if_neg (by omega)]
theorem spE_le (t : Ex) (n : Int) (h : 0 ≤ n) : spE t n ≤ n - 1 ∧ -1 ≤ spE t n := by
  have := spE_max t n h
  have := t.size_pos
  omega
set_option maxHeartbeats 1000000 in
set_option maxRecDepth 100000 in
theorem spare_step (t : Ex) (ih : ∀ u ∈ t.kids, ∀ (w : World) (n : Int) (A : Option Addr) (c : Nat), 0 ≤ n → n ≤ 10000 → KidsE w u.kids A → Calls Tryd.prog 38 #[ev u A c, .int .i64 n] w (VV (.int .i64 (spE u n)) w))
    (w : World) (n : Int) (A : Option Addr) (c : Nat) (h0 : 0 ≤ n) (h1 : n ≤ 10000) (hK : KidsE w t.kids A) :
    Calls Tryd.prog 38 #[ev t A c, .int .i64 n] w (VV (.int .i64 (spE t n)) w) := by
  obtain ⟨r, hr⟩ : ∃ r, spE t n = r := ⟨_, rfl⟩
  rw [hr]
  have hr' : spK t.kids (n - 1) = r := by rw [← hr]; cases t; rfl
  have hR := Lib.hid hr'
  have IH := Lib.hid ih
  have hKH := Lib.hid hK
  clear hr hr' ih hK
  have q0 : IntKind.i64.wrap (n - 1) = n - 1 := IntWalk.i64_in _ (by omega)
  go_enter Tryd.func38, Tryd.ntmps38
  go_wp2
  clear q0
  go_loopg [1, 5] (t.kids.length) (fun gk m i wr => ∃ (k : Nat) (mv : Int), k + gk = t.kids.length ∧ i = .int .i64 k ∧ m = .int .i64 mv ∧ -1 ≤ mv ∧ mv + k ≤ n - 1 ∧ Hid (spK (t.kids.drop k) mv = r) ∧ Hid (wr.heap[w.heap.size]? = some (.cells (eArr t A c) 29 (0, 0))) ∧ Hid (Below w.heap.size w wr))
  case atStart => exact ⟨0, n - 1, by omega, rfl, rfl, by omega, by omega, hR.out, newBlk _ _ _ rfl, (Below.refl _ _).alloc (Nat.le_refl _) _⟩
  case round =>
    obtain ⟨k, mv, hk, rfl, rfl, hm1, hm2, hS, hB, hW⟩ := hrel
    obtain ⟨⟨b0, b1, b2, b3⟩, -⟩ := cells4 hB.out
    have hxb := blkLt hB.out
    clear b0 b1 b2
    by_cases hneg : 0 ≤ mv
    · by_cases hlt : k < t.kids.length
      · obtain ⟨g, rfl⟩ : ∃ g, gk = g + 1 := ⟨gk - 1, by omega⟩
        have hS1 := hS.out
        rw [spK_drop _ _ hlt _ hneg] at hS1
        have hS1 := Lib.hid hS1
        have hKw : KidsE wr t.kids A := hKH.out.below hW.out
        obtain ⟨ga, oa, rfl⟩ := hKw.addr (by omega)
        obtain ⟨A1, c1, ⟨e0, e1, e2, e3⟩, -, hK1⟩ := (hKw.get _ _ _ k _ (List.getElem?_eq_getElem hlt)).cells
        have hmem : t.kids[k] ∈ t.kids := List.getElem_mem hlt
        have hI := Lib.hid (IH.out _ hmem wr mv A1 c1 hneg (by omega) hK1)
        have hsp := spE_le t.kids[k] mv hneg
        clear hS hK1 hKw hmem
        generalize t.kids[k] = u at *
        have hlt2 : k < t.kids.length := hlt
        go_wp2_with fail
        refine hI.out.mono ?_
        rintro e w2 ⟨rfl, hb2⟩
        have hB2 := Lib.hid ((hb2.block _ hxb).trans hB.out)
        have hW2 := Lib.hid (hW.out.trans (hb2.mono hW.out.size))
        clear hb2 e0 e1 e2 e3
        go_wp2
        go_roundg g
        case measure => omega
        case rel => exact ⟨k + 1, spE u mv, by omega, by go_num, rfl, by omega, by omega, hS1, hB2, hW2⟩
      · have hF : Hid (mv = r) := by have := hS.out; rw [List.drop_eq_nil_of_le (by omega)] at this; exact this
        clear hS
        go_wp2
        go_ret
        exact ⟨ret_i hF.out, hW.out⟩
    · have hF : Hid (mv = r) := by have := hS.out; rw [spK_neg _ _ _ (by omega)] at this; exact this
      have hng : decide (0 ≤ mv) = false := by simp; omega
      clear hS
      by_cases hlt : k < t.kids.length
      all_goals
        go_wp2
        go_ret
        exact ⟨ret_i hF.out, hW.out⟩
mutual
theorem spare_any : ∀ (t : Ex) (w : World) (n : Int) (A : Option Addr) (c : Nat), 0 ≤ n → n ≤ 10000 → KidsE w t.kids A → Calls Tryd.prog 38 #[ev t A c, .int .i64 n] w (VV (.int .i64 (spE t n)) w)
  | .mk k x m kids => fun w n A c h0 h1 hK => spare_step (.mk k x m kids) (spare_all kids) w n A c h0 h1 hK
theorem spare_all : ∀ (ts : List Ex), ∀ u ∈ ts, ∀ (w : World) (n : Int) (A : Option Addr) (c : Nat), 0 ≤ n → n ≤ 10000 → KidsE w u.kids A → Calls Tryd.prog 38 #[ev u A c, .int .i64 n] w (VV (.int .i64 (spE u n)) w)
  | [], u, hu => by cases hu
  | t :: ts, u, hu => by
    rcases List.mem_cons.1 hu with h | h
    · rw [h]; exact spare_any t
    · exact spare_all ts u h
end
set_option maxHeartbeats 1000000 in
set_option maxRecDepth 100000 in
theorem isLong_any (t : Ex) (w : World) (A : Option Addr) (c : Nat) (hK : KidsE w t.kids A) : Calls Tryd.prog 29 #[ev t A c] w (BB (decide (60 < t.size)) w) := by
  have e : decide (60 < t.size) = decide (spE t 60 < 0) := by
    have := spE_max t 60 (by decide)
    rw [this, decide_eq_decide]
    omega
  rw [e]
  have HS := Lib.hid (spare_any t (w.alloc (.cells (eArr t A c) 29)) 60 A c (by decide) (by decide) (hK.below ((Below.refl _ _).alloc (Nat.le_refl _) _)))
  clear e hK
  go_enter Tryd.func29, Tryd.ntmps29
  go_wp2_with (go_at_call 38; refine HS.out.mono ?_; rintro e w1 ⟨rfl, hb1⟩)
  go_ret
  exact ⟨rfl, ((Below.refl _ _).alloc (Nat.le_refl _) _).trans (hb1.mono (by simp))⟩
end Go.Proofs.YtmofclpheioepaaDoor
