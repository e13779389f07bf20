/- Law package 04: the reference's Size, usable, and the mathematics of UnitsErrors. -/
import Derived.Test.YtmofclpheioepaaDoorUxN
import Derived.Test.YtmofclpheioepaaDoorUxJ
namespace Go.Proofs.YtmofclpheioepaaDoor
open Go.RowKit
set_option linter.unusedVariables false
set_option linter.unusedSimpArgs false

theorem bDrewN {w X : World} (h : Below w.heap.size w X) : ∀ n, Below w.heap.size w (X.drewN n)
  | 0 => h
  | n + 1 => (bDrewN h n).drew
theorem rsK_drop (ts : List Ex) (k : Nat) (hk : k < ts.length) (b n : Int) (h : n ≤ b) : rsK (ts.drop k) b n = rsK (ts.drop (k + 1)) b (n + rsE ts[k] (b - n)) := by
  rw [List.drop_eq_getElem_cons hk, rsK, if_pos h]
theorem rsK_stop (ts : List Ex) (k : Nat) (b n : Int) (h : b < n) : rsK (ts.drop k) b n = n := by
  cases hd : ts.drop k with
  | nil => rfl
  | cons t us => rw [rsK, if_neg (by omega)]
theorem rsE_range (t : Ex) (b : Int) (h : 0 ≤ b) : 1 ≤ rsE t b ∧ rsE t b ≤ b + 1 := by
  have := rsE_min t b h
  have := t.size_pos
  omega
set_option maxHeartbeats 1000000 in
set_option maxRecDepth 100000 in
theorem Size_step (t : Ex) (ih : ∀ u ∈ t.kids, ∀ (w : World) (b : Int) (A : Option Addr) (c : Nat), 0 ≤ b → b ≤ 10000 → KidsE w u.kids A → Calls Tryd.prog 10 #[ev u A c, .int .i64 b] w (VV (.int .i64 (rsE u b)) w))
    (w : World) (b : Int) (A : Option Addr) (c : Nat) (h0 : 0 ≤ b) (h1 : b ≤ 10000) (hK : KidsE w t.kids A) :
    Calls Tryd.prog 10 #[ev t A c, .int .i64 b] w (VV (.int .i64 (rsE t b)) w) := by
  obtain ⟨r, hr⟩ : ∃ r, rsE t b = r := ⟨_, rfl⟩
  rw [hr]
  have hr' : rsK t.kids b 1 = r := by rw [← hr]; cases t; rfl
  have hR := Lib.hid hr'
  have IH := Lib.hid ih
  have hKH := Lib.hid hK
  clear hr hr' ih hK
  go_enter Tryd.func10, Tryd.ntmps10
  go_wp2
  go_loopg [5, 6] (t.kids.length) (fun gk m i wr => ∃ (k : Nat) (mv : Int), k + gk = t.kids.length ∧ i = .int .i64 k ∧ m = .int .i64 mv ∧ (k : Int) + 1 ≤ mv ∧ mv ≤ b + 1 ∧ Hid (rsK (t.kids.drop k) b mv = r) ∧ Hid (wr.heap[w.heap.size]? = some (.cells (eArr t A c) 29 (0, 0))) ∧ Hid (Below w.heap.size w wr))
  case atStart => exact ⟨0, 1, by omega, rfl, rfl, by omega, by omega, hR.out, newBlk _ _ _ rfl, (Below.refl _ _).alloc (Nat.le_refl _) _⟩
  case round =>
    obtain ⟨k, mv, hk, rfl, rfl, hm1, hm2, hS, hB, hW⟩ := hrel
    obtain ⟨⟨b0, b1, b2, b3⟩, -⟩ := cells4 hB.out
    have hxb := blkLt hB.out
    clear b0 b1 b2
    by_cases hneg : mv ≤ b
    · by_cases hlt : k < t.kids.length
      · obtain ⟨g, rfl⟩ : ∃ g, gk = g + 1 := ⟨gk - 1, by omega⟩
        have hS1 := hS.out
        rw [rsK_drop _ _ hlt _ _ hneg] at hS1
        have hS1 := Lib.hid hS1
        have hKw : KidsE wr t.kids A := hKH.out.below hW.out
        obtain ⟨ga, oa, rfl⟩ := hKw.addr (by omega)
        obtain ⟨A1, c1, ⟨e0, e1, e2, e3⟩, -, hK1⟩ := (hKw.get _ _ _ k _ (List.getElem?_eq_getElem hlt)).cells
        have hmem : t.kids[k] ∈ t.kids := List.getElem_mem hlt
        have hI := Lib.hid (IH.out _ hmem wr (b - mv) A1 c1 (by omega) (by omega) hK1)
        have hsp := rsE_range t.kids[k] (b - mv) (by omega)
        clear hS hK1 hKw hmem
        generalize t.kids[k] = u at *
        have q0 : IntKind.i64.wrap (b - mv) = b - mv := IntWalk.i64_in _ (by omega)
        generalize hv : rsE u (b - mv) = rv at *
        have q1 : IntKind.i64.wrap (mv + rv) = mv + rv := IntWalk.i64_in _ (by omega)
        have hlt2 : k < t.kids.length := hlt
        go_wp2_with fail
        refine hI.out.mono ?_
        rintro e w2 ⟨rfl, hb2⟩
        have hB2 := Lib.hid ((hb2.block _ hxb).trans hB.out)
        have hW2 := Lib.hid (hW.out.trans (hb2.mono hW.out.size))
        clear hb2 e0 e1 e2 e3
        go_wp2
        clear q0 q1
        go_roundg g
        case measure => omega
        case rel => exact ⟨k + 1, mv + rv, by omega, by go_num, rfl, by omega, by omega, hS1, hB2, hW2⟩
      · have hF : Hid (mv = r) := by have := hS.out; rw [List.drop_eq_nil_of_le (by omega)] at this; exact this
        clear hS
        go_wp2
        go_ret
        exact ⟨ret_i hF.out, hW.out⟩
    · have hF : Hid (mv = r) := by have := hS.out; rw [rsK_stop _ _ _ _ (by omega)] at this; exact this
      have hng : decide (mv ≤ b) = false := by simp; omega
      clear hS
      by_cases hlt : k < t.kids.length
      all_goals
        go_wp2
        go_ret
        exact ⟨ret_i hF.out, hW.out⟩
mutual
theorem Size_any : ∀ (t : Ex) (w : World) (b : Int) (A : Option Addr) (c : Nat), 0 ≤ b → b ≤ 10000 → KidsE w t.kids A → Calls Tryd.prog 10 #[ev t A c, .int .i64 b] w (VV (.int .i64 (rsE t b)) w)
  | .mk k x m kids => fun w n A c h0 h1 hK => Size_step (.mk k x m kids) (Size_all kids) w n A c h0 h1 hK
theorem Size_all : ∀ (ts : List Ex), ∀ u ∈ ts, ∀ (w : World) (b : Int) (A : Option Addr) (c : Nat), 0 ≤ b → b ≤ 10000 → KidsE w u.kids A → Calls Tryd.prog 10 #[ev u A c, .int .i64 b] w (VV (.int .i64 (rsE u b)) w)
  | [], u, hu => by cases hu
  | t :: ts, u, hu => by
    rcases List.mem_cons.1 hu with h | h
    · rw [h]; exact Size_any t
    · exact Size_all ts u h
end
def usableM (n : Nat) (a b : Ex) : Bool := decide (n ≤ 30) && decide (rsE a 60 + rsE b 60 ≤ 59)
set_option maxHeartbeats 1000000 in
set_option maxRecDepth 100000 in
theorem usable_any (V : Option Addr) (n m : Nat) (a b : Ex) (A B : Option Addr) (c d : Nat) (w : World) (hA : KidsE w a.kids A) (hB : KidsE w b.kids B) : Calls Tryd.prog 17 #[.slice V n m, ev a A c, ev b B d] w (BB (usableM n a b) w) := by
  obtain ⟨W2, hW2⟩ : ∃ W2, W2 = (w.alloc (.cells (eArr a A c) 29)).alloc (.cells (eArr b B d) 29) := ⟨_, rfl⟩
  have hb0 : Below w.heap.size w W2 := by rw [hW2]; exact bAlloc (bAlloc (Below.refl _ _))
  have HA0 : Hid (W2.heap[w.heap.size]? = some (.cells (eArr a A c) 29 (0, 0))) := Lib.hid (by rw [hW2]; exact (Below.heap_alloc _ _ _ (by simp)).trans (newBlk _ _ _ rfl))
  have HB0 : Hid (W2.heap[w.heap.size + 1]? = some (.cells (eArr b B d) 29 (0, 0))) := Lib.hid (by rw [hW2]; exact newBlk _ _ _ (by simp))
  have HSA := Lib.hid (fun wx (h : Below W2.heap.size W2 wx) => Size_any a wx 60 A c (by decide) (by decide) (hA.below (bCall hb0 h)))
  have HSB := Lib.hid (fun wx (h : Below W2.heap.size W2 wx) => Size_any b wx 60 B d (by decide) (by decide) (hB.below (bCall hb0 h)))
  have HW := Lib.hid hb0
  have ra := rsE_range a 60 (by decide)
  have rb := rsE_range b 60 (by decide)
  unfold usableM
  generalize rsE a 60 = x at *
  generalize rsE b 60 = y at *
  have q1 : IntKind.i64.wrap (x + y) = x + y := IntWalk.i64_in _ (by omega)
  have HB := Lib.hid (Below.refl W2.heap.size W2)
  obtain ⟨⟨a0, a1, a2, a3⟩, -⟩ := cells4 HA0.out
  obtain ⟨⟨b0, b1, b2, b3⟩, -⟩ := cells4 HB0.out
  have al := blkLt HA0.out
  have bl := blkLt HB0.out
  clear hA hB hb0 ra rb
  by_cases hn : n ≤ 30
  · have hnd : decide ((n : Int) ≤ 30) = true := by simp; omega
    go_enter Tryd.func17, Tryd.ntmps17
    go_wp2_with fail
    change Code.wp _ _ _ _ ((w.alloc (.cells (eArr a A c) 29)).alloc (.cells (eArr b B d) 29))
    rw [← hW2]
    clear hW2
    go_region_held3 (fun w' => w'.cell? ⟨w.heap.size, 0, none⟩ = some (.int .i64 a.op) ∧ w'.cell? ⟨w.heap.size, 1, none⟩ = some (.int .i64 a.n) ∧ w'.cell? ⟨w.heap.size, 2, none⟩ = some (.int .i64 a.unit) ∧ w'.cell? ⟨w.heap.size, 3, none⟩ = some (.slice A a.kids.length (a.kids.length + c)) ∧
        w'.cell? ⟨w.heap.size + 1, 0, none⟩ = some (.int .i64 b.op) ∧ w'.cell? ⟨w.heap.size + 1, 1, none⟩ = some (.int .i64 b.n) ∧ w'.cell? ⟨w.heap.size + 1, 2, none⟩ = some (.int .i64 b.unit) ∧ w'.cell? ⟨w.heap.size + 1, 3, none⟩ = some (.slice B b.kids.length (b.kids.length + d)))
      (first | (with_reducible exact ⟨a0, a1, a2, a3, b0, b1, b2, b3⟩) | go_keep)
      (first
        | (go_at_call_of 10 (Value.slice A a.kids.length (a.kids.length + c)); refine (HSA.out _ ?_).mono ?_; ((repeat with_reducible first | exact HB.out | apply bDrew | apply bAlloc)); rintro e wn ⟨rfl, hbn⟩; have HB := Lib.hid (bCall (by (repeat with_reducible first | exact HB.out | apply bDrew | apply bAlloc)) hbn); have a0 := (cells4 ((HB.out.block _ (blkLt HA0.out)).trans HA0.out)).1.1; have a1 := (cells4 ((HB.out.block _ (blkLt HA0.out)).trans HA0.out)).1.2.1; have a2 := (cells4 ((HB.out.block _ (blkLt HA0.out)).trans HA0.out)).1.2.2.1; have a3 := (cells4 ((HB.out.block _ (blkLt HA0.out)).trans HA0.out)).1.2.2.2; have b0 := (cells4 ((HB.out.block _ (blkLt HB0.out)).trans HB0.out)).1.1; have b1 := (cells4 ((HB.out.block _ (blkLt HB0.out)).trans HB0.out)).1.2.1; have b2 := (cells4 ((HB.out.block _ (blkLt HB0.out)).trans HB0.out)).1.2.2.1; have b3 := (cells4 ((HB.out.block _ (blkLt HB0.out)).trans HB0.out)).1.2.2.2)
        | (go_at_call 10; refine (HSB.out _ ?_).mono ?_; ((repeat with_reducible first | exact HB.out | apply bDrew | apply bAlloc)); rintro e wn ⟨rfl, hbn⟩; have HB := Lib.hid (bCall (by (repeat with_reducible first | exact HB.out | apply bDrew | apply bAlloc)) hbn); have a0 := (cells4 ((HB.out.block _ (blkLt HA0.out)).trans HA0.out)).1.1; have a1 := (cells4 ((HB.out.block _ (blkLt HA0.out)).trans HA0.out)).1.2.1; have a2 := (cells4 ((HB.out.block _ (blkLt HA0.out)).trans HA0.out)).1.2.2.1; have a3 := (cells4 ((HB.out.block _ (blkLt HA0.out)).trans HA0.out)).1.2.2.2; have b0 := (cells4 ((HB.out.block _ (blkLt HB0.out)).trans HB0.out)).1.1; have b1 := (cells4 ((HB.out.block _ (blkLt HB0.out)).trans HB0.out)).1.2.1; have b2 := (cells4 ((HB.out.block _ (blkLt HB0.out)).trans HB0.out)).1.2.2.1; have b3 := (cells4 ((HB.out.block _ (blkLt HB0.out)).trans HB0.out)).1.2.2.2))
    all_goals go_wp2_with fail
    all_goals
      go_ret
      refine ⟨?_, bCall HW.out (by (repeat with_reducible first | exact HB.out | apply bDrew | apply bAlloc))⟩
      simp [*]
  · have hnd : decide ((n : Int) ≤ 30) = false := by simp; omega
    have hnn : ¬ ((n : Int) ≤ 30) := by omega
    go_enter Tryd.func17, Tryd.ntmps17
    go_wp2_with fail
    go_quiet (fail)
    go_wp2_with fail
    go_ret
    refine ⟨by simp [hn], bDrewN (bAlloc (bAlloc (Below.refl _ _))) _⟩
theorem usable_size {n : Nat} {a b : Ex} (h : usableM n a b = true) : a.size + b.size ≤ 59 := by
  have h1 := rsE_min a 60 (by decide)
  have h2 := rsE_min b 60 (by decide)
  simp [usableM] at h
  have := a.size_pos
  have := b.size_pos
  omega
theorem two_size (op : Int) (a b : Ex) : (Ex.mk op 0 0 [a, b]).size = 1 + (a.size + (b.size + 0)) := by simp only [Ex.size, szK]
/-- the mathematics of UnitsErrors -/
theorem errors_units (us : List Int) (a b : Ex) (op : Int) (h : a.size + b.size ≤ 59) :
    (inferM us a).2 = 0 ∨ ((inferM us (.mk op 0 0 [a, b])).2 = (inferM us a).2 ∧ (inferM us (.mk op 0 0 [b, a])).2 ≠ 0) := by
  rcases hs : scopeM us with _ | s
  · right
    rw [inferM_none hs, inferM_none hs, inferM_none hs]
    exact ⟨rfl, by decide⟩
  · have hp := b.size_pos
    have hp2 := a.size_pos
    rw [inferM_ok hs (by omega), inferM_ok hs (by rw [two_size]; omega), inferM_ok hs (by rw [two_size]; omega)]
    rcases ha : inf s a with er | p
    · have he := inf_err a ha
      right
      constructor
      · simp [inf, infK, ha, resP]
      · rcases hb : inf s b with eb | q
        · have := inf_err b hb
          simp [inf, infK, hb, resP]
          omega
        · simp [inf, infK, hb, ha, resP]
          omega
    · left
      rfl
end Go.Proofs.YtmofclpheioepaaDoor
