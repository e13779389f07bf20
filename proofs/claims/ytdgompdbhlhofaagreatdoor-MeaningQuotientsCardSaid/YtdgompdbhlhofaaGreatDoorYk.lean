/- Texts of one proof: MxP. -/
import Derived.Test.YtdgompdbhlhofaaGreatDoorYj
import Derived.Test.YtdgompdbhlhofaaGreatDoorYa
namespace Go.Proofs.YtdgompdbhlhofaaGreatDoor
open Go.RowKit
set_option linter.unusedVariables false
set_option linter.unusedSimpArgs false
namespace M
open I
open U (Ex St StsR StR StAt btw btw_iff ev eArr KidsE newBlk blkLt Vr VarsR VrAt KpL sArr two_kids owns_below new_cells gbRefl gbAlloc gbTrans gbBelow)
open R (epanic bAllocX insR LeftP erOf cell1 limS WfL)
def eqB : List Int → List Int → Bool
  | v :: vs, n :: ns => (v == n) && eqB vs ns
  | _, _ => true
def intsB (a b : List Int) : Bool := decide (a.length = b.length) && eqB a b
theorem eqB_drop {a b : List Int} {k : Nat} (h1 : k < a.length) (h2 : k < b.length) : eqB (a.drop k) (b.drop k) = ((a[k] == b[k]) && eqB (a.drop (k + 1)) (b.drop (k + 1))) := by
  rw [List.drop_eq_getElem_cons h1, List.drop_eq_getElem_cons h2, eqB]
theorem eqB_end {a b : List Int} {k : Nat} (h1 : a.length ≤ k) : eqB (a.drop k) (b.drop k) = true := by
  rw [List.drop_eq_nil_of_le h1]
  unfold eqB
  cases b.drop k <;> rfl
set_option maxHeartbeats 4000000 in
set_option maxRecDepth 100000 in
theorem Ints_any (a b : List Int) (A B : Option Addr) (m n : Nat) (w : World) (hA : IntsR w a A) (hB : IntsR w b B) (hal : a.length ≤ 1000000) :
    Calls Tryz.prog 9 #[.slice A a.length m, .slice B b.length n] w (BB (intsB a b) w) := by
  by_cases hl : a.length = b.length
  · have hm : intsB a b = eqB a b := by unfold intsB; simp [hl]
    rw [hm]
    obtain ⟨r, hr⟩ : ∃ r, eqB a b = r := ⟨_, rfl⟩
    rw [hr]
    have hrH : Hid (eqB (a.drop 0) (b.drop 0) = r) := Lib.hid hr
    have HA := Lib.hid hA
    have HB := Lib.hid hB
    have hlb : (((a.length : Nat) : Int) != ((b.length : Nat) : Int)) = false := by simp [hl]
    have hlH := Lib.hid hl
    clear hm hr hA hB hl
    go_enter Tryz.func9, Tryz.ntmps9
    go_wp2_with fail
    go_loopg [5] (a.length) (fun gk i wr => ∃ k : Nat, k + gk = a.length ∧ i = .int .i64 k ∧ Hid (eqB (a.drop k) (b.drop k) = r) ∧ Hid (Below w.heap.size w wr))
    case atStart => exact ⟨0, by omega, rfl, hrH, Lib.hid (Below.refl _ _)⟩
    case round =>
      obtain ⟨k, hk, rfl, hG, hW⟩ := hrel
      by_cases hlt : k < a.length
      · obtain ⟨gq, rfl⟩ : ∃ g, gk = g + 1 := ⟨gk - 1, by omega⟩
        have hls : k < b.length := by have := hlH.out; omega
        obtain ⟨ga, oa, rfl, hat⟩ := HA.out.addr (by intro e; rw [e] at hlt; simp at hlt)
        obtain ⟨gs, os, rfl, has⟩ := HB.out.addr (by intro e; rw [e] at hls; simp at hls)
        have e0 := hat k _ (List.getElem?_eq_getElem hlt)
        have s0 := has k _ (List.getElem?_eq_getElem hls)
        have e0 := grCell hW.out e0
        have s0 := grCell hW.out s0
        have hGd := hG.out
        rw [eqB_drop hlt hls] at hGd
        generalize a[k] = u at *
        generalize b[k] = v at *
        clear hat has hG
        go_upto_region 6 with fail
        by_cases huv : u = v
        · subst huv
          have hGd := Lib.hid (show eqB (a.drop (k + 1)) (b.drop (k + 1)) = r by simpa using hGd)
          have hne : (u != u) = false := by simp
          refine wp_region_G (S := fun wq => Gr wr wq) (by kernel_rfl) (grDrew _) (fun hHeld => ?_)
          have hSG : Hid (∀ wp wq : World, Gr wr wp → Gr wp wq → Gr wr wq) := Lib.hid (fun _ _ h k => h.tr k)
          first
            | (refine wpAnyG_take hSG (i := 0)  (v := ?_) rfl (by kernel_rfl) (by kernel_rfl) (by kernel_rfl) (fun _ _ _ h => h) (YieldsIf.gives (Or.inl ⟨by rfl, ?_⟩)) hHeld ?_; rotate_left; focus (intro w' hSw; have s0 := grCell hSw s0; have e0 := grCell hSw e0; go_simp; (try with_reducible rfl)))
            | (refine wpAnyG_take hSG (i := 0)  (v := undef) rfl (by kernel_rfl) (by kernel_rfl) (by kernel_rfl) (fun _ _ _ h => h) (Or.inr ⟨by rfl, rfl⟩) hHeld ?_)
          (try simp only [List.getElem_toArray, List.getElem_cons_succ, List.getElem_cons_zero, Act.put, List.setIfInBounds_toArray, List.set_cons_zero, List.set_cons_succ])
          first
            | (refine wpAnyG_take hSG (i := 1)  (v := ?_) rfl (by kernel_rfl) (by kernel_rfl) (by kernel_rfl) (fun _ _ _ h => h) (YieldsIf.gives (Or.inl ⟨by rfl, ?_⟩)) hHeld ?_; rotate_left; focus (intro w' hSw; have s0 := grCell hSw s0; have e0 := grCell hSw e0; go_simp; (try with_reducible rfl)))
            | (refine wpAnyG_take hSG (i := 1)  (v := undef) rfl (by kernel_rfl) (by kernel_rfl) (by kernel_rfl) (fun _ _ _ h => h) (Or.inr ⟨by rfl, rfl⟩) hHeld ?_)
          (try simp only [List.getElem_toArray, List.getElem_cons_succ, List.getElem_cons_zero, Act.put, List.setIfInBounds_toArray, List.set_cons_zero, List.set_cons_succ])
          refine wpAnyG_take hSG (i := 2)  (v := .pointer (some ⟨ga, oa + k, none⟩)) rfl (by kernel_rfl) (by kernel_rfl) (by kernel_rfl) (fun _ _ _ h => h) (YieldsIf.gives (Or.inl ⟨by rfl, ?_⟩)) hHeld ?_
          focus (intro w' hSw; have s0 := grCell hSw s0; have e0 := grCell hSw e0; go_simp; (try (intro hq; omega)))
          (try simp only [List.getElem_toArray, List.getElem_cons_succ, List.getElem_cons_zero, Act.put, List.setIfInBounds_toArray, List.set_cons_zero, List.set_cons_succ])
          first
            | (refine wpAnyG_take hSG (i := 3)  (v := ?_) rfl (by kernel_rfl) (by kernel_rfl) (by kernel_rfl) (fun _ _ _ h => h) (YieldsIf.gives (Or.inl ⟨by rfl, ?_⟩)) hHeld ?_; rotate_left; focus (intro w' hSw; have s0 := grCell hSw s0; have e0 := grCell hSw e0; go_simp; (try with_reducible rfl)))
            | (refine wpAnyG_take hSG (i := 3)  (v := undef) rfl (by kernel_rfl) (by kernel_rfl) (by kernel_rfl) (fun _ _ _ h => h) (Or.inr ⟨by rfl, rfl⟩) hHeld ?_)
          (try simp only [List.getElem_toArray, List.getElem_cons_succ, List.getElem_cons_zero, Act.put, List.setIfInBounds_toArray, List.set_cons_zero, List.set_cons_succ])
          first
            | (refine wpAnyG_take hSG (i := 4)  (v := ?_) rfl (by kernel_rfl) (by kernel_rfl) (by kernel_rfl) (fun _ _ _ h => h) (YieldsIf.gives (Or.inl ⟨by rfl, ?_⟩)) hHeld ?_; rotate_left; focus (intro w' hSw; have s0 := grCell hSw s0; have e0 := grCell hSw e0; go_simp; (try with_reducible rfl)))
            | (refine wpAnyG_take hSG (i := 4)  (v := undef) rfl (by kernel_rfl) (by kernel_rfl) (by kernel_rfl) (fun _ _ _ h => h) (Or.inr ⟨by rfl, rfl⟩) hHeld ?_)
          (try simp only [List.getElem_toArray, List.getElem_cons_succ, List.getElem_cons_zero, Act.put, List.setIfInBounds_toArray, List.set_cons_zero, List.set_cons_succ])
          first
            | (refine wpAnyG_take hSG (i := 5)  (v := ?_) rfl (by kernel_rfl) (by kernel_rfl) (by kernel_rfl) (fun _ _ _ h => h) (YieldsIf.gives (Or.inl ⟨by rfl, ?_⟩)) hHeld ?_; rotate_left; focus (intro w' hSw; have s0 := grCell hSw s0; have e0 := grCell hSw e0; go_simp; (try with_reducible rfl)))
            | (refine wpAnyG_take hSG (i := 5)  (v := undef) rfl (by kernel_rfl) (by kernel_rfl) (by kernel_rfl) (fun _ _ _ h => h) (Or.inr ⟨by rfl, rfl⟩) hHeld ?_)
          (try simp only [List.getElem_toArray, List.getElem_cons_succ, List.getElem_cons_zero, Act.put, List.setIfInBounds_toArray, List.set_cons_zero, List.set_cons_succ])
          refine wpAnyG_take hSG (i := 6)  (v := .pointer (some ⟨gs, os + k, none⟩)) rfl (by kernel_rfl) (by kernel_rfl) (by kernel_rfl) (fun _ _ _ h => h) (YieldsIf.gives (Or.inl ⟨by rfl, ?_⟩)) hHeld ?_
          focus (intro w' hSw; have s0 := grCell hSw s0; have e0 := grCell hSw e0; go_simp; (try (intro hq; omega)))
          (try simp only [List.getElem_toArray, List.getElem_cons_succ, List.getElem_cons_zero, Act.put, List.setIfInBounds_toArray, List.set_cons_zero, List.set_cons_succ])
          first
            | (refine wpAnyG_take hSG (i := 7)  (v := ?_) rfl (by kernel_rfl) (by kernel_rfl) (by kernel_rfl) (fun _ _ _ h => h) (YieldsIf.gives (Or.inl ⟨by rfl, ?_⟩)) hHeld ?_; rotate_left; focus (intro w' hSw; have s0 := grCell hSw s0; have e0 := grCell hSw e0; go_simp; (try with_reducible rfl)))
            | (refine wpAnyG_take hSG (i := 7)  (v := undef) rfl (by kernel_rfl) (by kernel_rfl) (by kernel_rfl) (fun _ _ _ h => h) (Or.inr ⟨by rfl, rfl⟩) hHeld ?_)
          (try simp only [List.getElem_toArray, List.getElem_cons_succ, List.getElem_cons_zero, Act.put, List.setIfInBounds_toArray, List.set_cons_zero, List.set_cons_succ])
          first
            | (refine wpAnyG_take hSG (i := 8)  (v := ?_) rfl (by kernel_rfl) (by kernel_rfl) (by kernel_rfl) (fun _ _ _ h => h) (YieldsIf.gives (Or.inl ⟨by rfl, ?_⟩)) hHeld ?_; rotate_left; focus (intro w' hSw; have s0 := grCell hSw s0; have e0 := grCell hSw e0; go_simp; (try with_reducible rfl)))
            | (refine wpAnyG_take hSG (i := 8)  (v := undef) rfl (by kernel_rfl) (by kernel_rfl) (by kernel_rfl) (fun _ _ _ h => h) (Or.inr ⟨by rfl, rfl⟩) hHeld ?_)
          (try simp only [List.getElem_toArray, List.getElem_cons_succ, List.getElem_cons_zero, Act.put, List.setIfInBounds_toArray, List.set_cons_zero, List.set_cons_succ])
          refine wpAnyG_done (by kernel_rfl) (fun w5 hgD => ?_) _
          have hg5 : Gr wr w5 := (grDrew wr).tr hgD
          clear hgD hSG hHeld
          have hB6 := Lib.hid (hW.out.trans (hg5.mono hW.out.size))
          clear e0 s0
          go_upto_region 5 with fail
          go_wp2
          go_roundg gq
          case measure => omega
          case rel => exact ⟨k + 1, by omega, by go_num, hGd, hB6⟩
        · obtain rfl : false = r := by
            have hq : (u == v) = false := by simp [huv]
            rw [hq, Bool.false_and] at hGd
            exact hGd
          have hne : (u != v) = true := by simp [huv]
          clear hGd huv
          refine wp_region_G (S := fun wq => Gr wr wq) (by kernel_rfl) (grDrew _) (fun hHeld => ?_)
          have hSG : Hid (∀ wp wq : World, Gr wr wp → Gr wp wq → Gr wr wq) := Lib.hid (fun _ _ h k => h.tr k)
          first
            | (refine wpAnyG_take hSG (i := 0)  (v := ?_) rfl (by kernel_rfl) (by kernel_rfl) (by kernel_rfl) (fun _ _ _ h => h) (YieldsIf.gives (Or.inl ⟨by rfl, ?_⟩)) hHeld ?_; rotate_left; focus (intro w' hSw; have s0 := grCell hSw s0; have e0 := grCell hSw e0; go_simp; (try with_reducible rfl)))
            | (refine wpAnyG_take hSG (i := 0)  (v := undef) rfl (by kernel_rfl) (by kernel_rfl) (by kernel_rfl) (fun _ _ _ h => h) (Or.inr ⟨by rfl, rfl⟩) hHeld ?_)
          (try simp only [List.getElem_toArray, List.getElem_cons_succ, List.getElem_cons_zero, Act.put, List.setIfInBounds_toArray, List.set_cons_zero, List.set_cons_succ])
          first
            | (refine wpAnyG_take hSG (i := 1)  (v := ?_) rfl (by kernel_rfl) (by kernel_rfl) (by kernel_rfl) (fun _ _ _ h => h) (YieldsIf.gives (Or.inl ⟨by rfl, ?_⟩)) hHeld ?_; rotate_left; focus (intro w' hSw; have s0 := grCell hSw s0; have e0 := grCell hSw e0; go_simp; (try with_reducible rfl)))
            | (refine wpAnyG_take hSG (i := 1)  (v := undef) rfl (by kernel_rfl) (by kernel_rfl) (by kernel_rfl) (fun _ _ _ h => h) (Or.inr ⟨by rfl, rfl⟩) hHeld ?_)
          (try simp only [List.getElem_toArray, List.getElem_cons_succ, List.getElem_cons_zero, Act.put, List.setIfInBounds_toArray, List.set_cons_zero, List.set_cons_succ])
          refine wpAnyG_take hSG (i := 2)  (v := .pointer (some ⟨ga, oa + k, none⟩)) rfl (by kernel_rfl) (by kernel_rfl) (by kernel_rfl) (fun _ _ _ h => h) (YieldsIf.gives (Or.inl ⟨by rfl, ?_⟩)) hHeld ?_
          focus (intro w' hSw; have s0 := grCell hSw s0; have e0 := grCell hSw e0; go_simp; (try (intro hq; omega)))
          (try simp only [List.getElem_toArray, List.getElem_cons_succ, List.getElem_cons_zero, Act.put, List.setIfInBounds_toArray, List.set_cons_zero, List.set_cons_succ])
          first
            | (refine wpAnyG_take hSG (i := 3)  (v := ?_) rfl (by kernel_rfl) (by kernel_rfl) (by kernel_rfl) (fun _ _ _ h => h) (YieldsIf.gives (Or.inl ⟨by rfl, ?_⟩)) hHeld ?_; rotate_left; focus (intro w' hSw; have s0 := grCell hSw s0; have e0 := grCell hSw e0; go_simp; (try with_reducible rfl)))
            | (refine wpAnyG_take hSG (i := 3)  (v := undef) rfl (by kernel_rfl) (by kernel_rfl) (by kernel_rfl) (fun _ _ _ h => h) (Or.inr ⟨by rfl, rfl⟩) hHeld ?_)
          (try simp only [List.getElem_toArray, List.getElem_cons_succ, List.getElem_cons_zero, Act.put, List.setIfInBounds_toArray, List.set_cons_zero, List.set_cons_succ])
          first
            | (refine wpAnyG_take hSG (i := 4)  (v := ?_) rfl (by kernel_rfl) (by kernel_rfl) (by kernel_rfl) (fun _ _ _ h => h) (YieldsIf.gives (Or.inl ⟨by rfl, ?_⟩)) hHeld ?_; rotate_left; focus (intro w' hSw; have s0 := grCell hSw s0; have e0 := grCell hSw e0; go_simp; (try with_reducible rfl)))
            | (refine wpAnyG_take hSG (i := 4)  (v := undef) rfl (by kernel_rfl) (by kernel_rfl) (by kernel_rfl) (fun _ _ _ h => h) (Or.inr ⟨by rfl, rfl⟩) hHeld ?_)
          (try simp only [List.getElem_toArray, List.getElem_cons_succ, List.getElem_cons_zero, Act.put, List.setIfInBounds_toArray, List.set_cons_zero, List.set_cons_succ])
          first
            | (refine wpAnyG_take hSG (i := 5)  (v := ?_) rfl (by kernel_rfl) (by kernel_rfl) (by kernel_rfl) (fun _ _ _ h => h) (YieldsIf.gives (Or.inl ⟨by rfl, ?_⟩)) hHeld ?_; rotate_left; focus (intro w' hSw; have s0 := grCell hSw s0; have e0 := grCell hSw e0; go_simp; (try with_reducible rfl)))
            | (refine wpAnyG_take hSG (i := 5)  (v := undef) rfl (by kernel_rfl) (by kernel_rfl) (by kernel_rfl) (fun _ _ _ h => h) (Or.inr ⟨by rfl, rfl⟩) hHeld ?_)
          (try simp only [List.getElem_toArray, List.getElem_cons_succ, List.getElem_cons_zero, Act.put, List.setIfInBounds_toArray, List.set_cons_zero, List.set_cons_succ])
          refine wpAnyG_take hSG (i := 6)  (v := .pointer (some ⟨gs, os + k, none⟩)) rfl (by kernel_rfl) (by kernel_rfl) (by kernel_rfl) (fun _ _ _ h => h) (YieldsIf.gives (Or.inl ⟨by rfl, ?_⟩)) hHeld ?_
          focus (intro w' hSw; have s0 := grCell hSw s0; have e0 := grCell hSw e0; go_simp; (try (intro hq; omega)))
          (try simp only [List.getElem_toArray, List.getElem_cons_succ, List.getElem_cons_zero, Act.put, List.setIfInBounds_toArray, List.set_cons_zero, List.set_cons_succ])
          first
            | (refine wpAnyG_take hSG (i := 7)  (v := ?_) rfl (by kernel_rfl) (by kernel_rfl) (by kernel_rfl) (fun _ _ _ h => h) (YieldsIf.gives (Or.inl ⟨by rfl, ?_⟩)) hHeld ?_; rotate_left; focus (intro w' hSw; have s0 := grCell hSw s0; have e0 := grCell hSw e0; go_simp; (try with_reducible rfl)))
            | (refine wpAnyG_take hSG (i := 7)  (v := undef) rfl (by kernel_rfl) (by kernel_rfl) (by kernel_rfl) (fun _ _ _ h => h) (Or.inr ⟨by rfl, rfl⟩) hHeld ?_)
          (try simp only [List.getElem_toArray, List.getElem_cons_succ, List.getElem_cons_zero, Act.put, List.setIfInBounds_toArray, List.set_cons_zero, List.set_cons_succ])
          first
            | (refine wpAnyG_take hSG (i := 8)  (v := ?_) rfl (by kernel_rfl) (by kernel_rfl) (by kernel_rfl) (fun _ _ _ h => h) (YieldsIf.gives (Or.inl ⟨by rfl, ?_⟩)) hHeld ?_; rotate_left; focus (intro w' hSw; have s0 := grCell hSw s0; have e0 := grCell hSw e0; go_simp; (try with_reducible rfl)))
            | (refine wpAnyG_take hSG (i := 8)  (v := undef) rfl (by kernel_rfl) (by kernel_rfl) (by kernel_rfl) (fun _ _ _ h => h) (Or.inr ⟨by rfl, rfl⟩) hHeld ?_)
          (try simp only [List.getElem_toArray, List.getElem_cons_succ, List.getElem_cons_zero, Act.put, List.setIfInBounds_toArray, List.set_cons_zero, List.set_cons_succ])
          refine wpAnyG_done (by kernel_rfl) (fun w5 hgD => ?_) _
          have hg5 : Gr wr w5 := (grDrew wr).tr hgD
          clear hgD hSG hHeld
          have hB6 := Lib.hid (hW.out.trans (hg5.mono hW.out.size))
          clear e0 s0
          go_wp2
          go_ret
          exact ⟨rfl, hB6.out⟩
      · obtain rfl : gk = 0 := by omega
        have hkl : decide ((k : Int) < (a.length : Int)) = false := by simp; omega
        obtain rfl : true = r := by have := hG.out; rw [eqB_end (by omega)] at this; exact this
        clear hG
        go_wp2
        go_ret
        exact ⟨rfl, hW.out⟩
  · have hm : intsB a b = false := by unfold intsB; simp [hl]
    rw [hm]
    have hlb : (((a.length : Nat) : Int) != ((b.length : Nat) : Int)) = true := by simp; omega
    clear hm hA hB hl
    go_enter Tryz.func9, Tryz.ntmps9
    go_wp2_with fail
    go_ret
    exact ⟨rfl, Below.refl _ _⟩
abbrev ew1 : Ex := .mk 2 1 0 []
theorem ints2 {w : World} {b : Nat} {x y : Int} {T : TypeId} (h : w.heap[b]? = some (.cells #[.int .i64 x, .int .i64 y] T (0, 0))) : IntsR w [x, y] (some ⟨b, 0, none⟩) := by
  have e : ∀ j, w.cell? ⟨b, j, none⟩ = (#[.int .i64 x, .int .i64 y] : Array Value)[j]? := fun j => cell_of_row _ _ j _ _ (0, 0) h
  refine .inr ⟨b, 0, rfl, fun i n hn => ?_⟩
  rcases i with _ | _ | i
  · simp at hn; rw [← hn]; exact e 0
  · simp at hn; rw [← hn]; exact e 1
  · simp at hn
set_option maxHeartbeats 4000000 in
set_option maxRecDepth 100000 in
theorem lval_any (op a b : Int) (w : World) :
    Calls Tryz.prog 6 #[.int .i64 op, .int .i64 a, .int .i64 b] w (VV (.tuple #[.int .i64 (evalE [a, b] [0, 0, 0, 0] (x2 op)).1, .int .i64 (evalE [a, b] [0, 0, 0, 0] (x2 op)).2]) w) := by
  obtain ⟨W2, hW2⟩ : ∃ W2, W2 = w.alloc (.cells #[.int .i64 0, .int .i64 0, .int .i64 0, .int .i64 0] 38) := ⟨_, rfl⟩
  have HB : Hid (Gr w W2) := Lib.hid (by rw [hW2]; exact grAlloc _ _)
  have HY : W2.heap[w.heap.size]? = some (.cells #[.int .i64 0, .int .i64 0, .int .i64 0, .int .i64 0] 38 (0, 0)) := by rw [hW2]; exact newBlk _ _ _ rfl
  obtain ⟨⟨y0, y1, y2, y3⟩, -⟩ := C.cells4C HY
  have HEv := Lib.hid (fun (A S : Option Addr) c (wx : World) (h1 : IntsR wx [a, b] S) (h2 : KidsE wx [ew, ew1] A) => Eval_any [a, b] S 2 0 0 0 0 (x2 op) A c wx h1 (by simp) h2)
  generalize (evalE [a, b] [0, 0, 0, 0] (x2 op)).1 = r1 at *
  generalize (evalE [a, b] [0, 0, 0, 0] (x2 op)).2 = r2 at *
  clear HY
  go_enter Tryz.func6, Tryz.ntmps6
  go_upto_region 2 with fail
  rw [← hW2]
  clear hW2
  refine wp_region_G (S := fun wq => Gr W2 wq) (by kernel_rfl) (grDrew _) (fun hHeld => ?_)
  have hSG : Hid (∀ wp wq : World, Gr W2 wp → Gr wp wq → Gr W2 wq) := Lib.hid (fun _ _ h k => h.tr k)
  first
    | (refine wpAnyG_take hSG (i := 0)  (v := ?_) rfl (by kernel_rfl) (by kernel_rfl) (by kernel_rfl) (fun _ _ _ h => h) (YieldsIf.gives (Or.inl ⟨by rfl, ?_⟩)) hHeld ?_; rotate_left; focus (intro w' hSw; have y0 := grCell hSw y0; have y1 := grCell hSw y1; have y2 := grCell hSw y2; have y3 := grCell hSw y3; go_simp; (try with_reducible rfl)))
    | (refine wpAnyG_take hSG (i := 0)  (v := undef) rfl (by kernel_rfl) (by kernel_rfl) (by kernel_rfl) (fun _ _ _ h => h) (Or.inr ⟨by rfl, rfl⟩) hHeld ?_)
  (try simp only [List.getElem_toArray, List.getElem_cons_succ, List.getElem_cons_zero, Act.put, List.setIfInBounds_toArray, List.set_cons_zero, List.set_cons_succ])
  first
    | (refine wpAnyG_take hSG (i := 1)  (v := ?_) rfl (by kernel_rfl) (by kernel_rfl) (by kernel_rfl) (fun _ _ _ h => h) (YieldsIf.gives (Or.inl ⟨by rfl, ?_⟩)) hHeld ?_; rotate_left; focus (intro w' hSw; have y0 := grCell hSw y0; have y1 := grCell hSw y1; have y2 := grCell hSw y2; have y3 := grCell hSw y3; go_simp; (try with_reducible rfl)))
    | (refine wpAnyG_take hSG (i := 1)  (v := undef) rfl (by kernel_rfl) (by kernel_rfl) (by kernel_rfl) (fun _ _ _ h => h) (Or.inr ⟨by rfl, rfl⟩) hHeld ?_)
  (try simp only [List.getElem_toArray, List.getElem_cons_succ, List.getElem_cons_zero, Act.put, List.setIfInBounds_toArray, List.set_cons_zero, List.set_cons_succ])
  first
    | (refine wpAnyG_take hSG (i := 3)  (v := ?_) rfl (by kernel_rfl) (by kernel_rfl) (by kernel_rfl) (fun _ _ _ h => h) (YieldsIf.gives (Or.inl ⟨by rfl, ?_⟩)) hHeld ?_; rotate_left; focus (intro w' hSw; have y0 := grCell hSw y0; have y1 := grCell hSw y1; have y2 := grCell hSw y2; have y3 := grCell hSw y3; go_simp; (try with_reducible rfl)))
    | (refine wpAnyG_take hSG (i := 3)  (v := undef) rfl (by kernel_rfl) (by kernel_rfl) (by kernel_rfl) (fun _ _ _ h => h) (Or.inr ⟨by rfl, rfl⟩) hHeld ?_)
  (try simp only [List.getElem_toArray, List.getElem_cons_succ, List.getElem_cons_zero, Act.put, List.setIfInBounds_toArray, List.set_cons_zero, List.set_cons_succ])
  first
    | (refine wpAnyG_take hSG (i := 4)  (v := ?_) rfl (by kernel_rfl) (by kernel_rfl) (by kernel_rfl) (fun _ _ _ h => h) (YieldsIf.gives (Or.inl ⟨by rfl, ?_⟩)) hHeld ?_; rotate_left; focus (intro w' hSw; have y0 := grCell hSw y0; have y1 := grCell hSw y1; have y2 := grCell hSw y2; have y3 := grCell hSw y3; go_simp; (try with_reducible rfl)))
    | (refine wpAnyG_take hSG (i := 4)  (v := undef) rfl (by kernel_rfl) (by kernel_rfl) (by kernel_rfl) (fun _ _ _ h => h) (Or.inr ⟨by rfl, rfl⟩) hHeld ?_)
  (try simp only [List.getElem_toArray, List.getElem_cons_succ, List.getElem_cons_zero, Act.put, List.setIfInBounds_toArray, List.set_cons_zero, List.set_cons_succ])
  first
    | (refine wpAnyG_take hSG (i := 5)  (v := ?_) rfl (by kernel_rfl) (by kernel_rfl) (by kernel_rfl) (fun _ _ _ h => h) (YieldsIf.gives (Or.inl ⟨by rfl, ?_⟩)) hHeld ?_; rotate_left; focus (intro w' hSw; have y0 := grCell hSw y0; have y1 := grCell hSw y1; have y2 := grCell hSw y2; have y3 := grCell hSw y3; go_simp; (try with_reducible rfl)))
    | (refine wpAnyG_take hSG (i := 5)  (v := undef) rfl (by kernel_rfl) (by kernel_rfl) (by kernel_rfl) (fun _ _ _ h => h) (Or.inr ⟨by rfl, rfl⟩) hHeld ?_)
  (try simp only [List.getElem_toArray, List.getElem_cons_succ, List.getElem_cons_zero, Act.put, List.setIfInBounds_toArray, List.set_cons_zero, List.set_cons_succ])
  first
    | (refine wpAnyG_take hSG (i := 6)  (v := ?_) rfl (by kernel_rfl) (by kernel_rfl) (by kernel_rfl) (fun _ _ _ h => h) (YieldsIf.gives (Or.inl ⟨by rfl, ?_⟩)) hHeld ?_; rotate_left; focus (intro w' hSw; have y0 := grCell hSw y0; have y1 := grCell hSw y1; have y2 := grCell hSw y2; have y3 := grCell hSw y3; go_simp; (try with_reducible rfl)))
    | (refine wpAnyG_take hSG (i := 6)  (v := undef) rfl (by kernel_rfl) (by kernel_rfl) (by kernel_rfl) (fun _ _ _ h => h) (Or.inr ⟨by rfl, rfl⟩) hHeld ?_)
  (try simp only [List.getElem_toArray, List.getElem_cons_succ, List.getElem_cons_zero, Act.put, List.setIfInBounds_toArray, List.set_cons_zero, List.set_cons_succ])
  refine wpAnyG_ready (rs := [2, 7]) (by kernel_rfl) (by simp) (AllG.cons rfl (fun w4 hg K hK => ?_) (AllG.cons rfl (fun w4 hg K hK => ?_) AllG.nil))
  · skip
    have hgS := hSG.out _ _ hHeld.out hg
    go_simp
    refine hK.out _ _ (hgS.tr (grAlloc _ _)) (fun hHeld => ?_)
    have HN := Lib.hid (newBlk w4 (.cells #[.int .i64 a, .int .i64 b] 3) _ rfl)
    clear hK K hg hgS
    refine wpAnyG_ready (rs := [7]) (by kernel_rfl) (by simp) (AllG.cons rfl (fun w6 hg K hK => ?_) AllG.nil)
    have hgS := hSG.out _ _ hHeld.out hg
    have HN := Lib.hid (grBlk hg HN.out)
    go_simp
    go_at_call 11
    refine (two_any w6.heap.size op ew ew1 none none 0 0 w6 (Nat.le_refl _) (KP.nil _ _ _) (KP.nil _ _ _) (Nat.zero_le _) (Nat.zero_le _)).mono ?_
    rintro e w5 ⟨⟨A5, c5, rfl, hk⟩, hb⟩
    have hk5 := Lib.hid hk
    have HN := Lib.hid (grBlk hb HN.out)
    refine hK.out _ _ (hgS.tr hb) (fun hHeld => ?_)
    clear hK K hg hgS hb hk
    refine wpAnyG_ready (rs := [8]) (by kernel_rfl) (by simp) (AllG.cons rfl (fun w7 hg K hK => ?_) AllG.nil)
    have hgS := hSG.out _ _ hHeld.out hg
    have HE := Lib.hid (HEv.out A5 (some ⟨w4.heap.size, 0, none⟩) c5 w7 (ints2 (grBlk hg HN.out)) (hk5.out.gr hg).here)
    go_simp
    go_at_call 13
    refine HE.out.mono ?_
    rintro e w8 ⟨rfl, hb⟩
    refine hK.out _ _ (hgS.tr hb) (fun hHeld => ?_)
    clear hK K hg hgS hb HE hk5 HN
    first
      | (refine wpAnyG_take hSG (i := 9)  (v := ?_) rfl (by kernel_rfl) (by kernel_rfl) (by kernel_rfl) (fun _ _ _ h => h) (YieldsIf.gives (Or.inl ⟨by rfl, ?_⟩)) hHeld ?_; rotate_left; focus (intro w' hSw; have y0 := grCell hSw y0; have y1 := grCell hSw y1; have y2 := grCell hSw y2; have y3 := grCell hSw y3; go_simp; (try with_reducible rfl)))
      | (refine wpAnyG_take hSG (i := 9)  (v := undef) rfl (by kernel_rfl) (by kernel_rfl) (by kernel_rfl) (fun _ _ _ h => h) (Or.inr ⟨by rfl, rfl⟩) hHeld ?_)
    (try simp only [List.getElem_toArray, List.getElem_cons_succ, List.getElem_cons_zero, Act.put, List.setIfInBounds_toArray, List.set_cons_zero, List.set_cons_succ])
    first
      | (refine wpAnyG_take hSG (i := 10)  (v := ?_) rfl (by kernel_rfl) (by kernel_rfl) (by kernel_rfl) (fun _ _ _ h => h) (YieldsIf.gives (Or.inl ⟨by rfl, ?_⟩)) hHeld ?_; rotate_left; focus (intro w' hSw; have y0 := grCell hSw y0; have y1 := grCell hSw y1; have y2 := grCell hSw y2; have y3 := grCell hSw y3; go_simp; (try with_reducible rfl)))
      | (refine wpAnyG_take hSG (i := 10)  (v := undef) rfl (by kernel_rfl) (by kernel_rfl) (by kernel_rfl) (fun _ _ _ h => h) (Or.inr ⟨by rfl, rfl⟩) hHeld ?_)
    (try simp only [List.getElem_toArray, List.getElem_cons_succ, List.getElem_cons_zero, Act.put, List.setIfInBounds_toArray, List.set_cons_zero, List.set_cons_succ])
    first
      | (refine wpAnyG_take hSG (i := 11)  (v := ?_) rfl (by kernel_rfl) (by kernel_rfl) (by kernel_rfl) (fun _ _ _ h => h) (YieldsIf.gives (Or.inl ⟨by rfl, ?_⟩)) hHeld ?_; rotate_left; focus (intro w' hSw; have y0 := grCell hSw y0; have y1 := grCell hSw y1; have y2 := grCell hSw y2; have y3 := grCell hSw y3; go_simp; (try with_reducible rfl)))
      | (refine wpAnyG_take hSG (i := 11)  (v := undef) rfl (by kernel_rfl) (by kernel_rfl) (by kernel_rfl) (fun _ _ _ h => h) (Or.inr ⟨by rfl, rfl⟩) hHeld ?_)
    (try simp only [List.getElem_toArray, List.getElem_cons_succ, List.getElem_cons_zero, Act.put, List.setIfInBounds_toArray, List.set_cons_zero, List.set_cons_succ])
    first
      | (refine wpAnyG_take hSG (i := 12)  (v := ?_) rfl (by kernel_rfl) (by kernel_rfl) (by kernel_rfl) (fun _ _ _ h => h) (YieldsIf.gives (Or.inl ⟨by rfl, ?_⟩)) hHeld ?_; rotate_left; focus (intro w' hSw; have y0 := grCell hSw y0; have y1 := grCell hSw y1; have y2 := grCell hSw y2; have y3 := grCell hSw y3; go_simp; (try with_reducible rfl)))
      | (refine wpAnyG_take hSG (i := 12)  (v := undef) rfl (by kernel_rfl) (by kernel_rfl) (by kernel_rfl) (fun _ _ _ h => h) (Or.inr ⟨by rfl, rfl⟩) hHeld ?_)
    (try simp only [List.getElem_toArray, List.getElem_cons_succ, List.getElem_cons_zero, Act.put, List.setIfInBounds_toArray, List.set_cons_zero, List.set_cons_succ])
    refine wpAnyG_done (by kernel_rfl) (fun w9 hg => ?_) _
    have hg9 := hSG.out _ _ hHeld.out hg
    clear hg hHeld hSG
    have hB9 := Lib.hid (HB.out.tr hg9)
    clear y0 y1 y2 y3
    go_wp2
    exact bodyPost_ret (v := .tuple #[.int .i64 r1, .int .i64 r2]) (by simp [results, Tryz.results6, go_sem]) rfl ⟨rfl, hB9.out⟩
  · skip
    have hgS := hSG.out _ _ hHeld.out hg
    go_simp
    go_at_call 11
    refine (two_any w4.heap.size op ew ew1 none none 0 0 w4 (Nat.le_refl _) (KP.nil _ _ _) (KP.nil _ _ _) (Nat.zero_le _) (Nat.zero_le _)).mono ?_
    rintro e w5 ⟨⟨A5, c5, rfl, hk⟩, hb⟩
    have hk5 := Lib.hid hk
    refine hK.out _ _ (hgS.tr hb) (fun hHeld => ?_)
    clear hK K hg hgS hb hk
    refine wpAnyG_ready (rs := [2]) (by kernel_rfl) (by simp) (AllG.cons rfl (fun w6 hg K hK => ?_) AllG.nil)
    have hgS := hSG.out _ _ hHeld.out hg
    have hk5 := Lib.hid ((hk5.out.gr hg).gr (grAlloc w6 (.cells #[.int .i64 a, .int .i64 b] 3)))
    go_simp
    refine hK.out _ _ (hgS.tr (grAlloc _ _)) (fun hHeld => ?_)
    have HN := Lib.hid (newBlk w6 (.cells #[.int .i64 a, .int .i64 b] 3) _ rfl)
    clear hK K hg hgS
    refine wpAnyG_ready (rs := [8]) (by kernel_rfl) (by simp) (AllG.cons rfl (fun w7 hg K hK => ?_) AllG.nil)
    have hgS := hSG.out _ _ hHeld.out hg
    have HE := Lib.hid (HEv.out A5 (some ⟨w6.heap.size, 0, none⟩) c5 w7 (ints2 (grBlk hg HN.out)) (hk5.out.gr hg).here)
    go_simp
    go_at_call 13
    refine HE.out.mono ?_
    rintro e w8 ⟨rfl, hb⟩
    refine hK.out _ _ (hgS.tr hb) (fun hHeld => ?_)
    clear hK K hg hgS hb HE hk5 HN
    first
      | (refine wpAnyG_take hSG (i := 9)  (v := ?_) rfl (by kernel_rfl) (by kernel_rfl) (by kernel_rfl) (fun _ _ _ h => h) (YieldsIf.gives (Or.inl ⟨by rfl, ?_⟩)) hHeld ?_; rotate_left; focus (intro w' hSw; have y0 := grCell hSw y0; have y1 := grCell hSw y1; have y2 := grCell hSw y2; have y3 := grCell hSw y3; go_simp; (try with_reducible rfl)))
      | (refine wpAnyG_take hSG (i := 9)  (v := undef) rfl (by kernel_rfl) (by kernel_rfl) (by kernel_rfl) (fun _ _ _ h => h) (Or.inr ⟨by rfl, rfl⟩) hHeld ?_)
    (try simp only [List.getElem_toArray, List.getElem_cons_succ, List.getElem_cons_zero, Act.put, List.setIfInBounds_toArray, List.set_cons_zero, List.set_cons_succ])
    first
      | (refine wpAnyG_take hSG (i := 10)  (v := ?_) rfl (by kernel_rfl) (by kernel_rfl) (by kernel_rfl) (fun _ _ _ h => h) (YieldsIf.gives (Or.inl ⟨by rfl, ?_⟩)) hHeld ?_; rotate_left; focus (intro w' hSw; have y0 := grCell hSw y0; have y1 := grCell hSw y1; have y2 := grCell hSw y2; have y3 := grCell hSw y3; go_simp; (try with_reducible rfl)))
      | (refine wpAnyG_take hSG (i := 10)  (v := undef) rfl (by kernel_rfl) (by kernel_rfl) (by kernel_rfl) (fun _ _ _ h => h) (Or.inr ⟨by rfl, rfl⟩) hHeld ?_)
    (try simp only [List.getElem_toArray, List.getElem_cons_succ, List.getElem_cons_zero, Act.put, List.setIfInBounds_toArray, List.set_cons_zero, List.set_cons_succ])
    first
      | (refine wpAnyG_take hSG (i := 11)  (v := ?_) rfl (by kernel_rfl) (by kernel_rfl) (by kernel_rfl) (fun _ _ _ h => h) (YieldsIf.gives (Or.inl ⟨by rfl, ?_⟩)) hHeld ?_; rotate_left; focus (intro w' hSw; have y0 := grCell hSw y0; have y1 := grCell hSw y1; have y2 := grCell hSw y2; have y3 := grCell hSw y3; go_simp; (try with_reducible rfl)))
      | (refine wpAnyG_take hSG (i := 11)  (v := undef) rfl (by kernel_rfl) (by kernel_rfl) (by kernel_rfl) (fun _ _ _ h => h) (Or.inr ⟨by rfl, rfl⟩) hHeld ?_)
    (try simp only [List.getElem_toArray, List.getElem_cons_succ, List.getElem_cons_zero, Act.put, List.setIfInBounds_toArray, List.set_cons_zero, List.set_cons_succ])
    first
      | (refine wpAnyG_take hSG (i := 12)  (v := ?_) rfl (by kernel_rfl) (by kernel_rfl) (by kernel_rfl) (fun _ _ _ h => h) (YieldsIf.gives (Or.inl ⟨by rfl, ?_⟩)) hHeld ?_; rotate_left; focus (intro w' hSw; have y0 := grCell hSw y0; have y1 := grCell hSw y1; have y2 := grCell hSw y2; have y3 := grCell hSw y3; go_simp; (try with_reducible rfl)))
      | (refine wpAnyG_take hSG (i := 12)  (v := undef) rfl (by kernel_rfl) (by kernel_rfl) (by kernel_rfl) (fun _ _ _ h => h) (Or.inr ⟨by rfl, rfl⟩) hHeld ?_)
    (try simp only [List.getElem_toArray, List.getElem_cons_succ, List.getElem_cons_zero, Act.put, List.setIfInBounds_toArray, List.set_cons_zero, List.set_cons_succ])
    refine wpAnyG_done (by kernel_rfl) (fun w9 hg => ?_) _
    have hg9 := hSG.out _ _ hHeld.out hg
    clear hg hHeld hSG
    have hB9 := Lib.hid (HB.out.tr hg9)
    clear y0 y1 y2 y3
    go_wp2
    exact bodyPost_ret (v := .tuple #[.int .i64 r1, .int .i64 r2]) (by simp [results, Tryz.results6, go_sem]) rfl ⟨rfl, hB9.out⟩
end M
end Go.Proofs.YtdgompdbhlhofaaGreatDoor
