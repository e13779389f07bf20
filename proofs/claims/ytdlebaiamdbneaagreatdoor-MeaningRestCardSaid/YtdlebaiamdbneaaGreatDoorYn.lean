/- Texts of one proof: MxP, MxQ, MxR. -/
import Derived.Test.YtdlebaiamdbneaaGreatDoorYm
import Derived.Test.YtdlebaiamdbneaaGreatDoorYg
set_option linter.unusedVariables false
set_option linter.unusedSimpArgs false
set_option maxRecDepth 100000
set_option maxHeartbeats 8000000
namespace Go.Proofs.YtdlebaiamdbneaaGreatDoor
open Go.RowKit
namespace M
open I
open U (Ex St StsR StR StAt btw btw_iff ev eArr KidsE newBlk blkLt Vr VarsR VrAt KpL sArr two_kids owns_below new_cells gbRefl gbAlloc gbTrans gbBelow)
open R (epanic bAllocX insR LeftP erOf cell1 limS WfL)
def eqB : List Int → List Int → Bool
 | v :: vs, n :: ns => (v == n) && eqB vs ns
 | _, _ => true
def intsB (a b : List Int) : Bool := decide (a.length = b.length) && eqB a b
theorem eqB_drop {a b : List Int} {k : Nat} (h1 : k < a.length) (h2 : k < b.length) : eqB (a.drop k) (b.drop k) = ((a[k] == b[k]) && eqB (a.drop (k + 1)) (b.drop (k + 1))) := by
 rw [List.drop_eq_getElem_cons h1, List.drop_eq_getElem_cons h2, eqB]
theorem eqB_end {a b : List Int} {k : Nat} (h1 : a.length ≤ k) : eqB (a.drop k) (b.drop k) = true := by
 rw [List.drop_eq_nil_of_le h1]
 unfold eqB
 cases b.drop k <;> rfl
theorem Ints_any (a b : List Int) (A B : Option Addr) (m n : Nat) (w : World) (hA : IntsR w a A) (hB : IntsR w b B) (hal : a.length ≤ 1000000) :
  Calls Tryz.prog 12 #[.slice A a.length m, .slice B b.length n] w (BB (intsB a b) w) := by
 by_cases hl : a.length = b.length
 ·have hm : intsB a b = eqB a b := by unfold intsB; simp [hl]
  rw [hm]
  obtain ⟨r, hr⟩ : ∃ r, eqB a b = r := ⟨_, rfl⟩
  rw [hr]
  have hrH : Hid (eqB (a.drop 0) (b.drop 0) = r) := Lib.hid hr
  have HA := Lib.hid hA
  have HB := Lib.hid hB
  have hlb : (((a.length : Nat) : Int) != ((b.length : Nat) : Int)) = false := by simp [hl]
  have hlH := Lib.hid hl
  clear hm hr hA hB hl
  go_enter Tryz.func12, Tryz.ntmps12
  go_wp2_with fail
  go_loopg [5] (a.length) (fun gk i wr => ∃ k : Nat, k + gk = a.length ∧ i = .int .i64 k ∧ Hid (eqB (a.drop k) (b.drop k) = r) ∧ Hid (Below w.heap.size w wr))
  case atStart => exact ⟨0, by omega, rfl, hrH, Lib.hid (Below.refl _ _)⟩
  case round =>
   obtain ⟨k, hk, rfl, hG, hW⟩ := hrel
   by_cases hlt : k < a.length
   ·obtain ⟨gq, rfl⟩ : ∃ g, gk = g + 1 := ⟨gk - 1, by omega⟩
    have hls : k < b.length := by have := hlH.out; omega
    obtain ⟨ga, oa, rfl, hat⟩ := HA.out.addr (by intro e; rw [e] at hlt; simp at hlt)
    obtain ⟨gs, os, rfl, has⟩ := HB.out.addr (by intro e; rw [e] at hls; simp at hls)
    have e0 := hat k _ (List.getElem?_eq_getElem hlt)
    have s0 := has k _ (List.getElem?_eq_getElem hls)
    have e0 := grCell hW.out e0
    have s0 := grCell hW.out s0
    have hGd := hG.out
    rw [eqB_drop hlt hls] at hGd
    generalize a[k] = u at *
    generalize b[k] = v at *
    clear hat has hG
    go_upto_region 6 with fail
    by_cases huv : u = v
    ·subst huv
     have hGd := Lib.hid (show eqB (a.drop (k + 1)) (b.drop (k + 1)) = r by simpa using hGd)
     have hne : (u != u) = false := by simp
     refine wp_region_G (S := fun wq => Gr wr wq) (by kernel_rfl) (grDrew _) (fun hHeld => ?_)
     have hSG : Hid (∀ wp wq : World, Gr wr wp → Gr wp wq → Gr wr wq) := Lib.hid (fun _ _ h k => h.tr k)
     have hmv := Lib.hid (fun (wq : World) (hq : Gr wr wq) => And.intro (grCell hq s0) (grCell hq e0))
     first
      | (refine tk hSG 0 (v := ?_) rfl (by kernel_rfl) (fun _ _ _ h => h) (by rfl) ?_ hHeld ?_; rotate_left; focus (intro w' hSw; obtain ⟨s0, e0⟩ := hmv.out _ hSw; go_simp; (try with_reducible rfl)))
      | refine tn hSG 0 rfl (by kernel_rfl) (fun _ _ _ h => h) (by rfl) hHeld ?_
     (try simp only [zq1, zq2, zq3, Act.put, zq4, zq5, zq6])
     first
      | (refine tk hSG 1 (v := ?_) rfl (by kernel_rfl) (fun _ _ _ h => h) (by rfl) ?_ hHeld ?_; rotate_left; focus (intro w' hSw; obtain ⟨s0, e0⟩ := hmv.out _ hSw; go_simp; (try with_reducible rfl)))
      | refine tn hSG 1 rfl (by kernel_rfl) (fun _ _ _ h => h) (by rfl) hHeld ?_
     (try simp only [zq1, zq2, zq3, Act.put, zq4, zq5, zq6])
     refine tk hSG 2 (v := .pointer (some ⟨ga, oa + k, none⟩)) rfl (by kernel_rfl) (fun _ _ _ h => h) (by rfl) ?_ hHeld ?_
     focus (intro w' hSw; obtain ⟨s0, e0⟩ := hmv.out _ hSw; go_simp; (try (intro hq; omega)))
     (try simp only [zq1, zq2, zq3, Act.put, zq4, zq5, zq6])
     first
      | (refine tk hSG 3 (v := ?_) rfl (by kernel_rfl) (fun _ _ _ h => h) (by rfl) ?_ hHeld ?_; rotate_left; focus (intro w' hSw; obtain ⟨s0, e0⟩ := hmv.out _ hSw; go_simp; (try with_reducible rfl)))
      | refine tn hSG 3 rfl (by kernel_rfl) (fun _ _ _ h => h) (by rfl) hHeld ?_
     (try simp only [zq1, zq2, zq3, Act.put, zq4, zq5, zq6])
     first
      | (refine tk hSG 4 (v := ?_) rfl (by kernel_rfl) (fun _ _ _ h => h) (by rfl) ?_ hHeld ?_; rotate_left; focus (intro w' hSw; obtain ⟨s0, e0⟩ := hmv.out _ hSw; go_simp; (try with_reducible rfl)))
      | refine tn hSG 4 rfl (by kernel_rfl) (fun _ _ _ h => h) (by rfl) hHeld ?_
     (try simp only [zq1, zq2, zq3, Act.put, zq4, zq5, zq6])
     first
      | (refine tk hSG 5 (v := ?_) rfl (by kernel_rfl) (fun _ _ _ h => h) (by rfl) ?_ hHeld ?_; rotate_left; focus (intro w' hSw; obtain ⟨s0, e0⟩ := hmv.out _ hSw; go_simp; (try with_reducible rfl)))
      | refine tn hSG 5 rfl (by kernel_rfl) (fun _ _ _ h => h) (by rfl) hHeld ?_
     (try simp only [zq1, zq2, zq3, Act.put, zq4, zq5, zq6])
     refine tk hSG 6 (v := .pointer (some ⟨gs, os + k, none⟩)) rfl (by kernel_rfl) (fun _ _ _ h => h) (by rfl) ?_ hHeld ?_
     focus (intro w' hSw; obtain ⟨s0, e0⟩ := hmv.out _ hSw; go_simp; (try (intro hq; omega)))
     (try simp only [zq1, zq2, zq3, Act.put, zq4, zq5, zq6])
     first
      | (refine tk hSG 7 (v := ?_) rfl (by kernel_rfl) (fun _ _ _ h => h) (by rfl) ?_ hHeld ?_; rotate_left; focus (intro w' hSw; obtain ⟨s0, e0⟩ := hmv.out _ hSw; go_simp; (try with_reducible rfl)))
      | refine tn hSG 7 rfl (by kernel_rfl) (fun _ _ _ h => h) (by rfl) hHeld ?_
     (try simp only [zq1, zq2, zq3, Act.put, zq4, zq5, zq6])
     first
      | (refine tk hSG 8 (v := ?_) rfl (by kernel_rfl) (fun _ _ _ h => h) (by rfl) ?_ hHeld ?_; rotate_left; focus (intro w' hSw; obtain ⟨s0, e0⟩ := hmv.out _ hSw; go_simp; (try with_reducible rfl)))
      | refine tn hSG 8 rfl (by kernel_rfl) (fun _ _ _ h => h) (by rfl) hHeld ?_
     (try simp only [zq1, zq2, zq3, Act.put, zq4, zq5, zq6])
     refine wpAnyG_done (by kernel_rfl) (fun w5 hgD => ?_) _
     have hg5 : Gr wr w5 := (grDrew wr).tr hgD
     clear hgD hSG hHeld
     have hB6 := Lib.hid (hW.out.trans (hg5.mono hW.out.size))
     clear e0 s0
     go_upto_region 5 with fail
     go_wp2
     go_roundg gq
     case measure => omega
     case rel => exact ⟨k + 1, by omega, by go_num, hGd, hB6⟩
    ·obtain rfl : false = r := by
      have hq : (u == v) = false := by simp [huv]
      rw [hq, Bool.false_and] at hGd
      exact hGd
     have hne : (u != v) = true := by simp [huv]
     clear hGd huv
     refine wp_region_G (S := fun wq => Gr wr wq) (by kernel_rfl) (grDrew _) (fun hHeld => ?_)
     have hSG : Hid (∀ wp wq : World, Gr wr wp → Gr wp wq → Gr wr wq) := Lib.hid (fun _ _ h k => h.tr k)
     have hmv := Lib.hid (fun (wq : World) (hq : Gr wr wq) => And.intro (grCell hq s0) (grCell hq e0))
     first
      | (refine tk hSG 0 (v := ?_) rfl (by kernel_rfl) (fun _ _ _ h => h) (by rfl) ?_ hHeld ?_; rotate_left; focus (intro w' hSw; obtain ⟨s0, e0⟩ := hmv.out _ hSw; go_simp; (try with_reducible rfl)))
      | refine tn hSG 0 rfl (by kernel_rfl) (fun _ _ _ h => h) (by rfl) hHeld ?_
     (try simp only [zq1, zq2, zq3, Act.put, zq4, zq5, zq6])
     first
      | (refine tk hSG 1 (v := ?_) rfl (by kernel_rfl) (fun _ _ _ h => h) (by rfl) ?_ hHeld ?_; rotate_left; focus (intro w' hSw; obtain ⟨s0, e0⟩ := hmv.out _ hSw; go_simp; (try with_reducible rfl)))
      | refine tn hSG 1 rfl (by kernel_rfl) (fun _ _ _ h => h) (by rfl) hHeld ?_
     (try simp only [zq1, zq2, zq3, Act.put, zq4, zq5, zq6])
     refine tk hSG 2 (v := .pointer (some ⟨ga, oa + k, none⟩)) rfl (by kernel_rfl) (fun _ _ _ h => h) (by rfl) ?_ hHeld ?_
     focus (intro w' hSw; obtain ⟨s0, e0⟩ := hmv.out _ hSw; go_simp; (try (intro hq; omega)))
     (try simp only [zq1, zq2, zq3, Act.put, zq4, zq5, zq6])
     first
      | (refine tk hSG 3 (v := ?_) rfl (by kernel_rfl) (fun _ _ _ h => h) (by rfl) ?_ hHeld ?_; rotate_left; focus (intro w' hSw; obtain ⟨s0, e0⟩ := hmv.out _ hSw; go_simp; (try with_reducible rfl)))
      | refine tn hSG 3 rfl (by kernel_rfl) (fun _ _ _ h => h) (by rfl) hHeld ?_
     (try simp only [zq1, zq2, zq3, Act.put, zq4, zq5, zq6])
     first
      | (refine tk hSG 4 (v := ?_) rfl (by kernel_rfl) (fun _ _ _ h => h) (by rfl) ?_ hHeld ?_; rotate_left; focus (intro w' hSw; obtain ⟨s0, e0⟩ := hmv.out _ hSw; go_simp; (try with_reducible rfl)))
      | refine tn hSG 4 rfl (by kernel_rfl) (fun _ _ _ h => h) (by rfl) hHeld ?_
     (try simp only [zq1, zq2, zq3, Act.put, zq4, zq5, zq6])
     first
      | (refine tk hSG 5 (v := ?_) rfl (by kernel_rfl) (fun _ _ _ h => h) (by rfl) ?_ hHeld ?_; rotate_left; focus (intro w' hSw; obtain ⟨s0, e0⟩ := hmv.out _ hSw; go_simp; (try with_reducible rfl)))
      | refine tn hSG 5 rfl (by kernel_rfl) (fun _ _ _ h => h) (by rfl) hHeld ?_
     (try simp only [zq1, zq2, zq3, Act.put, zq4, zq5, zq6])
     refine tk hSG 6 (v := .pointer (some ⟨gs, os + k, none⟩)) rfl (by kernel_rfl) (fun _ _ _ h => h) (by rfl) ?_ hHeld ?_
     focus (intro w' hSw; obtain ⟨s0, e0⟩ := hmv.out _ hSw; go_simp; (try (intro hq; omega)))
     (try simp only [zq1, zq2, zq3, Act.put, zq4, zq5, zq6])
     first
      | (refine tk hSG 7 (v := ?_) rfl (by kernel_rfl) (fun _ _ _ h => h) (by rfl) ?_ hHeld ?_; rotate_left; focus (intro w' hSw; obtain ⟨s0, e0⟩ := hmv.out _ hSw; go_simp; (try with_reducible rfl)))
      | refine tn hSG 7 rfl (by kernel_rfl) (fun _ _ _ h => h) (by rfl) hHeld ?_
     (try simp only [zq1, zq2, zq3, Act.put, zq4, zq5, zq6])
     first
      | (refine tk hSG 8 (v := ?_) rfl (by kernel_rfl) (fun _ _ _ h => h) (by rfl) ?_ hHeld ?_; rotate_left; focus (intro w' hSw; obtain ⟨s0, e0⟩ := hmv.out _ hSw; go_simp; (try with_reducible rfl)))
      | refine tn hSG 8 rfl (by kernel_rfl) (fun _ _ _ h => h) (by rfl) hHeld ?_
     (try simp only [zq1, zq2, zq3, Act.put, zq4, zq5, zq6])
     refine wpAnyG_done (by kernel_rfl) (fun w5 hgD => ?_) _
     have hg5 : Gr wr w5 := (grDrew wr).tr hgD
     clear hgD hSG hHeld
     have hB6 := Lib.hid (hW.out.trans (hg5.mono hW.out.size))
     clear e0 s0
     go_wp2
     go_ret
     exact ⟨rfl, hB6.out⟩
   ·obtain rfl : gk = 0 := by omega
    have hkl : decide ((k : Int) < (a.length : Int)) = false := by simp; omega
    obtain rfl : true = r := by have := hG.out; rw [eqB_end (by omega)] at this; exact this
    clear hG
    go_wp2
    go_ret
    exact ⟨rfl, hW.out⟩
 ·have hm : intsB a b = false := by unfold intsB; simp [hl]
  rw [hm]
  have hlb : (((a.length : Nat) : Int) != ((b.length : Nat) : Int)) = true := by simp; omega
  clear hm hA hB hl
  go_enter Tryz.func12, Tryz.ntmps12
  go_wp2_with fail
  go_ret
  exact ⟨rfl, Below.refl _ _⟩
end M
end Go.Proofs.YtdlebaiamdbneaaGreatDoor
namespace Go.Proofs.YtdlebaiamdbneaaGreatDoor
open Go.RowKit
namespace M
open I
open U (Ex St StsR StR StAt btw btw_iff ev eArr KidsE newBlk blkLt Vr VarsR VrAt KpL sArr two_kids owns_below new_cells gbRefl gbAlloc gbTrans gbBelow)
open R (epanic bAllocX insR LeftP erOf cell1 limS WfL)
def LaidM (w : World) : Prop := LaidW w ∧ 7 < w.heap.size ∧ U.LaidW w ∧ LaidI w
theorem LaidM.gr {w w' : World} (h : LaidM w) (hg : Gr w w') : LaidM w' := ⟨h.1.below hg h.2.1, Nat.lt_of_lt_of_le h.2.1 hg.size, h.2.2.1.below hg, h.2.2.2.gr hg⟩
theorem ints1 {w : World} {b : Nat} {x : Int} {T : TypeId} (h : w.heap[b]? = some (.cells #[.int .i64 x] T (0, 0))) : IntsR w [x] (some ⟨b, 0, none⟩) := by
 have e : ∀ j, w.cell? ⟨b, j, none⟩ = (#[.int .i64 x] : Array Value)[j]? := fun j => cell_of_row _ _ j _ _ (0, 0) h
 refine .inr ⟨b, 0, rfl, fun i n hn => ?_⟩
 rcases i with _ | i
 ·simp at hn; rw [← hn]; exact e 0
 ·simp at hn
theorem run_ex (VA : Option Addr) (vm : Nat) (a : U.OnA) (st : Int) (SA : Option Addr) (sc : Nat) (e i0 i1 i2 i3 : Int) (w : World) (hL : LaidM w) (hV : VarsR w exVs VA) (hO : U.OnR w exOn a) (hS : IntsR w [st] SA) :
  Calls Tryz.prog 10 #[U.pgv ⟨#[99]⟩ VA 1 vm exOn a 0 (-1), .slice SA 1 sc, .agg (clA e i0 i1 i2 i3)] w (RunQ (runM ⟨#[99]⟩ exVs exOn.list 0 (-1) [st] e i0 i1 i2 i3) w) :=
 Run_any ⟨#[99]⟩ exVs VA vm exOn a 0 (-1) [st] SA sc e i0 i1 i2 i3 w hL.1 hL.2.1 hL.2.2.1 hL.2.2.2 hV hO hS (by decide) (by intro v hv; simp [exVs] at hv; subst hv; decide) (by decide)
theorem ints_one (want : Int) (A B : Option Addr) (m n : Nat) (w : World) (hA : IntsR w [want] A) (hB : IntsR w [want] B) : Calls Tryz.prog 12 #[.slice A 1 m, .slice B 1 n] w (BB true w) := by
 have h := Ints_any [want] [want] A B m n w hA hB (by simp)
 have e : intsB [want] [want] = true := by simp [intsB, eqB]
 rw [e] at h
 exact h
theorem gives_ok (st ev ac want : Int) (w : World) (hL : LaidM w) (hm : runM ⟨#[99]⟩ exVs exOn.list 0 (-1) [st] ev ac 1 1 0 = .ok [want]) : Calls Tryz.prog 16 #[.int .i64 st, .int .i64 ev, .int .i64 ac, .int .i64 want, .int .i64 0] w (BB true w) := by
 have HR := Lib.hid (fun (wx : World) VA vm a SA sc (hg : Gr w wx) hV hO hS => run_ex VA vm a st SA sc ev ac 1 1 0 wx (hL.gr hg) hV hO hS)
 rw [hm] at HR
 clear hm hL
 go_enter Tryz.func16, Tryz.ntmps16
 go_wp2_with (first
  | (go_at_call 15; refine (example_any w).mono ?_; rintro e w2 ⟨⟨VA, vm, a, rfl, hV, hO⟩, hb2⟩; have HV := Lib.hid hV; have HO := Lib.hid hO; have HB := Lib.hid hb2; clear hV hO hb2)
  | (go_at_call 10; refine (HR.out _ VA vm a (some ⟨w2.heap.size, 0, none⟩) 1 (Gr.tr HB.out (grAlloc w2 _)) (HV.out.below (grAlloc w2 _)) (HO.out.below (grAlloc w2 _)) (ints1 (newBlk w2 _ _ rfl))).mono ?_; rintro e w4 ⟨⟨g, cap, rfl, hI⟩, hb4⟩; have HI := Lib.hid hI.intsR; have HB := Lib.hid (Gr.tr (Gr.tr HB.out (grAlloc w2 _)) hb4); clear hI hb4 HR HV HO)
  | (go_at_call 12; refine (ints_one want _ (some ⟨w4.heap.size, 0, none⟩) _ _ _ (HI.out.gr (grAlloc w4 _)) (ints1 (newBlk w4 _ _ rfl))).mono ?_; rintro e w6 ⟨rfl, hb6⟩; have HB := Lib.hid (Gr.tr (Gr.tr HB.out (grAlloc w4 _)) hb6); clear hb6 HI))
 go_ret
 exact ⟨rfl, HB.out⟩
theorem gives_er (st ev ac want er : Int) (w : World) (hL : LaidM w) (hm : runM ⟨#[99]⟩ exVs exOn.list 0 (-1) [st] ev ac 1 1 0 = .error er) (hne : er ≠ 0) : Calls Tryz.prog 16 #[.int .i64 st, .int .i64 ev, .int .i64 ac, .int .i64 want, .int .i64 er] w (BB true w) := by
 have HR := Lib.hid (fun (wx : World) VA vm a SA sc (hg : Gr w wx) hV hO hS => run_ex VA vm a st SA sc ev ac 1 1 0 wx (hL.gr hg) hV hO hS)
 rw [hm] at HR
 have h1 : (er == er) = true := by simp
 have h2 : (er == 0) = false := by simp [hne]
 have h3 : (er != 0) = true := by simp [hne]
 clear hm hL hne
 go_enter Tryz.func16, Tryz.ntmps16
 go_wp2_with (first
  | (go_at_call 15; refine (example_any w).mono ?_; rintro e w2 ⟨⟨VA, vm, a, rfl, hV, hO⟩, hb2⟩; have HV := Lib.hid hV; have HO := Lib.hid hO; have HB := Lib.hid hb2; clear hV hO hb2)
  | (go_at_call 10; refine (HR.out _ VA vm a (some ⟨w2.heap.size, 0, none⟩) 1 (Gr.tr HB.out (grAlloc w2 _)) (HV.out.below (grAlloc w2 _)) (HO.out.below (grAlloc w2 _)) (ints1 (newBlk w2 _ _ rfl))).mono ?_; rintro e w4 ⟨he, hb4⟩; simp only at he; subst he; have HB := Lib.hid (Gr.tr (Gr.tr HB.out (grAlloc w2 _)) hb4); clear hb4 HR HV HO))
 go_ret
 exact ⟨rfl, HB.out⟩
end M
end Go.Proofs.YtdlebaiamdbneaaGreatDoor
namespace Go.Proofs.YtdlebaiamdbneaaGreatDoor
open Go.RowKit
namespace M
open I
open U (Ex St StsR StR StAt btw btw_iff ev eArr KidsE newBlk blkLt Vr VarsR VrAt KpL sArr two_kids owns_below new_cells gbRefl gbAlloc gbTrans gbBelow)
open R (epanic bAllocX insR LeftP erOf cell1 limS WfL)
open C (valPM)
def StartP (b : Bool) (l : List Int) (w : World) (e : Ending) (w' : World) : Prop :=
 (match b with
  | true => ∃ A c, e = .returned (.tuple #[.slice A l.length (l.length + c), .int .i64 0]) ∧ IntsR w' l A
  | false => e = .returned (.tuple #[.slice none 0 0, .int .i64 1])) ∧ Below w.heap.size w w'
theorem Start_any (x : ByteArray) (vs : List Vr) (VA : Option Addr) (vm : Nat) (o : U.On) (a : U.OnA) (wi pa : Int) (w : World) (hL : LaidM w) (hV : VarsR w vs VA) (hO : U.OnR w o a) (hx : x.size ≤ maxLen) (hv : ∀ v ∈ vs, v.x.size ≤ maxLen) (hvl : vs.length ≤ 1000000) :
  Calls Tryz.prog 9 #[U.pgv x VA vs.length vm o a wi pa] w (StartP (valPM x vs o.list wi pa) (vs.map (·.i)) w) := by
 obtain ⟨W2, hW2⟩ : ∃ W2, W2 = w.alloc (.cells (U.pgArr x VA vs.length vm o a wi pa) 26) := ⟨_, rfl⟩
 have HB : Hid (Gr w W2) := Lib.hid (by rw [hW2]; exact grAlloc _ _)
 have HP : Hid (W2.heap[w.heap.size]? = some (.cells (U.pgArr x VA vs.length vm o a wi pa) 26 (0, 0))) := Lib.hid (by rw [hW2]; exact newBlk _ _ _ rfl)
 have HVl := Lib.hid (C.CValid_any x vs VA vm o a wi pa W2 (hL.gr HB.out).1 (hL.gr HB.out).2.1 (hL.gr HB.out).2.2.1 (hV.below HB.out) (hO.below HB.out) hx hv)
 have HV := Lib.hid hV
 obtain ⟨p0, p1, p2, p3, p4, p5, p6, p7, p8⟩ := U.cells9 HP.out
 obtain ⟨i0', hi, hz0, hz1, hz2⟩ := info_parts intInfo
 generalize valPM x vs o.list wi pa = b at *
 clear hL hV hO hx hv
 go_enter Tryz.func9, Tryz.ntmps9
 go_upto_region 1 with fail
 rw [← hW2]
 clear hW2
 cases b with
 | false =>
  go_wp2_with (go_at_call 23; refine HVl.out.mono ?_; rintro e w2 ⟨rfl, hb2⟩; have HB := Lib.hid (Gr.tr HB.out hb2); clear hb2)
  exact bodyPost_ret (v := .tuple #[.slice none 0 0, .int .i64 1]) (by simp [results, Tryz.results9, go_sem]) rfl ⟨rfl, HB.out⟩
 | true =>
  go_upto_region 3 with (go_at_call 23; refine HVl.out.mono ?_; rintro e w2 ⟨rfl, hb2⟩; have HB := Lib.hid (Gr.tr HB.out hb2); have HP2 := grBlk hb2 HP.out; clear hb2 p0 p1 p2 p3 p4 p5 p6 p7 p8; obtain ⟨p0, p1, p2, p3, p4, p5, p6, p7, p8⟩ := U.cells9 HP2; clear HP2)
  go_wp2_with fail
  go_loopg [4, 13] (vs.length) (fun gk v i wr => ∃ (k : Nat) (acc : List Int), k + gk = vs.length ∧ i = .int .i64 k ∧ acc.length = k ∧ Hid (acc = (vs.map (·.i)).take k) ∧ Hid (wr.ownsRow w.heap.size 3 1 v acc.length (iCells acc)) ∧ Hid (Below w.heap.size w wr))
  case atStart => exact ⟨0, [], by omega, rfl, rfl, Lib.hid rfl, Lib.hid (World.ownsRow_nil _ _ _ _), HB⟩
  case round =>
   obtain ⟨k, acc, hk, rfl, hacc, hG, hO, hW⟩ := hrel
   subst hacc
   obtain ⟨Av, cv, rfl, hAv⟩ := own_ints hO.out
   have hAv := Lib.hid hAv
   by_cases hlt : acc.length < vs.length
   ·obtain ⟨g, rfl⟩ : ∃ g, gk = g + 1 := ⟨gk - 1, by omega⟩
    obtain ⟨ga, oa, rfl, hat⟩ := (HV.out.below hW.out).addr (by omega)
    obtain ⟨e0, e1, e2, e3, e4⟩ := hat _ _ (List.getElem?_eq_getElem hlt)
    have hG2 : Hid (acc ++ [vs[acc.length].i] = (vs.map (·.i)).take (acc.length + 1)) := Lib.hid (by
     have h2 : (vs.map (·.i)).take (acc.length + 1) = (vs.map (·.i)).take acc.length ++ [vs[acc.length].i] := by rw [List.take_add_one]; simp [hlt]
     rw [h2, ← hG.out])
    clear hat hG
    generalize vs[acc.length] = t at *
    have hbk : Below wr.heap.size wr (wr.alloc (.cells (vrC t) 54)) := (Below.refl _ _).alloc (Nat.le_refl _) _
    have hown := owns_below hO.out hbk.block
    have hlt2 := hown.lt
    have hWk := hW.out.trans (hbk.mono hW.out.size)
    have hs1 := hW.out.size
    clear p0 p1 p2 p3 p4 p5 p6 p7 p8
    go_wp2_with (at_builtin; refine wpList_append_lies _ rfl _ _ 27 rfl w.heap.size 3 i0' (.int .i64 0) 1 8 Tryz.underlying27 hi hz0 hz1 hz2 rfl (by decide) _ _ (iCells acc) rfl (hown.alloc _) ⟨wr.heap.size + 1, 0, none⟩ 1 1 [.int .i64 t.i] rfl rfl ?c1 (by intro x hx; obtain rfl := List.mem_singleton.1 hx; rfl) (by decide) ?c3 ?c4 ?c5 (wr.heap.size + 1 + 1) ?c6 ?_)
    case c1 => exact new_cells _ #[.int .i64 t.i] _ _ (by simp)
    case c3 => unfold maxLen; omega
    case c4 => omega
    case c5 => simp; omega
    case c6 => simp
    intro gb cap w3 hown3 hgrow hat hlt3
    have hown4 : Hid (w3.ownsRow w.heap.size 3 1 (.slice (some ⟨gb, 0, none⟩) (acc.length + 1) cap) (acc ++ [t.i]).length (iCells (acc ++ [t.i]))) := Lib.hid (by rw [iCells_snoc, List.length_append]; exact hown3)
    have hW3 := Lib.hid (hWk.trans (gbBelow (B := w.heap.size) (gbTrans (gbAlloc (gbRefl _ _)) hgrow) hWk.size (fun k e => (hlt2 k e).1)))
    clear hgrow hown3 hown hlt2 hat hWk
    go_wp2
    go_roundg g
    case measure => omega
    case rel => exact ⟨acc.length + 1, acc ++ [t.i], by omega, by go_num, by simp, hG2, hown4, hW3⟩
   ·obtain rfl : gk = 0 := by omega
    have hE : Hid (acc = vs.map (·.i)) := Lib.hid (by have h1 := hG.out; rw [List.take_of_length_le (by simp; omega)] at h1; exact h1)
    clear hG
    go_wp2_with fail
    exact bodyPost_ret (v := .tuple #[.slice Av acc.length (acc.length + cv), .int .i64 0]) (by simp [results, Tryz.results9, go_sem]) rfl ⟨⟨Av, cv, by rw [← hE.out], by rw [← hE.out]; exact hAv.out⟩, hW.out⟩
end M
end Go.Proofs.YtdlebaiamdbneaaGreatDoor
