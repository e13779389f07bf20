/- Package machine: isState, copies of states, newMachine. -/
import Derived.Test.YthgngkajdiclcaaDoorNdA
namespace Go.Proofs.YthgngkajdiclcaaDoor
open Go.RowKit
set_option linter.unusedVariables false
set_option linter.unusedSimpArgs false
namespace N
open K
/-- a state of variables, by their ranges -/
def inLB : List (Int × Int) → List Int → Bool
  | v :: vs, n :: ns => (vN n && btw2 n v) && inLB vs ns
  | _, _ => true
def stB (vs : List (Int × Int)) (st : List Int) : Bool := decide (st.length = vs.length) && inLB vs st
theorem inLB_drop {vs : List (Int × Int)} {st : List Int} {k : Nat} (h1 : k < vs.length) (h2 : k < st.length) : inLB (vs.drop k) (st.drop k) = ((vN st[k] && btw2 st[k] vs[k]) && inLB (vs.drop (k + 1)) (st.drop (k + 1))) := by
  rw [List.drop_eq_getElem_cons h1, List.drop_eq_getElem_cons h2, inLB]
theorem inLB_end {vs : List (Int × Int)} {st : List Int} {k : Nat} (h1 : vs.length ≤ k) : inLB (vs.drop k) (st.drop k) = true := by
  rw [List.drop_eq_nil_of_le h1]; rfl
theorem inLB_v {vs : List (Int × Int)} {st : List Int} (hl : st.length = vs.length) (h : inLB vs st = true) : ∀ n ∈ st, vN n = true := by
  induction st generalizing vs with
  | nil => simp
  | cons a st ih =>
    cases vs with
    | nil => simp at hl
    | cons v vs =>
      simp only [inLB, Bool.and_eq_true] at h
      intro n hn
      rcases List.mem_cons.1 hn with rfl | hn
      · exact h.1.1
      · exact ih (by simpa using hl) h.2 n hn
set_option maxHeartbeats 4000000 in
set_option maxRecDepth 100000 in
theorem isState_any (vs : List (Int × Int)) (VA : Option Addr) (vc : Nat) (st : List Int) (SA : Option Addr) (sc : Nat) (w : World) (hV : VsR w vs VA) (hS : IntsR w st SA) (hvl : vs.length ≤ 1000000) :
    Calls Tryd.prog 30 #[.slice VA vs.length vc, .slice SA st.length sc] w (BB (stB vs st) w) := by
  by_cases hl : st.length = vs.length
  · have hm : stB vs st = inLB vs st := by unfold stB; simp [hl]
    rw [hm]
    obtain ⟨r, hr⟩ : ∃ r, inLB vs st = r := ⟨_, rfl⟩
    rw [hr]
    have hrH : Hid (inLB (vs.drop 0) (st.drop 0) = r) := Lib.hid hr
    have HV := Lib.hid hV
    have HS := Lib.hid hS
    have hlb : (((st.length : Nat) : Int) != ((vs.length : Nat) : Int)) = false := by simp [hl]
    have hlH := Lib.hid hl
    clear hm hr hV hS hl
    go_enter Tryd.func30, Tryd.ntmps30
    go_wp2_with fail
    go_loopg [14] (st.length) (fun gk i wr => ∃ k : Nat, k + gk = st.length ∧ i = .int .i64 k ∧ Hid (inLB (vs.drop k) (st.drop k) = r) ∧ Hid (Below w.heap.size w wr))
    case atStart => exact ⟨0, by omega, rfl, hrH, Lib.hid (Below.refl _ _)⟩
    case round =>
      obtain ⟨k, hk, rfl, hG, hW⟩ := hrel
      by_cases hlt : k < st.length
      · obtain ⟨gq, rfl⟩ : ∃ g, gk = g + 1 := ⟨gk - 1, by omega⟩
        have hlv : k < vs.length := by have := hlH.out; omega
        obtain ⟨ga, oa, rfl, e2, e3⟩ := HV.out.at (List.getElem?_eq_getElem hlv)
        obtain ⟨gs, os, rfl, has⟩ := HS.out.addr (by intro e; rw [e] at hlt; simp at hlt)
        have s0 := has k _ (List.getElem?_eq_getElem hlt)
        have e2 := grCell hW.out e2
        have e3 := grCell hW.out e3
        have s0 := grCell hW.out s0
        have hGd := hG.out
        rw [inLB_drop hlv hlt] at hGd
        generalize hvk : vs[k] = u at *
        generalize st[k] = n at *
        obtain ⟨lo, hi⟩ := u
        simp only at e2 e3
        have hGd : ((vN n && btw n lo hi) && inLB (vs.drop (k + 1)) (st.drop (k + 1))) = r := hGd
        have HVl := Lib.hid (fun wx => isValue_any n wx)
        have HBt := Lib.hid (fun wx => between_any n lo hi wx)
        clear has hG hvk
        go_upto_region 6 with fail
        rcases hv : vN n with _ | _
        · rw [hv] at hGd HVl
          obtain rfl : false = r := by simpa using hGd
          clear hv hGd
          refine wp_region_G (S := fun wq => Gr wr wq) (by kernel_rfl) (grDrew _) (fun hHeld => ?_)
          have hSG : Hid (∀ wp wq : World, Gr wr wp → Gr wp wq → Gr wr wq) := Lib.hid (fun _ _ h k => h.tr k)
          have hmv := Lib.hid (fun (wq : World) (hq : Gr wr wq) => And.intro (grCell hq s0) (And.intro (grCell hq e2) (grCell hq e3)))
          first
           | (refine tk hSG 0 (v := ?_) rfl (by kernel_rfl) (fun _ _ _ h => h) (by rfl) ?_ hHeld ?_; rotate_left; focus (intro w' hSw; obtain ⟨s0, e2, e3⟩ := hmv.out _ hSw; go_simp; (try with_reducible rfl)))
           | refine tn hSG 0 rfl (by kernel_rfl) (fun _ _ _ h => h) (by rfl) hHeld ?_
          (try simp only [zq1, zq2, zq3, Act.put, zq4, zq5, zq6])
          refine tc hSG 1 (v := .bool false) rfl (by kernel_rfl) (fun _ _ _ h => h) (by rfl) ?_ hHeld ?_
          focus (intro wz hSw K hK; obtain ⟨s0, e2, e3⟩ := hmv.out _ hSw; go_simp; go_at_call 43; refine (HVl.out _).mono ?_; rintro e w2 ⟨rfl, hw⟩; have hb2 := belOf hw; exact hK.out _ hb2)
          (try simp only [zq1, zq2, zq3, Act.put, zq4, zq5, zq6])
          first
           | (refine tk hSG 2 (v := ?_) rfl (by kernel_rfl) (fun _ _ _ h => h) (by rfl) ?_ hHeld ?_; rotate_left; focus (intro w' hSw; obtain ⟨s0, e2, e3⟩ := hmv.out _ hSw; go_simp; (try with_reducible rfl)))
           | refine tn hSG 2 rfl (by kernel_rfl) (fun _ _ _ h => h) (by rfl) hHeld ?_
          (try simp only [zq1, zq2, zq3, Act.put, zq4, zq5, zq6])
          first
           | (refine tk hSG 3 (v := ?_) rfl (by kernel_rfl) (fun _ _ _ h => h) (by rfl) ?_ hHeld ?_; rotate_left; focus (intro w' hSw; obtain ⟨s0, e2, e3⟩ := hmv.out _ hSw; go_simp; (try with_reducible rfl)))
           | refine tn hSG 3 rfl (by kernel_rfl) (fun _ _ _ h => h) (by rfl) hHeld ?_
          (try simp only [zq1, zq2, zq3, Act.put, zq4, zq5, zq6])
          first
           | (refine tk hSG 4 (v := ?_) rfl (by kernel_rfl) (fun _ _ _ h => h) (by rfl) ?_ hHeld ?_; rotate_left; focus (intro w' hSw; obtain ⟨s0, e2, e3⟩ := hmv.out _ hSw; go_simp; (try with_reducible rfl)))
           | refine tn hSG 4 rfl (by kernel_rfl) (fun _ _ _ h => h) (by rfl) hHeld ?_
          (try simp only [zq1, zq2, zq3, Act.put, zq4, zq5, zq6])
          first
           | (refine tk hSG 5 (v := ?_) rfl (by kernel_rfl) (fun _ _ _ h => h) (by rfl) ?_ hHeld ?_; rotate_left; focus (intro w' hSw; obtain ⟨s0, e2, e3⟩ := hmv.out _ hSw; go_simp; (try with_reducible rfl)))
           | refine tn hSG 5 rfl (by kernel_rfl) (fun _ _ _ h => h) (by rfl) hHeld ?_
          (try simp only [zq1, zq2, zq3, Act.put, zq4, zq5, zq6])
          first
           | (refine tk hSG 6 (v := ?_) rfl (by kernel_rfl) (fun _ _ _ h => h) (by rfl) ?_ hHeld ?_; rotate_left; focus (intro w' hSw; obtain ⟨s0, e2, e3⟩ := hmv.out _ hSw; go_simp; (try with_reducible rfl)))
           | refine tn hSG 6 rfl (by kernel_rfl) (fun _ _ _ h => h) (by rfl) hHeld ?_
          (try simp only [zq1, zq2, zq3, Act.put, zq4, zq5, zq6])
          first
           | (refine tk hSG 7 (v := ?_) rfl (by kernel_rfl) (fun _ _ _ h => h) (by rfl) ?_ hHeld ?_; rotate_left; focus (intro w' hSw; obtain ⟨s0, e2, e3⟩ := hmv.out _ hSw; go_simp; (try with_reducible rfl)))
           | refine tn hSG 7 rfl (by kernel_rfl) (fun _ _ _ h => h) (by rfl) hHeld ?_
          (try simp only [zq1, zq2, zq3, Act.put, zq4, zq5, zq6])
          first
           | (refine tk hSG 8 (v := ?_) rfl (by kernel_rfl) (fun _ _ _ h => h) (by rfl) ?_ hHeld ?_; rotate_left; focus (intro w' hSw; obtain ⟨s0, e2, e3⟩ := hmv.out _ hSw; go_simp; (try with_reducible rfl)))
           | refine tn hSG 8 rfl (by kernel_rfl) (fun _ _ _ h => h) (by rfl) hHeld ?_
          (try simp only [zq1, zq2, zq3, Act.put, zq4, zq5, zq6])
          first
           | (refine tk hSG 9 (v := ?_) rfl (by kernel_rfl) (fun _ _ _ h => h) (by rfl) ?_ hHeld ?_; rotate_left; focus (intro w' hSw; obtain ⟨s0, e2, e3⟩ := hmv.out _ hSw; go_simp; (try with_reducible rfl)))
           | refine tn hSG 9 rfl (by kernel_rfl) (fun _ _ _ h => h) (by rfl) hHeld ?_
          (try simp only [zq1, zq2, zq3, Act.put, zq4, zq5, zq6])
          first
           | (refine tk hSG 10 (v := ?_) rfl (by kernel_rfl) (fun _ _ _ h => h) (by rfl) ?_ hHeld ?_; rotate_left; focus (intro w' hSw; obtain ⟨s0, e2, e3⟩ := hmv.out _ hSw; go_simp; (try with_reducible rfl)))
           | refine tn hSG 10 rfl (by kernel_rfl) (fun _ _ _ h => h) (by rfl) hHeld ?_
          (try simp only [zq1, zq2, zq3, Act.put, zq4, zq5, zq6])
          first
           | (refine tk hSG 11 (v := ?_) rfl (by kernel_rfl) (fun _ _ _ h => h) (by rfl) ?_ hHeld ?_; rotate_left; focus (intro w' hSw; obtain ⟨s0, e2, e3⟩ := hmv.out _ hSw; go_simp; (try with_reducible rfl)))
           | refine tn hSG 11 rfl (by kernel_rfl) (fun _ _ _ h => h) (by rfl) hHeld ?_
          (try simp only [zq1, zq2, zq3, Act.put, zq4, zq5, zq6])
          first
           | (refine tk hSG 12 (v := ?_) rfl (by kernel_rfl) (fun _ _ _ h => h) (by rfl) ?_ hHeld ?_; rotate_left; focus (intro w' hSw; obtain ⟨s0, e2, e3⟩ := hmv.out _ hSw; go_simp; (try with_reducible rfl)))
           | refine tn hSG 12 rfl (by kernel_rfl) (fun _ _ _ h => h) (by rfl) hHeld ?_
          (try simp only [zq1, zq2, zq3, Act.put, zq4, zq5, zq6])
          first
           | (refine tk hSG 13 (v := ?_) rfl (by kernel_rfl) (fun _ _ _ h => h) (by rfl) ?_ hHeld ?_; rotate_left; focus (intro w' hSw; obtain ⟨s0, e2, e3⟩ := hmv.out _ hSw; go_simp; (try with_reducible rfl)))
           | refine tn hSG 13 rfl (by kernel_rfl) (fun _ _ _ h => h) (by rfl) hHeld ?_
          (try simp only [zq1, zq2, zq3, Act.put, zq4, zq5, zq6])
          first
           | (refine tk hSG 14 (v := ?_) rfl (by kernel_rfl) (fun _ _ _ h => h) (by rfl) ?_ hHeld ?_; rotate_left; focus (intro w' hSw; obtain ⟨s0, e2, e3⟩ := hmv.out _ hSw; go_simp; (try with_reducible rfl)))
           | refine tn hSG 14 rfl (by kernel_rfl) (fun _ _ _ h => h) (by rfl) hHeld ?_
          (try simp only [zq1, zq2, zq3, Act.put, zq4, zq5, zq6])
          first
           | (refine tk hSG 15 (v := ?_) rfl (by kernel_rfl) (fun _ _ _ h => h) (by rfl) ?_ hHeld ?_; rotate_left; focus (intro w' hSw; obtain ⟨s0, e2, e3⟩ := hmv.out _ hSw; go_simp; (try with_reducible rfl)))
           | refine tn hSG 15 rfl (by kernel_rfl) (fun _ _ _ h => h) (by rfl) hHeld ?_
          (try simp only [zq1, zq2, zq3, Act.put, zq4, zq5, zq6])
          first
           | (refine tk hSG 16 (v := ?_) rfl (by kernel_rfl) (fun _ _ _ h => h) (by rfl) ?_ hHeld ?_; rotate_left; focus (intro w' hSw; obtain ⟨s0, e2, e3⟩ := hmv.out _ hSw; go_simp; (try with_reducible rfl)))
           | refine tn hSG 16 rfl (by kernel_rfl) (fun _ _ _ h => h) (by rfl) hHeld ?_
          (try simp only [zq1, zq2, zq3, Act.put, zq4, zq5, zq6])
          first
           | (refine tk hSG 17 (v := ?_) rfl (by kernel_rfl) (fun _ _ _ h => h) (by rfl) ?_ hHeld ?_; rotate_left; focus (intro w' hSw; obtain ⟨s0, e2, e3⟩ := hmv.out _ hSw; go_simp; (try with_reducible rfl)))
           | refine tn hSG 17 rfl (by kernel_rfl) (fun _ _ _ h => h) (by rfl) hHeld ?_
          (try simp only [zq1, zq2, zq3, Act.put, zq4, zq5, zq6])
          refine wpAnyG_done (by kernel_rfl) (fun w5 hgD => ?_) _
          have hg5 : Gr wr w5 := (grDrew wr).tr hgD
          clear hgD hSG hHeld
          have hB6 := Lib.hid (hW.out.trans (hg5.mono hW.out.size))
          go_wp2
          go_ret
          exact ⟨rfl, hB6.out⟩
        · rcases hb : btw n lo hi with _ | _
          · rw [hv] at HVl
            rw [hb] at HBt hGd
            obtain rfl : false = r := by simpa using hGd
            clear hv hb hGd
            refine wp_region_G (S := fun wq => Gr wr wq) (by kernel_rfl) (grDrew _) (fun hHeld => ?_)
            have hSG : Hid (∀ wp wq : World, Gr wr wp → Gr wp wq → Gr wr wq) := Lib.hid (fun _ _ h k => h.tr k)
            have hmv := Lib.hid (fun (wq : World) (hq : Gr wr wq) => And.intro (grCell hq s0) (And.intro (grCell hq e2) (grCell hq e3)))
            first
             | (refine tk hSG 0 (v := ?_) rfl (by kernel_rfl) (fun _ _ _ h => h) (by rfl) ?_ hHeld ?_; rotate_left; focus (intro w' hSw; obtain ⟨s0, e2, e3⟩ := hmv.out _ hSw; go_simp; (try with_reducible rfl)))
             | refine tn hSG 0 rfl (by kernel_rfl) (fun _ _ _ h => h) (by rfl) hHeld ?_
            (try simp only [zq1, zq2, zq3, Act.put, zq4, zq5, zq6])
            refine tc hSG 1 (v := .bool true) rfl (by kernel_rfl) (fun _ _ _ h => h) (by rfl) ?_ hHeld ?_
            focus (intro wz hSw K hK; obtain ⟨s0, e2, e3⟩ := hmv.out _ hSw; go_simp; go_at_call 43; refine (HVl.out _).mono ?_; rintro e w2 ⟨rfl, hw⟩; have hb2 := belOf hw; exact hK.out _ hb2)
            (try simp only [zq1, zq2, zq3, Act.put, zq4, zq5, zq6])
            first
             | (refine tk hSG 2 (v := ?_) rfl (by kernel_rfl) (fun _ _ _ h => h) (by rfl) ?_ hHeld ?_; rotate_left; focus (intro w' hSw; obtain ⟨s0, e2, e3⟩ := hmv.out _ hSw; go_simp; (try with_reducible rfl)))
             | refine tn hSG 2 rfl (by kernel_rfl) (fun _ _ _ h => h) (by rfl) hHeld ?_
            (try simp only [zq1, zq2, zq3, Act.put, zq4, zq5, zq6])
            first
             | (refine tk hSG 3 (v := ?_) rfl (by kernel_rfl) (fun _ _ _ h => h) (by rfl) ?_ hHeld ?_; rotate_left; focus (intro w' hSw; obtain ⟨s0, e2, e3⟩ := hmv.out _ hSw; go_simp; (try with_reducible rfl)))
             | refine tn hSG 3 rfl (by kernel_rfl) (fun _ _ _ h => h) (by rfl) hHeld ?_
            (try simp only [zq1, zq2, zq3, Act.put, zq4, zq5, zq6])
            first
             | (refine tk hSG 4 (v := ?_) rfl (by kernel_rfl) (fun _ _ _ h => h) (by rfl) ?_ hHeld ?_; rotate_left; focus (intro w' hSw; obtain ⟨s0, e2, e3⟩ := hmv.out _ hSw; go_simp; (try with_reducible rfl)))
             | refine tn hSG 4 rfl (by kernel_rfl) (fun _ _ _ h => h) (by rfl) hHeld ?_
            (try simp only [zq1, zq2, zq3, Act.put, zq4, zq5, zq6])
            first
             | (refine tk hSG 5 (v := ?_) rfl (by kernel_rfl) (fun _ _ _ h => h) (by rfl) ?_ hHeld ?_; rotate_left; focus (intro w' hSw; obtain ⟨s0, e2, e3⟩ := hmv.out _ hSw; go_simp; (try with_reducible rfl)))
             | refine tn hSG 5 rfl (by kernel_rfl) (fun _ _ _ h => h) (by rfl) hHeld ?_
            (try simp only [zq1, zq2, zq3, Act.put, zq4, zq5, zq6])
            first
             | (refine tk hSG 6 (v := ?_) rfl (by kernel_rfl) (fun _ _ _ h => h) (by rfl) ?_ hHeld ?_; rotate_left; focus (intro w' hSw; obtain ⟨s0, e2, e3⟩ := hmv.out _ hSw; go_simp; (try with_reducible rfl)))
             | refine tn hSG 6 rfl (by kernel_rfl) (fun _ _ _ h => h) (by rfl) hHeld ?_
            (try simp only [zq1, zq2, zq3, Act.put, zq4, zq5, zq6])
            refine tk hSG 7 (v := .pointer (some ⟨ga, oa + k * 5, none⟩)) rfl (by kernel_rfl) (fun _ _ _ h => h) (by rfl) ?_ hHeld ?_
            focus (intro w' hSw; obtain ⟨s0, e2, e3⟩ := hmv.out _ hSw; go_simp; (try (intro hq; omega)))
            (try simp only [zq1, zq2, zq3, Act.put, zq4, zq5, zq6])
            first
             | (refine tk hSG 8 (v := ?_) rfl (by kernel_rfl) (fun _ _ _ h => h) (by rfl) ?_ hHeld ?_; rotate_left; focus (intro w' hSw; obtain ⟨s0, e2, e3⟩ := hmv.out _ hSw; go_simp; (try with_reducible rfl)))
             | refine tn hSG 8 rfl (by kernel_rfl) (fun _ _ _ h => h) (by rfl) hHeld ?_
            (try simp only [zq1, zq2, zq3, Act.put, zq4, zq5, zq6])
            first
             | (refine tk hSG 9 (v := ?_) rfl (by kernel_rfl) (fun _ _ _ h => h) (by rfl) ?_ hHeld ?_; rotate_left; focus (intro w' hSw; obtain ⟨s0, e2, e3⟩ := hmv.out _ hSw; go_simp; (try with_reducible rfl)))
             | refine tn hSG 9 rfl (by kernel_rfl) (fun _ _ _ h => h) (by rfl) hHeld ?_
            (try simp only [zq1, zq2, zq3, Act.put, zq4, zq5, zq6])
            first
             | (refine tk hSG 10 (v := ?_) rfl (by kernel_rfl) (fun _ _ _ h => h) (by rfl) ?_ hHeld ?_; rotate_left; focus (intro w' hSw; obtain ⟨s0, e2, e3⟩ := hmv.out _ hSw; go_simp; (try with_reducible rfl)))
             | refine tn hSG 10 rfl (by kernel_rfl) (fun _ _ _ h => h) (by rfl) hHeld ?_
            (try simp only [zq1, zq2, zq3, Act.put, zq4, zq5, zq6])
            first
             | (refine tk hSG 11 (v := ?_) rfl (by kernel_rfl) (fun _ _ _ h => h) (by rfl) ?_ hHeld ?_; rotate_left; focus (intro w' hSw; obtain ⟨s0, e2, e3⟩ := hmv.out _ hSw; go_simp; (try with_reducible rfl)))
             | refine tn hSG 11 rfl (by kernel_rfl) (fun _ _ _ h => h) (by rfl) hHeld ?_
            (try simp only [zq1, zq2, zq3, Act.put, zq4, zq5, zq6])
            refine tk hSG 12 (v := .pointer (some ⟨ga, oa + k * 5, none⟩)) rfl (by kernel_rfl) (fun _ _ _ h => h) (by rfl) ?_ hHeld ?_
            focus (intro w' hSw; obtain ⟨s0, e2, e3⟩ := hmv.out _ hSw; go_simp; (try (intro hq; omega)))
            (try simp only [zq1, zq2, zq3, Act.put, zq4, zq5, zq6])
            first
             | (refine tk hSG 13 (v := ?_) rfl (by kernel_rfl) (fun _ _ _ h => h) (by rfl) ?_ hHeld ?_; rotate_left; focus (intro w' hSw; obtain ⟨s0, e2, e3⟩ := hmv.out _ hSw; go_simp; (try with_reducible rfl)))
             | refine tn hSG 13 rfl (by kernel_rfl) (fun _ _ _ h => h) (by rfl) hHeld ?_
            (try simp only [zq1, zq2, zq3, Act.put, zq4, zq5, zq6])
            first
             | (refine tk hSG 14 (v := ?_) rfl (by kernel_rfl) (fun _ _ _ h => h) (by rfl) ?_ hHeld ?_; rotate_left; focus (intro w' hSw; obtain ⟨s0, e2, e3⟩ := hmv.out _ hSw; go_simp; (try with_reducible rfl)))
             | refine tn hSG 14 rfl (by kernel_rfl) (fun _ _ _ h => h) (by rfl) hHeld ?_
            (try simp only [zq1, zq2, zq3, Act.put, zq4, zq5, zq6])
            refine tc hSG 15 (v := .bool false) rfl (by kernel_rfl) (fun _ _ _ h => h) (by rfl) ?_ hHeld ?_
            focus (intro wz hSw K hK; obtain ⟨s0, e2, e3⟩ := hmv.out _ hSw; go_simp; go_at_call 44; refine (HBt.out _).mono ?_; rintro e w2 ⟨rfl, hw⟩; have hb2 := belOf hw; exact hK.out _ hb2)
            (try simp only [zq1, zq2, zq3, Act.put, zq4, zq5, zq6])
            first
             | (refine tk hSG 16 (v := ?_) rfl (by kernel_rfl) (fun _ _ _ h => h) (by rfl) ?_ hHeld ?_; rotate_left; focus (intro w' hSw; obtain ⟨s0, e2, e3⟩ := hmv.out _ hSw; go_simp; (try with_reducible rfl)))
             | refine tn hSG 16 rfl (by kernel_rfl) (fun _ _ _ h => h) (by rfl) hHeld ?_
            (try simp only [zq1, zq2, zq3, Act.put, zq4, zq5, zq6])
            first
             | (refine tk hSG 17 (v := ?_) rfl (by kernel_rfl) (fun _ _ _ h => h) (by rfl) ?_ hHeld ?_; rotate_left; focus (intro w' hSw; obtain ⟨s0, e2, e3⟩ := hmv.out _ hSw; go_simp; (try with_reducible rfl)))
             | refine tn hSG 17 rfl (by kernel_rfl) (fun _ _ _ h => h) (by rfl) hHeld ?_
            (try simp only [zq1, zq2, zq3, Act.put, zq4, zq5, zq6])
            refine wpAnyG_done (by kernel_rfl) (fun w5 hgD => ?_) _
            have hg5 : Gr wr w5 := (grDrew wr).tr hgD
            clear hgD hSG hHeld
            have hB6 := Lib.hid (hW.out.trans (hg5.mono hW.out.size))
            go_wp2
            go_ret
            exact ⟨rfl, hB6.out⟩
          · rw [hv] at HVl
            rw [hv, hb] at hGd
            rw [hb] at HBt
            have hGd := Lib.hid (show inLB (vs.drop (k + 1)) (st.drop (k + 1)) = r by simpa using hGd)
            clear hv hb
            refine wp_region_G (S := fun wq => Gr wr wq) (by kernel_rfl) (grDrew _) (fun hHeld => ?_)
            have hSG : Hid (∀ wp wq : World, Gr wr wp → Gr wp wq → Gr wr wq) := Lib.hid (fun _ _ h k => h.tr k)
            have hmv := Lib.hid (fun (wq : World) (hq : Gr wr wq) => And.intro (grCell hq s0) (And.intro (grCell hq e2) (grCell hq e3)))
            first
             | (refine tk hSG 0 (v := ?_) rfl (by kernel_rfl) (fun _ _ _ h => h) (by rfl) ?_ hHeld ?_; rotate_left; focus (intro w' hSw; obtain ⟨s0, e2, e3⟩ := hmv.out _ hSw; go_simp; (try with_reducible rfl)))
             | refine tn hSG 0 rfl (by kernel_rfl) (fun _ _ _ h => h) (by rfl) hHeld ?_
            (try simp only [zq1, zq2, zq3, Act.put, zq4, zq5, zq6])
            refine tc hSG 1 (v := .bool true) rfl (by kernel_rfl) (fun _ _ _ h => h) (by rfl) ?_ hHeld ?_
            focus (intro wz hSw K hK; obtain ⟨s0, e2, e3⟩ := hmv.out _ hSw; go_simp; go_at_call 43; refine (HVl.out _).mono ?_; rintro e w2 ⟨rfl, hw⟩; have hb2 := belOf hw; exact hK.out _ hb2)
            (try simp only [zq1, zq2, zq3, Act.put, zq4, zq5, zq6])
            first
             | (refine tk hSG 2 (v := ?_) rfl (by kernel_rfl) (fun _ _ _ h => h) (by rfl) ?_ hHeld ?_; rotate_left; focus (intro w' hSw; obtain ⟨s0, e2, e3⟩ := hmv.out _ hSw; go_simp; (try with_reducible rfl)))
             | refine tn hSG 2 rfl (by kernel_rfl) (fun _ _ _ h => h) (by rfl) hHeld ?_
            (try simp only [zq1, zq2, zq3, Act.put, zq4, zq5, zq6])
            first
             | (refine tk hSG 3 (v := ?_) rfl (by kernel_rfl) (fun _ _ _ h => h) (by rfl) ?_ hHeld ?_; rotate_left; focus (intro w' hSw; obtain ⟨s0, e2, e3⟩ := hmv.out _ hSw; go_simp; (try with_reducible rfl)))
             | refine tn hSG 3 rfl (by kernel_rfl) (fun _ _ _ h => h) (by rfl) hHeld ?_
            (try simp only [zq1, zq2, zq3, Act.put, zq4, zq5, zq6])
            first
             | (refine tk hSG 4 (v := ?_) rfl (by kernel_rfl) (fun _ _ _ h => h) (by rfl) ?_ hHeld ?_; rotate_left; focus (intro w' hSw; obtain ⟨s0, e2, e3⟩ := hmv.out _ hSw; go_simp; (try with_reducible rfl)))
             | refine tn hSG 4 rfl (by kernel_rfl) (fun _ _ _ h => h) (by rfl) hHeld ?_
            (try simp only [zq1, zq2, zq3, Act.put, zq4, zq5, zq6])
            first
             | (refine tk hSG 5 (v := ?_) rfl (by kernel_rfl) (fun _ _ _ h => h) (by rfl) ?_ hHeld ?_; rotate_left; focus (intro w' hSw; obtain ⟨s0, e2, e3⟩ := hmv.out _ hSw; go_simp; (try with_reducible rfl)))
             | refine tn hSG 5 rfl (by kernel_rfl) (fun _ _ _ h => h) (by rfl) hHeld ?_
            (try simp only [zq1, zq2, zq3, Act.put, zq4, zq5, zq6])
            first
             | (refine tk hSG 6 (v := ?_) rfl (by kernel_rfl) (fun _ _ _ h => h) (by rfl) ?_ hHeld ?_; rotate_left; focus (intro w' hSw; obtain ⟨s0, e2, e3⟩ := hmv.out _ hSw; go_simp; (try with_reducible rfl)))
             | refine tn hSG 6 rfl (by kernel_rfl) (fun _ _ _ h => h) (by rfl) hHeld ?_
            (try simp only [zq1, zq2, zq3, Act.put, zq4, zq5, zq6])
            refine tk hSG 7 (v := .pointer (some ⟨ga, oa + k * 5, none⟩)) rfl (by kernel_rfl) (fun _ _ _ h => h) (by rfl) ?_ hHeld ?_
            focus (intro w' hSw; obtain ⟨s0, e2, e3⟩ := hmv.out _ hSw; go_simp; (try (intro hq; omega)))
            (try simp only [zq1, zq2, zq3, Act.put, zq4, zq5, zq6])
            first
             | (refine tk hSG 8 (v := ?_) rfl (by kernel_rfl) (fun _ _ _ h => h) (by rfl) ?_ hHeld ?_; rotate_left; focus (intro w' hSw; obtain ⟨s0, e2, e3⟩ := hmv.out _ hSw; go_simp; (try with_reducible rfl)))
             | refine tn hSG 8 rfl (by kernel_rfl) (fun _ _ _ h => h) (by rfl) hHeld ?_
            (try simp only [zq1, zq2, zq3, Act.put, zq4, zq5, zq6])
            first
             | (refine tk hSG 9 (v := ?_) rfl (by kernel_rfl) (fun _ _ _ h => h) (by rfl) ?_ hHeld ?_; rotate_left; focus (intro w' hSw; obtain ⟨s0, e2, e3⟩ := hmv.out _ hSw; go_simp; (try with_reducible rfl)))
             | refine tn hSG 9 rfl (by kernel_rfl) (fun _ _ _ h => h) (by rfl) hHeld ?_
            (try simp only [zq1, zq2, zq3, Act.put, zq4, zq5, zq6])
            first
             | (refine tk hSG 10 (v := ?_) rfl (by kernel_rfl) (fun _ _ _ h => h) (by rfl) ?_ hHeld ?_; rotate_left; focus (intro w' hSw; obtain ⟨s0, e2, e3⟩ := hmv.out _ hSw; go_simp; (try with_reducible rfl)))
             | refine tn hSG 10 rfl (by kernel_rfl) (fun _ _ _ h => h) (by rfl) hHeld ?_
            (try simp only [zq1, zq2, zq3, Act.put, zq4, zq5, zq6])
            first
             | (refine tk hSG 11 (v := ?_) rfl (by kernel_rfl) (fun _ _ _ h => h) (by rfl) ?_ hHeld ?_; rotate_left; focus (intro w' hSw; obtain ⟨s0, e2, e3⟩ := hmv.out _ hSw; go_simp; (try with_reducible rfl)))
             | refine tn hSG 11 rfl (by kernel_rfl) (fun _ _ _ h => h) (by rfl) hHeld ?_
            (try simp only [zq1, zq2, zq3, Act.put, zq4, zq5, zq6])
            refine tk hSG 12 (v := .pointer (some ⟨ga, oa + k * 5, none⟩)) rfl (by kernel_rfl) (fun _ _ _ h => h) (by rfl) ?_ hHeld ?_
            focus (intro w' hSw; obtain ⟨s0, e2, e3⟩ := hmv.out _ hSw; go_simp; (try (intro hq; omega)))
            (try simp only [zq1, zq2, zq3, Act.put, zq4, zq5, zq6])
            first
             | (refine tk hSG 13 (v := ?_) rfl (by kernel_rfl) (fun _ _ _ h => h) (by rfl) ?_ hHeld ?_; rotate_left; focus (intro w' hSw; obtain ⟨s0, e2, e3⟩ := hmv.out _ hSw; go_simp; (try with_reducible rfl)))
             | refine tn hSG 13 rfl (by kernel_rfl) (fun _ _ _ h => h) (by rfl) hHeld ?_
            (try simp only [zq1, zq2, zq3, Act.put, zq4, zq5, zq6])
            first
             | (refine tk hSG 14 (v := ?_) rfl (by kernel_rfl) (fun _ _ _ h => h) (by rfl) ?_ hHeld ?_; rotate_left; focus (intro w' hSw; obtain ⟨s0, e2, e3⟩ := hmv.out _ hSw; go_simp; (try with_reducible rfl)))
             | refine tn hSG 14 rfl (by kernel_rfl) (fun _ _ _ h => h) (by rfl) hHeld ?_
            (try simp only [zq1, zq2, zq3, Act.put, zq4, zq5, zq6])
            refine tc hSG 15 (v := .bool true) rfl (by kernel_rfl) (fun _ _ _ h => h) (by rfl) ?_ hHeld ?_
            focus (intro wz hSw K hK; obtain ⟨s0, e2, e3⟩ := hmv.out _ hSw; go_simp; go_at_call 44; refine (HBt.out _).mono ?_; rintro e w2 ⟨rfl, hw⟩; have hb2 := belOf hw; exact hK.out _ hb2)
            (try simp only [zq1, zq2, zq3, Act.put, zq4, zq5, zq6])
            first
             | (refine tk hSG 16 (v := ?_) rfl (by kernel_rfl) (fun _ _ _ h => h) (by rfl) ?_ hHeld ?_; rotate_left; focus (intro w' hSw; obtain ⟨s0, e2, e3⟩ := hmv.out _ hSw; go_simp; (try with_reducible rfl)))
             | refine tn hSG 16 rfl (by kernel_rfl) (fun _ _ _ h => h) (by rfl) hHeld ?_
            (try simp only [zq1, zq2, zq3, Act.put, zq4, zq5, zq6])
            first
             | (refine tk hSG 17 (v := ?_) rfl (by kernel_rfl) (fun _ _ _ h => h) (by rfl) ?_ hHeld ?_; rotate_left; focus (intro w' hSw; obtain ⟨s0, e2, e3⟩ := hmv.out _ hSw; go_simp; (try with_reducible rfl)))
             | refine tn hSG 17 rfl (by kernel_rfl) (fun _ _ _ h => h) (by rfl) hHeld ?_
            (try simp only [zq1, zq2, zq3, Act.put, zq4, zq5, zq6])
            refine wpAnyG_done (by kernel_rfl) (fun w5 hgD => ?_) _
            have hg5 : Gr wr w5 := (grDrew wr).tr hgD
            clear hgD hSG hHeld
            have hB6 := Lib.hid (hW.out.trans (hg5.mono hW.out.size))
            have qi : IntKind.i64.wrap ((k : Int) + 1) = (k : Int) + 1 := IntWalk.i64_in _ (by omega)
            go_wp2
            go_roundg gq
            case measure => omega
            case rel => exact ⟨k + 1, by omega, by go_num, hGd, hB6⟩
      · obtain rfl : gk = 0 := by omega
        have hkl : decide ((k : Int) < (st.length : Int)) = false := by simp; omega
        obtain rfl : true = r := by have := hG.out; rw [inLB_end (by have := hlH.out; omega)] at this; exact this
        clear hG
        go_wp2
        go_ret
        exact ⟨rfl, hW.out⟩
  · have hm : stB vs st = false := by unfold stB; simp [hl]
    rw [hm]
    have hlb : (((st.length : Nat) : Int) != ((vs.length : Nat) : Int)) = true := by simp; omega
    clear hm hV hS hl
    go_enter Tryd.func30, Tryd.ntmps30
    go_wp2_with fail
    go_ret
    exact ⟨rfl, Below.refl _ _⟩
end N
end Go.Proofs.YthgngkajdiclcaaDoor
