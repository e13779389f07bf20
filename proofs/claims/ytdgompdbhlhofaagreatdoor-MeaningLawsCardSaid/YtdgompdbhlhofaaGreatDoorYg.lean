/- Texts of one proof: MxK. -/
import Derived.Test.YtdgompdbhlhofaaGreatDoorYe
namespace Go.Proofs.YtdgompdbhlhofaaGreatDoor
open Go.RowKit
set_option linter.unusedVariables false
set_option linter.unusedSimpArgs false
namespace M
open I
open U (Ex St btw btw_iff ev eArr KidsE newBlk blkLt Vr VarsR VrAt gbBelow)
open R (epanic bAllocX insR addN)
theorem belOf {w w2 : World} (h : w2 = w) : Below w.heap.size w w2 := by subst h; exact Below.refl _ _
set_option maxHeartbeats 1000000 in
set_option maxRecDepth 100000 in
theorem CloneI_any (st : List Int) (SA : Option Addr) (sc : Nat) (w : World) (hS : IntsR w st SA) (h0 : 0 < st.length) (h1 : st.length ≤ 1000) :
    Calls Tryz.prog 27 #[.slice SA st.length sc] w (fun e w' => (∃ g cap, e = .returned (.slice (some ⟨g, 0, none⟩) st.length cap) ∧ IntsO w.heap.size w' st g cap) ∧ Below w.heap.size w w') := by
  obtain ⟨g, o, rfl, hat⟩ := hS.addr (by intro e; rw [e] at h0; simp at h0)
  have hc : ∀ (j : Nat) (u : Value), (iCells st)[j]? = some u → w.cell? ⟨g, o + j, none⟩ = some u := by
    intro j u hu
    simp only [iCells, List.getElem?_map, Option.map_eq_some_iff] at hu
    obtain ⟨n, hn, rfl⟩ := hu
    exact hat j n hn
  have hc := Lib.hid hc
  have h1' : Hid (∀ u ∈ iCells st, u.oneCell' = true) := Lib.hid (by intro u hu; obtain ⟨n, -, rfl⟩ := List.mem_map.1 hu; rfl)
  have hln : (iCells st).length = st.length := by simp [iCells]
  have hnil : ∀ wx, (binOp .eql 27 (.slice (some ⟨g, o, none⟩) st.length sc) (.slice none 0 0)).run Tryz.prog wx = .ok (.bool false) wx := fun wx => Lib.run_eql_slice_nil wx _ 3 _ _ _ _ _ Tryz.underlying27
  obtain ⟨ix, hi, hz0, hz1, hz2⟩ := info_parts intInfo
  have hO : Hid ((w.alloc (.cells #[] 3)).ownsRow w.heap.size 3 1 (.slice (some ⟨w.heap.size, 0, none⟩) 0 0) 0 []) := Lib.hid (World.ownsRow_made w #[] 0 (Nat.le_refl _) (Nat.zero_le _) rfl)
  have hgr := Lib.hid (grAlloc w (.cells #[] 3))
  clear hat hS
  go_enter Tryz.func27, Tryz.ntmps27
  go_wp2_with (at_builtin; refine wpList_append_lies _ rfl _ _ 27 rfl w.heap.size 3 ix (.int .i64 0) 1 8 Tryz.underlying27 hi hz0 hz1 hz2 rfl (by decide) _ 0 [] rfl hO.out ⟨g, o, none⟩ st.length sc (iCells st) rfl ?c0 ?c1 h1'.out h0 ?c3 ?c4 ?c5 (w.heap.size + 1) ?c6 ?_)
  case c0 => omega
  case c1 => intro j x hj; rw [addN]; exact grCell hgr.out (hc.out j x hj)
  case c3 => unfold maxLen; omega
  case c4 => omega
  case c5 => simp
  case c6 => simp
  intro gb cap w3 hown3 hgrow hat hlt3
  have hO3 : Hid (IntsO w.heap.size w3 st gb cap) := Lib.hid (by unfold IntsO; simpa using hown3)
  have hB3 := Lib.hid (Below.trans hgr.out (gbBelow (B := w.heap.size) hgrow (by simp) (fun k e => by simp [Value.ownBlock] at e; omega)))
  clear hown3 hgrow hat
  go_wp2
  exact bodyPost_ret (v := .slice (some ⟨gb, 0, none⟩) st.length cap) (by simp [results, Tryz.results27, go_sem]) rfl ⟨⟨gb, cap, rfl, hO3.out⟩, hB3.out⟩
def inLB : List Vr → List Int → Bool
  | v :: vs, n :: ns => btw n v.lo v.hi && inLB vs ns
  | _, _ => true
def stB (vs : List Vr) (st : List Int) : Bool := decide (st.length = vs.length) && inLB vs st
theorem inLB_drop {vs : List Vr} {st : List Int} {k : Nat} (h1 : k < vs.length) (h2 : k < st.length) : inLB (vs.drop k) (st.drop k) = (btw st[k] vs[k].lo vs[k].hi && inLB (vs.drop (k + 1)) (st.drop (k + 1))) := by
  rw [List.drop_eq_getElem_cons h1, List.drop_eq_getElem_cons h2, inLB]
theorem inLB_end {vs : List Vr} {st : List Int} {k : Nat} (h1 : vs.length ≤ k) : inLB (vs.drop k) (st.drop k) = true := by
  rw [List.drop_eq_nil_of_le h1]; rfl
set_option maxHeartbeats 4000000 in
set_option maxRecDepth 100000 in
theorem isState_any (vs : List Vr) (VA : Option Addr) (vm : Nat) (st : List Int) (SA : Option Addr) (sc : Nat) (w : World) (hV : VarsR w vs VA) (hS : IntsR w st SA) (hvl : vs.length ≤ 1000000) :
    Calls Tryz.prog 25 #[.slice VA vs.length vm, .slice SA st.length sc] w (BB (stB vs st) w) := by
  by_cases hl : st.length = vs.length
  · have hm : stB vs st = inLB vs st := by unfold stB; simp [hl]
    rw [hm]
    obtain ⟨r, hr⟩ : ∃ r, inLB vs st = r := ⟨_, rfl⟩
    rw [hr]
    have hrH : Hid (inLB (vs.drop 0) (st.drop 0) = r) := Lib.hid hr
    have HV := Lib.hid hV
    have HS := Lib.hid hS
    have hlb : (((st.length : Nat) : Int) != ((vs.length : Nat) : Int)) = false := by simp [hl]
    have hlH := Lib.hid hl
    clear hm hr hV hS hl
    go_enter Tryz.func25, Tryz.ntmps25
    go_wp2_with fail
    go_loopg [14] (vs.length) (fun gk i wr => ∃ k : Nat, k + gk = vs.length ∧ i = .int .i64 k ∧ Hid (inLB (vs.drop k) (st.drop k) = r) ∧ Hid (Below w.heap.size w wr))
    case atStart => exact ⟨0, by omega, rfl, hrH, Lib.hid (Below.refl _ _)⟩
    case round =>
      obtain ⟨k, hk, rfl, hG, hW⟩ := hrel
      by_cases hlt : k < vs.length
      · obtain ⟨gq, rfl⟩ : ∃ g, gk = g + 1 := ⟨gk - 1, by omega⟩
        have hls : k < st.length := by have := hlH.out; omega
        obtain ⟨ga, oa, rfl, hat⟩ := HV.out.addr (by omega)
        obtain ⟨gs, os, rfl, has⟩ := HS.out.addr (by intro e; rw [e] at hls; simp at hls)
        obtain ⟨e0, e1, e2, e3, e4⟩ := hat k _ (List.getElem?_eq_getElem hlt)
        have s0 := has k _ (List.getElem?_eq_getElem hls)
        have e0 := grCell hW.out e0
        have e1 := grCell hW.out e1
        have e2 := grCell hW.out e2
        have e3 := grCell hW.out e3
        have e4 := grCell hW.out e4
        have s0 := grCell hW.out s0
        have hGd := hG.out
        rw [inLB_drop hlt hls] at hGd
        generalize vs[k] = u at *
        generalize st[k] = n at *
        obtain ⟨W5, hW5⟩ : ∃ W5, W5 = wr.alloc (.cells (vrC u) 47) := ⟨_, rfl⟩
        have hG5 : Gr wr W5 := by rw [hW5]; exact grAlloc _ _
        have hQ5 : W5.heap[wr.heap.size]? = some (.cells (vrC u) 47 (0, 0)) := by rw [hW5]; exact newBlk _ _ _ rfl
        have s0 := grCell hG5 s0
        have hB5 := Lib.hid (hW.out.trans (hG5.mono hW.out.size))
        clear hat has hG
        go_upto_region 6 with fail
        rw [← hW5]
        clear hW5 hG5 e0 e1 e2 e3 e4
        obtain ⟨⟨q0, q1, q2, q3, q4⟩, -⟩ := C.cells5C hQ5
        have HBt := Lib.hid (fun wx => between_any n u.lo u.hi wx)
        rcases hb : btw n u.lo u.hi with _ | _
        · rw [hb] at HBt hGd
          obtain rfl : false = r := by simpa using hGd
          clear hb hGd
          refine wp_region_G (S := fun wq => Gr W5 wq) (by kernel_rfl) (grDrew _) (fun hHeld => ?_)
          have hSG : Hid (∀ wp wq : World, Gr W5 wp → Gr wp wq → Gr W5 wq) := Lib.hid (fun _ _ h k => h.tr k)
          first
            | (refine wpAnyG_take hSG (i := 0)  (v := ?_) rfl (by kernel_rfl) (by kernel_rfl) (by kernel_rfl) (fun _ _ _ h => h) (YieldsIf.gives (Or.inl ⟨by rfl, ?_⟩)) hHeld ?_; rotate_left; focus (intro w' hSw; have s0 := grCell hSw s0; have q0 := grCell hSw q0; have q1 := grCell hSw q1; have q2 := grCell hSw q2; have q3 := grCell hSw q3; have q4 := grCell hSw q4; go_simp; (try with_reducible rfl)))
            | (refine wpAnyG_take hSG (i := 0)  (v := undef) rfl (by kernel_rfl) (by kernel_rfl) (by kernel_rfl) (fun _ _ _ h => h) (Or.inr ⟨by rfl, rfl⟩) hHeld ?_)
          (try simp only [List.getElem_toArray, List.getElem_cons_succ, List.getElem_cons_zero, Act.put, List.setIfInBounds_toArray, List.set_cons_zero, List.set_cons_succ])
          first
            | (refine wpAnyG_take hSG (i := 1)  (v := ?_) rfl (by kernel_rfl) (by kernel_rfl) (by kernel_rfl) (fun _ _ _ h => h) (YieldsIf.gives (Or.inl ⟨by rfl, ?_⟩)) hHeld ?_; rotate_left; focus (intro w' hSw; have s0 := grCell hSw s0; have q0 := grCell hSw q0; have q1 := grCell hSw q1; have q2 := grCell hSw q2; have q3 := grCell hSw q3; have q4 := grCell hSw q4; go_simp; (try with_reducible rfl)))
            | (refine wpAnyG_take hSG (i := 1)  (v := undef) rfl (by kernel_rfl) (by kernel_rfl) (by kernel_rfl) (fun _ _ _ h => h) (Or.inr ⟨by rfl, rfl⟩) hHeld ?_)
          (try simp only [List.getElem_toArray, List.getElem_cons_succ, List.getElem_cons_zero, Act.put, List.setIfInBounds_toArray, List.set_cons_zero, List.set_cons_succ])
          refine wpAnyG_take hSG (i := 2)  (v := .pointer (some ⟨gs, os + k, none⟩)) rfl (by kernel_rfl) (by kernel_rfl) (by kernel_rfl) (fun _ _ _ h => h) (YieldsIf.gives (Or.inl ⟨by rfl, ?_⟩)) hHeld ?_
          focus (intro w' hSw; have s0 := grCell hSw s0; have q0 := grCell hSw q0; have q1 := grCell hSw q1; have q2 := grCell hSw q2; have q3 := grCell hSw q3; have q4 := grCell hSw q4; go_simp; (try (intro hq; omega)))
          (try simp only [List.getElem_toArray, List.getElem_cons_succ, List.getElem_cons_zero, Act.put, List.setIfInBounds_toArray, List.set_cons_zero, List.set_cons_succ])
          first
            | (refine wpAnyG_take hSG (i := 3)  (v := ?_) rfl (by kernel_rfl) (by kernel_rfl) (by kernel_rfl) (fun _ _ _ h => h) (YieldsIf.gives (Or.inl ⟨by rfl, ?_⟩)) hHeld ?_; rotate_left; focus (intro w' hSw; have s0 := grCell hSw s0; have q0 := grCell hSw q0; have q1 := grCell hSw q1; have q2 := grCell hSw q2; have q3 := grCell hSw q3; have q4 := grCell hSw q4; go_simp; (try with_reducible rfl)))
            | (refine wpAnyG_take hSG (i := 3)  (v := undef) rfl (by kernel_rfl) (by kernel_rfl) (by kernel_rfl) (fun _ _ _ h => h) (Or.inr ⟨by rfl, rfl⟩) hHeld ?_)
          (try simp only [List.getElem_toArray, List.getElem_cons_succ, List.getElem_cons_zero, Act.put, List.setIfInBounds_toArray, List.set_cons_zero, List.set_cons_succ])
          first
            | (refine wpAnyG_take hSG (i := 4)  (v := ?_) rfl (by kernel_rfl) (by kernel_rfl) (by kernel_rfl) (fun _ _ _ h => h) (YieldsIf.gives (Or.inl ⟨by rfl, ?_⟩)) hHeld ?_; rotate_left; focus (intro w' hSw; have s0 := grCell hSw s0; have q0 := grCell hSw q0; have q1 := grCell hSw q1; have q2 := grCell hSw q2; have q3 := grCell hSw q3; have q4 := grCell hSw q4; go_simp; (try with_reducible rfl)))
            | (refine wpAnyG_take hSG (i := 4)  (v := undef) rfl (by kernel_rfl) (by kernel_rfl) (by kernel_rfl) (fun _ _ _ h => h) (Or.inr ⟨by rfl, rfl⟩) hHeld ?_)
          (try simp only [List.getElem_toArray, List.getElem_cons_succ, List.getElem_cons_zero, Act.put, List.setIfInBounds_toArray, List.set_cons_zero, List.set_cons_succ])
          first
            | (refine wpAnyG_take hSG (i := 5)  (v := ?_) rfl (by kernel_rfl) (by kernel_rfl) (by kernel_rfl) (fun _ _ _ h => h) (YieldsIf.gives (Or.inl ⟨by rfl, ?_⟩)) hHeld ?_; rotate_left; focus (intro w' hSw; have s0 := grCell hSw s0; have q0 := grCell hSw q0; have q1 := grCell hSw q1; have q2 := grCell hSw q2; have q3 := grCell hSw q3; have q4 := grCell hSw q4; go_simp; (try with_reducible rfl)))
            | (refine wpAnyG_take hSG (i := 5)  (v := undef) rfl (by kernel_rfl) (by kernel_rfl) (by kernel_rfl) (fun _ _ _ h => h) (Or.inr ⟨by rfl, rfl⟩) hHeld ?_)
          (try simp only [List.getElem_toArray, List.getElem_cons_succ, List.getElem_cons_zero, Act.put, List.setIfInBounds_toArray, List.set_cons_zero, List.set_cons_succ])
          first
            | (refine wpAnyG_take hSG (i := 6)  (v := ?_) rfl (by kernel_rfl) (by kernel_rfl) (by kernel_rfl) (fun _ _ _ h => h) (YieldsIf.gives (Or.inl ⟨by rfl, ?_⟩)) hHeld ?_; rotate_left; focus (intro w' hSw; have s0 := grCell hSw s0; have q0 := grCell hSw q0; have q1 := grCell hSw q1; have q2 := grCell hSw q2; have q3 := grCell hSw q3; have q4 := grCell hSw q4; go_simp; (try with_reducible rfl)))
            | (refine wpAnyG_take hSG (i := 6)  (v := undef) rfl (by kernel_rfl) (by kernel_rfl) (by kernel_rfl) (fun _ _ _ h => h) (Or.inr ⟨by rfl, rfl⟩) hHeld ?_)
          (try simp only [List.getElem_toArray, List.getElem_cons_succ, List.getElem_cons_zero, Act.put, List.setIfInBounds_toArray, List.set_cons_zero, List.set_cons_succ])
          first
            | (refine wpAnyG_take hSG (i := 7)  (v := ?_) rfl (by kernel_rfl) (by kernel_rfl) (by kernel_rfl) (fun _ _ _ h => h) (YieldsIf.gives (Or.inl ⟨by rfl, ?_⟩)) hHeld ?_; rotate_left; focus (intro w' hSw; have s0 := grCell hSw s0; have q0 := grCell hSw q0; have q1 := grCell hSw q1; have q2 := grCell hSw q2; have q3 := grCell hSw q3; have q4 := grCell hSw q4; go_simp; (try with_reducible rfl)))
            | (refine wpAnyG_take hSG (i := 7)  (v := undef) rfl (by kernel_rfl) (by kernel_rfl) (by kernel_rfl) (fun _ _ _ h => h) (Or.inr ⟨by rfl, rfl⟩) hHeld ?_)
          (try simp only [List.getElem_toArray, List.getElem_cons_succ, List.getElem_cons_zero, Act.put, List.setIfInBounds_toArray, List.set_cons_zero, List.set_cons_succ])
          refine wpAnyG_take hSG (i := 8)  (v := .bool false) rfl (by kernel_rfl) (by kernel_rfl) (by kernel_rfl) (fun _ _ _ h => h) (Or.inl ⟨by rfl, ?_⟩) hHeld ?_
          focus (intro wz hSw K hK; have s0 := grCell hSw s0; have q0 := grCell hSw q0; have q1 := grCell hSw q1; have q2 := grCell hSw q2; have q3 := grCell hSw q3; have q4 := grCell hSw q4; go_simp; go_at_call 40; refine (HBt.out _).mono ?_; rintro e w2 ⟨rfl, hw⟩; have hb2 := belOf hw; exact hK.out _ hb2)
          (try simp only [List.getElem_toArray, List.getElem_cons_succ, List.getElem_cons_zero, Act.put, List.setIfInBounds_toArray, List.set_cons_zero, List.set_cons_succ])
          first
            | (refine wpAnyG_take hSG (i := 9)  (v := ?_) rfl (by kernel_rfl) (by kernel_rfl) (by kernel_rfl) (fun _ _ _ h => h) (YieldsIf.gives (Or.inl ⟨by rfl, ?_⟩)) hHeld ?_; rotate_left; focus (intro w' hSw; have s0 := grCell hSw s0; have q0 := grCell hSw q0; have q1 := grCell hSw q1; have q2 := grCell hSw q2; have q3 := grCell hSw q3; have q4 := grCell hSw q4; go_simp; (try with_reducible rfl)))
            | (refine wpAnyG_take hSG (i := 9)  (v := undef) rfl (by kernel_rfl) (by kernel_rfl) (by kernel_rfl) (fun _ _ _ h => h) (Or.inr ⟨by rfl, rfl⟩) hHeld ?_)
          (try simp only [List.getElem_toArray, List.getElem_cons_succ, List.getElem_cons_zero, Act.put, List.setIfInBounds_toArray, List.set_cons_zero, List.set_cons_succ])
          refine wpAnyG_done (by kernel_rfl) (fun w5 hgD => ?_) _
          have hg5 : Gr W5 w5 := (grDrew W5).tr hgD
          clear hgD hSG hHeld
          have hB6 := Lib.hid (hB5.out.trans (hg5.mono hB5.out.size))
          clear q0 q1 q2 q3 q4 s0
          go_wp2
          go_ret
          exact ⟨rfl, hB6.out⟩
        · rw [hb] at HBt hGd
          have hGd := Lib.hid (show inLB (vs.drop (k + 1)) (st.drop (k + 1)) = r by simpa using hGd)
          clear hb
          refine wp_region_G (S := fun wq => Gr W5 wq) (by kernel_rfl) (grDrew _) (fun hHeld => ?_)
          have hSG : Hid (∀ wp wq : World, Gr W5 wp → Gr wp wq → Gr W5 wq) := Lib.hid (fun _ _ h k => h.tr k)
          first
            | (refine wpAnyG_take hSG (i := 0)  (v := ?_) rfl (by kernel_rfl) (by kernel_rfl) (by kernel_rfl) (fun _ _ _ h => h) (YieldsIf.gives (Or.inl ⟨by rfl, ?_⟩)) hHeld ?_; rotate_left; focus (intro w' hSw; have s0 := grCell hSw s0; have q0 := grCell hSw q0; have q1 := grCell hSw q1; have q2 := grCell hSw q2; have q3 := grCell hSw q3; have q4 := grCell hSw q4; go_simp; (try with_reducible rfl)))
            | (refine wpAnyG_take hSG (i := 0)  (v := undef) rfl (by kernel_rfl) (by kernel_rfl) (by kernel_rfl) (fun _ _ _ h => h) (Or.inr ⟨by rfl, rfl⟩) hHeld ?_)
          (try simp only [List.getElem_toArray, List.getElem_cons_succ, List.getElem_cons_zero, Act.put, List.setIfInBounds_toArray, List.set_cons_zero, List.set_cons_succ])
          first
            | (refine wpAnyG_take hSG (i := 1)  (v := ?_) rfl (by kernel_rfl) (by kernel_rfl) (by kernel_rfl) (fun _ _ _ h => h) (YieldsIf.gives (Or.inl ⟨by rfl, ?_⟩)) hHeld ?_; rotate_left; focus (intro w' hSw; have s0 := grCell hSw s0; have q0 := grCell hSw q0; have q1 := grCell hSw q1; have q2 := grCell hSw q2; have q3 := grCell hSw q3; have q4 := grCell hSw q4; go_simp; (try with_reducible rfl)))
            | (refine wpAnyG_take hSG (i := 1)  (v := undef) rfl (by kernel_rfl) (by kernel_rfl) (by kernel_rfl) (fun _ _ _ h => h) (Or.inr ⟨by rfl, rfl⟩) hHeld ?_)
          (try simp only [List.getElem_toArray, List.getElem_cons_succ, List.getElem_cons_zero, Act.put, List.setIfInBounds_toArray, List.set_cons_zero, List.set_cons_succ])
          refine wpAnyG_take hSG (i := 2)  (v := .pointer (some ⟨gs, os + k, none⟩)) rfl (by kernel_rfl) (by kernel_rfl) (by kernel_rfl) (fun _ _ _ h => h) (YieldsIf.gives (Or.inl ⟨by rfl, ?_⟩)) hHeld ?_
          focus (intro w' hSw; have s0 := grCell hSw s0; have q0 := grCell hSw q0; have q1 := grCell hSw q1; have q2 := grCell hSw q2; have q3 := grCell hSw q3; have q4 := grCell hSw q4; go_simp; (try (intro hq; omega)))
          (try simp only [List.getElem_toArray, List.getElem_cons_succ, List.getElem_cons_zero, Act.put, List.setIfInBounds_toArray, List.set_cons_zero, List.set_cons_succ])
          first
            | (refine wpAnyG_take hSG (i := 3)  (v := ?_) rfl (by kernel_rfl) (by kernel_rfl) (by kernel_rfl) (fun _ _ _ h => h) (YieldsIf.gives (Or.inl ⟨by rfl, ?_⟩)) hHeld ?_; rotate_left; focus (intro w' hSw; have s0 := grCell hSw s0; have q0 := grCell hSw q0; have q1 := grCell hSw q1; have q2 := grCell hSw q2; have q3 := grCell hSw q3; have q4 := grCell hSw q4; go_simp; (try with_reducible rfl)))
            | (refine wpAnyG_take hSG (i := 3)  (v := undef) rfl (by kernel_rfl) (by kernel_rfl) (by kernel_rfl) (fun _ _ _ h => h) (Or.inr ⟨by rfl, rfl⟩) hHeld ?_)
          (try simp only [List.getElem_toArray, List.getElem_cons_succ, List.getElem_cons_zero, Act.put, List.setIfInBounds_toArray, List.set_cons_zero, List.set_cons_succ])
          first
            | (refine wpAnyG_take hSG (i := 4)  (v := ?_) rfl (by kernel_rfl) (by kernel_rfl) (by kernel_rfl) (fun _ _ _ h => h) (YieldsIf.gives (Or.inl ⟨by rfl, ?_⟩)) hHeld ?_; rotate_left; focus (intro w' hSw; have s0 := grCell hSw s0; have q0 := grCell hSw q0; have q1 := grCell hSw q1; have q2 := grCell hSw q2; have q3 := grCell hSw q3; have q4 := grCell hSw q4; go_simp; (try with_reducible rfl)))
            | (refine wpAnyG_take hSG (i := 4)  (v := undef) rfl (by kernel_rfl) (by kernel_rfl) (by kernel_rfl) (fun _ _ _ h => h) (Or.inr ⟨by rfl, rfl⟩) hHeld ?_)
          (try simp only [List.getElem_toArray, List.getElem_cons_succ, List.getElem_cons_zero, Act.put, List.setIfInBounds_toArray, List.set_cons_zero, List.set_cons_succ])
          first
            | (refine wpAnyG_take hSG (i := 5)  (v := ?_) rfl (by kernel_rfl) (by kernel_rfl) (by kernel_rfl) (fun _ _ _ h => h) (YieldsIf.gives (Or.inl ⟨by rfl, ?_⟩)) hHeld ?_; rotate_left; focus (intro w' hSw; have s0 := grCell hSw s0; have q0 := grCell hSw q0; have q1 := grCell hSw q1; have q2 := grCell hSw q2; have q3 := grCell hSw q3; have q4 := grCell hSw q4; go_simp; (try with_reducible rfl)))
            | (refine wpAnyG_take hSG (i := 5)  (v := undef) rfl (by kernel_rfl) (by kernel_rfl) (by kernel_rfl) (fun _ _ _ h => h) (Or.inr ⟨by rfl, rfl⟩) hHeld ?_)
          (try simp only [List.getElem_toArray, List.getElem_cons_succ, List.getElem_cons_zero, Act.put, List.setIfInBounds_toArray, List.set_cons_zero, List.set_cons_succ])
          first
            | (refine wpAnyG_take hSG (i := 6)  (v := ?_) rfl (by kernel_rfl) (by kernel_rfl) (by kernel_rfl) (fun _ _ _ h => h) (YieldsIf.gives (Or.inl ⟨by rfl, ?_⟩)) hHeld ?_; rotate_left; focus (intro w' hSw; have s0 := grCell hSw s0; have q0 := grCell hSw q0; have q1 := grCell hSw q1; have q2 := grCell hSw q2; have q3 := grCell hSw q3; have q4 := grCell hSw q4; go_simp; (try with_reducible rfl)))
            | (refine wpAnyG_take hSG (i := 6)  (v := undef) rfl (by kernel_rfl) (by kernel_rfl) (by kernel_rfl) (fun _ _ _ h => h) (Or.inr ⟨by rfl, rfl⟩) hHeld ?_)
          (try simp only [List.getElem_toArray, List.getElem_cons_succ, List.getElem_cons_zero, Act.put, List.setIfInBounds_toArray, List.set_cons_zero, List.set_cons_succ])
          first
            | (refine wpAnyG_take hSG (i := 7)  (v := ?_) rfl (by kernel_rfl) (by kernel_rfl) (by kernel_rfl) (fun _ _ _ h => h) (YieldsIf.gives (Or.inl ⟨by rfl, ?_⟩)) hHeld ?_; rotate_left; focus (intro w' hSw; have s0 := grCell hSw s0; have q0 := grCell hSw q0; have q1 := grCell hSw q1; have q2 := grCell hSw q2; have q3 := grCell hSw q3; have q4 := grCell hSw q4; go_simp; (try with_reducible rfl)))
            | (refine wpAnyG_take hSG (i := 7)  (v := undef) rfl (by kernel_rfl) (by kernel_rfl) (by kernel_rfl) (fun _ _ _ h => h) (Or.inr ⟨by rfl, rfl⟩) hHeld ?_)
          (try simp only [List.getElem_toArray, List.getElem_cons_succ, List.getElem_cons_zero, Act.put, List.setIfInBounds_toArray, List.set_cons_zero, List.set_cons_succ])
          refine wpAnyG_take hSG (i := 8)  (v := .bool true) rfl (by kernel_rfl) (by kernel_rfl) (by kernel_rfl) (fun _ _ _ h => h) (Or.inl ⟨by rfl, ?_⟩) hHeld ?_
          focus (intro wz hSw K hK; have s0 := grCell hSw s0; have q0 := grCell hSw q0; have q1 := grCell hSw q1; have q2 := grCell hSw q2; have q3 := grCell hSw q3; have q4 := grCell hSw q4; go_simp; go_at_call 40; refine (HBt.out _).mono ?_; rintro e w2 ⟨rfl, hw⟩; have hb2 := belOf hw; exact hK.out _ hb2)
          (try simp only [List.getElem_toArray, List.getElem_cons_succ, List.getElem_cons_zero, Act.put, List.setIfInBounds_toArray, List.set_cons_zero, List.set_cons_succ])
          first
            | (refine wpAnyG_take hSG (i := 9)  (v := ?_) rfl (by kernel_rfl) (by kernel_rfl) (by kernel_rfl) (fun _ _ _ h => h) (YieldsIf.gives (Or.inl ⟨by rfl, ?_⟩)) hHeld ?_; rotate_left; focus (intro w' hSw; have s0 := grCell hSw s0; have q0 := grCell hSw q0; have q1 := grCell hSw q1; have q2 := grCell hSw q2; have q3 := grCell hSw q3; have q4 := grCell hSw q4; go_simp; (try with_reducible rfl)))
            | (refine wpAnyG_take hSG (i := 9)  (v := undef) rfl (by kernel_rfl) (by kernel_rfl) (by kernel_rfl) (fun _ _ _ h => h) (Or.inr ⟨by rfl, rfl⟩) hHeld ?_)
          (try simp only [List.getElem_toArray, List.getElem_cons_succ, List.getElem_cons_zero, Act.put, List.setIfInBounds_toArray, List.set_cons_zero, List.set_cons_succ])
          refine wpAnyG_done (by kernel_rfl) (fun w5 hgD => ?_) _
          have hg5 : Gr W5 w5 := (grDrew W5).tr hgD
          clear hgD hSG hHeld
          have hB6 := Lib.hid (hB5.out.trans (hg5.mono hB5.out.size))
          clear q0 q1 q2 q3 q4 s0
          go_upto_region 8 with fail
          go_wp2
          go_roundg gq
          case measure => omega
          case rel => exact ⟨k + 1, by omega, by go_num, hGd, hB6⟩
      · obtain rfl : gk = 0 := by omega
        have hkl : decide ((k : Int) < (vs.length : Int)) = false := by simp; omega
        obtain rfl : true = r := by have := hG.out; rw [inLB_end (by omega)] at this; exact this
        clear hG
        go_wp2
        go_ret
        exact ⟨rfl, hW.out⟩
  · have hm : stB vs st = false := by unfold stB; simp [hl]
    rw [hm]
    have hlb : (((st.length : Nat) : Int) != ((vs.length : Nat) : Int)) = true := by simp; omega
    clear hm hV hS hl
    go_enter Tryz.func25, Tryz.ntmps25
    go_wp2_with fail
    go_ret
    exact ⟨rfl, Below.refl _ _⟩
end M
end Go.Proofs.YtdgompdbhlhofaaGreatDoor
