/- Texts of one proof: MxE. -/
import Derived.Test.YtdgompdbhlhofaaGreatDoorZz
import Derived.Test.YtdgompdbhlhofaaGreatDoorYa
namespace Go.Proofs.YtdgompdbhlhofaaGreatDoor
open Go.RowKit
set_option linter.unusedVariables false
set_option linter.unusedSimpArgs false
namespace M
open I
open U (Ex St btw ev eArr KidsE newBlk blkLt arrE aggE szK szK_len szK_mem owns_below new_cells gbRefl gbAlloc gbTrans gbBelow Ex.size)
open R (epanic bAllocX)
theorem cDown_any (x y : Int) (hx : vN x = true) (hy : vN y = true) (w : World) : Calls Tryz.prog 34 #[.int .i64 x, .int .i64 y] w (IntP (opE 7 x y) w) := by
  rw [vN_iff] at hx hy
  exact down_any x y (by unfold Fit; omega) (by unfold Fit; omega) w
theorem cMul_any (x y : Int) (hx : vN x = true) (hy : vN y = true) (w : World) : Calls Tryz.prog 33 #[.int .i64 x, .int .i64 y] w (IntP (opE 6 x y) w) := product_any x y hx hy w
def nodR (st ins : List Int) (op n : Int) : List Int → Except Int Int
  | [] => leafE st ins op n
  | [a, b] => opE op a b
  | _ => .error 1
theorem nod_chk (st ins : List Int) (op n : Int) (ns : List Int) : chkE (nodR st ins op n ns) = nodE st ins op n ns := by
  match ns with
  | [] => rfl
  | [a, b] => rfl
  | [a] => rfl
  | a :: b :: c :: l => rfl
theorem opE_none {op a b : Int} (h : ¬(4 ≤ op ∧ op ≤ 10)) : opE op a b = .error 1 := by
  unfold opE
  rw [if_neg (by omega), if_neg (by omega), if_neg (by omega), if_neg (by omega), if_neg (by omega), if_neg (by omega), if_neg (by omega)]
set_option maxHeartbeats 4000000 in
set_option maxRecDepth 100000 in
theorem result_none (st : List Int) (SA : Option Addr) (m : Nat) (i0 i1 i2 i3 : Int) (mb : Nat) (op n u : Int) (ks : List Ex) (A : Option Addr) (c : Nat) (ns : List Int) (NA : Option Addr) (nc : Nat) (w : World) (hO : OpsR w mb) (h0 : ns.length ≠ 0) (hno : ¬(4 ≤ op ∧ op ≤ 10)) :
    Calls Tryz.prog 38 #[.agg (rdA SA st.length m i0 i1 i2 i3 mb), aggE op n u A ks.length (ks.length + c), .slice NA ns.length nc] w (IntP (.error 1) w) := by
  obtain ⟨W2, hW2⟩ : ∃ W2, W2 = (w.alloc (.cells (rdA SA st.length m i0 i1 i2 i3 mb) 58)).alloc (.cells (arrE op n u A ks.length (ks.length + c)) 41) := ⟨_, rfl⟩
  have HB : Hid (Below w.heap.size w W2) := Lib.hid (by rw [hW2]; exact bAl2 _ _)
  have HR : Hid (W2.heap[w.heap.size]? = some (.cells (rdA SA st.length m i0 i1 i2 i3 mb) 58 (0, 0))) := Lib.hid (by rw [hW2]; exact (Below.heap_alloc _ _ _ (by simp)).trans (newBlk _ _ _ rfl))
  have HE : Hid (W2.heap[w.heap.size + 1]? = some (.cells (arrE op n u A ks.length (ks.length + c)) 41 (0, 0))) := Lib.hid (by rw [hW2]; exact newBlk _ _ _ (by simp))
  have hM2 := hO.gr HB.out
  obtain ⟨⟨r0, r1, r2, r3, r4, r5⟩, -⟩ := cells6 HR.out
  obtain ⟨⟨x0, x1, x2, x3⟩, -⟩ := C.cells4C HE.out
  obtain ⟨v, hv⟩ := map_none W2 mb es7 7 op hM2 (esN_no op hno)
  have l0 : ((ns.length : Int) == 0) = false := by simp; intro e; rw [e] at h0; simp at h0
  clear hO hM2 h0 hno
  go_enter Tryz.func38, Tryz.ntmps38
  go_upto_region 1 with fail
  rw [← hW2]
  clear hW2
  go_wp2_with (go_at_call 39; refine (need_any false _ _).mono ?_; rintro e w5 ⟨he, hw⟩; rw [hw]; clear hw; simp only [Bool.false_eq_true, if_neg, not_false_eq_true] at he; subst he)
  exact ⟨rfl, rfl, HB.out⟩
set_option maxHeartbeats 8000000 in
set_option maxRecDepth 100000 in
theorem result_len (st : List Int) (SA : Option Addr) (m : Nat) (i0 i1 i2 i3 : Int) (mb : Nat) (op n u : Int) (ks : List Ex) (A : Option Addr) (c : Nat) (ns : List Int) (NA : Option Addr) (nc : Nat) (w : World) (hO : OpsR w mb) (h0 : ns.length ≠ 0) (h2 : ns.length ≠ 2) (hop : 4 ≤ op ∧ op ≤ 10) :
    Calls Tryz.prog 38 #[.agg (rdA SA st.length m i0 i1 i2 i3 mb), aggE op n u A ks.length (ks.length + c), .slice NA ns.length nc] w (IntP (.error 1) w) := by
  obtain ⟨W2, hW2⟩ : ∃ W2, W2 = (w.alloc (.cells (rdA SA st.length m i0 i1 i2 i3 mb) 58)).alloc (.cells (arrE op n u A ks.length (ks.length + c)) 41) := ⟨_, rfl⟩
  have HB : Hid (Below w.heap.size w W2) := Lib.hid (by rw [hW2]; exact bAl2 _ _)
  have HR : Hid (W2.heap[w.heap.size]? = some (.cells (rdA SA st.length m i0 i1 i2 i3 mb) 58 (0, 0))) := Lib.hid (by rw [hW2]; exact (Below.heap_alloc _ _ _ (by simp)).trans (newBlk _ _ _ rfl))
  have HE : Hid (W2.heap[w.heap.size + 1]? = some (.cells (arrE op n u A ks.length (ks.length + c)) 41 (0, 0))) := Lib.hid (by rw [hW2]; exact newBlk _ _ _ (by simp))
  have hM2 := hO.gr HB.out
  obtain ⟨⟨r0, r1, r2, r3, r4, r5⟩, -⟩ := cells6 HR.out
  obtain ⟨⟨x0, x1, x2, x3⟩, -⟩ := C.cells4C HE.out
  obtain ⟨i, v, hf⟩ : ∃ i v, Instr.findNow (.int .i64) (.int .i64 op) es7.toList 0 = some (some (i, v)) := by
    have : op = 4 ∨ op = 5 ∨ op = 6 ∨ op = 7 ∨ op = 8 ∨ op = 9 ∨ op = 10 := by omega
    rcases this with rfl | rfl | rfl | rfl | rfl | rfl | rfl
    · exact ⟨_, _, esN_4⟩
    · exact ⟨_, _, esN_5⟩
    · exact ⟨_, _, esN_6⟩
    · exact ⟨_, _, esN_7⟩
    · exact ⟨_, _, esN_8⟩
    · exact ⟨_, _, esN_9⟩
    · exact ⟨_, _, esN_10⟩
  have hv := map_get W2 mb es7 7 op i v hM2 hf
  have l0 : ((ns.length : Int) == 0) = false := by simp; intro e; rw [e] at h0; simp at h0
  have l2 : ((ns.length : Int) == 2) = false := by simp; omega
  clear hO hM2 h0 h2 hop hf
  go_enter Tryz.func38, Tryz.ntmps38
  go_upto_region 1 with fail
  rw [← hW2]
  clear hW2
  go_wp2_with (go_at_call 39; refine (need_any false _ _).mono ?_; rintro e w5 ⟨he, hw⟩; rw [hw]; clear hw; simp only [Bool.false_eq_true, if_neg, not_false_eq_true] at he; subst he)
  exact ⟨rfl, rfl, HB.out⟩
set_option maxHeartbeats 4000000 in
set_option maxRecDepth 100000 in
theorem result_leaf (st : List Int) (SA : Option Addr) (m : Nat) (i0 i1 i2 i3 : Int) (mb : Nat) (op n u : Int) (ks : List Ex) (A : Option Addr) (c : Nat) (NA : Option Addr) (nc : Nat) (w : World) (hS : IntsR w st SA) (hsl : st.length ≤ 1000000) (hO : OpsR w mb) :
    Calls Tryz.prog 38 #[.agg (rdA SA st.length m i0 i1 i2 i3 mb), aggE op n u A ks.length (ks.length + c), .slice NA 0 nc] w (IntP (leafE st [i0, i1, i2, i3] op n) w) := by
  obtain ⟨W2, hW2⟩ : ∃ W2, W2 = (w.alloc (.cells (rdA SA st.length m i0 i1 i2 i3 mb) 58)).alloc (.cells (arrE op n u A ks.length (ks.length + c)) 41) := ⟨_, rfl⟩
  have HB : Hid (Below w.heap.size w W2) := Lib.hid (by rw [hW2]; exact bAl2 _ _)
  have HR : Hid (W2.heap[w.heap.size]? = some (.cells (rdA SA st.length m i0 i1 i2 i3 mb) 58 (0, 0))) := Lib.hid (by rw [hW2]; exact (Below.heap_alloc _ _ _ (by simp)).trans (newBlk _ _ _ rfl))
  have HE : Hid (W2.heap[w.heap.size + 1]? = some (.cells (arrE op n u A ks.length (ks.length + c)) 41 (0, 0))) := Lib.hid (by rw [hW2]; exact newBlk _ _ _ (by simp))
  have hM2 := hO.gr HB.out
  obtain ⟨⟨r0, r1, r2, r3, r4, r5⟩, -⟩ := cells6 HR.out
  obtain ⟨⟨x0, x1, x2, x3⟩, -⟩ := C.cells4C HE.out
  have HL := Lib.hid (leaf_any st SA m i0 i1 i2 i3 mb (.mk op n u ks) A c W2 (hS.gr HB.out) hsl)
  have HL : Hid (Calls Tryz.prog 50 #[.agg (rdA SA st.length m i0 i1 i2 i3 mb), aggE op n u A ks.length (ks.length + c)] W2 (IntP (leafE st [i0, i1, i2, i3] op n) W2)) := HL
  clear hO hM2 hS hsl
  generalize leafE st [i0, i1, i2, i3] op n = r at *
  go_enter Tryz.func38, Tryz.ntmps38
  go_upto_region 1 with fail
  rw [← hW2]
  clear hW2
  rcases r with er | k
  · go_wp2_with (go_at_call 50; refine HL.out.mono ?_; rintro e w2 ⟨he, hb2⟩; simp only at he; subst he; have HB2 := Lib.hid (HB.out.trans (hb2.mono HB.out.size)))
    exact ⟨rfl, rfl, HB2.out⟩
  · go_wp2_with (go_at_call 50; refine HL.out.mono ?_; rintro e w2 ⟨he, hb2⟩; simp only at he; subst he; have HB2 := Lib.hid (HB.out.trans (hb2.mono HB.out.size)))
    go_ret
    exact ⟨rfl, HB2.out⟩
set_option maxHeartbeats 4000000 in
set_option maxRecDepth 100000 in
theorem result_4 (st : List Int) (SA : Option Addr) (m : Nat) (i0 i1 i2 i3 : Int) (mb : Nat) (n u : Int) (ks : List Ex) (A : Option Addr) (c : Nat) (a b : Int) (NA : Option Addr) (nc : Nat) (w : World) (hO : OpsR w mb) (hN : IntsR w [a, b] NA) (ha : vN a = true) (hb : vN b = true) (hnc : 2 ≤ nc) :
    Calls Tryz.prog 38 #[.agg (rdA SA st.length m i0 i1 i2 i3 mb), aggE 4 n u A ks.length (ks.length + c), .slice NA 2 nc] w (IntP (opE 4 a b) w) := by
  obtain ⟨W2, hW2⟩ : ∃ W2, W2 = (w.alloc (.cells (rdA SA st.length m i0 i1 i2 i3 mb) 58)).alloc (.cells (arrE 4 n u A ks.length (ks.length + c)) 41) := ⟨_, rfl⟩
  have HB : Hid (Below w.heap.size w W2) := Lib.hid (by rw [hW2]; exact bAl2 _ _)
  have HR : Hid (W2.heap[w.heap.size]? = some (.cells (rdA SA st.length m i0 i1 i2 i3 mb) 58 (0, 0))) := Lib.hid (by rw [hW2]; exact (Below.heap_alloc _ _ _ (by simp)).trans (newBlk _ _ _ rfl))
  have HE : Hid (W2.heap[w.heap.size + 1]? = some (.cells (arrE 4 n u A ks.length (ks.length + c)) 41 (0, 0))) := Lib.hid (by rw [hW2]; exact newBlk _ _ _ (by simp))
  have hM2 := hO.gr HB.out
  obtain ⟨⟨r0, r1, r2, r3, r4, r5⟩, -⟩ := cells6 HR.out
  obtain ⟨⟨x0, x1, x2, x3⟩, -⟩ := C.cells4C HE.out
  have hv := map_get W2 mb es7 7 4 _ _ hM2 esN_4
  obtain ⟨g2, o2, rfl, hat⟩ := hN.addr (by simp)
  have e0 := grCell HB.out (hat 0 a rfl)
  have e1 := grCell HB.out (hat 1 b rfl)
  simp only [Nat.add_zero] at e0
  have HF := Lib.hid (fun wx => cAdd_any a b ha hb wx)
  clear hO hM2 hN hat ha hb
  generalize opE 4 a b = r at *
  go_enter Tryz.func38, Tryz.ntmps38
  go_upto_region 1 with fail
  rw [← hW2]
  clear hW2
  go_upto_region 5 with (go_at_call 39; refine (need_any true _ _).mono ?_; rintro e w5 ⟨he, hw⟩; rw [hw]; clear hw; simp only [if_pos] at he; subst he)
  rcases r with er | q
  · skip
    refine wp_region_G (S := fun wq => Gr W2 wq) (by kernel_rfl) (grDrew _) (fun hHeld => ?_)
    have hSG : Hid (∀ wp wq : World, Gr W2 wp → Gr wp wq → Gr W2 wq) := Lib.hid (fun _ _ h k => h.tr k)
    first
      | (refine wpAnyG_take hSG (i := 0)  (v := ?_) rfl (by kernel_rfl) (by kernel_rfl) (by kernel_rfl) (fun _ _ _ h => h) (YieldsIf.gives (Or.inl ⟨by rfl, ?_⟩)) hHeld ?_; rotate_left; focus (intro w' hSw; have e0 := grCell hSw e0; have e1 := grCell hSw e1; go_simp; (try with_reducible rfl)))
      | (refine wpAnyG_take hSG (i := 0)  (v := undef) rfl (by kernel_rfl) (by kernel_rfl) (by kernel_rfl) (fun _ _ _ h => h) (Or.inr ⟨by rfl, rfl⟩) hHeld ?_)
    (try simp only [List.getElem_toArray, List.getElem_cons_succ, List.getElem_cons_zero, Act.put, List.setIfInBounds_toArray, List.set_cons_zero, List.set_cons_succ])
    first
      | (refine wpAnyG_take hSG (i := 1)  (v := ?_) rfl (by kernel_rfl) (by kernel_rfl) (by kernel_rfl) (fun _ _ _ h => h) (YieldsIf.gives (Or.inl ⟨by rfl, ?_⟩)) hHeld ?_; rotate_left; focus (intro w' hSw; have e0 := grCell hSw e0; have e1 := grCell hSw e1; go_simp; (try with_reducible rfl)))
      | (refine wpAnyG_take hSG (i := 1)  (v := undef) rfl (by kernel_rfl) (by kernel_rfl) (by kernel_rfl) (fun _ _ _ h => h) (Or.inr ⟨by rfl, rfl⟩) hHeld ?_)
    (try simp only [List.getElem_toArray, List.getElem_cons_succ, List.getElem_cons_zero, Act.put, List.setIfInBounds_toArray, List.set_cons_zero, List.set_cons_succ])
    refine wpAnyG_take hSG (i := 2)  (v := .pointer (some ⟨g2, o2, none⟩)) rfl (by kernel_rfl) (by kernel_rfl) (by kernel_rfl) (fun _ _ _ h => h) (YieldsIf.gives (Or.inl ⟨by rfl, ?_⟩)) hHeld ?_
    focus (intro w' hSw; have e0 := grCell hSw e0; have e1 := grCell hSw e1; go_simp; (try (intro hq; omega)))
    (try simp only [List.getElem_toArray, List.getElem_cons_succ, List.getElem_cons_zero, Act.put, List.setIfInBounds_toArray, List.set_cons_zero, List.set_cons_succ])
    first
      | (refine wpAnyG_take hSG (i := 3)  (v := ?_) rfl (by kernel_rfl) (by kernel_rfl) (by kernel_rfl) (fun _ _ _ h => h) (YieldsIf.gives (Or.inl ⟨by rfl, ?_⟩)) hHeld ?_; rotate_left; focus (intro w' hSw; have e0 := grCell hSw e0; have e1 := grCell hSw e1; go_simp; (try with_reducible rfl)))
      | (refine wpAnyG_take hSG (i := 3)  (v := undef) rfl (by kernel_rfl) (by kernel_rfl) (by kernel_rfl) (fun _ _ _ h => h) (Or.inr ⟨by rfl, rfl⟩) hHeld ?_)
    (try simp only [List.getElem_toArray, List.getElem_cons_succ, List.getElem_cons_zero, Act.put, List.setIfInBounds_toArray, List.set_cons_zero, List.set_cons_succ])
    first
      | (refine wpAnyG_take hSG (i := 4)  (v := ?_) rfl (by kernel_rfl) (by kernel_rfl) (by kernel_rfl) (fun _ _ _ h => h) (YieldsIf.gives (Or.inl ⟨by rfl, ?_⟩)) hHeld ?_; rotate_left; focus (intro w' hSw; have e0 := grCell hSw e0; have e1 := grCell hSw e1; go_simp; (try with_reducible rfl)))
      | (refine wpAnyG_take hSG (i := 4)  (v := undef) rfl (by kernel_rfl) (by kernel_rfl) (by kernel_rfl) (fun _ _ _ h => h) (Or.inr ⟨by rfl, rfl⟩) hHeld ?_)
    (try simp only [List.getElem_toArray, List.getElem_cons_succ, List.getElem_cons_zero, Act.put, List.setIfInBounds_toArray, List.set_cons_zero, List.set_cons_succ])
    refine wpAnyG_take hSG (i := 5)  (v := .pointer (some ⟨g2, o2 + 1, none⟩)) rfl (by kernel_rfl) (by kernel_rfl) (by kernel_rfl) (fun _ _ _ h => h) (YieldsIf.gives (Or.inl ⟨by rfl, ?_⟩)) hHeld ?_
    focus (intro w' hSw; have e0 := grCell hSw e0; have e1 := grCell hSw e1; go_simp; (try (intro hq; omega)))
    (try simp only [List.getElem_toArray, List.getElem_cons_succ, List.getElem_cons_zero, Act.put, List.setIfInBounds_toArray, List.set_cons_zero, List.set_cons_succ])
    first
      | (refine wpAnyG_take hSG (i := 6)  (v := ?_) rfl (by kernel_rfl) (by kernel_rfl) (by kernel_rfl) (fun _ _ _ h => h) (YieldsIf.gives (Or.inl ⟨by rfl, ?_⟩)) hHeld ?_; rotate_left; focus (intro w' hSw; have e0 := grCell hSw e0; have e1 := grCell hSw e1; go_simp; (try with_reducible rfl)))
      | (refine wpAnyG_take hSG (i := 6)  (v := undef) rfl (by kernel_rfl) (by kernel_rfl) (by kernel_rfl) (fun _ _ _ h => h) (Or.inr ⟨by rfl, rfl⟩) hHeld ?_)
    (try simp only [List.getElem_toArray, List.getElem_cons_succ, List.getElem_cons_zero, Act.put, List.setIfInBounds_toArray, List.set_cons_zero, List.set_cons_succ])
    refine wpAnyG_ready (rs := [7]) (by kernel_rfl) (by simp) (AllG.cons rfl (fun w5 hgL K hK => ?_) AllG.nil)
    have hgL := (grDrew W2).tr hgL
    have e0 := grCell hgL e0
    have e1 := grCell hgL e1
    go_simp
    go_at_call 31; refine (HF.out _).mono ?_; rintro e w6 ⟨he, hb3⟩; simp only at he; subst he
    have HB6 := Lib.hid ((HB.out.trans (hgL.mono HB.out.size)).trans (hb3.mono (HB.out.trans (hgL.mono HB.out.size)).size))
    go_wp2
    exact ⟨rfl, rfl, HB6.out⟩
  · skip
    refine wp_region_G (S := fun wq => Gr W2 wq) (by kernel_rfl) (grDrew _) (fun hHeld => ?_)
    have hSG : Hid (∀ wp wq : World, Gr W2 wp → Gr wp wq → Gr W2 wq) := Lib.hid (fun _ _ h k => h.tr k)
    first
      | (refine wpAnyG_take hSG (i := 0)  (v := ?_) rfl (by kernel_rfl) (by kernel_rfl) (by kernel_rfl) (fun _ _ _ h => h) (YieldsIf.gives (Or.inl ⟨by rfl, ?_⟩)) hHeld ?_; rotate_left; focus (intro w' hSw; have e0 := grCell hSw e0; have e1 := grCell hSw e1; go_simp; (try with_reducible rfl)))
      | (refine wpAnyG_take hSG (i := 0)  (v := undef) rfl (by kernel_rfl) (by kernel_rfl) (by kernel_rfl) (fun _ _ _ h => h) (Or.inr ⟨by rfl, rfl⟩) hHeld ?_)
    (try simp only [List.getElem_toArray, List.getElem_cons_succ, List.getElem_cons_zero, Act.put, List.setIfInBounds_toArray, List.set_cons_zero, List.set_cons_succ])
    first
      | (refine wpAnyG_take hSG (i := 1)  (v := ?_) rfl (by kernel_rfl) (by kernel_rfl) (by kernel_rfl) (fun _ _ _ h => h) (YieldsIf.gives (Or.inl ⟨by rfl, ?_⟩)) hHeld ?_; rotate_left; focus (intro w' hSw; have e0 := grCell hSw e0; have e1 := grCell hSw e1; go_simp; (try with_reducible rfl)))
      | (refine wpAnyG_take hSG (i := 1)  (v := undef) rfl (by kernel_rfl) (by kernel_rfl) (by kernel_rfl) (fun _ _ _ h => h) (Or.inr ⟨by rfl, rfl⟩) hHeld ?_)
    (try simp only [List.getElem_toArray, List.getElem_cons_succ, List.getElem_cons_zero, Act.put, List.setIfInBounds_toArray, List.set_cons_zero, List.set_cons_succ])
    refine wpAnyG_take hSG (i := 2)  (v := .pointer (some ⟨g2, o2, none⟩)) rfl (by kernel_rfl) (by kernel_rfl) (by kernel_rfl) (fun _ _ _ h => h) (YieldsIf.gives (Or.inl ⟨by rfl, ?_⟩)) hHeld ?_
    focus (intro w' hSw; have e0 := grCell hSw e0; have e1 := grCell hSw e1; go_simp; (try (intro hq; omega)))
    (try simp only [List.getElem_toArray, List.getElem_cons_succ, List.getElem_cons_zero, Act.put, List.setIfInBounds_toArray, List.set_cons_zero, List.set_cons_succ])
    first
      | (refine wpAnyG_take hSG (i := 3)  (v := ?_) rfl (by kernel_rfl) (by kernel_rfl) (by kernel_rfl) (fun _ _ _ h => h) (YieldsIf.gives (Or.inl ⟨by rfl, ?_⟩)) hHeld ?_; rotate_left; focus (intro w' hSw; have e0 := grCell hSw e0; have e1 := grCell hSw e1; go_simp; (try with_reducible rfl)))
      | (refine wpAnyG_take hSG (i := 3)  (v := undef) rfl (by kernel_rfl) (by kernel_rfl) (by kernel_rfl) (fun _ _ _ h => h) (Or.inr ⟨by rfl, rfl⟩) hHeld ?_)
    (try simp only [List.getElem_toArray, List.getElem_cons_succ, List.getElem_cons_zero, Act.put, List.setIfInBounds_toArray, List.set_cons_zero, List.set_cons_succ])
    first
      | (refine wpAnyG_take hSG (i := 4)  (v := ?_) rfl (by kernel_rfl) (by kernel_rfl) (by kernel_rfl) (fun _ _ _ h => h) (YieldsIf.gives (Or.inl ⟨by rfl, ?_⟩)) hHeld ?_; rotate_left; focus (intro w' hSw; have e0 := grCell hSw e0; have e1 := grCell hSw e1; go_simp; (try with_reducible rfl)))
      | (refine wpAnyG_take hSG (i := 4)  (v := undef) rfl (by kernel_rfl) (by kernel_rfl) (by kernel_rfl) (fun _ _ _ h => h) (Or.inr ⟨by rfl, rfl⟩) hHeld ?_)
    (try simp only [List.getElem_toArray, List.getElem_cons_succ, List.getElem_cons_zero, Act.put, List.setIfInBounds_toArray, List.set_cons_zero, List.set_cons_succ])
    refine wpAnyG_take hSG (i := 5)  (v := .pointer (some ⟨g2, o2 + 1, none⟩)) rfl (by kernel_rfl) (by kernel_rfl) (by kernel_rfl) (fun _ _ _ h => h) (YieldsIf.gives (Or.inl ⟨by rfl, ?_⟩)) hHeld ?_
    focus (intro w' hSw; have e0 := grCell hSw e0; have e1 := grCell hSw e1; go_simp; (try (intro hq; omega)))
    (try simp only [List.getElem_toArray, List.getElem_cons_succ, List.getElem_cons_zero, Act.put, List.setIfInBounds_toArray, List.set_cons_zero, List.set_cons_succ])
    first
      | (refine wpAnyG_take hSG (i := 6)  (v := ?_) rfl (by kernel_rfl) (by kernel_rfl) (by kernel_rfl) (fun _ _ _ h => h) (YieldsIf.gives (Or.inl ⟨by rfl, ?_⟩)) hHeld ?_; rotate_left; focus (intro w' hSw; have e0 := grCell hSw e0; have e1 := grCell hSw e1; go_simp; (try with_reducible rfl)))
      | (refine wpAnyG_take hSG (i := 6)  (v := undef) rfl (by kernel_rfl) (by kernel_rfl) (by kernel_rfl) (fun _ _ _ h => h) (Or.inr ⟨by rfl, rfl⟩) hHeld ?_)
    (try simp only [List.getElem_toArray, List.getElem_cons_succ, List.getElem_cons_zero, Act.put, List.setIfInBounds_toArray, List.set_cons_zero, List.set_cons_succ])
    refine wpAnyG_take hSG (i := 7)  (v := .int .i64 q) rfl (by kernel_rfl) (by kernel_rfl) (by kernel_rfl) (fun _ _ _ h => h) (Or.inl ⟨by rfl, ?_⟩) hHeld ?_
    focus (intro wz hSw K hK; have e0 := grCell hSw e0; have e1 := grCell hSw e1; go_simp; go_at_call 31; refine (HF.out _).mono ?_; rintro e w2 ⟨he, hb2⟩; simp only at he; subst he; exact hK.out _ hb2)
    (try simp only [List.getElem_toArray, List.getElem_cons_succ, List.getElem_cons_zero, Act.put, List.setIfInBounds_toArray, List.set_cons_zero, List.set_cons_succ])
    first
      | (refine wpAnyG_take hSG (i := 8)  (v := ?_) rfl (by kernel_rfl) (by kernel_rfl) (by kernel_rfl) (fun _ _ _ h => h) (YieldsIf.gives (Or.inl ⟨by rfl, ?_⟩)) hHeld ?_; rotate_left; focus (intro w' hSw; have e0 := grCell hSw e0; have e1 := grCell hSw e1; go_simp; (try with_reducible rfl)))
      | (refine wpAnyG_take hSG (i := 8)  (v := undef) rfl (by kernel_rfl) (by kernel_rfl) (by kernel_rfl) (fun _ _ _ h => h) (Or.inr ⟨by rfl, rfl⟩) hHeld ?_)
    (try simp only [List.getElem_toArray, List.getElem_cons_succ, List.getElem_cons_zero, Act.put, List.setIfInBounds_toArray, List.set_cons_zero, List.set_cons_succ])
    refine wpAnyG_done (by kernel_rfl) (fun w5 hgD => ?_) _
    have hg5 : Gr W2 w5 := (grDrew W2).tr hgD
    clear hgD hSG hHeld
    have HB6 := Lib.hid (HB.out.trans (hg5.mono HB.out.size))
    go_wp2
    go_ret
    exact ⟨rfl, HB6.out⟩
set_option maxHeartbeats 4000000 in
set_option maxRecDepth 100000 in
theorem result_5 (st : List Int) (SA : Option Addr) (m : Nat) (i0 i1 i2 i3 : Int) (mb : Nat) (n u : Int) (ks : List Ex) (A : Option Addr) (c : Nat) (a b : Int) (NA : Option Addr) (nc : Nat) (w : World) (hO : OpsR w mb) (hN : IntsR w [a, b] NA) (ha : vN a = true) (hb : vN b = true) (hnc : 2 ≤ nc) :
    Calls Tryz.prog 38 #[.agg (rdA SA st.length m i0 i1 i2 i3 mb), aggE 5 n u A ks.length (ks.length + c), .slice NA 2 nc] w (IntP (opE 5 a b) w) := by
  obtain ⟨W2, hW2⟩ : ∃ W2, W2 = (w.alloc (.cells (rdA SA st.length m i0 i1 i2 i3 mb) 58)).alloc (.cells (arrE 5 n u A ks.length (ks.length + c)) 41) := ⟨_, rfl⟩
  have HB : Hid (Below w.heap.size w W2) := Lib.hid (by rw [hW2]; exact bAl2 _ _)
  have HR : Hid (W2.heap[w.heap.size]? = some (.cells (rdA SA st.length m i0 i1 i2 i3 mb) 58 (0, 0))) := Lib.hid (by rw [hW2]; exact (Below.heap_alloc _ _ _ (by simp)).trans (newBlk _ _ _ rfl))
  have HE : Hid (W2.heap[w.heap.size + 1]? = some (.cells (arrE 5 n u A ks.length (ks.length + c)) 41 (0, 0))) := Lib.hid (by rw [hW2]; exact newBlk _ _ _ (by simp))
  have hM2 := hO.gr HB.out
  obtain ⟨⟨r0, r1, r2, r3, r4, r5⟩, -⟩ := cells6 HR.out
  obtain ⟨⟨x0, x1, x2, x3⟩, -⟩ := C.cells4C HE.out
  have hv := map_get W2 mb es7 7 5 _ _ hM2 esN_5
  obtain ⟨g2, o2, rfl, hat⟩ := hN.addr (by simp)
  have e0 := grCell HB.out (hat 0 a rfl)
  have e1 := grCell HB.out (hat 1 b rfl)
  simp only [Nat.add_zero] at e0
  have HF := Lib.hid (fun wx => cSub_any a b ha hb wx)
  clear hO hM2 hN hat ha hb
  generalize opE 5 a b = r at *
  go_enter Tryz.func38, Tryz.ntmps38
  go_upto_region 1 with fail
  rw [← hW2]
  clear hW2
  go_upto_region 5 with (go_at_call 39; refine (need_any true _ _).mono ?_; rintro e w5 ⟨he, hw⟩; rw [hw]; clear hw; simp only [if_pos] at he; subst he)
  rcases r with er | q
  · skip
    refine wp_region_G (S := fun wq => Gr W2 wq) (by kernel_rfl) (grDrew _) (fun hHeld => ?_)
    have hSG : Hid (∀ wp wq : World, Gr W2 wp → Gr wp wq → Gr W2 wq) := Lib.hid (fun _ _ h k => h.tr k)
    first
      | (refine wpAnyG_take hSG (i := 0)  (v := ?_) rfl (by kernel_rfl) (by kernel_rfl) (by kernel_rfl) (fun _ _ _ h => h) (YieldsIf.gives (Or.inl ⟨by rfl, ?_⟩)) hHeld ?_; rotate_left; focus (intro w' hSw; have e0 := grCell hSw e0; have e1 := grCell hSw e1; go_simp; (try with_reducible rfl)))
      | (refine wpAnyG_take hSG (i := 0)  (v := undef) rfl (by kernel_rfl) (by kernel_rfl) (by kernel_rfl) (fun _ _ _ h => h) (Or.inr ⟨by rfl, rfl⟩) hHeld ?_)
    (try simp only [List.getElem_toArray, List.getElem_cons_succ, List.getElem_cons_zero, Act.put, List.setIfInBounds_toArray, List.set_cons_zero, List.set_cons_succ])
    first
      | (refine wpAnyG_take hSG (i := 1)  (v := ?_) rfl (by kernel_rfl) (by kernel_rfl) (by kernel_rfl) (fun _ _ _ h => h) (YieldsIf.gives (Or.inl ⟨by rfl, ?_⟩)) hHeld ?_; rotate_left; focus (intro w' hSw; have e0 := grCell hSw e0; have e1 := grCell hSw e1; go_simp; (try with_reducible rfl)))
      | (refine wpAnyG_take hSG (i := 1)  (v := undef) rfl (by kernel_rfl) (by kernel_rfl) (by kernel_rfl) (fun _ _ _ h => h) (Or.inr ⟨by rfl, rfl⟩) hHeld ?_)
    (try simp only [List.getElem_toArray, List.getElem_cons_succ, List.getElem_cons_zero, Act.put, List.setIfInBounds_toArray, List.set_cons_zero, List.set_cons_succ])
    refine wpAnyG_take hSG (i := 2)  (v := .pointer (some ⟨g2, o2, none⟩)) rfl (by kernel_rfl) (by kernel_rfl) (by kernel_rfl) (fun _ _ _ h => h) (YieldsIf.gives (Or.inl ⟨by rfl, ?_⟩)) hHeld ?_
    focus (intro w' hSw; have e0 := grCell hSw e0; have e1 := grCell hSw e1; go_simp; (try (intro hq; omega)))
    (try simp only [List.getElem_toArray, List.getElem_cons_succ, List.getElem_cons_zero, Act.put, List.setIfInBounds_toArray, List.set_cons_zero, List.set_cons_succ])
    first
      | (refine wpAnyG_take hSG (i := 3)  (v := ?_) rfl (by kernel_rfl) (by kernel_rfl) (by kernel_rfl) (fun _ _ _ h => h) (YieldsIf.gives (Or.inl ⟨by rfl, ?_⟩)) hHeld ?_; rotate_left; focus (intro w' hSw; have e0 := grCell hSw e0; have e1 := grCell hSw e1; go_simp; (try with_reducible rfl)))
      | (refine wpAnyG_take hSG (i := 3)  (v := undef) rfl (by kernel_rfl) (by kernel_rfl) (by kernel_rfl) (fun _ _ _ h => h) (Or.inr ⟨by rfl, rfl⟩) hHeld ?_)
    (try simp only [List.getElem_toArray, List.getElem_cons_succ, List.getElem_cons_zero, Act.put, List.setIfInBounds_toArray, List.set_cons_zero, List.set_cons_succ])
    first
      | (refine wpAnyG_take hSG (i := 4)  (v := ?_) rfl (by kernel_rfl) (by kernel_rfl) (by kernel_rfl) (fun _ _ _ h => h) (YieldsIf.gives (Or.inl ⟨by rfl, ?_⟩)) hHeld ?_; rotate_left; focus (intro w' hSw; have e0 := grCell hSw e0; have e1 := grCell hSw e1; go_simp; (try with_reducible rfl)))
      | (refine wpAnyG_take hSG (i := 4)  (v := undef) rfl (by kernel_rfl) (by kernel_rfl) (by kernel_rfl) (fun _ _ _ h => h) (Or.inr ⟨by rfl, rfl⟩) hHeld ?_)
    (try simp only [List.getElem_toArray, List.getElem_cons_succ, List.getElem_cons_zero, Act.put, List.setIfInBounds_toArray, List.set_cons_zero, List.set_cons_succ])
    refine wpAnyG_take hSG (i := 5)  (v := .pointer (some ⟨g2, o2 + 1, none⟩)) rfl (by kernel_rfl) (by kernel_rfl) (by kernel_rfl) (fun _ _ _ h => h) (YieldsIf.gives (Or.inl ⟨by rfl, ?_⟩)) hHeld ?_
    focus (intro w' hSw; have e0 := grCell hSw e0; have e1 := grCell hSw e1; go_simp; (try (intro hq; omega)))
    (try simp only [List.getElem_toArray, List.getElem_cons_succ, List.getElem_cons_zero, Act.put, List.setIfInBounds_toArray, List.set_cons_zero, List.set_cons_succ])
    first
      | (refine wpAnyG_take hSG (i := 6)  (v := ?_) rfl (by kernel_rfl) (by kernel_rfl) (by kernel_rfl) (fun _ _ _ h => h) (YieldsIf.gives (Or.inl ⟨by rfl, ?_⟩)) hHeld ?_; rotate_left; focus (intro w' hSw; have e0 := grCell hSw e0; have e1 := grCell hSw e1; go_simp; (try with_reducible rfl)))
      | (refine wpAnyG_take hSG (i := 6)  (v := undef) rfl (by kernel_rfl) (by kernel_rfl) (by kernel_rfl) (fun _ _ _ h => h) (Or.inr ⟨by rfl, rfl⟩) hHeld ?_)
    (try simp only [List.getElem_toArray, List.getElem_cons_succ, List.getElem_cons_zero, Act.put, List.setIfInBounds_toArray, List.set_cons_zero, List.set_cons_succ])
    refine wpAnyG_ready (rs := [7]) (by kernel_rfl) (by simp) (AllG.cons rfl (fun w5 hgL K hK => ?_) AllG.nil)
    have hgL := (grDrew W2).tr hgL
    have e0 := grCell hgL e0
    have e1 := grCell hgL e1
    go_simp
    go_at_call 32; refine (HF.out _).mono ?_; rintro e w6 ⟨he, hb3⟩; simp only at he; subst he
    have HB6 := Lib.hid ((HB.out.trans (hgL.mono HB.out.size)).trans (hb3.mono (HB.out.trans (hgL.mono HB.out.size)).size))
    go_wp2
    exact ⟨rfl, rfl, HB6.out⟩
  · skip
    refine wp_region_G (S := fun wq => Gr W2 wq) (by kernel_rfl) (grDrew _) (fun hHeld => ?_)
    have hSG : Hid (∀ wp wq : World, Gr W2 wp → Gr wp wq → Gr W2 wq) := Lib.hid (fun _ _ h k => h.tr k)
    first
      | (refine wpAnyG_take hSG (i := 0)  (v := ?_) rfl (by kernel_rfl) (by kernel_rfl) (by kernel_rfl) (fun _ _ _ h => h) (YieldsIf.gives (Or.inl ⟨by rfl, ?_⟩)) hHeld ?_; rotate_left; focus (intro w' hSw; have e0 := grCell hSw e0; have e1 := grCell hSw e1; go_simp; (try with_reducible rfl)))
      | (refine wpAnyG_take hSG (i := 0)  (v := undef) rfl (by kernel_rfl) (by kernel_rfl) (by kernel_rfl) (fun _ _ _ h => h) (Or.inr ⟨by rfl, rfl⟩) hHeld ?_)
    (try simp only [List.getElem_toArray, List.getElem_cons_succ, List.getElem_cons_zero, Act.put, List.setIfInBounds_toArray, List.set_cons_zero, List.set_cons_succ])
    first
      | (refine wpAnyG_take hSG (i := 1)  (v := ?_) rfl (by kernel_rfl) (by kernel_rfl) (by kernel_rfl) (fun _ _ _ h => h) (YieldsIf.gives (Or.inl ⟨by rfl, ?_⟩)) hHeld ?_; rotate_left; focus (intro w' hSw; have e0 := grCell hSw e0; have e1 := grCell hSw e1; go_simp; (try with_reducible rfl)))
      | (refine wpAnyG_take hSG (i := 1)  (v := undef) rfl (by kernel_rfl) (by kernel_rfl) (by kernel_rfl) (fun _ _ _ h => h) (Or.inr ⟨by rfl, rfl⟩) hHeld ?_)
    (try simp only [List.getElem_toArray, List.getElem_cons_succ, List.getElem_cons_zero, Act.put, List.setIfInBounds_toArray, List.set_cons_zero, List.set_cons_succ])
    refine wpAnyG_take hSG (i := 2)  (v := .pointer (some ⟨g2, o2, none⟩)) rfl (by kernel_rfl) (by kernel_rfl) (by kernel_rfl) (fun _ _ _ h => h) (YieldsIf.gives (Or.inl ⟨by rfl, ?_⟩)) hHeld ?_
    focus (intro w' hSw; have e0 := grCell hSw e0; have e1 := grCell hSw e1; go_simp; (try (intro hq; omega)))
    (try simp only [List.getElem_toArray, List.getElem_cons_succ, List.getElem_cons_zero, Act.put, List.setIfInBounds_toArray, List.set_cons_zero, List.set_cons_succ])
    first
      | (refine wpAnyG_take hSG (i := 3)  (v := ?_) rfl (by kernel_rfl) (by kernel_rfl) (by kernel_rfl) (fun _ _ _ h => h) (YieldsIf.gives (Or.inl ⟨by rfl, ?_⟩)) hHeld ?_; rotate_left; focus (intro w' hSw; have e0 := grCell hSw e0; have e1 := grCell hSw e1; go_simp; (try with_reducible rfl)))
      | (refine wpAnyG_take hSG (i := 3)  (v := undef) rfl (by kernel_rfl) (by kernel_rfl) (by kernel_rfl) (fun _ _ _ h => h) (Or.inr ⟨by rfl, rfl⟩) hHeld ?_)
    (try simp only [List.getElem_toArray, List.getElem_cons_succ, List.getElem_cons_zero, Act.put, List.setIfInBounds_toArray, List.set_cons_zero, List.set_cons_succ])
    first
      | (refine wpAnyG_take hSG (i := 4)  (v := ?_) rfl (by kernel_rfl) (by kernel_rfl) (by kernel_rfl) (fun _ _ _ h => h) (YieldsIf.gives (Or.inl ⟨by rfl, ?_⟩)) hHeld ?_; rotate_left; focus (intro w' hSw; have e0 := grCell hSw e0; have e1 := grCell hSw e1; go_simp; (try with_reducible rfl)))
      | (refine wpAnyG_take hSG (i := 4)  (v := undef) rfl (by kernel_rfl) (by kernel_rfl) (by kernel_rfl) (fun _ _ _ h => h) (Or.inr ⟨by rfl, rfl⟩) hHeld ?_)
    (try simp only [List.getElem_toArray, List.getElem_cons_succ, List.getElem_cons_zero, Act.put, List.setIfInBounds_toArray, List.set_cons_zero, List.set_cons_succ])
    refine wpAnyG_take hSG (i := 5)  (v := .pointer (some ⟨g2, o2 + 1, none⟩)) rfl (by kernel_rfl) (by kernel_rfl) (by kernel_rfl) (fun _ _ _ h => h) (YieldsIf.gives (Or.inl ⟨by rfl, ?_⟩)) hHeld ?_
    focus (intro w' hSw; have e0 := grCell hSw e0; have e1 := grCell hSw e1; go_simp; (try (intro hq; omega)))
    (try simp only [List.getElem_toArray, List.getElem_cons_succ, List.getElem_cons_zero, Act.put, List.setIfInBounds_toArray, List.set_cons_zero, List.set_cons_succ])
    first
      | (refine wpAnyG_take hSG (i := 6)  (v := ?_) rfl (by kernel_rfl) (by kernel_rfl) (by kernel_rfl) (fun _ _ _ h => h) (YieldsIf.gives (Or.inl ⟨by rfl, ?_⟩)) hHeld ?_; rotate_left; focus (intro w' hSw; have e0 := grCell hSw e0; have e1 := grCell hSw e1; go_simp; (try with_reducible rfl)))
      | (refine wpAnyG_take hSG (i := 6)  (v := undef) rfl (by kernel_rfl) (by kernel_rfl) (by kernel_rfl) (fun _ _ _ h => h) (Or.inr ⟨by rfl, rfl⟩) hHeld ?_)
    (try simp only [List.getElem_toArray, List.getElem_cons_succ, List.getElem_cons_zero, Act.put, List.setIfInBounds_toArray, List.set_cons_zero, List.set_cons_succ])
    refine wpAnyG_take hSG (i := 7)  (v := .int .i64 q) rfl (by kernel_rfl) (by kernel_rfl) (by kernel_rfl) (fun _ _ _ h => h) (Or.inl ⟨by rfl, ?_⟩) hHeld ?_
    focus (intro wz hSw K hK; have e0 := grCell hSw e0; have e1 := grCell hSw e1; go_simp; go_at_call 32; refine (HF.out _).mono ?_; rintro e w2 ⟨he, hb2⟩; simp only at he; subst he; exact hK.out _ hb2)
    (try simp only [List.getElem_toArray, List.getElem_cons_succ, List.getElem_cons_zero, Act.put, List.setIfInBounds_toArray, List.set_cons_zero, List.set_cons_succ])
    first
      | (refine wpAnyG_take hSG (i := 8)  (v := ?_) rfl (by kernel_rfl) (by kernel_rfl) (by kernel_rfl) (fun _ _ _ h => h) (YieldsIf.gives (Or.inl ⟨by rfl, ?_⟩)) hHeld ?_; rotate_left; focus (intro w' hSw; have e0 := grCell hSw e0; have e1 := grCell hSw e1; go_simp; (try with_reducible rfl)))
      | (refine wpAnyG_take hSG (i := 8)  (v := undef) rfl (by kernel_rfl) (by kernel_rfl) (by kernel_rfl) (fun _ _ _ h => h) (Or.inr ⟨by rfl, rfl⟩) hHeld ?_)
    (try simp only [List.getElem_toArray, List.getElem_cons_succ, List.getElem_cons_zero, Act.put, List.setIfInBounds_toArray, List.set_cons_zero, List.set_cons_succ])
    refine wpAnyG_done (by kernel_rfl) (fun w5 hgD => ?_) _
    have hg5 : Gr W2 w5 := (grDrew W2).tr hgD
    clear hgD hSG hHeld
    have HB6 := Lib.hid (HB.out.trans (hg5.mono HB.out.size))
    go_wp2
    go_ret
    exact ⟨rfl, HB6.out⟩
set_option maxHeartbeats 4000000 in
set_option maxRecDepth 100000 in
theorem result_6 (st : List Int) (SA : Option Addr) (m : Nat) (i0 i1 i2 i3 : Int) (mb : Nat) (n u : Int) (ks : List Ex) (A : Option Addr) (c : Nat) (a b : Int) (NA : Option Addr) (nc : Nat) (w : World) (hO : OpsR w mb) (hN : IntsR w [a, b] NA) (ha : vN a = true) (hb : vN b = true) (hnc : 2 ≤ nc) :
    Calls Tryz.prog 38 #[.agg (rdA SA st.length m i0 i1 i2 i3 mb), aggE 6 n u A ks.length (ks.length + c), .slice NA 2 nc] w (IntP (opE 6 a b) w) := by
  obtain ⟨W2, hW2⟩ : ∃ W2, W2 = (w.alloc (.cells (rdA SA st.length m i0 i1 i2 i3 mb) 58)).alloc (.cells (arrE 6 n u A ks.length (ks.length + c)) 41) := ⟨_, rfl⟩
  have HB : Hid (Below w.heap.size w W2) := Lib.hid (by rw [hW2]; exact bAl2 _ _)
  have HR : Hid (W2.heap[w.heap.size]? = some (.cells (rdA SA st.length m i0 i1 i2 i3 mb) 58 (0, 0))) := Lib.hid (by rw [hW2]; exact (Below.heap_alloc _ _ _ (by simp)).trans (newBlk _ _ _ rfl))
  have HE : Hid (W2.heap[w.heap.size + 1]? = some (.cells (arrE 6 n u A ks.length (ks.length + c)) 41 (0, 0))) := Lib.hid (by rw [hW2]; exact newBlk _ _ _ (by simp))
  have hM2 := hO.gr HB.out
  obtain ⟨⟨r0, r1, r2, r3, r4, r5⟩, -⟩ := cells6 HR.out
  obtain ⟨⟨x0, x1, x2, x3⟩, -⟩ := C.cells4C HE.out
  have hv := map_get W2 mb es7 7 6 _ _ hM2 esN_6
  obtain ⟨g2, o2, rfl, hat⟩ := hN.addr (by simp)
  have e0 := grCell HB.out (hat 0 a rfl)
  have e1 := grCell HB.out (hat 1 b rfl)
  simp only [Nat.add_zero] at e0
  have HF := Lib.hid (fun wx => cMul_any a b ha hb wx)
  clear hO hM2 hN hat ha hb
  generalize opE 6 a b = r at *
  go_enter Tryz.func38, Tryz.ntmps38
  go_upto_region 1 with fail
  rw [← hW2]
  clear hW2
  go_upto_region 5 with (go_at_call 39; refine (need_any true _ _).mono ?_; rintro e w5 ⟨he, hw⟩; rw [hw]; clear hw; simp only [if_pos] at he; subst he)
  rcases r with er | q
  · skip
    refine wp_region_G (S := fun wq => Gr W2 wq) (by kernel_rfl) (grDrew _) (fun hHeld => ?_)
    have hSG : Hid (∀ wp wq : World, Gr W2 wp → Gr wp wq → Gr W2 wq) := Lib.hid (fun _ _ h k => h.tr k)
    first
      | (refine wpAnyG_take hSG (i := 0)  (v := ?_) rfl (by kernel_rfl) (by kernel_rfl) (by kernel_rfl) (fun _ _ _ h => h) (YieldsIf.gives (Or.inl ⟨by rfl, ?_⟩)) hHeld ?_; rotate_left; focus (intro w' hSw; have e0 := grCell hSw e0; have e1 := grCell hSw e1; go_simp; (try with_reducible rfl)))
      | (refine wpAnyG_take hSG (i := 0)  (v := undef) rfl (by kernel_rfl) (by kernel_rfl) (by kernel_rfl) (fun _ _ _ h => h) (Or.inr ⟨by rfl, rfl⟩) hHeld ?_)
    (try simp only [List.getElem_toArray, List.getElem_cons_succ, List.getElem_cons_zero, Act.put, List.setIfInBounds_toArray, List.set_cons_zero, List.set_cons_succ])
    first
      | (refine wpAnyG_take hSG (i := 1)  (v := ?_) rfl (by kernel_rfl) (by kernel_rfl) (by kernel_rfl) (fun _ _ _ h => h) (YieldsIf.gives (Or.inl ⟨by rfl, ?_⟩)) hHeld ?_; rotate_left; focus (intro w' hSw; have e0 := grCell hSw e0; have e1 := grCell hSw e1; go_simp; (try with_reducible rfl)))
      | (refine wpAnyG_take hSG (i := 1)  (v := undef) rfl (by kernel_rfl) (by kernel_rfl) (by kernel_rfl) (fun _ _ _ h => h) (Or.inr ⟨by rfl, rfl⟩) hHeld ?_)
    (try simp only [List.getElem_toArray, List.getElem_cons_succ, List.getElem_cons_zero, Act.put, List.setIfInBounds_toArray, List.set_cons_zero, List.set_cons_succ])
    refine wpAnyG_take hSG (i := 2)  (v := .pointer (some ⟨g2, o2, none⟩)) rfl (by kernel_rfl) (by kernel_rfl) (by kernel_rfl) (fun _ _ _ h => h) (YieldsIf.gives (Or.inl ⟨by rfl, ?_⟩)) hHeld ?_
    focus (intro w' hSw; have e0 := grCell hSw e0; have e1 := grCell hSw e1; go_simp; (try (intro hq; omega)))
    (try simp only [List.getElem_toArray, List.getElem_cons_succ, List.getElem_cons_zero, Act.put, List.setIfInBounds_toArray, List.set_cons_zero, List.set_cons_succ])
    first
      | (refine wpAnyG_take hSG (i := 3)  (v := ?_) rfl (by kernel_rfl) (by kernel_rfl) (by kernel_rfl) (fun _ _ _ h => h) (YieldsIf.gives (Or.inl ⟨by rfl, ?_⟩)) hHeld ?_; rotate_left; focus (intro w' hSw; have e0 := grCell hSw e0; have e1 := grCell hSw e1; go_simp; (try with_reducible rfl)))
      | (refine wpAnyG_take hSG (i := 3)  (v := undef) rfl (by kernel_rfl) (by kernel_rfl) (by kernel_rfl) (fun _ _ _ h => h) (Or.inr ⟨by rfl, rfl⟩) hHeld ?_)
    (try simp only [List.getElem_toArray, List.getElem_cons_succ, List.getElem_cons_zero, Act.put, List.setIfInBounds_toArray, List.set_cons_zero, List.set_cons_succ])
    first
      | (refine wpAnyG_take hSG (i := 4)  (v := ?_) rfl (by kernel_rfl) (by kernel_rfl) (by kernel_rfl) (fun _ _ _ h => h) (YieldsIf.gives (Or.inl ⟨by rfl, ?_⟩)) hHeld ?_; rotate_left; focus (intro w' hSw; have e0 := grCell hSw e0; have e1 := grCell hSw e1; go_simp; (try with_reducible rfl)))
      | (refine wpAnyG_take hSG (i := 4)  (v := undef) rfl (by kernel_rfl) (by kernel_rfl) (by kernel_rfl) (fun _ _ _ h => h) (Or.inr ⟨by rfl, rfl⟩) hHeld ?_)
    (try simp only [List.getElem_toArray, List.getElem_cons_succ, List.getElem_cons_zero, Act.put, List.setIfInBounds_toArray, List.set_cons_zero, List.set_cons_succ])
    refine wpAnyG_take hSG (i := 5)  (v := .pointer (some ⟨g2, o2 + 1, none⟩)) rfl (by kernel_rfl) (by kernel_rfl) (by kernel_rfl) (fun _ _ _ h => h) (YieldsIf.gives (Or.inl ⟨by rfl, ?_⟩)) hHeld ?_
    focus (intro w' hSw; have e0 := grCell hSw e0; have e1 := grCell hSw e1; go_simp; (try (intro hq; omega)))
    (try simp only [List.getElem_toArray, List.getElem_cons_succ, List.getElem_cons_zero, Act.put, List.setIfInBounds_toArray, List.set_cons_zero, List.set_cons_succ])
    first
      | (refine wpAnyG_take hSG (i := 6)  (v := ?_) rfl (by kernel_rfl) (by kernel_rfl) (by kernel_rfl) (fun _ _ _ h => h) (YieldsIf.gives (Or.inl ⟨by rfl, ?_⟩)) hHeld ?_; rotate_left; focus (intro w' hSw; have e0 := grCell hSw e0; have e1 := grCell hSw e1; go_simp; (try with_reducible rfl)))
      | (refine wpAnyG_take hSG (i := 6)  (v := undef) rfl (by kernel_rfl) (by kernel_rfl) (by kernel_rfl) (fun _ _ _ h => h) (Or.inr ⟨by rfl, rfl⟩) hHeld ?_)
    (try simp only [List.getElem_toArray, List.getElem_cons_succ, List.getElem_cons_zero, Act.put, List.setIfInBounds_toArray, List.set_cons_zero, List.set_cons_succ])
    refine wpAnyG_ready (rs := [7]) (by kernel_rfl) (by simp) (AllG.cons rfl (fun w5 hgL K hK => ?_) AllG.nil)
    have hgL := (grDrew W2).tr hgL
    have e0 := grCell hgL e0
    have e1 := grCell hgL e1
    go_simp
    go_at_call 33; refine (HF.out _).mono ?_; rintro e w6 ⟨he, hb3⟩; simp only at he; subst he
    have HB6 := Lib.hid ((HB.out.trans (hgL.mono HB.out.size)).trans (hb3.mono (HB.out.trans (hgL.mono HB.out.size)).size))
    go_wp2
    exact ⟨rfl, rfl, HB6.out⟩
  · skip
    refine wp_region_G (S := fun wq => Gr W2 wq) (by kernel_rfl) (grDrew _) (fun hHeld => ?_)
    have hSG : Hid (∀ wp wq : World, Gr W2 wp → Gr wp wq → Gr W2 wq) := Lib.hid (fun _ _ h k => h.tr k)
    first
      | (refine wpAnyG_take hSG (i := 0)  (v := ?_) rfl (by kernel_rfl) (by kernel_rfl) (by kernel_rfl) (fun _ _ _ h => h) (YieldsIf.gives (Or.inl ⟨by rfl, ?_⟩)) hHeld ?_; rotate_left; focus (intro w' hSw; have e0 := grCell hSw e0; have e1 := grCell hSw e1; go_simp; (try with_reducible rfl)))
      | (refine wpAnyG_take hSG (i := 0)  (v := undef) rfl (by kernel_rfl) (by kernel_rfl) (by kernel_rfl) (fun _ _ _ h => h) (Or.inr ⟨by rfl, rfl⟩) hHeld ?_)
    (try simp only [List.getElem_toArray, List.getElem_cons_succ, List.getElem_cons_zero, Act.put, List.setIfInBounds_toArray, List.set_cons_zero, List.set_cons_succ])
    first
      | (refine wpAnyG_take hSG (i := 1)  (v := ?_) rfl (by kernel_rfl) (by kernel_rfl) (by kernel_rfl) (fun _ _ _ h => h) (YieldsIf.gives (Or.inl ⟨by rfl, ?_⟩)) hHeld ?_; rotate_left; focus (intro w' hSw; have e0 := grCell hSw e0; have e1 := grCell hSw e1; go_simp; (try with_reducible rfl)))
      | (refine wpAnyG_take hSG (i := 1)  (v := undef) rfl (by kernel_rfl) (by kernel_rfl) (by kernel_rfl) (fun _ _ _ h => h) (Or.inr ⟨by rfl, rfl⟩) hHeld ?_)
    (try simp only [List.getElem_toArray, List.getElem_cons_succ, List.getElem_cons_zero, Act.put, List.setIfInBounds_toArray, List.set_cons_zero, List.set_cons_succ])
    refine wpAnyG_take hSG (i := 2)  (v := .pointer (some ⟨g2, o2, none⟩)) rfl (by kernel_rfl) (by kernel_rfl) (by kernel_rfl) (fun _ _ _ h => h) (YieldsIf.gives (Or.inl ⟨by rfl, ?_⟩)) hHeld ?_
    focus (intro w' hSw; have e0 := grCell hSw e0; have e1 := grCell hSw e1; go_simp; (try (intro hq; omega)))
    (try simp only [List.getElem_toArray, List.getElem_cons_succ, List.getElem_cons_zero, Act.put, List.setIfInBounds_toArray, List.set_cons_zero, List.set_cons_succ])
    first
      | (refine wpAnyG_take hSG (i := 3)  (v := ?_) rfl (by kernel_rfl) (by kernel_rfl) (by kernel_rfl) (fun _ _ _ h => h) (YieldsIf.gives (Or.inl ⟨by rfl, ?_⟩)) hHeld ?_; rotate_left; focus (intro w' hSw; have e0 := grCell hSw e0; have e1 := grCell hSw e1; go_simp; (try with_reducible rfl)))
      | (refine wpAnyG_take hSG (i := 3)  (v := undef) rfl (by kernel_rfl) (by kernel_rfl) (by kernel_rfl) (fun _ _ _ h => h) (Or.inr ⟨by rfl, rfl⟩) hHeld ?_)
    (try simp only [List.getElem_toArray, List.getElem_cons_succ, List.getElem_cons_zero, Act.put, List.setIfInBounds_toArray, List.set_cons_zero, List.set_cons_succ])
    first
      | (refine wpAnyG_take hSG (i := 4)  (v := ?_) rfl (by kernel_rfl) (by kernel_rfl) (by kernel_rfl) (fun _ _ _ h => h) (YieldsIf.gives (Or.inl ⟨by rfl, ?_⟩)) hHeld ?_; rotate_left; focus (intro w' hSw; have e0 := grCell hSw e0; have e1 := grCell hSw e1; go_simp; (try with_reducible rfl)))
      | (refine wpAnyG_take hSG (i := 4)  (v := undef) rfl (by kernel_rfl) (by kernel_rfl) (by kernel_rfl) (fun _ _ _ h => h) (Or.inr ⟨by rfl, rfl⟩) hHeld ?_)
    (try simp only [List.getElem_toArray, List.getElem_cons_succ, List.getElem_cons_zero, Act.put, List.setIfInBounds_toArray, List.set_cons_zero, List.set_cons_succ])
    refine wpAnyG_take hSG (i := 5)  (v := .pointer (some ⟨g2, o2 + 1, none⟩)) rfl (by kernel_rfl) (by kernel_rfl) (by kernel_rfl) (fun _ _ _ h => h) (YieldsIf.gives (Or.inl ⟨by rfl, ?_⟩)) hHeld ?_
    focus (intro w' hSw; have e0 := grCell hSw e0; have e1 := grCell hSw e1; go_simp; (try (intro hq; omega)))
    (try simp only [List.getElem_toArray, List.getElem_cons_succ, List.getElem_cons_zero, Act.put, List.setIfInBounds_toArray, List.set_cons_zero, List.set_cons_succ])
    first
      | (refine wpAnyG_take hSG (i := 6)  (v := ?_) rfl (by kernel_rfl) (by kernel_rfl) (by kernel_rfl) (fun _ _ _ h => h) (YieldsIf.gives (Or.inl ⟨by rfl, ?_⟩)) hHeld ?_; rotate_left; focus (intro w' hSw; have e0 := grCell hSw e0; have e1 := grCell hSw e1; go_simp; (try with_reducible rfl)))
      | (refine wpAnyG_take hSG (i := 6)  (v := undef) rfl (by kernel_rfl) (by kernel_rfl) (by kernel_rfl) (fun _ _ _ h => h) (Or.inr ⟨by rfl, rfl⟩) hHeld ?_)
    (try simp only [List.getElem_toArray, List.getElem_cons_succ, List.getElem_cons_zero, Act.put, List.setIfInBounds_toArray, List.set_cons_zero, List.set_cons_succ])
    refine wpAnyG_take hSG (i := 7)  (v := .int .i64 q) rfl (by kernel_rfl) (by kernel_rfl) (by kernel_rfl) (fun _ _ _ h => h) (Or.inl ⟨by rfl, ?_⟩) hHeld ?_
    focus (intro wz hSw K hK; have e0 := grCell hSw e0; have e1 := grCell hSw e1; go_simp; go_at_call 33; refine (HF.out _).mono ?_; rintro e w2 ⟨he, hb2⟩; simp only at he; subst he; exact hK.out _ hb2)
    (try simp only [List.getElem_toArray, List.getElem_cons_succ, List.getElem_cons_zero, Act.put, List.setIfInBounds_toArray, List.set_cons_zero, List.set_cons_succ])
    first
      | (refine wpAnyG_take hSG (i := 8)  (v := ?_) rfl (by kernel_rfl) (by kernel_rfl) (by kernel_rfl) (fun _ _ _ h => h) (YieldsIf.gives (Or.inl ⟨by rfl, ?_⟩)) hHeld ?_; rotate_left; focus (intro w' hSw; have e0 := grCell hSw e0; have e1 := grCell hSw e1; go_simp; (try with_reducible rfl)))
      | (refine wpAnyG_take hSG (i := 8)  (v := undef) rfl (by kernel_rfl) (by kernel_rfl) (by kernel_rfl) (fun _ _ _ h => h) (Or.inr ⟨by rfl, rfl⟩) hHeld ?_)
    (try simp only [List.getElem_toArray, List.getElem_cons_succ, List.getElem_cons_zero, Act.put, List.setIfInBounds_toArray, List.set_cons_zero, List.set_cons_succ])
    refine wpAnyG_done (by kernel_rfl) (fun w5 hgD => ?_) _
    have hg5 : Gr W2 w5 := (grDrew W2).tr hgD
    clear hgD hSG hHeld
    have HB6 := Lib.hid (HB.out.trans (hg5.mono HB.out.size))
    go_wp2
    go_ret
    exact ⟨rfl, HB6.out⟩
set_option maxHeartbeats 4000000 in
set_option maxRecDepth 100000 in
theorem result_7 (st : List Int) (SA : Option Addr) (m : Nat) (i0 i1 i2 i3 : Int) (mb : Nat) (n u : Int) (ks : List Ex) (A : Option Addr) (c : Nat) (a b : Int) (NA : Option Addr) (nc : Nat) (w : World) (hO : OpsR w mb) (hN : IntsR w [a, b] NA) (ha : vN a = true) (hb : vN b = true) (hnc : 2 ≤ nc) :
    Calls Tryz.prog 38 #[.agg (rdA SA st.length m i0 i1 i2 i3 mb), aggE 7 n u A ks.length (ks.length + c), .slice NA 2 nc] w (IntP (opE 7 a b) w) := by
  obtain ⟨W2, hW2⟩ : ∃ W2, W2 = (w.alloc (.cells (rdA SA st.length m i0 i1 i2 i3 mb) 58)).alloc (.cells (arrE 7 n u A ks.length (ks.length + c)) 41) := ⟨_, rfl⟩
  have HB : Hid (Below w.heap.size w W2) := Lib.hid (by rw [hW2]; exact bAl2 _ _)
  have HR : Hid (W2.heap[w.heap.size]? = some (.cells (rdA SA st.length m i0 i1 i2 i3 mb) 58 (0, 0))) := Lib.hid (by rw [hW2]; exact (Below.heap_alloc _ _ _ (by simp)).trans (newBlk _ _ _ rfl))
  have HE : Hid (W2.heap[w.heap.size + 1]? = some (.cells (arrE 7 n u A ks.length (ks.length + c)) 41 (0, 0))) := Lib.hid (by rw [hW2]; exact newBlk _ _ _ (by simp))
  have hM2 := hO.gr HB.out
  obtain ⟨⟨r0, r1, r2, r3, r4, r5⟩, -⟩ := cells6 HR.out
  obtain ⟨⟨x0, x1, x2, x3⟩, -⟩ := C.cells4C HE.out
  have hv := map_get W2 mb es7 7 7 _ _ hM2 esN_7
  obtain ⟨g2, o2, rfl, hat⟩ := hN.addr (by simp)
  have e0 := grCell HB.out (hat 0 a rfl)
  have e1 := grCell HB.out (hat 1 b rfl)
  simp only [Nat.add_zero] at e0
  have HF := Lib.hid (fun wx => cDown_any a b ha hb wx)
  clear hO hM2 hN hat ha hb
  generalize opE 7 a b = r at *
  go_enter Tryz.func38, Tryz.ntmps38
  go_upto_region 1 with fail
  rw [← hW2]
  clear hW2
  go_upto_region 5 with (go_at_call 39; refine (need_any true _ _).mono ?_; rintro e w5 ⟨he, hw⟩; rw [hw]; clear hw; simp only [if_pos] at he; subst he)
  rcases r with er | q
  · skip
    refine wp_region_G (S := fun wq => Gr W2 wq) (by kernel_rfl) (grDrew _) (fun hHeld => ?_)
    have hSG : Hid (∀ wp wq : World, Gr W2 wp → Gr wp wq → Gr W2 wq) := Lib.hid (fun _ _ h k => h.tr k)
    first
      | (refine wpAnyG_take hSG (i := 0)  (v := ?_) rfl (by kernel_rfl) (by kernel_rfl) (by kernel_rfl) (fun _ _ _ h => h) (YieldsIf.gives (Or.inl ⟨by rfl, ?_⟩)) hHeld ?_; rotate_left; focus (intro w' hSw; have e0 := grCell hSw e0; have e1 := grCell hSw e1; go_simp; (try with_reducible rfl)))
      | (refine wpAnyG_take hSG (i := 0)  (v := undef) rfl (by kernel_rfl) (by kernel_rfl) (by kernel_rfl) (fun _ _ _ h => h) (Or.inr ⟨by rfl, rfl⟩) hHeld ?_)
    (try simp only [List.getElem_toArray, List.getElem_cons_succ, List.getElem_cons_zero, Act.put, List.setIfInBounds_toArray, List.set_cons_zero, List.set_cons_succ])
    first
      | (refine wpAnyG_take hSG (i := 1)  (v := ?_) rfl (by kernel_rfl) (by kernel_rfl) (by kernel_rfl) (fun _ _ _ h => h) (YieldsIf.gives (Or.inl ⟨by rfl, ?_⟩)) hHeld ?_; rotate_left; focus (intro w' hSw; have e0 := grCell hSw e0; have e1 := grCell hSw e1; go_simp; (try with_reducible rfl)))
      | (refine wpAnyG_take hSG (i := 1)  (v := undef) rfl (by kernel_rfl) (by kernel_rfl) (by kernel_rfl) (fun _ _ _ h => h) (Or.inr ⟨by rfl, rfl⟩) hHeld ?_)
    (try simp only [List.getElem_toArray, List.getElem_cons_succ, List.getElem_cons_zero, Act.put, List.setIfInBounds_toArray, List.set_cons_zero, List.set_cons_succ])
    refine wpAnyG_take hSG (i := 2)  (v := .pointer (some ⟨g2, o2, none⟩)) rfl (by kernel_rfl) (by kernel_rfl) (by kernel_rfl) (fun _ _ _ h => h) (YieldsIf.gives (Or.inl ⟨by rfl, ?_⟩)) hHeld ?_
    focus (intro w' hSw; have e0 := grCell hSw e0; have e1 := grCell hSw e1; go_simp; (try (intro hq; omega)))
    (try simp only [List.getElem_toArray, List.getElem_cons_succ, List.getElem_cons_zero, Act.put, List.setIfInBounds_toArray, List.set_cons_zero, List.set_cons_succ])
    first
      | (refine wpAnyG_take hSG (i := 3)  (v := ?_) rfl (by kernel_rfl) (by kernel_rfl) (by kernel_rfl) (fun _ _ _ h => h) (YieldsIf.gives (Or.inl ⟨by rfl, ?_⟩)) hHeld ?_; rotate_left; focus (intro w' hSw; have e0 := grCell hSw e0; have e1 := grCell hSw e1; go_simp; (try with_reducible rfl)))
      | (refine wpAnyG_take hSG (i := 3)  (v := undef) rfl (by kernel_rfl) (by kernel_rfl) (by kernel_rfl) (fun _ _ _ h => h) (Or.inr ⟨by rfl, rfl⟩) hHeld ?_)
    (try simp only [List.getElem_toArray, List.getElem_cons_succ, List.getElem_cons_zero, Act.put, List.setIfInBounds_toArray, List.set_cons_zero, List.set_cons_succ])
    first
      | (refine wpAnyG_take hSG (i := 4)  (v := ?_) rfl (by kernel_rfl) (by kernel_rfl) (by kernel_rfl) (fun _ _ _ h => h) (YieldsIf.gives (Or.inl ⟨by rfl, ?_⟩)) hHeld ?_; rotate_left; focus (intro w' hSw; have e0 := grCell hSw e0; have e1 := grCell hSw e1; go_simp; (try with_reducible rfl)))
      | (refine wpAnyG_take hSG (i := 4)  (v := undef) rfl (by kernel_rfl) (by kernel_rfl) (by kernel_rfl) (fun _ _ _ h => h) (Or.inr ⟨by rfl, rfl⟩) hHeld ?_)
    (try simp only [List.getElem_toArray, List.getElem_cons_succ, List.getElem_cons_zero, Act.put, List.setIfInBounds_toArray, List.set_cons_zero, List.set_cons_succ])
    refine wpAnyG_take hSG (i := 5)  (v := .pointer (some ⟨g2, o2 + 1, none⟩)) rfl (by kernel_rfl) (by kernel_rfl) (by kernel_rfl) (fun _ _ _ h => h) (YieldsIf.gives (Or.inl ⟨by rfl, ?_⟩)) hHeld ?_
    focus (intro w' hSw; have e0 := grCell hSw e0; have e1 := grCell hSw e1; go_simp; (try (intro hq; omega)))
    (try simp only [List.getElem_toArray, List.getElem_cons_succ, List.getElem_cons_zero, Act.put, List.setIfInBounds_toArray, List.set_cons_zero, List.set_cons_succ])
    first
      | (refine wpAnyG_take hSG (i := 6)  (v := ?_) rfl (by kernel_rfl) (by kernel_rfl) (by kernel_rfl) (fun _ _ _ h => h) (YieldsIf.gives (Or.inl ⟨by rfl, ?_⟩)) hHeld ?_; rotate_left; focus (intro w' hSw; have e0 := grCell hSw e0; have e1 := grCell hSw e1; go_simp; (try with_reducible rfl)))
      | (refine wpAnyG_take hSG (i := 6)  (v := undef) rfl (by kernel_rfl) (by kernel_rfl) (by kernel_rfl) (fun _ _ _ h => h) (Or.inr ⟨by rfl, rfl⟩) hHeld ?_)
    (try simp only [List.getElem_toArray, List.getElem_cons_succ, List.getElem_cons_zero, Act.put, List.setIfInBounds_toArray, List.set_cons_zero, List.set_cons_succ])
    refine wpAnyG_ready (rs := [7]) (by kernel_rfl) (by simp) (AllG.cons rfl (fun w5 hgL K hK => ?_) AllG.nil)
    have hgL := (grDrew W2).tr hgL
    have e0 := grCell hgL e0
    have e1 := grCell hgL e1
    go_simp
    go_at_call 34; refine (HF.out _).mono ?_; rintro e w6 ⟨he, hb3⟩; simp only at he; subst he
    have HB6 := Lib.hid ((HB.out.trans (hgL.mono HB.out.size)).trans (hb3.mono (HB.out.trans (hgL.mono HB.out.size)).size))
    go_wp2
    exact ⟨rfl, rfl, HB6.out⟩
  · skip
    refine wp_region_G (S := fun wq => Gr W2 wq) (by kernel_rfl) (grDrew _) (fun hHeld => ?_)
    have hSG : Hid (∀ wp wq : World, Gr W2 wp → Gr wp wq → Gr W2 wq) := Lib.hid (fun _ _ h k => h.tr k)
    first
      | (refine wpAnyG_take hSG (i := 0)  (v := ?_) rfl (by kernel_rfl) (by kernel_rfl) (by kernel_rfl) (fun _ _ _ h => h) (YieldsIf.gives (Or.inl ⟨by rfl, ?_⟩)) hHeld ?_; rotate_left; focus (intro w' hSw; have e0 := grCell hSw e0; have e1 := grCell hSw e1; go_simp; (try with_reducible rfl)))
      | (refine wpAnyG_take hSG (i := 0)  (v := undef) rfl (by kernel_rfl) (by kernel_rfl) (by kernel_rfl) (fun _ _ _ h => h) (Or.inr ⟨by rfl, rfl⟩) hHeld ?_)
    (try simp only [List.getElem_toArray, List.getElem_cons_succ, List.getElem_cons_zero, Act.put, List.setIfInBounds_toArray, List.set_cons_zero, List.set_cons_succ])
    first
      | (refine wpAnyG_take hSG (i := 1)  (v := ?_) rfl (by kernel_rfl) (by kernel_rfl) (by kernel_rfl) (fun _ _ _ h => h) (YieldsIf.gives (Or.inl ⟨by rfl, ?_⟩)) hHeld ?_; rotate_left; focus (intro w' hSw; have e0 := grCell hSw e0; have e1 := grCell hSw e1; go_simp; (try with_reducible rfl)))
      | (refine wpAnyG_take hSG (i := 1)  (v := undef) rfl (by kernel_rfl) (by kernel_rfl) (by kernel_rfl) (fun _ _ _ h => h) (Or.inr ⟨by rfl, rfl⟩) hHeld ?_)
    (try simp only [List.getElem_toArray, List.getElem_cons_succ, List.getElem_cons_zero, Act.put, List.setIfInBounds_toArray, List.set_cons_zero, List.set_cons_succ])
    refine wpAnyG_take hSG (i := 2)  (v := .pointer (some ⟨g2, o2, none⟩)) rfl (by kernel_rfl) (by kernel_rfl) (by kernel_rfl) (fun _ _ _ h => h) (YieldsIf.gives (Or.inl ⟨by rfl, ?_⟩)) hHeld ?_
    focus (intro w' hSw; have e0 := grCell hSw e0; have e1 := grCell hSw e1; go_simp; (try (intro hq; omega)))
    (try simp only [List.getElem_toArray, List.getElem_cons_succ, List.getElem_cons_zero, Act.put, List.setIfInBounds_toArray, List.set_cons_zero, List.set_cons_succ])
    first
      | (refine wpAnyG_take hSG (i := 3)  (v := ?_) rfl (by kernel_rfl) (by kernel_rfl) (by kernel_rfl) (fun _ _ _ h => h) (YieldsIf.gives (Or.inl ⟨by rfl, ?_⟩)) hHeld ?_; rotate_left; focus (intro w' hSw; have e0 := grCell hSw e0; have e1 := grCell hSw e1; go_simp; (try with_reducible rfl)))
      | (refine wpAnyG_take hSG (i := 3)  (v := undef) rfl (by kernel_rfl) (by kernel_rfl) (by kernel_rfl) (fun _ _ _ h => h) (Or.inr ⟨by rfl, rfl⟩) hHeld ?_)
    (try simp only [List.getElem_toArray, List.getElem_cons_succ, List.getElem_cons_zero, Act.put, List.setIfInBounds_toArray, List.set_cons_zero, List.set_cons_succ])
    first
      | (refine wpAnyG_take hSG (i := 4)  (v := ?_) rfl (by kernel_rfl) (by kernel_rfl) (by kernel_rfl) (fun _ _ _ h => h) (YieldsIf.gives (Or.inl ⟨by rfl, ?_⟩)) hHeld ?_; rotate_left; focus (intro w' hSw; have e0 := grCell hSw e0; have e1 := grCell hSw e1; go_simp; (try with_reducible rfl)))
      | (refine wpAnyG_take hSG (i := 4)  (v := undef) rfl (by kernel_rfl) (by kernel_rfl) (by kernel_rfl) (fun _ _ _ h => h) (Or.inr ⟨by rfl, rfl⟩) hHeld ?_)
    (try simp only [List.getElem_toArray, List.getElem_cons_succ, List.getElem_cons_zero, Act.put, List.setIfInBounds_toArray, List.set_cons_zero, List.set_cons_succ])
    refine wpAnyG_take hSG (i := 5)  (v := .pointer (some ⟨g2, o2 + 1, none⟩)) rfl (by kernel_rfl) (by kernel_rfl) (by kernel_rfl) (fun _ _ _ h => h) (YieldsIf.gives (Or.inl ⟨by rfl, ?_⟩)) hHeld ?_
    focus (intro w' hSw; have e0 := grCell hSw e0; have e1 := grCell hSw e1; go_simp; (try (intro hq; omega)))
    (try simp only [List.getElem_toArray, List.getElem_cons_succ, List.getElem_cons_zero, Act.put, List.setIfInBounds_toArray, List.set_cons_zero, List.set_cons_succ])
    first
      | (refine wpAnyG_take hSG (i := 6)  (v := ?_) rfl (by kernel_rfl) (by kernel_rfl) (by kernel_rfl) (fun _ _ _ h => h) (YieldsIf.gives (Or.inl ⟨by rfl, ?_⟩)) hHeld ?_; rotate_left; focus (intro w' hSw; have e0 := grCell hSw e0; have e1 := grCell hSw e1; go_simp; (try with_reducible rfl)))
      | (refine wpAnyG_take hSG (i := 6)  (v := undef) rfl (by kernel_rfl) (by kernel_rfl) (by kernel_rfl) (fun _ _ _ h => h) (Or.inr ⟨by rfl, rfl⟩) hHeld ?_)
    (try simp only [List.getElem_toArray, List.getElem_cons_succ, List.getElem_cons_zero, Act.put, List.setIfInBounds_toArray, List.set_cons_zero, List.set_cons_succ])
    refine wpAnyG_take hSG (i := 7)  (v := .int .i64 q) rfl (by kernel_rfl) (by kernel_rfl) (by kernel_rfl) (fun _ _ _ h => h) (Or.inl ⟨by rfl, ?_⟩) hHeld ?_
    focus (intro wz hSw K hK; have e0 := grCell hSw e0; have e1 := grCell hSw e1; go_simp; go_at_call 34; refine (HF.out _).mono ?_; rintro e w2 ⟨he, hb2⟩; simp only at he; subst he; exact hK.out _ hb2)
    (try simp only [List.getElem_toArray, List.getElem_cons_succ, List.getElem_cons_zero, Act.put, List.setIfInBounds_toArray, List.set_cons_zero, List.set_cons_succ])
    first
      | (refine wpAnyG_take hSG (i := 8)  (v := ?_) rfl (by kernel_rfl) (by kernel_rfl) (by kernel_rfl) (fun _ _ _ h => h) (YieldsIf.gives (Or.inl ⟨by rfl, ?_⟩)) hHeld ?_; rotate_left; focus (intro w' hSw; have e0 := grCell hSw e0; have e1 := grCell hSw e1; go_simp; (try with_reducible rfl)))
      | (refine wpAnyG_take hSG (i := 8)  (v := undef) rfl (by kernel_rfl) (by kernel_rfl) (by kernel_rfl) (fun _ _ _ h => h) (Or.inr ⟨by rfl, rfl⟩) hHeld ?_)
    (try simp only [List.getElem_toArray, List.getElem_cons_succ, List.getElem_cons_zero, Act.put, List.setIfInBounds_toArray, List.set_cons_zero, List.set_cons_succ])
    refine wpAnyG_done (by kernel_rfl) (fun w5 hgD => ?_) _
    have hg5 : Gr W2 w5 := (grDrew W2).tr hgD
    clear hgD hSG hHeld
    have HB6 := Lib.hid (HB.out.trans (hg5.mono HB.out.size))
    go_wp2
    go_ret
    exact ⟨rfl, HB6.out⟩
set_option maxHeartbeats 4000000 in
set_option maxRecDepth 100000 in
theorem result_8 (st : List Int) (SA : Option Addr) (m : Nat) (i0 i1 i2 i3 : Int) (mb : Nat) (n u : Int) (ks : List Ex) (A : Option Addr) (c : Nat) (a b : Int) (NA : Option Addr) (nc : Nat) (w : World) (hO : OpsR w mb) (hN : IntsR w [a, b] NA) (ha : vN a = true) (hb : vN b = true) (hnc : 2 ≤ nc) :
    Calls Tryz.prog 38 #[.agg (rdA SA st.length m i0 i1 i2 i3 mb), aggE 8 n u A ks.length (ks.length + c), .slice NA 2 nc] w (IntP (opE 8 a b) w) := by
  obtain ⟨W2, hW2⟩ : ∃ W2, W2 = (w.alloc (.cells (rdA SA st.length m i0 i1 i2 i3 mb) 58)).alloc (.cells (arrE 8 n u A ks.length (ks.length + c)) 41) := ⟨_, rfl⟩
  have HB : Hid (Below w.heap.size w W2) := Lib.hid (by rw [hW2]; exact bAl2 _ _)
  have HR : Hid (W2.heap[w.heap.size]? = some (.cells (rdA SA st.length m i0 i1 i2 i3 mb) 58 (0, 0))) := Lib.hid (by rw [hW2]; exact (Below.heap_alloc _ _ _ (by simp)).trans (newBlk _ _ _ rfl))
  have HE : Hid (W2.heap[w.heap.size + 1]? = some (.cells (arrE 8 n u A ks.length (ks.length + c)) 41 (0, 0))) := Lib.hid (by rw [hW2]; exact newBlk _ _ _ (by simp))
  have hM2 := hO.gr HB.out
  obtain ⟨⟨r0, r1, r2, r3, r4, r5⟩, -⟩ := cells6 HR.out
  obtain ⟨⟨x0, x1, x2, x3⟩, -⟩ := C.cells4C HE.out
  have hv := map_get W2 mb es7 7 8 _ _ hM2 esN_8
  obtain ⟨g2, o2, rfl, hat⟩ := hN.addr (by simp)
  have e0 := grCell HB.out (hat 0 a rfl)
  have e1 := grCell HB.out (hat 1 b rfl)
  simp only [Nat.add_zero] at e0
  have HF := Lib.hid (fun wx => cUp_any a b ha hb wx)
  clear hO hM2 hN hat ha hb
  generalize opE 8 a b = r at *
  go_enter Tryz.func38, Tryz.ntmps38
  go_upto_region 1 with fail
  rw [← hW2]
  clear hW2
  go_upto_region 5 with (go_at_call 39; refine (need_any true _ _).mono ?_; rintro e w5 ⟨he, hw⟩; rw [hw]; clear hw; simp only [if_pos] at he; subst he)
  rcases r with er | q
  · skip
    refine wp_region_G (S := fun wq => Gr W2 wq) (by kernel_rfl) (grDrew _) (fun hHeld => ?_)
    have hSG : Hid (∀ wp wq : World, Gr W2 wp → Gr wp wq → Gr W2 wq) := Lib.hid (fun _ _ h k => h.tr k)
    first
      | (refine wpAnyG_take hSG (i := 0)  (v := ?_) rfl (by kernel_rfl) (by kernel_rfl) (by kernel_rfl) (fun _ _ _ h => h) (YieldsIf.gives (Or.inl ⟨by rfl, ?_⟩)) hHeld ?_; rotate_left; focus (intro w' hSw; have e0 := grCell hSw e0; have e1 := grCell hSw e1; go_simp; (try with_reducible rfl)))
      | (refine wpAnyG_take hSG (i := 0)  (v := undef) rfl (by kernel_rfl) (by kernel_rfl) (by kernel_rfl) (fun _ _ _ h => h) (Or.inr ⟨by rfl, rfl⟩) hHeld ?_)
    (try simp only [List.getElem_toArray, List.getElem_cons_succ, List.getElem_cons_zero, Act.put, List.setIfInBounds_toArray, List.set_cons_zero, List.set_cons_succ])
    first
      | (refine wpAnyG_take hSG (i := 1)  (v := ?_) rfl (by kernel_rfl) (by kernel_rfl) (by kernel_rfl) (fun _ _ _ h => h) (YieldsIf.gives (Or.inl ⟨by rfl, ?_⟩)) hHeld ?_; rotate_left; focus (intro w' hSw; have e0 := grCell hSw e0; have e1 := grCell hSw e1; go_simp; (try with_reducible rfl)))
      | (refine wpAnyG_take hSG (i := 1)  (v := undef) rfl (by kernel_rfl) (by kernel_rfl) (by kernel_rfl) (fun _ _ _ h => h) (Or.inr ⟨by rfl, rfl⟩) hHeld ?_)
    (try simp only [List.getElem_toArray, List.getElem_cons_succ, List.getElem_cons_zero, Act.put, List.setIfInBounds_toArray, List.set_cons_zero, List.set_cons_succ])
    refine wpAnyG_take hSG (i := 2)  (v := .pointer (some ⟨g2, o2, none⟩)) rfl (by kernel_rfl) (by kernel_rfl) (by kernel_rfl) (fun _ _ _ h => h) (YieldsIf.gives (Or.inl ⟨by rfl, ?_⟩)) hHeld ?_
    focus (intro w' hSw; have e0 := grCell hSw e0; have e1 := grCell hSw e1; go_simp; (try (intro hq; omega)))
    (try simp only [List.getElem_toArray, List.getElem_cons_succ, List.getElem_cons_zero, Act.put, List.setIfInBounds_toArray, List.set_cons_zero, List.set_cons_succ])
    first
      | (refine wpAnyG_take hSG (i := 3)  (v := ?_) rfl (by kernel_rfl) (by kernel_rfl) (by kernel_rfl) (fun _ _ _ h => h) (YieldsIf.gives (Or.inl ⟨by rfl, ?_⟩)) hHeld ?_; rotate_left; focus (intro w' hSw; have e0 := grCell hSw e0; have e1 := grCell hSw e1; go_simp; (try with_reducible rfl)))
      | (refine wpAnyG_take hSG (i := 3)  (v := undef) rfl (by kernel_rfl) (by kernel_rfl) (by kernel_rfl) (fun _ _ _ h => h) (Or.inr ⟨by rfl, rfl⟩) hHeld ?_)
    (try simp only [List.getElem_toArray, List.getElem_cons_succ, List.getElem_cons_zero, Act.put, List.setIfInBounds_toArray, List.set_cons_zero, List.set_cons_succ])
    first
      | (refine wpAnyG_take hSG (i := 4)  (v := ?_) rfl (by kernel_rfl) (by kernel_rfl) (by kernel_rfl) (fun _ _ _ h => h) (YieldsIf.gives (Or.inl ⟨by rfl, ?_⟩)) hHeld ?_; rotate_left; focus (intro w' hSw; have e0 := grCell hSw e0; have e1 := grCell hSw e1; go_simp; (try with_reducible rfl)))
      | (refine wpAnyG_take hSG (i := 4)  (v := undef) rfl (by kernel_rfl) (by kernel_rfl) (by kernel_rfl) (fun _ _ _ h => h) (Or.inr ⟨by rfl, rfl⟩) hHeld ?_)
    (try simp only [List.getElem_toArray, List.getElem_cons_succ, List.getElem_cons_zero, Act.put, List.setIfInBounds_toArray, List.set_cons_zero, List.set_cons_succ])
    refine wpAnyG_take hSG (i := 5)  (v := .pointer (some ⟨g2, o2 + 1, none⟩)) rfl (by kernel_rfl) (by kernel_rfl) (by kernel_rfl) (fun _ _ _ h => h) (YieldsIf.gives (Or.inl ⟨by rfl, ?_⟩)) hHeld ?_
    focus (intro w' hSw; have e0 := grCell hSw e0; have e1 := grCell hSw e1; go_simp; (try (intro hq; omega)))
    (try simp only [List.getElem_toArray, List.getElem_cons_succ, List.getElem_cons_zero, Act.put, List.setIfInBounds_toArray, List.set_cons_zero, List.set_cons_succ])
    first
      | (refine wpAnyG_take hSG (i := 6)  (v := ?_) rfl (by kernel_rfl) (by kernel_rfl) (by kernel_rfl) (fun _ _ _ h => h) (YieldsIf.gives (Or.inl ⟨by rfl, ?_⟩)) hHeld ?_; rotate_left; focus (intro w' hSw; have e0 := grCell hSw e0; have e1 := grCell hSw e1; go_simp; (try with_reducible rfl)))
      | (refine wpAnyG_take hSG (i := 6)  (v := undef) rfl (by kernel_rfl) (by kernel_rfl) (by kernel_rfl) (fun _ _ _ h => h) (Or.inr ⟨by rfl, rfl⟩) hHeld ?_)
    (try simp only [List.getElem_toArray, List.getElem_cons_succ, List.getElem_cons_zero, Act.put, List.setIfInBounds_toArray, List.set_cons_zero, List.set_cons_succ])
    refine wpAnyG_ready (rs := [7]) (by kernel_rfl) (by simp) (AllG.cons rfl (fun w5 hgL K hK => ?_) AllG.nil)
    have hgL := (grDrew W2).tr hgL
    have e0 := grCell hgL e0
    have e1 := grCell hgL e1
    go_simp
    go_at_call 35; refine (HF.out _).mono ?_; rintro e w6 ⟨he, hb3⟩; simp only at he; subst he
    have HB6 := Lib.hid ((HB.out.trans (hgL.mono HB.out.size)).trans (hb3.mono (HB.out.trans (hgL.mono HB.out.size)).size))
    go_wp2
    exact ⟨rfl, rfl, HB6.out⟩
  · skip
    refine wp_region_G (S := fun wq => Gr W2 wq) (by kernel_rfl) (grDrew _) (fun hHeld => ?_)
    have hSG : Hid (∀ wp wq : World, Gr W2 wp → Gr wp wq → Gr W2 wq) := Lib.hid (fun _ _ h k => h.tr k)
    first
      | (refine wpAnyG_take hSG (i := 0)  (v := ?_) rfl (by kernel_rfl) (by kernel_rfl) (by kernel_rfl) (fun _ _ _ h => h) (YieldsIf.gives (Or.inl ⟨by rfl, ?_⟩)) hHeld ?_; rotate_left; focus (intro w' hSw; have e0 := grCell hSw e0; have e1 := grCell hSw e1; go_simp; (try with_reducible rfl)))
      | (refine wpAnyG_take hSG (i := 0)  (v := undef) rfl (by kernel_rfl) (by kernel_rfl) (by kernel_rfl) (fun _ _ _ h => h) (Or.inr ⟨by rfl, rfl⟩) hHeld ?_)
    (try simp only [List.getElem_toArray, List.getElem_cons_succ, List.getElem_cons_zero, Act.put, List.setIfInBounds_toArray, List.set_cons_zero, List.set_cons_succ])
    first
      | (refine wpAnyG_take hSG (i := 1)  (v := ?_) rfl (by kernel_rfl) (by kernel_rfl) (by kernel_rfl) (fun _ _ _ h => h) (YieldsIf.gives (Or.inl ⟨by rfl, ?_⟩)) hHeld ?_; rotate_left; focus (intro w' hSw; have e0 := grCell hSw e0; have e1 := grCell hSw e1; go_simp; (try with_reducible rfl)))
      | (refine wpAnyG_take hSG (i := 1)  (v := undef) rfl (by kernel_rfl) (by kernel_rfl) (by kernel_rfl) (fun _ _ _ h => h) (Or.inr ⟨by rfl, rfl⟩) hHeld ?_)
    (try simp only [List.getElem_toArray, List.getElem_cons_succ, List.getElem_cons_zero, Act.put, List.setIfInBounds_toArray, List.set_cons_zero, List.set_cons_succ])
    refine wpAnyG_take hSG (i := 2)  (v := .pointer (some ⟨g2, o2, none⟩)) rfl (by kernel_rfl) (by kernel_rfl) (by kernel_rfl) (fun _ _ _ h => h) (YieldsIf.gives (Or.inl ⟨by rfl, ?_⟩)) hHeld ?_
    focus (intro w' hSw; have e0 := grCell hSw e0; have e1 := grCell hSw e1; go_simp; (try (intro hq; omega)))
    (try simp only [List.getElem_toArray, List.getElem_cons_succ, List.getElem_cons_zero, Act.put, List.setIfInBounds_toArray, List.set_cons_zero, List.set_cons_succ])
    first
      | (refine wpAnyG_take hSG (i := 3)  (v := ?_) rfl (by kernel_rfl) (by kernel_rfl) (by kernel_rfl) (fun _ _ _ h => h) (YieldsIf.gives (Or.inl ⟨by rfl, ?_⟩)) hHeld ?_; rotate_left; focus (intro w' hSw; have e0 := grCell hSw e0; have e1 := grCell hSw e1; go_simp; (try with_reducible rfl)))
      | (refine wpAnyG_take hSG (i := 3)  (v := undef) rfl (by kernel_rfl) (by kernel_rfl) (by kernel_rfl) (fun _ _ _ h => h) (Or.inr ⟨by rfl, rfl⟩) hHeld ?_)
    (try simp only [List.getElem_toArray, List.getElem_cons_succ, List.getElem_cons_zero, Act.put, List.setIfInBounds_toArray, List.set_cons_zero, List.set_cons_succ])
    first
      | (refine wpAnyG_take hSG (i := 4)  (v := ?_) rfl (by kernel_rfl) (by kernel_rfl) (by kernel_rfl) (fun _ _ _ h => h) (YieldsIf.gives (Or.inl ⟨by rfl, ?_⟩)) hHeld ?_; rotate_left; focus (intro w' hSw; have e0 := grCell hSw e0; have e1 := grCell hSw e1; go_simp; (try with_reducible rfl)))
      | (refine wpAnyG_take hSG (i := 4)  (v := undef) rfl (by kernel_rfl) (by kernel_rfl) (by kernel_rfl) (fun _ _ _ h => h) (Or.inr ⟨by rfl, rfl⟩) hHeld ?_)
    (try simp only [List.getElem_toArray, List.getElem_cons_succ, List.getElem_cons_zero, Act.put, List.setIfInBounds_toArray, List.set_cons_zero, List.set_cons_succ])
    refine wpAnyG_take hSG (i := 5)  (v := .pointer (some ⟨g2, o2 + 1, none⟩)) rfl (by kernel_rfl) (by kernel_rfl) (by kernel_rfl) (fun _ _ _ h => h) (YieldsIf.gives (Or.inl ⟨by rfl, ?_⟩)) hHeld ?_
    focus (intro w' hSw; have e0 := grCell hSw e0; have e1 := grCell hSw e1; go_simp; (try (intro hq; omega)))
    (try simp only [List.getElem_toArray, List.getElem_cons_succ, List.getElem_cons_zero, Act.put, List.setIfInBounds_toArray, List.set_cons_zero, List.set_cons_succ])
    first
      | (refine wpAnyG_take hSG (i := 6)  (v := ?_) rfl (by kernel_rfl) (by kernel_rfl) (by kernel_rfl) (fun _ _ _ h => h) (YieldsIf.gives (Or.inl ⟨by rfl, ?_⟩)) hHeld ?_; rotate_left; focus (intro w' hSw; have e0 := grCell hSw e0; have e1 := grCell hSw e1; go_simp; (try with_reducible rfl)))
      | (refine wpAnyG_take hSG (i := 6)  (v := undef) rfl (by kernel_rfl) (by kernel_rfl) (by kernel_rfl) (fun _ _ _ h => h) (Or.inr ⟨by rfl, rfl⟩) hHeld ?_)
    (try simp only [List.getElem_toArray, List.getElem_cons_succ, List.getElem_cons_zero, Act.put, List.setIfInBounds_toArray, List.set_cons_zero, List.set_cons_succ])
    refine wpAnyG_take hSG (i := 7)  (v := .int .i64 q) rfl (by kernel_rfl) (by kernel_rfl) (by kernel_rfl) (fun _ _ _ h => h) (Or.inl ⟨by rfl, ?_⟩) hHeld ?_
    focus (intro wz hSw K hK; have e0 := grCell hSw e0; have e1 := grCell hSw e1; go_simp; go_at_call 35; refine (HF.out _).mono ?_; rintro e w2 ⟨he, hb2⟩; simp only at he; subst he; exact hK.out _ hb2)
    (try simp only [List.getElem_toArray, List.getElem_cons_succ, List.getElem_cons_zero, Act.put, List.setIfInBounds_toArray, List.set_cons_zero, List.set_cons_succ])
    first
      | (refine wpAnyG_take hSG (i := 8)  (v := ?_) rfl (by kernel_rfl) (by kernel_rfl) (by kernel_rfl) (fun _ _ _ h => h) (YieldsIf.gives (Or.inl ⟨by rfl, ?_⟩)) hHeld ?_; rotate_left; focus (intro w' hSw; have e0 := grCell hSw e0; have e1 := grCell hSw e1; go_simp; (try with_reducible rfl)))
      | (refine wpAnyG_take hSG (i := 8)  (v := undef) rfl (by kernel_rfl) (by kernel_rfl) (by kernel_rfl) (fun _ _ _ h => h) (Or.inr ⟨by rfl, rfl⟩) hHeld ?_)
    (try simp only [List.getElem_toArray, List.getElem_cons_succ, List.getElem_cons_zero, Act.put, List.setIfInBounds_toArray, List.set_cons_zero, List.set_cons_succ])
    refine wpAnyG_done (by kernel_rfl) (fun w5 hgD => ?_) _
    have hg5 : Gr W2 w5 := (grDrew W2).tr hgD
    clear hgD hSG hHeld
    have HB6 := Lib.hid (HB.out.trans (hg5.mono HB.out.size))
    go_wp2
    go_ret
    exact ⟨rfl, HB6.out⟩
set_option maxHeartbeats 4000000 in
set_option maxRecDepth 100000 in
theorem result_9 (st : List Int) (SA : Option Addr) (m : Nat) (i0 i1 i2 i3 : Int) (mb : Nat) (n u : Int) (ks : List Ex) (A : Option Addr) (c : Nat) (a b : Int) (NA : Option Addr) (nc : Nat) (w : World) (hO : OpsR w mb) (hN : IntsR w [a, b] NA) (ha : vN a = true) (hb : vN b = true) (hnc : 2 ≤ nc) :
    Calls Tryz.prog 38 #[.agg (rdA SA st.length m i0 i1 i2 i3 mb), aggE 9 n u A ks.length (ks.length + c), .slice NA 2 nc] w (IntP (opE 9 a b) w) := by
  obtain ⟨W2, hW2⟩ : ∃ W2, W2 = (w.alloc (.cells (rdA SA st.length m i0 i1 i2 i3 mb) 58)).alloc (.cells (arrE 9 n u A ks.length (ks.length + c)) 41) := ⟨_, rfl⟩
  have HB : Hid (Below w.heap.size w W2) := Lib.hid (by rw [hW2]; exact bAl2 _ _)
  have HR : Hid (W2.heap[w.heap.size]? = some (.cells (rdA SA st.length m i0 i1 i2 i3 mb) 58 (0, 0))) := Lib.hid (by rw [hW2]; exact (Below.heap_alloc _ _ _ (by simp)).trans (newBlk _ _ _ rfl))
  have HE : Hid (W2.heap[w.heap.size + 1]? = some (.cells (arrE 9 n u A ks.length (ks.length + c)) 41 (0, 0))) := Lib.hid (by rw [hW2]; exact newBlk _ _ _ (by simp))
  have hM2 := hO.gr HB.out
  obtain ⟨⟨r0, r1, r2, r3, r4, r5⟩, -⟩ := cells6 HR.out
  obtain ⟨⟨x0, x1, x2, x3⟩, -⟩ := C.cells4C HE.out
  have hv := map_get W2 mb es7 7 9 _ _ hM2 esN_9
  obtain ⟨g2, o2, rfl, hat⟩ := hN.addr (by simp)
  have e0 := grCell HB.out (hat 0 a rfl)
  have e1 := grCell HB.out (hat 1 b rfl)
  simp only [Nat.add_zero] at e0
  have HF := Lib.hid (fun wx => cMin_any a b ha hb wx)
  clear hO hM2 hN hat ha hb
  generalize opE 9 a b = r at *
  go_enter Tryz.func38, Tryz.ntmps38
  go_upto_region 1 with fail
  rw [← hW2]
  clear hW2
  go_upto_region 5 with (go_at_call 39; refine (need_any true _ _).mono ?_; rintro e w5 ⟨he, hw⟩; rw [hw]; clear hw; simp only [if_pos] at he; subst he)
  rcases r with er | q
  · skip
    refine wp_region_G (S := fun wq => Gr W2 wq) (by kernel_rfl) (grDrew _) (fun hHeld => ?_)
    have hSG : Hid (∀ wp wq : World, Gr W2 wp → Gr wp wq → Gr W2 wq) := Lib.hid (fun _ _ h k => h.tr k)
    first
      | (refine wpAnyG_take hSG (i := 0)  (v := ?_) rfl (by kernel_rfl) (by kernel_rfl) (by kernel_rfl) (fun _ _ _ h => h) (YieldsIf.gives (Or.inl ⟨by rfl, ?_⟩)) hHeld ?_; rotate_left; focus (intro w' hSw; have e0 := grCell hSw e0; have e1 := grCell hSw e1; go_simp; (try with_reducible rfl)))
      | (refine wpAnyG_take hSG (i := 0)  (v := undef) rfl (by kernel_rfl) (by kernel_rfl) (by kernel_rfl) (fun _ _ _ h => h) (Or.inr ⟨by rfl, rfl⟩) hHeld ?_)
    (try simp only [List.getElem_toArray, List.getElem_cons_succ, List.getElem_cons_zero, Act.put, List.setIfInBounds_toArray, List.set_cons_zero, List.set_cons_succ])
    first
      | (refine wpAnyG_take hSG (i := 1)  (v := ?_) rfl (by kernel_rfl) (by kernel_rfl) (by kernel_rfl) (fun _ _ _ h => h) (YieldsIf.gives (Or.inl ⟨by rfl, ?_⟩)) hHeld ?_; rotate_left; focus (intro w' hSw; have e0 := grCell hSw e0; have e1 := grCell hSw e1; go_simp; (try with_reducible rfl)))
      | (refine wpAnyG_take hSG (i := 1)  (v := undef) rfl (by kernel_rfl) (by kernel_rfl) (by kernel_rfl) (fun _ _ _ h => h) (Or.inr ⟨by rfl, rfl⟩) hHeld ?_)
    (try simp only [List.getElem_toArray, List.getElem_cons_succ, List.getElem_cons_zero, Act.put, List.setIfInBounds_toArray, List.set_cons_zero, List.set_cons_succ])
    refine wpAnyG_take hSG (i := 2)  (v := .pointer (some ⟨g2, o2, none⟩)) rfl (by kernel_rfl) (by kernel_rfl) (by kernel_rfl) (fun _ _ _ h => h) (YieldsIf.gives (Or.inl ⟨by rfl, ?_⟩)) hHeld ?_
    focus (intro w' hSw; have e0 := grCell hSw e0; have e1 := grCell hSw e1; go_simp; (try (intro hq; omega)))
    (try simp only [List.getElem_toArray, List.getElem_cons_succ, List.getElem_cons_zero, Act.put, List.setIfInBounds_toArray, List.set_cons_zero, List.set_cons_succ])
    first
      | (refine wpAnyG_take hSG (i := 3)  (v := ?_) rfl (by kernel_rfl) (by kernel_rfl) (by kernel_rfl) (fun _ _ _ h => h) (YieldsIf.gives (Or.inl ⟨by rfl, ?_⟩)) hHeld ?_; rotate_left; focus (intro w' hSw; have e0 := grCell hSw e0; have e1 := grCell hSw e1; go_simp; (try with_reducible rfl)))
      | (refine wpAnyG_take hSG (i := 3)  (v := undef) rfl (by kernel_rfl) (by kernel_rfl) (by kernel_rfl) (fun _ _ _ h => h) (Or.inr ⟨by rfl, rfl⟩) hHeld ?_)
    (try simp only [List.getElem_toArray, List.getElem_cons_succ, List.getElem_cons_zero, Act.put, List.setIfInBounds_toArray, List.set_cons_zero, List.set_cons_succ])
    first
      | (refine wpAnyG_take hSG (i := 4)  (v := ?_) rfl (by kernel_rfl) (by kernel_rfl) (by kernel_rfl) (fun _ _ _ h => h) (YieldsIf.gives (Or.inl ⟨by rfl, ?_⟩)) hHeld ?_; rotate_left; focus (intro w' hSw; have e0 := grCell hSw e0; have e1 := grCell hSw e1; go_simp; (try with_reducible rfl)))
      | (refine wpAnyG_take hSG (i := 4)  (v := undef) rfl (by kernel_rfl) (by kernel_rfl) (by kernel_rfl) (fun _ _ _ h => h) (Or.inr ⟨by rfl, rfl⟩) hHeld ?_)
    (try simp only [List.getElem_toArray, List.getElem_cons_succ, List.getElem_cons_zero, Act.put, List.setIfInBounds_toArray, List.set_cons_zero, List.set_cons_succ])
    refine wpAnyG_take hSG (i := 5)  (v := .pointer (some ⟨g2, o2 + 1, none⟩)) rfl (by kernel_rfl) (by kernel_rfl) (by kernel_rfl) (fun _ _ _ h => h) (YieldsIf.gives (Or.inl ⟨by rfl, ?_⟩)) hHeld ?_
    focus (intro w' hSw; have e0 := grCell hSw e0; have e1 := grCell hSw e1; go_simp; (try (intro hq; omega)))
    (try simp only [List.getElem_toArray, List.getElem_cons_succ, List.getElem_cons_zero, Act.put, List.setIfInBounds_toArray, List.set_cons_zero, List.set_cons_succ])
    first
      | (refine wpAnyG_take hSG (i := 6)  (v := ?_) rfl (by kernel_rfl) (by kernel_rfl) (by kernel_rfl) (fun _ _ _ h => h) (YieldsIf.gives (Or.inl ⟨by rfl, ?_⟩)) hHeld ?_; rotate_left; focus (intro w' hSw; have e0 := grCell hSw e0; have e1 := grCell hSw e1; go_simp; (try with_reducible rfl)))
      | (refine wpAnyG_take hSG (i := 6)  (v := undef) rfl (by kernel_rfl) (by kernel_rfl) (by kernel_rfl) (fun _ _ _ h => h) (Or.inr ⟨by rfl, rfl⟩) hHeld ?_)
    (try simp only [List.getElem_toArray, List.getElem_cons_succ, List.getElem_cons_zero, Act.put, List.setIfInBounds_toArray, List.set_cons_zero, List.set_cons_succ])
    refine wpAnyG_ready (rs := [7]) (by kernel_rfl) (by simp) (AllG.cons rfl (fun w5 hgL K hK => ?_) AllG.nil)
    have hgL := (grDrew W2).tr hgL
    have e0 := grCell hgL e0
    have e1 := grCell hgL e1
    go_simp
    go_at_call 36; refine (HF.out _).mono ?_; rintro e w6 ⟨he, hb3⟩; simp only at he; subst he
    have HB6 := Lib.hid ((HB.out.trans (hgL.mono HB.out.size)).trans (hb3.mono (HB.out.trans (hgL.mono HB.out.size)).size))
    go_wp2
    exact ⟨rfl, rfl, HB6.out⟩
  · skip
    refine wp_region_G (S := fun wq => Gr W2 wq) (by kernel_rfl) (grDrew _) (fun hHeld => ?_)
    have hSG : Hid (∀ wp wq : World, Gr W2 wp → Gr wp wq → Gr W2 wq) := Lib.hid (fun _ _ h k => h.tr k)
    first
      | (refine wpAnyG_take hSG (i := 0)  (v := ?_) rfl (by kernel_rfl) (by kernel_rfl) (by kernel_rfl) (fun _ _ _ h => h) (YieldsIf.gives (Or.inl ⟨by rfl, ?_⟩)) hHeld ?_; rotate_left; focus (intro w' hSw; have e0 := grCell hSw e0; have e1 := grCell hSw e1; go_simp; (try with_reducible rfl)))
      | (refine wpAnyG_take hSG (i := 0)  (v := undef) rfl (by kernel_rfl) (by kernel_rfl) (by kernel_rfl) (fun _ _ _ h => h) (Or.inr ⟨by rfl, rfl⟩) hHeld ?_)
    (try simp only [List.getElem_toArray, List.getElem_cons_succ, List.getElem_cons_zero, Act.put, List.setIfInBounds_toArray, List.set_cons_zero, List.set_cons_succ])
    first
      | (refine wpAnyG_take hSG (i := 1)  (v := ?_) rfl (by kernel_rfl) (by kernel_rfl) (by kernel_rfl) (fun _ _ _ h => h) (YieldsIf.gives (Or.inl ⟨by rfl, ?_⟩)) hHeld ?_; rotate_left; focus (intro w' hSw; have e0 := grCell hSw e0; have e1 := grCell hSw e1; go_simp; (try with_reducible rfl)))
      | (refine wpAnyG_take hSG (i := 1)  (v := undef) rfl (by kernel_rfl) (by kernel_rfl) (by kernel_rfl) (fun _ _ _ h => h) (Or.inr ⟨by rfl, rfl⟩) hHeld ?_)
    (try simp only [List.getElem_toArray, List.getElem_cons_succ, List.getElem_cons_zero, Act.put, List.setIfInBounds_toArray, List.set_cons_zero, List.set_cons_succ])
    refine wpAnyG_take hSG (i := 2)  (v := .pointer (some ⟨g2, o2, none⟩)) rfl (by kernel_rfl) (by kernel_rfl) (by kernel_rfl) (fun _ _ _ h => h) (YieldsIf.gives (Or.inl ⟨by rfl, ?_⟩)) hHeld ?_
    focus (intro w' hSw; have e0 := grCell hSw e0; have e1 := grCell hSw e1; go_simp; (try (intro hq; omega)))
    (try simp only [List.getElem_toArray, List.getElem_cons_succ, List.getElem_cons_zero, Act.put, List.setIfInBounds_toArray, List.set_cons_zero, List.set_cons_succ])
    first
      | (refine wpAnyG_take hSG (i := 3)  (v := ?_) rfl (by kernel_rfl) (by kernel_rfl) (by kernel_rfl) (fun _ _ _ h => h) (YieldsIf.gives (Or.inl ⟨by rfl, ?_⟩)) hHeld ?_; rotate_left; focus (intro w' hSw; have e0 := grCell hSw e0; have e1 := grCell hSw e1; go_simp; (try with_reducible rfl)))
      | (refine wpAnyG_take hSG (i := 3)  (v := undef) rfl (by kernel_rfl) (by kernel_rfl) (by kernel_rfl) (fun _ _ _ h => h) (Or.inr ⟨by rfl, rfl⟩) hHeld ?_)
    (try simp only [List.getElem_toArray, List.getElem_cons_succ, List.getElem_cons_zero, Act.put, List.setIfInBounds_toArray, List.set_cons_zero, List.set_cons_succ])
    first
      | (refine wpAnyG_take hSG (i := 4)  (v := ?_) rfl (by kernel_rfl) (by kernel_rfl) (by kernel_rfl) (fun _ _ _ h => h) (YieldsIf.gives (Or.inl ⟨by rfl, ?_⟩)) hHeld ?_; rotate_left; focus (intro w' hSw; have e0 := grCell hSw e0; have e1 := grCell hSw e1; go_simp; (try with_reducible rfl)))
      | (refine wpAnyG_take hSG (i := 4)  (v := undef) rfl (by kernel_rfl) (by kernel_rfl) (by kernel_rfl) (fun _ _ _ h => h) (Or.inr ⟨by rfl, rfl⟩) hHeld ?_)
    (try simp only [List.getElem_toArray, List.getElem_cons_succ, List.getElem_cons_zero, Act.put, List.setIfInBounds_toArray, List.set_cons_zero, List.set_cons_succ])
    refine wpAnyG_take hSG (i := 5)  (v := .pointer (some ⟨g2, o2 + 1, none⟩)) rfl (by kernel_rfl) (by kernel_rfl) (by kernel_rfl) (fun _ _ _ h => h) (YieldsIf.gives (Or.inl ⟨by rfl, ?_⟩)) hHeld ?_
    focus (intro w' hSw; have e0 := grCell hSw e0; have e1 := grCell hSw e1; go_simp; (try (intro hq; omega)))
    (try simp only [List.getElem_toArray, List.getElem_cons_succ, List.getElem_cons_zero, Act.put, List.setIfInBounds_toArray, List.set_cons_zero, List.set_cons_succ])
    first
      | (refine wpAnyG_take hSG (i := 6)  (v := ?_) rfl (by kernel_rfl) (by kernel_rfl) (by kernel_rfl) (fun _ _ _ h => h) (YieldsIf.gives (Or.inl ⟨by rfl, ?_⟩)) hHeld ?_; rotate_left; focus (intro w' hSw; have e0 := grCell hSw e0; have e1 := grCell hSw e1; go_simp; (try with_reducible rfl)))
      | (refine wpAnyG_take hSG (i := 6)  (v := undef) rfl (by kernel_rfl) (by kernel_rfl) (by kernel_rfl) (fun _ _ _ h => h) (Or.inr ⟨by rfl, rfl⟩) hHeld ?_)
    (try simp only [List.getElem_toArray, List.getElem_cons_succ, List.getElem_cons_zero, Act.put, List.setIfInBounds_toArray, List.set_cons_zero, List.set_cons_succ])
    refine wpAnyG_take hSG (i := 7)  (v := .int .i64 q) rfl (by kernel_rfl) (by kernel_rfl) (by kernel_rfl) (fun _ _ _ h => h) (Or.inl ⟨by rfl, ?_⟩) hHeld ?_
    focus (intro wz hSw K hK; have e0 := grCell hSw e0; have e1 := grCell hSw e1; go_simp; go_at_call 36; refine (HF.out _).mono ?_; rintro e w2 ⟨he, hb2⟩; simp only at he; subst he; exact hK.out _ hb2)
    (try simp only [List.getElem_toArray, List.getElem_cons_succ, List.getElem_cons_zero, Act.put, List.setIfInBounds_toArray, List.set_cons_zero, List.set_cons_succ])
    first
      | (refine wpAnyG_take hSG (i := 8)  (v := ?_) rfl (by kernel_rfl) (by kernel_rfl) (by kernel_rfl) (fun _ _ _ h => h) (YieldsIf.gives (Or.inl ⟨by rfl, ?_⟩)) hHeld ?_; rotate_left; focus (intro w' hSw; have e0 := grCell hSw e0; have e1 := grCell hSw e1; go_simp; (try with_reducible rfl)))
      | (refine wpAnyG_take hSG (i := 8)  (v := undef) rfl (by kernel_rfl) (by kernel_rfl) (by kernel_rfl) (fun _ _ _ h => h) (Or.inr ⟨by rfl, rfl⟩) hHeld ?_)
    (try simp only [List.getElem_toArray, List.getElem_cons_succ, List.getElem_cons_zero, Act.put, List.setIfInBounds_toArray, List.set_cons_zero, List.set_cons_succ])
    refine wpAnyG_done (by kernel_rfl) (fun w5 hgD => ?_) _
    have hg5 : Gr W2 w5 := (grDrew W2).tr hgD
    clear hgD hSG hHeld
    have HB6 := Lib.hid (HB.out.trans (hg5.mono HB.out.size))
    go_wp2
    go_ret
    exact ⟨rfl, HB6.out⟩
set_option maxHeartbeats 4000000 in
set_option maxRecDepth 100000 in
theorem result_10 (st : List Int) (SA : Option Addr) (m : Nat) (i0 i1 i2 i3 : Int) (mb : Nat) (n u : Int) (ks : List Ex) (A : Option Addr) (c : Nat) (a b : Int) (NA : Option Addr) (nc : Nat) (w : World) (hO : OpsR w mb) (hN : IntsR w [a, b] NA) (ha : vN a = true) (hb : vN b = true) (hnc : 2 ≤ nc) :
    Calls Tryz.prog 38 #[.agg (rdA SA st.length m i0 i1 i2 i3 mb), aggE 10 n u A ks.length (ks.length + c), .slice NA 2 nc] w (IntP (opE 10 a b) w) := by
  obtain ⟨W2, hW2⟩ : ∃ W2, W2 = (w.alloc (.cells (rdA SA st.length m i0 i1 i2 i3 mb) 58)).alloc (.cells (arrE 10 n u A ks.length (ks.length + c)) 41) := ⟨_, rfl⟩
  have HB : Hid (Below w.heap.size w W2) := Lib.hid (by rw [hW2]; exact bAl2 _ _)
  have HR : Hid (W2.heap[w.heap.size]? = some (.cells (rdA SA st.length m i0 i1 i2 i3 mb) 58 (0, 0))) := Lib.hid (by rw [hW2]; exact (Below.heap_alloc _ _ _ (by simp)).trans (newBlk _ _ _ rfl))
  have HE : Hid (W2.heap[w.heap.size + 1]? = some (.cells (arrE 10 n u A ks.length (ks.length + c)) 41 (0, 0))) := Lib.hid (by rw [hW2]; exact newBlk _ _ _ (by simp))
  have hM2 := hO.gr HB.out
  obtain ⟨⟨r0, r1, r2, r3, r4, r5⟩, -⟩ := cells6 HR.out
  obtain ⟨⟨x0, x1, x2, x3⟩, -⟩ := C.cells4C HE.out
  have hv := map_get W2 mb es7 7 10 _ _ hM2 esN_10
  obtain ⟨g2, o2, rfl, hat⟩ := hN.addr (by simp)
  have e0 := grCell HB.out (hat 0 a rfl)
  have e1 := grCell HB.out (hat 1 b rfl)
  simp only [Nat.add_zero] at e0
  have HF := Lib.hid (fun wx => cMax_any a b ha hb wx)
  clear hO hM2 hN hat ha hb
  generalize opE 10 a b = r at *
  go_enter Tryz.func38, Tryz.ntmps38
  go_upto_region 1 with fail
  rw [← hW2]
  clear hW2
  go_upto_region 5 with (go_at_call 39; refine (need_any true _ _).mono ?_; rintro e w5 ⟨he, hw⟩; rw [hw]; clear hw; simp only [if_pos] at he; subst he)
  rcases r with er | q
  · skip
    refine wp_region_G (S := fun wq => Gr W2 wq) (by kernel_rfl) (grDrew _) (fun hHeld => ?_)
    have hSG : Hid (∀ wp wq : World, Gr W2 wp → Gr wp wq → Gr W2 wq) := Lib.hid (fun _ _ h k => h.tr k)
    first
      | (refine wpAnyG_take hSG (i := 0)  (v := ?_) rfl (by kernel_rfl) (by kernel_rfl) (by kernel_rfl) (fun _ _ _ h => h) (YieldsIf.gives (Or.inl ⟨by rfl, ?_⟩)) hHeld ?_; rotate_left; focus (intro w' hSw; have e0 := grCell hSw e0; have e1 := grCell hSw e1; go_simp; (try with_reducible rfl)))
      | (refine wpAnyG_take hSG (i := 0)  (v := undef) rfl (by kernel_rfl) (by kernel_rfl) (by kernel_rfl) (fun _ _ _ h => h) (Or.inr ⟨by rfl, rfl⟩) hHeld ?_)
    (try simp only [List.getElem_toArray, List.getElem_cons_succ, List.getElem_cons_zero, Act.put, List.setIfInBounds_toArray, List.set_cons_zero, List.set_cons_succ])
    first
      | (refine wpAnyG_take hSG (i := 1)  (v := ?_) rfl (by kernel_rfl) (by kernel_rfl) (by kernel_rfl) (fun _ _ _ h => h) (YieldsIf.gives (Or.inl ⟨by rfl, ?_⟩)) hHeld ?_; rotate_left; focus (intro w' hSw; have e0 := grCell hSw e0; have e1 := grCell hSw e1; go_simp; (try with_reducible rfl)))
      | (refine wpAnyG_take hSG (i := 1)  (v := undef) rfl (by kernel_rfl) (by kernel_rfl) (by kernel_rfl) (fun _ _ _ h => h) (Or.inr ⟨by rfl, rfl⟩) hHeld ?_)
    (try simp only [List.getElem_toArray, List.getElem_cons_succ, List.getElem_cons_zero, Act.put, List.setIfInBounds_toArray, List.set_cons_zero, List.set_cons_succ])
    refine wpAnyG_take hSG (i := 2)  (v := .pointer (some ⟨g2, o2, none⟩)) rfl (by kernel_rfl) (by kernel_rfl) (by kernel_rfl) (fun _ _ _ h => h) (YieldsIf.gives (Or.inl ⟨by rfl, ?_⟩)) hHeld ?_
    focus (intro w' hSw; have e0 := grCell hSw e0; have e1 := grCell hSw e1; go_simp; (try (intro hq; omega)))
    (try simp only [List.getElem_toArray, List.getElem_cons_succ, List.getElem_cons_zero, Act.put, List.setIfInBounds_toArray, List.set_cons_zero, List.set_cons_succ])
    first
      | (refine wpAnyG_take hSG (i := 3)  (v := ?_) rfl (by kernel_rfl) (by kernel_rfl) (by kernel_rfl) (fun _ _ _ h => h) (YieldsIf.gives (Or.inl ⟨by rfl, ?_⟩)) hHeld ?_; rotate_left; focus (intro w' hSw; have e0 := grCell hSw e0; have e1 := grCell hSw e1; go_simp; (try with_reducible rfl)))
      | (refine wpAnyG_take hSG (i := 3)  (v := undef) rfl (by kernel_rfl) (by kernel_rfl) (by kernel_rfl) (fun _ _ _ h => h) (Or.inr ⟨by rfl, rfl⟩) hHeld ?_)
    (try simp only [List.getElem_toArray, List.getElem_cons_succ, List.getElem_cons_zero, Act.put, List.setIfInBounds_toArray, List.set_cons_zero, List.set_cons_succ])
    first
      | (refine wpAnyG_take hSG (i := 4)  (v := ?_) rfl (by kernel_rfl) (by kernel_rfl) (by kernel_rfl) (fun _ _ _ h => h) (YieldsIf.gives (Or.inl ⟨by rfl, ?_⟩)) hHeld ?_; rotate_left; focus (intro w' hSw; have e0 := grCell hSw e0; have e1 := grCell hSw e1; go_simp; (try with_reducible rfl)))
      | (refine wpAnyG_take hSG (i := 4)  (v := undef) rfl (by kernel_rfl) (by kernel_rfl) (by kernel_rfl) (fun _ _ _ h => h) (Or.inr ⟨by rfl, rfl⟩) hHeld ?_)
    (try simp only [List.getElem_toArray, List.getElem_cons_succ, List.getElem_cons_zero, Act.put, List.setIfInBounds_toArray, List.set_cons_zero, List.set_cons_succ])
    refine wpAnyG_take hSG (i := 5)  (v := .pointer (some ⟨g2, o2 + 1, none⟩)) rfl (by kernel_rfl) (by kernel_rfl) (by kernel_rfl) (fun _ _ _ h => h) (YieldsIf.gives (Or.inl ⟨by rfl, ?_⟩)) hHeld ?_
    focus (intro w' hSw; have e0 := grCell hSw e0; have e1 := grCell hSw e1; go_simp; (try (intro hq; omega)))
    (try simp only [List.getElem_toArray, List.getElem_cons_succ, List.getElem_cons_zero, Act.put, List.setIfInBounds_toArray, List.set_cons_zero, List.set_cons_succ])
    first
      | (refine wpAnyG_take hSG (i := 6)  (v := ?_) rfl (by kernel_rfl) (by kernel_rfl) (by kernel_rfl) (fun _ _ _ h => h) (YieldsIf.gives (Or.inl ⟨by rfl, ?_⟩)) hHeld ?_; rotate_left; focus (intro w' hSw; have e0 := grCell hSw e0; have e1 := grCell hSw e1; go_simp; (try with_reducible rfl)))
      | (refine wpAnyG_take hSG (i := 6)  (v := undef) rfl (by kernel_rfl) (by kernel_rfl) (by kernel_rfl) (fun _ _ _ h => h) (Or.inr ⟨by rfl, rfl⟩) hHeld ?_)
    (try simp only [List.getElem_toArray, List.getElem_cons_succ, List.getElem_cons_zero, Act.put, List.setIfInBounds_toArray, List.set_cons_zero, List.set_cons_succ])
    refine wpAnyG_ready (rs := [7]) (by kernel_rfl) (by simp) (AllG.cons rfl (fun w5 hgL K hK => ?_) AllG.nil)
    have hgL := (grDrew W2).tr hgL
    have e0 := grCell hgL e0
    have e1 := grCell hgL e1
    go_simp
    go_at_call 37; refine (HF.out _).mono ?_; rintro e w6 ⟨he, hb3⟩; simp only at he; subst he
    have HB6 := Lib.hid ((HB.out.trans (hgL.mono HB.out.size)).trans (hb3.mono (HB.out.trans (hgL.mono HB.out.size)).size))
    go_wp2
    exact ⟨rfl, rfl, HB6.out⟩
  · skip
    refine wp_region_G (S := fun wq => Gr W2 wq) (by kernel_rfl) (grDrew _) (fun hHeld => ?_)
    have hSG : Hid (∀ wp wq : World, Gr W2 wp → Gr wp wq → Gr W2 wq) := Lib.hid (fun _ _ h k => h.tr k)
    first
      | (refine wpAnyG_take hSG (i := 0)  (v := ?_) rfl (by kernel_rfl) (by kernel_rfl) (by kernel_rfl) (fun _ _ _ h => h) (YieldsIf.gives (Or.inl ⟨by rfl, ?_⟩)) hHeld ?_; rotate_left; focus (intro w' hSw; have e0 := grCell hSw e0; have e1 := grCell hSw e1; go_simp; (try with_reducible rfl)))
      | (refine wpAnyG_take hSG (i := 0)  (v := undef) rfl (by kernel_rfl) (by kernel_rfl) (by kernel_rfl) (fun _ _ _ h => h) (Or.inr ⟨by rfl, rfl⟩) hHeld ?_)
    (try simp only [List.getElem_toArray, List.getElem_cons_succ, List.getElem_cons_zero, Act.put, List.setIfInBounds_toArray, List.set_cons_zero, List.set_cons_succ])
    first
      | (refine wpAnyG_take hSG (i := 1)  (v := ?_) rfl (by kernel_rfl) (by kernel_rfl) (by kernel_rfl) (fun _ _ _ h => h) (YieldsIf.gives (Or.inl ⟨by rfl, ?_⟩)) hHeld ?_; rotate_left; focus (intro w' hSw; have e0 := grCell hSw e0; have e1 := grCell hSw e1; go_simp; (try with_reducible rfl)))
      | (refine wpAnyG_take hSG (i := 1)  (v := undef) rfl (by kernel_rfl) (by kernel_rfl) (by kernel_rfl) (fun _ _ _ h => h) (Or.inr ⟨by rfl, rfl⟩) hHeld ?_)
    (try simp only [List.getElem_toArray, List.getElem_cons_succ, List.getElem_cons_zero, Act.put, List.setIfInBounds_toArray, List.set_cons_zero, List.set_cons_succ])
    refine wpAnyG_take hSG (i := 2)  (v := .pointer (some ⟨g2, o2, none⟩)) rfl (by kernel_rfl) (by kernel_rfl) (by kernel_rfl) (fun _ _ _ h => h) (YieldsIf.gives (Or.inl ⟨by rfl, ?_⟩)) hHeld ?_
    focus (intro w' hSw; have e0 := grCell hSw e0; have e1 := grCell hSw e1; go_simp; (try (intro hq; omega)))
    (try simp only [List.getElem_toArray, List.getElem_cons_succ, List.getElem_cons_zero, Act.put, List.setIfInBounds_toArray, List.set_cons_zero, List.set_cons_succ])
    first
      | (refine wpAnyG_take hSG (i := 3)  (v := ?_) rfl (by kernel_rfl) (by kernel_rfl) (by kernel_rfl) (fun _ _ _ h => h) (YieldsIf.gives (Or.inl ⟨by rfl, ?_⟩)) hHeld ?_; rotate_left; focus (intro w' hSw; have e0 := grCell hSw e0; have e1 := grCell hSw e1; go_simp; (try with_reducible rfl)))
      | (refine wpAnyG_take hSG (i := 3)  (v := undef) rfl (by kernel_rfl) (by kernel_rfl) (by kernel_rfl) (fun _ _ _ h => h) (Or.inr ⟨by rfl, rfl⟩) hHeld ?_)
    (try simp only [List.getElem_toArray, List.getElem_cons_succ, List.getElem_cons_zero, Act.put, List.setIfInBounds_toArray, List.set_cons_zero, List.set_cons_succ])
    first
      | (refine wpAnyG_take hSG (i := 4)  (v := ?_) rfl (by kernel_rfl) (by kernel_rfl) (by kernel_rfl) (fun _ _ _ h => h) (YieldsIf.gives (Or.inl ⟨by rfl, ?_⟩)) hHeld ?_; rotate_left; focus (intro w' hSw; have e0 := grCell hSw e0; have e1 := grCell hSw e1; go_simp; (try with_reducible rfl)))
      | (refine wpAnyG_take hSG (i := 4)  (v := undef) rfl (by kernel_rfl) (by kernel_rfl) (by kernel_rfl) (fun _ _ _ h => h) (Or.inr ⟨by rfl, rfl⟩) hHeld ?_)
    (try simp only [List.getElem_toArray, List.getElem_cons_succ, List.getElem_cons_zero, Act.put, List.setIfInBounds_toArray, List.set_cons_zero, List.set_cons_succ])
    refine wpAnyG_take hSG (i := 5)  (v := .pointer (some ⟨g2, o2 + 1, none⟩)) rfl (by kernel_rfl) (by kernel_rfl) (by kernel_rfl) (fun _ _ _ h => h) (YieldsIf.gives (Or.inl ⟨by rfl, ?_⟩)) hHeld ?_
    focus (intro w' hSw; have e0 := grCell hSw e0; have e1 := grCell hSw e1; go_simp; (try (intro hq; omega)))
    (try simp only [List.getElem_toArray, List.getElem_cons_succ, List.getElem_cons_zero, Act.put, List.setIfInBounds_toArray, List.set_cons_zero, List.set_cons_succ])
    first
      | (refine wpAnyG_take hSG (i := 6)  (v := ?_) rfl (by kernel_rfl) (by kernel_rfl) (by kernel_rfl) (fun _ _ _ h => h) (YieldsIf.gives (Or.inl ⟨by rfl, ?_⟩)) hHeld ?_; rotate_left; focus (intro w' hSw; have e0 := grCell hSw e0; have e1 := grCell hSw e1; go_simp; (try with_reducible rfl)))
      | (refine wpAnyG_take hSG (i := 6)  (v := undef) rfl (by kernel_rfl) (by kernel_rfl) (by kernel_rfl) (fun _ _ _ h => h) (Or.inr ⟨by rfl, rfl⟩) hHeld ?_)
    (try simp only [List.getElem_toArray, List.getElem_cons_succ, List.getElem_cons_zero, Act.put, List.setIfInBounds_toArray, List.set_cons_zero, List.set_cons_succ])
    refine wpAnyG_take hSG (i := 7)  (v := .int .i64 q) rfl (by kernel_rfl) (by kernel_rfl) (by kernel_rfl) (fun _ _ _ h => h) (Or.inl ⟨by rfl, ?_⟩) hHeld ?_
    focus (intro wz hSw K hK; have e0 := grCell hSw e0; have e1 := grCell hSw e1; go_simp; go_at_call 37; refine (HF.out _).mono ?_; rintro e w2 ⟨he, hb2⟩; simp only at he; subst he; exact hK.out _ hb2)
    (try simp only [List.getElem_toArray, List.getElem_cons_succ, List.getElem_cons_zero, Act.put, List.setIfInBounds_toArray, List.set_cons_zero, List.set_cons_succ])
    first
      | (refine wpAnyG_take hSG (i := 8)  (v := ?_) rfl (by kernel_rfl) (by kernel_rfl) (by kernel_rfl) (fun _ _ _ h => h) (YieldsIf.gives (Or.inl ⟨by rfl, ?_⟩)) hHeld ?_; rotate_left; focus (intro w' hSw; have e0 := grCell hSw e0; have e1 := grCell hSw e1; go_simp; (try with_reducible rfl)))
      | (refine wpAnyG_take hSG (i := 8)  (v := undef) rfl (by kernel_rfl) (by kernel_rfl) (by kernel_rfl) (fun _ _ _ h => h) (Or.inr ⟨by rfl, rfl⟩) hHeld ?_)
    (try simp only [List.getElem_toArray, List.getElem_cons_succ, List.getElem_cons_zero, Act.put, List.setIfInBounds_toArray, List.set_cons_zero, List.set_cons_succ])
    refine wpAnyG_done (by kernel_rfl) (fun w5 hgD => ?_) _
    have hg5 : Gr W2 w5 := (grDrew W2).tr hgD
    clear hgD hSG hHeld
    have HB6 := Lib.hid (HB.out.trans (hg5.mono HB.out.size))
    go_wp2
    go_ret
    exact ⟨rfl, HB6.out⟩
theorem result_any (st : List Int) (SA : Option Addr) (m : Nat) (i0 i1 i2 i3 : Int) (mb : Nat) (op n u : Int) (ks : List Ex) (A : Option Addr) (c : Nat) (ns : List Int) (NA : Option Addr) (nc : Nat) (w : World) (hS : IntsR w st SA) (hsl : st.length ≤ 1000000) (hO : OpsR w mb) (hN : IntsR w ns NA) (hv : ∀ x ∈ ns, vN x = true) (hnc : ns.length ≤ nc) :
    Calls Tryz.prog 38 #[.agg (rdA SA st.length m i0 i1 i2 i3 mb), aggE op n u A ks.length (ks.length + c), .slice NA ns.length nc] w (IntP (nodR st [i0, i1, i2, i3] op n ns) w) := by
  match ns, hN, hv, hnc with
  | [], _, _, _ => exact result_leaf st SA m i0 i1 i2 i3 mb op n u ks A c NA nc w hS hsl hO
  | [a], _, _, _ =>
    by_cases hop : 4 ≤ op ∧ op ≤ 10
    · exact result_len st SA m i0 i1 i2 i3 mb op n u ks A c [a] NA nc w hO (by simp) (by simp) hop
    · exact result_none st SA m i0 i1 i2 i3 mb op n u ks A c [a] NA nc w hO (by simp) hop
  | a :: b :: d :: l, _, _, _ =>
    by_cases hop : 4 ≤ op ∧ op ≤ 10
    · exact result_len st SA m i0 i1 i2 i3 mb op n u ks A c (a :: b :: d :: l) NA nc w hO (by simp) (by simp) hop
    · exact result_none st SA m i0 i1 i2 i3 mb op n u ks A c (a :: b :: d :: l) NA nc w hO (by simp) hop
  | [a, b], hN, hv, hnc =>
    have ha := hv a (by simp)
    have hb := hv b (by simp)
    by_cases hop : 4 ≤ op ∧ op ≤ 10
    · have : op = 4 ∨ op = 5 ∨ op = 6 ∨ op = 7 ∨ op = 8 ∨ op = 9 ∨ op = 10 := by omega
      rcases this with rfl | rfl | rfl | rfl | rfl | rfl | rfl
      · exact result_4 st SA m i0 i1 i2 i3 mb n u ks A c a b NA nc w hO hN ha hb hnc
      · exact result_5 st SA m i0 i1 i2 i3 mb n u ks A c a b NA nc w hO hN ha hb hnc
      · exact result_6 st SA m i0 i1 i2 i3 mb n u ks A c a b NA nc w hO hN ha hb hnc
      · exact result_7 st SA m i0 i1 i2 i3 mb n u ks A c a b NA nc w hO hN ha hb hnc
      · exact result_8 st SA m i0 i1 i2 i3 mb n u ks A c a b NA nc w hO hN ha hb hnc
      · exact result_9 st SA m i0 i1 i2 i3 mb n u ks A c a b NA nc w hO hN ha hb hnc
      · exact result_10 st SA m i0 i1 i2 i3 mb n u ks A c a b NA nc w hO hN ha hb hnc
    · show Calls _ _ _ _ (IntP (opE op a b) w)
      rw [opE_none hop]
      exact result_none st SA m i0 i1 i2 i3 mb op n u ks A c [a, b] NA nc w hO (by simp) hop
end M
end Go.Proofs.YtdgompdbhlhofaaGreatDoor
