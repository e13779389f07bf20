/- Texts of one proof: VxJ. -/
import Derived.Test.YtdlebaiamdbneaaGreatDoorWs
set_option linter.unusedVariables false
set_option linter.unusedSimpArgs false
set_option maxRecDepth 100000
set_option maxHeartbeats 8000000
namespace Go.Proofs.YtdlebaiamdbneaaGreatDoor
open Go.RowKit
namespace M
open I
open U (Ex St StsR StR StAt btw btw_iff ev eArr KidsE newBlk blkLt Vr VarsR VrAt KpL sArr two_kids owns_below new_cells gbRefl gbAlloc gbTrans gbBelow kbS kbL)
open R (epanic bAllocX insR LeftP erOf cell1 limS WfL addN)
open C (valPM v5 v5_val SomeB V1)
theorem u8_rg {n : Int} (h : (Lit.int .u8 n).wf = true) : 0 ≤ n ∧ n < 256 := by
 simp [Lit.wf, IntKind.min, IntKind.max, IntKind.signed, IntKind.bits] at h
 exact ⟨by omega, by omega⟩
theorem v5_pos {x : ByteArray} {vs : List Vr} {on : List (List St)} {wi pa : Int} (h : v5 nm5 x vs on wi pa = true) : 1 ≤ vs.length := by
 unfold C.v5 at h
 simp only [Bool.and_eq_true, decide_eq_true_eq] at h
 exact h.1.2.1
def inK (k : Nat) (v i0 i1 i2 i3 : Int) : Int × Int × Int × Int := (if k = 0 then v else i0, if k = 1 then v else i1, if k = 2 then v else i2, if k = 3 then v else i3)
theorem rs_set {e i0 i1 i2 i3 v : Int} {k : Nat} (h : rsB e i0 i1 i2 i3 0 = true) (h1 : 1 ≤ v) (h2 : v ≤ 256) : rsB e (inK k v i0 i1 i2 i3).1 (inK k v i0 i1 i2 i3).2.1 (inK k v i0 i1 i2 i3).2.2.1 (inK k v i0 i1 i2 i3).2.2.2 0 = true := by
 simp only [rsB, Bool.and_eq_true] at h ⊢
 obtain ⟨a1, b1, d1, f1, g⟩ := h
 have a1 := btw_iff.1 a1
 have b1 := btw_iff.1 b1
 have d1 := btw_iff.1 d1
 have f1 := btw_iff.1 f1
 refine ⟨btw_iff.2 ?_, btw_iff.2 ?_, btw_iff.2 ?_, btw_iff.2 ?_, g⟩ <;> simp only [inK] <;> constructor <;> split <;> omega
theorem ins_set {i0 i1 i2 i3 v : Int} {k : Nat} (hk : k < 4) : [i0, i1, i2, i3].set k v = [(inK k v i0 i1 i2 i3).1, (inK k v i0 i1 i2 i3).2.1, (inK k v i0 i1 i2 i3).2.2.1, (inK k v i0 i1 i2 i3).2.2.2] := by
 have h4 : k = 0 ∨ k = 1 ∨ k = 2 ∨ k = 3 := by omega
 rcases h4 with rfl | rfl | rfl | rfl <;> rfl
theorem IntsO.ne {B : Nat} {w : World} {st : List Int} {g cap b : Nat} {cs : Array Value} {T : TypeId} {fr : Nat × Nat} (h : IntsO B w st g cap) (hb : w.heap[b]? = some (.cells cs T fr)) (hT : T ≠ 3) : b ≠ g := by
 rintro rfl
 unfold IntsO at h
 obtain ⟨-, h | ⟨g', cap', cur, hv, -, hc, -⟩⟩ := h
 ·cases h.1
 ·cases hv
  rw [hb] at hc
  cases hc
  exact hT rfl
theorem in_cell {w : World} {b : Nat} {e i0 i1 i2 i3 : Int} {T : TypeId} {k : Nat} (h : w.heap[b]? = some (.cells (clA e i0 i1 i2 i3) T (0, 0))) (hk : k < 4) : (∃ v, w.cell? ⟨b, 1 + k, none⟩ = some v) ∧ w.frozen? ⟨b, 1 + k, none⟩ = false := by
 obtain ⟨⟨c0, c1, c2, c3, c4⟩, f0, f1, f2, f3, f4⟩ := C.cells5C h
 have h4 : k = 0 ∨ k = 1 ∨ k = 2 ∨ k = 3 := by omega
 rcases h4 with rfl | rfl | rfl | rfl
 ·exact ⟨⟨_, c1⟩, f1⟩
 ·exact ⟨⟨_, c2⟩, f2⟩
 ·exact ⟨⟨_, c3⟩, f3⟩
 ·exact ⟨⟨_, c4⟩, f4⟩
theorem set_in {w : World} {b : Nat} {e i0 i1 i2 i3 v : Int} {T : TypeId} {k : Nat} (h : w.heap[b]? = some (.cells (clA e i0 i1 i2 i3) T (0, 0))) (hk : k < 4) :
  (w.setCell ⟨b, 1 + k, none⟩ (.int .i64 v)).heap[b]? = some (.cells (clA e (inK k v i0 i1 i2 i3).1 (inK k v i0 i1 i2 i3).2.1 (inK k v i0 i1 i2 i3).2.2.1 (inK k v i0 i1 i2 i3).2.2.2) T (0, 0)) := by
 rw [heap_setCell_same _ b (1 + k) _ _ _ h]
 have h4 : k = 0 ∨ k = 1 ∨ k = 2 ∨ k = 3 := by omega
 rcases h4 with rfl | rfl | rfl | rfl <;> simp [inK]
theorem Inputs_any (x : ByteArray) (vs : List Vr) (VA : Option Addr) (vm : Nat) (o : U.On) (a : U.OnA) (wi pa : Int) (st : List Int) (SA : Option Addr) (sc : Nat) (e i0 i1 i2 i3 u1 u2 : Int) (w : World) (hL : LaidM w)
  (hV : VarsR w vs VA) (hlen : vs.length ≤ maxLen) (hO : U.OnR w o a) (hk : ∀ l ∈ o.list, kbL l) (hS : IntsR w st SA) (hx : x.size ≤ maxLen) (hv : ∀ v ∈ vs, v.x.size ≤ maxLen) (hu1 : 0 ≤ u1 ∧ u1 < 256) (hu2 : 0 ≤ u2 ∧ u2 < 256) :
  Calls Tryz.prog 6 #[U.pgv x VA vs.length vm o a wi pa, .slice SA st.length sc, .agg (clA e i0 i1 i2 i3), .int .u8 u1, .int .u8 u2] w (BB true w) := by
 obtain ⟨W2, hW2⟩ : ∃ W2, W2 = (w.alloc (.cells (U.pgArr x VA vs.length vm o a wi pa) 26)).alloc (.cells (clA e i0 i1 i2 i3) 30) := ⟨_, rfl⟩
 have HB : Hid (Gr w W2) := Lib.hid (by rw [hW2]; exact (grAlloc _ _).tr (grAlloc _ _))
 have HP : Hid (W2.heap[w.heap.size]? = some (.cells (U.pgArr x VA vs.length vm o a wi pa) 26 (0, 0))) := Lib.hid (by rw [hW2]; exact grBlk (grAlloc _ _) (newBlk _ _ _ rfl))
 have HC : Hid (W2.heap[w.heap.size + 1]? = some (.cells (clA e i0 i1 i2 i3) 30 (0, 0))) := Lib.hid (by rw [hW2]; exact newBlk _ _ _ (by simp))
 have HHd := Lib.hid (fun wx (hg : Gr w wx) => head_any wx (hL.gr hg))
 have HUs := Lib.hid (fun wx (hg : Gr w wx) => usable_any x vs VA vm o a wi pa st SA sc e i0 i1 i2 i3 wx (hV.below hg) hlen (hO.below hg) hk (hS.gr hg) hx hv)
 have HRn := Lib.hid (fun wx (hg : Gr w wx) (hvl : vs.length ≤ 1000000) (A : Option Addr) (c : Nat) (j0 j1 j2 j3 : Int) (hI : IntsR wx st A) => Run_any x vs VA vm o a wi pa st A c e j0 j1 j2 j3 wx (hL.gr hg).1 (hL.gr hg).2.1 (hL.gr hg).2.2.1 (hL.gr hg).2.2.2 (hV.below hg) (hO.below hg) hI hx hv hvl)
 have HO := Lib.hid hO
 have HSt := Lib.hid hS
 have HKb := Lib.hid hk
 clear hL hV hO hk hS hx hv
 go_enter Tryz.func6, Tryz.ntmps6
 go_upto_region 1 with fail
 rw [← hW2]
 clear hW2
 obtain ⟨p0, p1, p2, p3, p4, p5, p6, p7, p8⟩ := U.cells9 HP.out
 obtain ⟨⟨c0, c1, c2, c3, c4⟩, -⟩ := C.cells5C HC.out
 go_upto_region 2 with (go_at_call 7; refine (HHd.out _ HB.out).mono ?_; rintro en w2 ⟨rfl, hb2⟩; have HB := Lib.hid (Gr.tr HB.out hb2); have HP := Lib.hid (grBlk hb2 HP.out); have HC := Lib.hid (grBlk hb2 HC.out); clear hb2 p0 p1 p2 p3 p4 p5 p6 p7 p8 c0 c1 c2 c3 c4; obtain ⟨p0, p1, p2, p3, p4, p5, p6, p7, p8⟩ := U.cells9 HP.out; obtain ⟨⟨c0, c1, c2, c3, c4⟩, -⟩ := C.cells5C HC.out)
 go_wp2_with fail
 refine (HUs.out _ HB.out).mono ?_
 rintro en w3 ⟨hu, hb2⟩
 have HB := Lib.hid (Gr.tr HB.out hb2)
 have HP := Lib.hid (grBlk hb2 HP.out)
 have HC := Lib.hid (grBlk hb2 HC.out)
 clear hb2 p0 p1 p2 p3 p4 p5 p6 p7 p8 c0 c1 c2 c3 c4
 obtain ⟨p0, p1, p2, p3, p4, p5, p6, p7, p8⟩ := U.cells9 HP.out
 obtain ⟨⟨c0, c1, c2, c3, c4⟩, -⟩ := C.cells5C HC.out
 clear HUs HHd
 rcases hu with rfl | ⟨rfl, h5, hs, hr⟩
 ·go_wp2_with fail
  go_ret
  exact ⟨rfl, HB.out⟩
 have hval := v5_val (fun y hy => nm5_name hy) h5
 have hvl12 := v5_len h5
 have hvp := v5_pos h5
 have hvl : vs.length ≤ 1000000 := by omega
 have hev := rs_ev hr
 obtain ⟨n, rfl⟩ : ∃ n : Nat, e = n := ⟨e.toNat, by omega⟩
 have hn4 : n ≤ 4 := by omega
 have hmem := on_mem (o := o) hev
 have hwf := Lib.hid ((valPM_wf hval).1 _ hmem)
 have hkbe := HKb.out _ hmem
 obtain ⟨k, hk4, hkr⟩ : ∃ k : Nat, k < 4 ∧ u1 % 4 = (k : Int) := ⟨(u1 % 4).toNat, by omega, by omega⟩
 have hslH : Hid (st.length = vs.length) := Lib.hid (by
  unfold stB at hs
  rw [Bool.and_eq_true, decide_eq_true_eq] at hs
  exact hs.1)
 have HR1 := Lib.hid (fun wx hg A c hI => by have h := HRn.out wx hg hvl A c i0 i1 i2 i3 hI; rw [run_ok hval hs hr] at h; exact h)
 have HR2 := Lib.hid (fun wx hg A c (v : Int) (h1 : 1 ≤ v) (h2 : v ≤ 256) (hrd : rdL (k : Int) (onAt o.list n) = false) hI => by
  have h := HRn.out wx hg hvl A c (inK k v i0 i1 i2 i3).1 (inK k v i0 i1 i2 i3).2.1 (inK k v i0 i1 i2 i3).2.2.1 (inK k v i0 i1 i2 i3).2.2.2 hI
  rw [run_ok hval hs (rs_set (k := k) (v := v) hr h1 h2), ← ins_set hk4] at h
  have h3 := rnL_in (ins := [i0, i1, i2, i3]) (lim := limS vs) (k := (k : Int)) (x := v) (by omega) (onAt o.list n) st hwf.out hrd
  simp only [Int.toNat_natCast] at h3
  rw [h3] at h
  exact h)
 have hpos : 0 < st.length := by have := hslH.out; omega
 have hsl2 : st.length ≤ 12 := by have := hslH.out; omega
 clear HRn hval hev h5
 obtain ⟨ix, hi, hz0, hz1, hz2⟩ := info_parts intInfo
 rcases hrn : rnL [i0, i1, i2, i3] (limS vs) st (onAt o.list n) with er | st'
 ·rw [hrn] at HR1 HR2
  have hI0 := Lib.hid (fun wx => Ints_any [] [] none none 0 0 wx (.inl rfl) (.inl rfl) (by simp))
  clear hrn hmem hs hr
  generalize hvn : vs.length = vn at *
  have hvnH := Lib.hid hvn
  clear hvn
  go_upto_region 6 with (go_at_call 10; refine (HR1.out _ HB.out _ _ (HSt.out.gr HB.out)).mono ?_; rintro en w7 ⟨rfl, hb2⟩; have HB := Lib.hid (Gr.tr HB.out hb2); have HP := Lib.hid (grBlk hb2 HP.out); have HC := Lib.hid (grBlk hb2 HC.out); clear hb2 p0 p1 p2 p3 p4 p5 p6 p7 p8 c0 c1 c2 c3 c4; obtain ⟨p0, p1, p2, p3, p4, p5, p6, p7, p8⟩ := U.cells9 HP.out; obtain ⟨⟨c0, c1, c2, c3, c4⟩, -⟩ := C.cells5C HC.out)
  obtain ⟨gs, os, rfl, has⟩ := (HSt.out.gr HB.out).addr (by intro h; rw [h] at hpos; simp at hpos)
  have hasH := Lib.hid has
  clear has
  refine wp_region_X (S := fun wq => Gr w7 wq) [] (by kernel_rfl) (grDrew _) (fun hHeld => ?_)
  have hSG : Hid (∀ wp wq : World, Gr w7 wp → Gr wp wq → Gr w7 wq) := Lib.hid (fun _ _ h k => h.tr k)
  have hmv := Lib.hid (fun (wq : World) (hq : Gr w7 wq) => And.intro (grCell hq p0) (And.intro (grCell hq p1) (And.intro (grCell hq p2) (And.intro (grCell hq p3) (And.intro (grCell hq p4) (And.intro (grCell hq p5) (And.intro (grCell hq p6) (And.intro (grCell hq p7) (And.intro (grCell hq p8) (And.intro (grCell hq c0) (And.intro (grCell hq c1) (And.intro (grCell hq c2) (And.intro (grCell hq c3) (grCell hq c4))))))))))))))
  first
   | (refine xk hSG 0 [5, 6, 7, 8, 9, 10] (v := ?_) rfl (by kernel_rfl) (fun _ _ _ h => h) (by rfl) ?_ hHeld ?_; rotate_left; focus (intro w' hSw; obtain ⟨p0, p1, p2, p3, p4, p5, p6, p7, p8, c0, c1, c2, c3, c4⟩ := hmv.out _ hSw; go_simp; (try with_reducible rfl)))
   | refine xn hSG 0 [5, 6, 7, 8, 9, 10] rfl (by kernel_rfl) (fun _ _ _ h => h) (by rfl) hHeld ?_
  (try simp only [zq1, zq2, zq3, Act.put, zq4, zq5, zq6])
  first
   | (refine xk hSG 2 [3, 5, 6, 7, 8, 9, 10] (v := ?_) rfl (by kernel_rfl) (fun _ _ _ h => h) (by rfl) ?_ hHeld ?_; rotate_left; focus (intro w' hSw; obtain ⟨p0, p1, p2, p3, p4, p5, p6, p7, p8, c0, c1, c2, c3, c4⟩ := hmv.out _ hSw; go_simp; (try with_reducible rfl)))
   | refine xn hSG 2 [3, 5, 6, 7, 8, 9, 10] rfl (by kernel_rfl) (fun _ _ _ h => h) (by rfl) hHeld ?_
  (try simp only [zq1, zq2, zq3, Act.put, zq4, zq5, zq6])
  first
   | (refine xk hSG 4 [5, 6, 7, 8, 9, 10] (v := ?_) rfl (by kernel_rfl) (fun _ _ _ h => h) (by rfl) ?_ hHeld ?_; rotate_left; focus (intro w' hSw; obtain ⟨p0, p1, p2, p3, p4, p5, p6, p7, p8, c0, c1, c2, c3, c4⟩ := hmv.out _ hSw; go_simp; (try with_reducible rfl)))
   | refine xn hSG 4 [5, 6, 7, 8, 9, 10] rfl (by kernel_rfl) (fun _ _ _ h => h) (by rfl) hHeld ?_
  (try simp only [zq1, zq2, zq3, Act.put, zq4, zq5, zq6])
  refine wpAnyX_one (i := 1) (by kernel_rfl) rfl (fun w8 hg K hK => ?_)
  have hgS := hSG.out _ _ hHeld.out hg
  go_simp
  refine hK.out _ _ (hgS.tr (grAlloc _ _)) (fun hHeld => ?_)
  clear hK K hg
  have hs8 := hgS.size
  have HO8 : Hid ((w8.alloc (.cells #[] 3)).ownsRow w8.heap.size 3 1 (.slice (some ⟨w8.heap.size, 0, none⟩) 0 0) 0 []) := Lib.hid (World.ownsRow_made w8 #[] 0 (Nat.le_refl _) (Nat.zero_le _) rfl)
  refine wpAnyX_one (i := 3) (by kernel_rfl) rfl (fun w9 hg K hK => ?_)
  have hgS := hSG.out _ _ hHeld.out hg
  have hO9 := owns_below HO8.out hg.block
  have hs9 : w8.heap.size + 1 ≤ w9.heap.size := by have := hg.size; simpa using this
  have hc9 : ∀ (j : Nat) (u : Value), (iCells st)[j]? = some u → w9.cell? ((⟨gs, os, none⟩ : Addr).add j) = some u := by
   intro j u hu
   simp only [iCells, List.getElem?_map, Option.map_eq_some_iff] at hu
   obtain ⟨m, hm, rfl⟩ := hu
   rw [addN]
   exact grCell hgS (hasH.out j m hm)
  have h1c : ∀ u ∈ iCells st, u.oneCell' = true := by intro u hu; obtain ⟨m, -, rfl⟩ := List.mem_map.1 hu; rfl
  refine step_append_lies _ (by rfl) _ _ _ (by rfl) w8.heap.size 3 ix _ 1 8 Tryz.underlying27 hi hz0 hz1 hz2 rfl (by decide) _ 0 [] (by rfl) hO9 ⟨gs, os, none⟩ st.length sc (iCells st) (by rfl) (by simp [iCells]) hc9 h1c hpos (by unfold maxLen; omega) (by omega) (by omega) _ rfl ?_
  intro gb cap w10 hown10 hgrow hat10 hlt10
  have hO10 : Hid (IntsO w8.heap.size w10 st gb cap) := Lib.hid (by unfold IntsO; simpa using hown10)
  have hg10 : Gr w7 w10 := Below.trans hgS (gbBelow (B := w7.heap.size) hgrow (by omega) (fun k e => by simp [Value.ownBlock] at e; omega))
  simp only [Nat.zero_add]
  refine hK.out _ _ hg10 (fun hHeld => ?_)
  clear hK K hg hgS hown10 hgrow hat10 hlt10 hO9 hs9 hc9 h1c hg10 HO8 hs8
  refine wpAnyX_one (i := 5) (by kernel_rfl) rfl (fun w11 hg K hK => ?_)
  have hgS := hSG.out _ _ hHeld.out hg
  go_simp
  go_at_call 10
  refine (HR1.out _ (Gr.tr HB.out hgS) _ _ (hO10.out.intsR.gr hg)).mono ?_
  rintro en w12 ⟨rfl, hb12⟩
  refine hK.out _ _ (hgS.tr hb12) (fun hHeld => ?_)
  clear hK K hg hgS hb12
  first
   | (refine xk hSG 6 [7, 8, 9, 10] (v := ?_) rfl (by kernel_rfl) (fun _ _ _ h => h) (by rfl) ?_ hHeld ?_; rotate_left; focus (intro w' hSw; obtain ⟨p0, p1, p2, p3, p4, p5, p6, p7, p8, c0, c1, c2, c3, c4⟩ := hmv.out _ hSw; go_simp; (try with_reducible rfl)))
   | refine xn hSG 6 [7, 8, 9, 10] rfl (by kernel_rfl) (fun _ _ _ h => h) (by rfl) hHeld ?_
  (try simp only [zq1, zq2, zq3, Act.put, zq4, zq5, zq6])
  first
   | (refine xk hSG 7 [9, 10] (v := ?_) rfl (by kernel_rfl) (fun _ _ _ h => h) (by rfl) ?_ hHeld ?_; rotate_left; focus (intro w' hSw; obtain ⟨p0, p1, p2, p3, p4, p5, p6, p7, p8, c0, c1, c2, c3, c4⟩ := hmv.out _ hSw; go_simp; (try with_reducible rfl)))
   | refine xn hSG 7 [9, 10] rfl (by kernel_rfl) (fun _ _ _ h => h) (by rfl) hHeld ?_
  (try simp only [zq1, zq2, zq3, Act.put, zq4, zq5, zq6])
  first
   | (refine xk hSG 9 [10] (v := ?_) rfl (by kernel_rfl) (fun _ _ _ h => h) (by rfl) ?_ hHeld ?_; rotate_left; focus (intro w' hSw; obtain ⟨p0, p1, p2, p3, p4, p5, p6, p7, p8, c0, c1, c2, c3, c4⟩ := hmv.out _ hSw; go_simp; (try with_reducible rfl)))
   | refine xn hSG 9 [10] rfl (by kernel_rfl) (fun _ _ _ h => h) (by rfl) hHeld ?_
  (try simp only [zq1, zq2, zq3, Act.put, zq4, zq5, zq6])
  first
   | (refine xk hSG 8 [10] (v := ?_) rfl (by kernel_rfl) (fun _ _ _ h => h) (by rfl) ?_ hHeld ?_; rotate_left; focus (intro w' hSw; obtain ⟨p0, p1, p2, p3, p4, p5, p6, p7, p8, c0, c1, c2, c3, c4⟩ := hmv.out _ hSw; go_simp; (try with_reducible rfl)))
   | refine xn hSG 8 [10] rfl (by kernel_rfl) (fun _ _ _ h => h) (by rfl) hHeld ?_
  (try simp only [zq1, zq2, zq3, Act.put, zq4, zq5, zq6])
  first
   | (refine xk hSG 10 [] (v := ?_) rfl (by kernel_rfl) (fun _ _ _ h => h) (by rfl) ?_ hHeld ?_; rotate_left; focus (intro w' hSw; obtain ⟨p0, p1, p2, p3, p4, p5, p6, p7, p8, c0, c1, c2, c3, c4⟩ := hmv.out _ hSw; go_simp; (try with_reducible rfl)))
   | refine xn hSG 10 [] rfl (by kernel_rfl) (fun _ _ _ h => h) (by rfl) hHeld ?_
  (try simp only [zq1, zq2, zq3, Act.put, zq4, zq5, zq6])
  refine wpAnyX_done (by kernel_rfl) (fun w13 hg => ?_) _
  have hb2 : Gr w7 w13 := hSG.out _ _ hHeld.out hg
  clear hHeld hSG hg hO10
  have HB := Lib.hid (Gr.tr HB.out hb2)
  have HP := Lib.hid (grBlk hb2 HP.out)
  have HC := Lib.hid (grBlk hb2 HC.out)
  clear hb2 p0 p1 p2 p3 p4 p5 p6 p7 p8 c0 c1 c2 c3 c4
  obtain ⟨p0, p1, p2, p3, p4, p5, p6, p7, p8⟩ := U.cells9 HP.out
  obtain ⟨⟨c0, c1, c2, c3, c4⟩, -⟩ := C.cells5C HC.out
  have hRd := Lib.hid (fun (wx : World) (A : Option Addr) (m : Nat) (hn : (onAt o.list n).length ≤ maxLen) (hR : StsR wx (onAt o.list n) A) => reads_of (onAt o.list n) wx k A m hn hkbe hR)
  go_upto_region 9 with (go_at_call 12; refine (hI0.out _).mono ?_; rintro en w14 ⟨rfl, hb2⟩; have HB := Lib.hid (Gr.tr HB.out hb2); have HP := Lib.hid (grBlk hb2 HP.out); have HC := Lib.hid (grBlk hb2 HC.out); clear hb2 p0 p1 p2 p3 p4 p5 p6 p7 p8 c0 c1 c2 c3 c4; obtain ⟨p0, p1, p2, p3, p4, p5, p6, p7, p8⟩ := U.cells9 HP.out; obtain ⟨⟨c0, c1, c2, c3, c4⟩, -⟩ := C.cells5C HC.out)
  obtain ⟨LA, lm, pe, hLe, hne⟩ := pg_on HP.out HO.out n (by omega)
  have hRd := Lib.hid (hRd.out w14 LA lm hne (hLe.below HB.out))
  generalize hle : (onAt o.list n).length = le at *
  clear hle
  rcases hrd : rdL (k : Int) (onAt o.list n) with _ | _
  ·rw [hrd] at hRd
   have hR3 := Lib.hid (fun wx hg A c hI => HR2.out wx hg A c (1 + u2) (by omega) (by omega) hrd hI)
   have qv : IntKind.i64.wrap (1 + u2) = 1 + u2 := IntWalk.i64_in _ (by omega)
   clear HR1 HR2 hrd
   go_upto_region 11 with (go_at_call 14; refine hRd.out.mono ?_; rintro en w15 ⟨rfl, hb2⟩; clear pe; have HB := Lib.hid (Gr.tr HB.out hb2); have HP := Lib.hid (grBlk hb2 HP.out); have HC := Lib.hid (grBlk hb2 HC.out); clear hb2 p0 p1 p2 p3 p4 p5 p6 p7 p8 c0 c1 c2 c3 c4; obtain ⟨p0, p1, p2, p3, p4, p5, p6, p7, p8⟩ := U.cells9 HP.out; obtain ⟨⟨c0, c1, c2, c3, c4⟩, -⟩ := C.cells5C HC.out)
   obtain ⟨⟨vk, ck⟩, fk⟩ := in_cell HC.out hk4
   obtain ⟨W6, hW6⟩ : ∃ W6, W6 = w15.setCell ⟨w.heap.size + 1, 1 + k, none⟩ (.int .i64 (1 + u2)) := ⟨_, rfl⟩
   have HC6 : Hid (W6.heap[w.heap.size + 1]? = some (.cells (clA n (inK k (1 + u2) i0 i1 i2 i3).1 (inK k (1 + u2) i0 i1 i2 i3).2.1 (inK k (1 + u2) i0 i1 i2 i3).2.2.1 (inK k (1 + u2) i0 i1 i2 i3).2.2.2) 30 (0, 0))) := Lib.hid (by rw [hW6]; exact set_in HC.out hk4)
   have HB6 : Hid (Gr w W6) := Lib.hid (by rw [hW6]; exact C.belowSet HB.out (by omega))
   have HP6 : Hid (W6.heap[w.heap.size]? = some (.cells (U.pgArr x VA vn vm o a wi pa) 26 (0, 0))) := Lib.hid (by rw [hW6]; exact (C.scO _ _ _ _ _ (by omega)).trans HP.out)
   clear p0 p1 p2 p3 p4 p5 p6 p7 p8 c1 c2 c3 c4
   go_upto_region 12 with fail
   rw [← hW6]
   clear hW6 ck fk c0 HB HP HC qv
   generalize inK k (1 + u2) i0 i1 i2 i3 = kk at *
   obtain ⟨j0, j1, j2, j3⟩ := kk
   simp only at HC6 hR3
   have HB := HB6
   have HP := HP6
   have HC := HC6
   clear HB6 HP6 HC6
   obtain ⟨p0, p1, p2, p3, p4, p5, p6, p7, p8⟩ := U.cells9 HP.out
   obtain ⟨⟨c0, c1, c2, c3, c4⟩, -⟩ := C.cells5C HC.out
   go_wp2_with (first
    | (go_at_call 10; refine (hR3.out _ HB.out _ _ (HSt.out.gr HB.out)).mono ?_; rintro en w17 ⟨rfl, hb2⟩; have HB := Lib.hid (Gr.tr HB.out hb2); have HP := Lib.hid (grBlk hb2 HP.out); have HC := Lib.hid (grBlk hb2 HC.out); clear hb2 p0 p1 p2 p3 p4 p5 p6 p7 p8 c0 c1 c2 c3 c4; obtain ⟨p0, p1, p2, p3, p4, p5, p6, p7, p8⟩ := U.cells9 HP.out; obtain ⟨⟨c0, c1, c2, c3, c4⟩, -⟩ := C.cells5C HC.out)
    | (go_at_call 12; refine (hI0.out _).mono ?_; rintro en w18 ⟨rfl, hb2⟩; have HB := Lib.hid (Gr.tr HB.out hb2); have HP := Lib.hid (grBlk hb2 HP.out); have HC := Lib.hid (grBlk hb2 HC.out); clear hb2 p0 p1 p2 p3 p4 p5 p6 p7 p8 c0 c1 c2 c3 c4; obtain ⟨p0, p1, p2, p3, p4, p5, p6, p7, p8⟩ := U.cells9 HP.out; obtain ⟨⟨c0, c1, c2, c3, c4⟩, -⟩ := C.cells5C HC.out))
   go_ret
   exact ⟨rfl, HB.out⟩
  ·rw [hrd] at hRd
   clear HR1 HR2 hrd
   go_wp2_with (go_at_call 14; refine hRd.out.mono ?_; rintro en w15 ⟨rfl, hb2⟩; clear pe; have HB := Lib.hid (Gr.tr HB.out hb2); have HP := Lib.hid (grBlk hb2 HP.out); have HC := Lib.hid (grBlk hb2 HC.out); clear hb2 p0 p1 p2 p3 p4 p5 p6 p7 p8 c0 c1 c2 c3 c4; obtain ⟨p0, p1, p2, p3, p4, p5, p6, p7, p8⟩ := U.cells9 HP.out; obtain ⟨⟨c0, c1, c2, c3, c4⟩, -⟩ := C.cells5C HC.out)
   go_ret
   exact ⟨rfl, HB.out⟩
 ·rw [hrn] at HR1 HR2
  have hl2H := Lib.hid (rnL_len _ hrn)
  have hI0 := Lib.hid (fun (wx : World) (A B : Option Addr) (p q : Nat) (h1 : IntsR wx st' A) (h2 : IntsR wx st' B) => by have h := Ints_any st' st' A B p q wx h1 h2 (by have := hl2H.out; omega); rw [intsB_self] at h; exact h)
  clear hrn hmem hs hr
  generalize hvn : vs.length = vn at *
  have hvnH := Lib.hid hvn
  clear hvn
  go_upto_region 6 with (go_at_call 10; refine (HR1.out _ HB.out _ _ (HSt.out.gr HB.out)).mono ?_; rintro en w7 ⟨⟨g4, q4, rfl, hO4⟩, hb2⟩; have HO4 := Lib.hid hO4; clear hO4; have HB := Lib.hid (Gr.tr HB.out hb2); have HP := Lib.hid (grBlk hb2 HP.out); have HC := Lib.hid (grBlk hb2 HC.out); clear hb2 p0 p1 p2 p3 p4 p5 p6 p7 p8 c0 c1 c2 c3 c4; obtain ⟨p0, p1, p2, p3, p4, p5, p6, p7, p8⟩ := U.cells9 HP.out; obtain ⟨⟨c0, c1, c2, c3, c4⟩, -⟩ := C.cells5C HC.out)
  obtain ⟨gs, os, rfl, has⟩ := (HSt.out.gr HB.out).addr (by intro h; rw [h] at hpos; simp at hpos)
  have hasH := Lib.hid has
  clear has
  refine wp_region_X (S := fun wq => Gr w7 wq) [] (by kernel_rfl) (grDrew _) (fun hHeld => ?_)
  have hSG : Hid (∀ wp wq : World, Gr w7 wp → Gr wp wq → Gr w7 wq) := Lib.hid (fun _ _ h k => h.tr k)
  have hmv := Lib.hid (fun (wq : World) (hq : Gr w7 wq) => And.intro (grCell hq p0) (And.intro (grCell hq p1) (And.intro (grCell hq p2) (And.intro (grCell hq p3) (And.intro (grCell hq p4) (And.intro (grCell hq p5) (And.intro (grCell hq p6) (And.intro (grCell hq p7) (And.intro (grCell hq p8) (And.intro (grCell hq c0) (And.intro (grCell hq c1) (And.intro (grCell hq c2) (And.intro (grCell hq c3) (grCell hq c4))))))))))))))
  first
   | (refine xk hSG 0 [5, 6, 7, 8, 9, 10] (v := ?_) rfl (by kernel_rfl) (fun _ _ _ h => h) (by rfl) ?_ hHeld ?_; rotate_left; focus (intro w' hSw; obtain ⟨p0, p1, p2, p3, p4, p5, p6, p7, p8, c0, c1, c2, c3, c4⟩ := hmv.out _ hSw; go_simp; (try with_reducible rfl)))
   | refine xn hSG 0 [5, 6, 7, 8, 9, 10] rfl (by kernel_rfl) (fun _ _ _ h => h) (by rfl) hHeld ?_
  (try simp only [zq1, zq2, zq3, Act.put, zq4, zq5, zq6])
  first
   | (refine xk hSG 2 [3, 5, 6, 7, 8, 9, 10] (v := ?_) rfl (by kernel_rfl) (fun _ _ _ h => h) (by rfl) ?_ hHeld ?_; rotate_left; focus (intro w' hSw; obtain ⟨p0, p1, p2, p3, p4, p5, p6, p7, p8, c0, c1, c2, c3, c4⟩ := hmv.out _ hSw; go_simp; (try with_reducible rfl)))
   | refine xn hSG 2 [3, 5, 6, 7, 8, 9, 10] rfl (by kernel_rfl) (fun _ _ _ h => h) (by rfl) hHeld ?_
  (try simp only [zq1, zq2, zq3, Act.put, zq4, zq5, zq6])
  first
   | (refine xk hSG 4 [5, 6, 7, 8, 9, 10] (v := ?_) rfl (by kernel_rfl) (fun _ _ _ h => h) (by rfl) ?_ hHeld ?_; rotate_left; focus (intro w' hSw; obtain ⟨p0, p1, p2, p3, p4, p5, p6, p7, p8, c0, c1, c2, c3, c4⟩ := hmv.out _ hSw; go_simp; (try with_reducible rfl)))
   | refine xn hSG 4 [5, 6, 7, 8, 9, 10] rfl (by kernel_rfl) (fun _ _ _ h => h) (by rfl) hHeld ?_
  (try simp only [zq1, zq2, zq3, Act.put, zq4, zq5, zq6])
  refine wpAnyX_one (i := 1) (by kernel_rfl) rfl (fun w8 hg K hK => ?_)
  have hgS := hSG.out _ _ hHeld.out hg
  go_simp
  refine hK.out _ _ (hgS.tr (grAlloc _ _)) (fun hHeld => ?_)
  clear hK K hg
  have hs8 := hgS.size
  have HO8 : Hid ((w8.alloc (.cells #[] 3)).ownsRow w8.heap.size 3 1 (.slice (some ⟨w8.heap.size, 0, none⟩) 0 0) 0 []) := Lib.hid (World.ownsRow_made w8 #[] 0 (Nat.le_refl _) (Nat.zero_le _) rfl)
  refine wpAnyX_one (i := 3) (by kernel_rfl) rfl (fun w9 hg K hK => ?_)
  have hgS := hSG.out _ _ hHeld.out hg
  have hO9 := owns_below HO8.out hg.block
  have hs9 : w8.heap.size + 1 ≤ w9.heap.size := by have := hg.size; simpa using this
  have hc9 : ∀ (j : Nat) (u : Value), (iCells st)[j]? = some u → w9.cell? ((⟨gs, os, none⟩ : Addr).add j) = some u := by
   intro j u hu
   simp only [iCells, List.getElem?_map, Option.map_eq_some_iff] at hu
   obtain ⟨m, hm, rfl⟩ := hu
   rw [addN]
   exact grCell hgS (hasH.out j m hm)
  have h1c : ∀ u ∈ iCells st, u.oneCell' = true := by intro u hu; obtain ⟨m, -, rfl⟩ := List.mem_map.1 hu; rfl
  refine step_append_lies _ (by rfl) _ _ _ (by rfl) w8.heap.size 3 ix _ 1 8 Tryz.underlying27 hi hz0 hz1 hz2 rfl (by decide) _ 0 [] (by rfl) hO9 ⟨gs, os, none⟩ st.length sc (iCells st) (by rfl) (by simp [iCells]) hc9 h1c hpos (by unfold maxLen; omega) (by omega) (by omega) _ rfl ?_
  intro gb cap w10 hown10 hgrow hat10 hlt10
  have hO10 : Hid (IntsO w8.heap.size w10 st gb cap) := Lib.hid (by unfold IntsO; simpa using hown10)
  have hg10 : Gr w7 w10 := Below.trans hgS (gbBelow (B := w7.heap.size) hgrow (by omega) (fun k e => by simp [Value.ownBlock] at e; omega))
  simp only [Nat.zero_add]
  refine hK.out _ _ hg10 (fun hHeld => ?_)
  clear hK K hg hgS hown10 hgrow hat10 hlt10 hO9 hs9 hc9 h1c hg10 HO8 hs8
  refine wpAnyX_one (i := 5) (by kernel_rfl) rfl (fun w11 hg K hK => ?_)
  have hgS := hSG.out _ _ hHeld.out hg
  go_simp
  go_at_call 10
  refine (HR1.out _ (Gr.tr HB.out hgS) _ _ (hO10.out.intsR.gr hg)).mono ?_
  rintro en w12 ⟨⟨g5, q5, rfl, hO5⟩, hb12⟩
  refine hK.out _ _ (hgS.tr hb12) (fun hHeld => ?_)
  clear hK K hg hgS hb12
  first
   | (refine xk hSG 6 [7, 8, 9, 10] (v := ?_) rfl (by kernel_rfl) (fun _ _ _ h => h) (by rfl) ?_ hHeld ?_; rotate_left; focus (intro w' hSw; obtain ⟨p0, p1, p2, p3, p4, p5, p6, p7, p8, c0, c1, c2, c3, c4⟩ := hmv.out _ hSw; go_simp; (try with_reducible rfl)))
   | refine xn hSG 6 [7, 8, 9, 10] rfl (by kernel_rfl) (fun _ _ _ h => h) (by rfl) hHeld ?_
  (try simp only [zq1, zq2, zq3, Act.put, zq4, zq5, zq6])
  first
   | (refine xk hSG 7 [9, 10] (v := ?_) rfl (by kernel_rfl) (fun _ _ _ h => h) (by rfl) ?_ hHeld ?_; rotate_left; focus (intro w' hSw; obtain ⟨p0, p1, p2, p3, p4, p5, p6, p7, p8, c0, c1, c2, c3, c4⟩ := hmv.out _ hSw; go_simp; (try with_reducible rfl)))
   | refine xn hSG 7 [9, 10] rfl (by kernel_rfl) (fun _ _ _ h => h) (by rfl) hHeld ?_
  (try simp only [zq1, zq2, zq3, Act.put, zq4, zq5, zq6])
  first
   | (refine xk hSG 9 [10] (v := ?_) rfl (by kernel_rfl) (fun _ _ _ h => h) (by rfl) ?_ hHeld ?_; rotate_left; focus (intro w' hSw; obtain ⟨p0, p1, p2, p3, p4, p5, p6, p7, p8, c0, c1, c2, c3, c4⟩ := hmv.out _ hSw; go_simp; (try with_reducible rfl)))
   | refine xn hSG 9 [10] rfl (by kernel_rfl) (fun _ _ _ h => h) (by rfl) hHeld ?_
  (try simp only [zq1, zq2, zq3, Act.put, zq4, zq5, zq6])
  first
   | (refine xk hSG 8 [10] (v := ?_) rfl (by kernel_rfl) (fun _ _ _ h => h) (by rfl) ?_ hHeld ?_; rotate_left; focus (intro w' hSw; obtain ⟨p0, p1, p2, p3, p4, p5, p6, p7, p8, c0, c1, c2, c3, c4⟩ := hmv.out _ hSw; go_simp; (try with_reducible rfl)))
   | refine xn hSG 8 [10] rfl (by kernel_rfl) (fun _ _ _ h => h) (by rfl) hHeld ?_
  (try simp only [zq1, zq2, zq3, Act.put, zq4, zq5, zq6])
  first
   | (refine xk hSG 10 [] (v := ?_) rfl (by kernel_rfl) (fun _ _ _ h => h) (by rfl) ?_ hHeld ?_; rotate_left; focus (intro w' hSw; obtain ⟨p0, p1, p2, p3, p4, p5, p6, p7, p8, c0, c1, c2, c3, c4⟩ := hmv.out _ hSw; go_simp; (try with_reducible rfl)))
   | refine xn hSG 10 [] rfl (by kernel_rfl) (fun _ _ _ h => h) (by rfl) hHeld ?_
  (try simp only [zq1, zq2, zq3, Act.put, zq4, zq5, zq6])
  refine wpAnyX_done (by kernel_rfl) (fun w13 hg => ?_) _
  have hb2 : Gr w7 w13 := hSG.out _ _ hHeld.out hg
  have HO5 := Lib.hid (hO5.gr hg)
  have HO4 := Lib.hid (HO4.out.gr hb2)
  clear hO5
  clear hHeld hSG hg hO10
  have HB := Lib.hid (Gr.tr HB.out hb2)
  have HP := Lib.hid (grBlk hb2 HP.out)
  have HC := Lib.hid (grBlk hb2 HC.out)
  clear hb2 p0 p1 p2 p3 p4 p5 p6 p7 p8 c0 c1 c2 c3 c4
  obtain ⟨p0, p1, p2, p3, p4, p5, p6, p7, p8⟩ := U.cells9 HP.out
  obtain ⟨⟨c0, c1, c2, c3, c4⟩, -⟩ := C.cells5C HC.out
  have hRd := Lib.hid (fun (wx : World) (A : Option Addr) (m : Nat) (hn : (onAt o.list n).length ≤ maxLen) (hR : StsR wx (onAt o.list n) A) => reads_of (onAt o.list n) wx k A m hn hkbe hR)
  go_upto_region 9 with (go_at_call 12; refine (hI0.out _ _ _ _ _ HO4.out.intsR HO5.out.intsR).mono ?_; rintro en w14 ⟨rfl, hb2⟩; have HO4 := Lib.hid (HO4.out.gr hb2); have HB := Lib.hid (Gr.tr HB.out hb2); have HP := Lib.hid (grBlk hb2 HP.out); have HC := Lib.hid (grBlk hb2 HC.out); clear hb2 p0 p1 p2 p3 p4 p5 p6 p7 p8 c0 c1 c2 c3 c4; obtain ⟨p0, p1, p2, p3, p4, p5, p6, p7, p8⟩ := U.cells9 HP.out; obtain ⟨⟨c0, c1, c2, c3, c4⟩, -⟩ := C.cells5C HC.out)
  obtain ⟨LA, lm, pe, hLe, hne⟩ := pg_on HP.out HO.out n (by omega)
  have hRd := Lib.hid (hRd.out w14 LA lm hne (hLe.below HB.out))
  generalize hle : (onAt o.list n).length = le at *
  clear hle
  rcases hrd : rdL (k : Int) (onAt o.list n) with _ | _
  ·rw [hrd] at hRd
   have hR3 := Lib.hid (fun wx hg A c hI => HR2.out wx hg A c (1 + u2) (by omega) (by omega) hrd hI)
   have qv : IntKind.i64.wrap (1 + u2) = 1 + u2 := IntWalk.i64_in _ (by omega)
   clear HR1 HR2 hrd
   go_upto_region 11 with (go_at_call 14; refine hRd.out.mono ?_; rintro en w15 ⟨rfl, hb2⟩; have HO4 := Lib.hid (HO4.out.gr hb2); clear pe; have HB := Lib.hid (Gr.tr HB.out hb2); have HP := Lib.hid (grBlk hb2 HP.out); have HC := Lib.hid (grBlk hb2 HC.out); clear hb2 p0 p1 p2 p3 p4 p5 p6 p7 p8 c0 c1 c2 c3 c4; obtain ⟨p0, p1, p2, p3, p4, p5, p6, p7, p8⟩ := U.cells9 HP.out; obtain ⟨⟨c0, c1, c2, c3, c4⟩, -⟩ := C.cells5C HC.out)
   obtain ⟨⟨vk, ck⟩, fk⟩ := in_cell HC.out hk4
   obtain ⟨W6, hW6⟩ : ∃ W6, W6 = w15.setCell ⟨w.heap.size + 1, 1 + k, none⟩ (.int .i64 (1 + u2)) := ⟨_, rfl⟩
   have HC6 : Hid (W6.heap[w.heap.size + 1]? = some (.cells (clA n (inK k (1 + u2) i0 i1 i2 i3).1 (inK k (1 + u2) i0 i1 i2 i3).2.1 (inK k (1 + u2) i0 i1 i2 i3).2.2.1 (inK k (1 + u2) i0 i1 i2 i3).2.2.2) 30 (0, 0))) := Lib.hid (by rw [hW6]; exact set_in HC.out hk4)
   have HB6 : Hid (Gr w W6) := Lib.hid (by rw [hW6]; exact C.belowSet HB.out (by omega))
   have HP6 : Hid (W6.heap[w.heap.size]? = some (.cells (U.pgArr x VA vn vm o a wi pa) 26 (0, 0))) := Lib.hid (by rw [hW6]; exact (C.scO _ _ _ _ _ (by omega)).trans HP.out)
   have HO6 : Hid (IntsO 0 W6 st' g4 q4) := Lib.hid (by rw [hW6]; exact IntsO.other HO4.out (IntsO.ne HO4.out HC.out (by decide)))
   clear p0 p1 p2 p3 p4 p5 p6 p7 p8 c1 c2 c3 c4
   go_upto_region 12 with fail
   rw [← hW6]
   clear hW6 ck fk c0 HB HP HC qv HO4
   generalize inK k (1 + u2) i0 i1 i2 i3 = kk at *
   obtain ⟨j0, j1, j2, j3⟩ := kk
   simp only at HC6 hR3
   have HB := HB6
   have HP := HP6
   have HC := HC6
   have HO4 := HO6
   clear HB6 HP6 HC6 HO6
   obtain ⟨p0, p1, p2, p3, p4, p5, p6, p7, p8⟩ := U.cells9 HP.out
   obtain ⟨⟨c0, c1, c2, c3, c4⟩, -⟩ := C.cells5C HC.out
   go_wp2_with (first
    | (go_at_call 10; refine (hR3.out _ HB.out _ _ (HSt.out.gr HB.out)).mono ?_; rintro en w17 ⟨⟨g6, q6, rfl, hO6⟩, hb2⟩; have HO6 := Lib.hid hO6; have HO4 := Lib.hid (HO4.out.gr hb2); clear hO6; have HB := Lib.hid (Gr.tr HB.out hb2); have HP := Lib.hid (grBlk hb2 HP.out); have HC := Lib.hid (grBlk hb2 HC.out); clear hb2 p0 p1 p2 p3 p4 p5 p6 p7 p8 c0 c1 c2 c3 c4; obtain ⟨p0, p1, p2, p3, p4, p5, p6, p7, p8⟩ := U.cells9 HP.out; obtain ⟨⟨c0, c1, c2, c3, c4⟩, -⟩ := C.cells5C HC.out)
    | (go_at_call 12; refine (hI0.out _ _ _ _ _ HO4.out.intsR HO6.out.intsR).mono ?_; rintro en w18 ⟨rfl, hb2⟩; have HB := Lib.hid (Gr.tr HB.out hb2); have HP := Lib.hid (grBlk hb2 HP.out); have HC := Lib.hid (grBlk hb2 HC.out); clear hb2 p0 p1 p2 p3 p4 p5 p6 p7 p8 c0 c1 c2 c3 c4; obtain ⟨p0, p1, p2, p3, p4, p5, p6, p7, p8⟩ := U.cells9 HP.out; obtain ⟨⟨c0, c1, c2, c3, c4⟩, -⟩ := C.cells5C HC.out))
   go_ret
   exact ⟨rfl, HB.out⟩
  ·rw [hrd] at hRd
   clear HR1 HR2 hrd
   go_wp2_with (go_at_call 14; refine hRd.out.mono ?_; rintro en w15 ⟨rfl, hb2⟩; have HO4 := Lib.hid (HO4.out.gr hb2); clear pe; have HB := Lib.hid (Gr.tr HB.out hb2); have HP := Lib.hid (grBlk hb2 HP.out); have HC := Lib.hid (grBlk hb2 HC.out); clear hb2 p0 p1 p2 p3 p4 p5 p6 p7 p8 c0 c1 c2 c3 c4; obtain ⟨p0, p1, p2, p3, p4, p5, p6, p7, p8⟩ := U.cells9 HP.out; obtain ⟨⟨c0, c1, c2, c3, c4⟩, -⟩ := C.cells5C HC.out)
   go_ret
   exact ⟨rfl, HB.out⟩
end M
end Go.Proofs.YtdlebaiamdbneaaGreatDoor
