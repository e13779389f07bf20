/- Texts of one proof: MxS. -/
import Derived.Test.YtdlebaiamdbneaaGreatDoorYn
set_option linter.unusedVariables false
set_option linter.unusedSimpArgs false
set_option maxRecDepth 100000
set_option maxHeartbeats 8000000
namespace Go.Proofs.YtdlebaiamdbneaaGreatDoor
open Go.RowKit
namespace M
open I
open U (Ex St StsR StR StAt btw btw_iff ev eArr KidsE newBlk blkLt Vr VarsR VrAt KpL sArr two_kids owns_below new_cells gbRefl gbAlloc gbTrans gbBelow)
open R (epanic bAllocX insR LeftP erOf cell1 limS WfL)
open C (valPM)
theorem start_ex (VA : Option Addr) (vm : Nat) (a : U.OnA) (w : World) (hL : LaidM w) (hV : VarsR w exVs VA) (hO : U.OnR w exOn a) :
  Calls Tryz.prog 9 #[U.pgv ⟨#[99]⟩ VA 1 vm exOn a 0 (-1)] w (fun e w' => (∃ A c, e = .returned (.tuple #[.slice A 1 c, .int .i64 0]) ∧ IntsR w' [2] A) ∧ Below w.heap.size w w') := by
 have h := Start_any ⟨#[99]⟩ exVs VA vm exOn a 0 (-1) w hL hV hO (by decide) (by intro v hv; simp [exVs] at hv; subst hv; decide) (by decide)
 have hv : valPM ⟨#[99]⟩ exVs exOn.list 0 (-1) = true := by decide +kernel
 rw [hv] at h
 refine h.mono ?_
 rintro e w' ⟨⟨A, c, he, hI⟩, hb⟩
 exact ⟨⟨A, _, he, hI⟩, hb⟩
theorem ev_ex (t : Ex) (v r : Int) (A : Option Addr) (c : Nat) (w : World) (hK : KidsE w t.kids A) (he : evalE [] [0, 0, 0, 0] t = (v, r)) :
  Calls Tryz.prog 19 #[.slice none 0 0, .agg (in4 0 0 0 0), ev t A c] w (VV (.tuple #[.int .i64 v, .int .i64 r]) w) := by
 have h := Eval_any [] none 0 0 0 0 0 t A c w (.inl rfl) (by decide) hK
 rw [he] at h
 exact h
abbrev seven : Ex := t2 5 (nm 0) (nm 7)
theorem head_any (w : World) (hL : LaidM w) : Calls Tryz.prog 7 #[] w (BB true w) := by
 have HL := Lib.hid (fun (wx : World) (hg : Gr w wx) => hL.gr hg)
 clear hL
 have g1 := Lib.hid (fun (wx : World) (hg : Gr w wx) => gives_ok 2 0 3 5 wx (HL.out wx hg) (by kernel_rfl))
 have g2 := Lib.hid (fun (wx : World) (hg : Gr w wx) => gives_ok 8 0 3 9 wx (HL.out wx hg) (by kernel_rfl))
 have g3 := Lib.hid (fun (wx : World) (hg : Gr w wx) => gives_ok 7 1 1 3 wx (HL.out wx hg) (by kernel_rfl))
 have g4 := Lib.hid (fun (wx : World) (hg : Gr w wx) => gives_er 1 1 1 0 15 wx (HL.out wx hg) (by kernel_rfl) (by decide))
 have g5 := Lib.hid (fun (wx : World) (hg : Gr w wx) => gives_er 10 1 1 0 1 wx (HL.out wx hg) (by kernel_rfl) (by decide))
 go_enter Tryz.func7, Tryz.ntmps7
 go_upto_region 3 with (first
  | (go_at_call 15; refine (example_any w).mono ?_; rintro e w2 ⟨⟨VA, vm, a, rfl, hV, hO⟩, hb2⟩; have HV := Lib.hid hV; have HO := Lib.hid hO; have HB := Lib.hid hb2; clear hV hO hb2)
  | (go_at_call 9; refine (start_ex VA vm a w2 (HL.out _ HB.out) HV.out HO.out).mono ?_; rintro e w3 ⟨⟨A3, c3, rfl, hI⟩, hb⟩; have HI := Lib.hid hI; have HB := Lib.hid (Gr.tr HB.out hb); clear hI hb HV HO)
  | (go_at_call 12; refine (ints_one 2 _ (some ⟨w3.heap.size, 0, none⟩) _ _ _ (HI.out.gr (grAlloc w3 _)) (ints1 (newBlk w3 _ _ rfl))).mono ?_; rintro e w4 ⟨rfl, hb⟩; have HB := Lib.hid (Gr.tr (Gr.tr HB.out (grAlloc w3 _)) hb); clear hb HI)
  | (go_at_call_of 16 (Value.int .i64 5); refine (g1.out _ HB.out).mono ?_; rintro e w5 ⟨rfl, hb⟩; have HB := Lib.hid (Gr.tr HB.out hb); clear hb g1)
  | (go_at_call_of 16 (Value.int .i64 9); refine (g2.out _ HB.out).mono ?_; rintro e w6 ⟨rfl, hb⟩; have HB := Lib.hid (Gr.tr HB.out hb); clear hb g2)
  | (go_at_call_of 16 (Value.int .i64 7); refine (g3.out _ HB.out).mono ?_; rintro e w7 ⟨rfl, hb⟩; have HB := Lib.hid (Gr.tr HB.out hb); clear hb g3)
  | (go_at_call_of 16 (Value.int .i64 15); refine (g4.out _ HB.out).mono ?_; rintro e w8 ⟨rfl, hb⟩; have HB := Lib.hid (Gr.tr HB.out hb); clear hb g4)
  | (go_at_call_of 16 (Value.int .i64 10); refine (g5.out _ HB.out).mono ?_; rintro e w9 ⟨rfl, hb⟩; have HB := Lib.hid (Gr.tr HB.out hb); clear hb g5))
 obtain ⟨WA, hWA⟩ : ∃ WA, WA = w9.alloc (.cells #[.int .i64 0, .int .i64 0, .int .i64 0, .int .i64 0] 28) := ⟨_, rfl⟩
 have HY : Hid (WA.heap[w9.heap.size]? = some (.cells #[.int .i64 0, .int .i64 0, .int .i64 0, .int .i64 0] 28 (0, 0))) := Lib.hid (by rw [hWA]; exact newBlk _ _ _ rfl)
 have HB := Lib.hid (show Gr w WA from by rw [hWA]; exact Gr.tr HB.out (grAlloc w9 _))
 go_upto_region 4 with fail
 rw [← hWA]
 clear hWA HL
 go_upto_region 5 with (first
  | (go_at_call_of 18 (Value.int .i64 0); refine (number_any 0 _).mono ?_; rintro e wB ⟨rfl, hb⟩; have HY := Lib.hid (grBlk hb HY.out); have HB := Lib.hid (Gr.tr HB.out hb); clear hb)
  | (go_at_call_of 18 (Value.int .i64 7); refine (number_any 7 _).mono ?_; rintro e wC ⟨rfl, hb⟩; have HY := Lib.hid (grBlk hb HY.out); have HB := Lib.hid (Gr.tr HB.out hb); clear hb)
  | (go_at_call 17; refine (two_any w.heap.size 5 (nm 0) (nm 7) none none 0 0 wC HB.out.size (KP.nil _ _ _) (KP.nil _ _ _) (Nat.zero_le _) (Nat.zero_le _)).mono ?_; rintro e wD ⟨⟨A7, c7, rfl, hk⟩, hb⟩; have hk7 := Lib.hid (hk.gr (grAlloc wD (.cells (eArr seven A7 c7) 46))); have HY := Lib.hid (grBlk (Gr.tr hb (grAlloc wD (.cells (eArr seven A7 c7) 46))) HY.out); have HB := Lib.hid (Gr.tr (Gr.tr HB.out hb) (grAlloc wD (.cells (eArr seven A7 c7) 46))); clear hb hk))
 obtain ⟨WE, hWE⟩ : ∃ WE, WE = wD.alloc (.cells (eArr seven A7 c7) 46) := ⟨_, rfl⟩
 show Code.wp _ _ _ _ (wD.alloc (.cells (eArr seven A7 c7) 46))
 rw [← hWE] at HY HB hk7 ⊢
 have HZ : Hid (WE.heap[wD.heap.size]? = some (.cells (eArr seven A7 c7) 46 (0, 0))) := Lib.hid (by rw [hWE]; exact newBlk _ _ _ rfl)
 have hsW := Lib.hid HB.out.size
 clear hWE
 obtain ⟨⟨y0, y1, y2, y3⟩, -⟩ := C.cells4C HY.out
 obtain ⟨⟨z0, z1, z2, z3⟩, -⟩ := C.cells4C HZ.out
 clear HY HZ
 go_upto_region 5 with fail
 refine wp_region_G (S := fun wq => Gr WE wq) (by kernel_rfl) (grDrew _) (fun hHeld => ?_)
 have hSG : Hid (∀ wp wq : World, Gr WE wp → Gr wp wq → Gr WE wq) := Lib.hid (fun _ _ h k => h.tr k)
 have hmv := Lib.hid (fun (wq : World) (hq : Gr WE wq) => And.intro (grCell hq y0) (And.intro (grCell hq y1) (And.intro (grCell hq y2) (And.intro (grCell hq y3) (And.intro (grCell hq z0) (And.intro (grCell hq z1) (And.intro (grCell hq z2) (grCell hq z3))))))))
 first
  | (refine tk hSG 0 (v := ?_) rfl (by kernel_rfl) (fun _ _ _ h => h) (by rfl) ?_ hHeld ?_; rotate_left; focus (intro w' hSw; obtain ⟨y0, y1, y2, y3, z0, z1, z2, z3⟩ := hmv.out _ hSw; go_simp; (try with_reducible rfl)))
  | refine tn hSG 0 rfl (by kernel_rfl) (fun _ _ _ h => h) (by rfl) hHeld ?_
 (try simp only [zq1, zq2, zq3, Act.put, zq4, zq5, zq6])
 first
  | (refine tk hSG 1 (v := ?_) rfl (by kernel_rfl) (fun _ _ _ h => h) (by rfl) ?_ hHeld ?_; rotate_left; focus (intro w' hSw; obtain ⟨y0, y1, y2, y3, z0, z1, z2, z3⟩ := hmv.out _ hSw; go_simp; (try with_reducible rfl)))
  | refine tn hSG 1 rfl (by kernel_rfl) (fun _ _ _ h => h) (by rfl) hHeld ?_
 (try simp only [zq1, zq2, zq3, Act.put, zq4, zq5, zq6])
 refine tc hSG 2 (v := .agg #[.int .i64 1, .int .i64 2, .int .i64 1, .slice none 0 0]) rfl (by kernel_rfl) (fun _ _ _ h => h) (by rfl) ?_ hHeld ?_
 focus (intro wz hSw K hK; obtain ⟨y0, y1, y2, y3, z0, z1, z2, z3⟩ := hmv.out _ hSw; go_simp; go_at_call 18; refine (number_any 2 _).mono ?_; rintro e w2 ⟨rfl, hb2⟩; exact hK.out _ hb2)
 (try simp only [zq1, zq2, zq3, Act.put, zq4, zq5, zq6])
 refine wpAnyG_ready (rs := [3]) (by kernel_rfl) (by simp) (AllG.cons rfl (fun wa hg K hK => ?_) AllG.nil)
 have hgS := hSG.out _ _ hHeld.out hg
 go_simp
 go_at_call 17
 refine (two_any w.heap.size 7 seven (nm 2) A7 none c7 0 wa (Nat.le_trans hsW.out hgS.size) (hk7.out.gr hgS) (KP.nil _ _ _) (by decide) (Nat.zero_le _)).mono ?_
 rintro e wb ⟨⟨A5, c5, rfl, hk⟩, hb⟩
 have hk5 := Lib.hid hk
 refine hK.out _ _ (hgS.tr hb) (fun hHeld => ?_)
 clear hK K hg hgS hb hk
 refine wpAnyG_ready (rs := [4]) (by kernel_rfl) (by simp) (AllG.cons rfl (fun wa hg K hK => ?_) AllG.nil)
 have hgS := hSG.out _ _ hHeld.out hg
 go_simp
 go_at_call 19
 refine (ev_ex (t2 7 seven (nm 2)) (-4) 0 A5 c5 wa (hk5.out.gr hg).here (by kernel_rfl)).mono ?_
 rintro e wb ⟨rfl, hb⟩
 refine hK.out _ _ (hgS.tr hb) (fun hHeld => ?_)
 clear hK K hg hgS hb hk5
 first
  | (refine tk hSG 5 (v := ?_) rfl (by kernel_rfl) (fun _ _ _ h => h) (by rfl) ?_ hHeld ?_; rotate_left; focus (intro w' hSw; obtain ⟨y0, y1, y2, y3, z0, z1, z2, z3⟩ := hmv.out _ hSw; go_simp; (try with_reducible rfl)))
  | refine tn hSG 5 rfl (by kernel_rfl) (fun _ _ _ h => h) (by rfl) hHeld ?_
 (try simp only [zq1, zq2, zq3, Act.put, zq4, zq5, zq6])
 first
  | (refine tk hSG 6 (v := ?_) rfl (by kernel_rfl) (fun _ _ _ h => h) (by rfl) ?_ hHeld ?_; rotate_left; focus (intro w' hSw; obtain ⟨y0, y1, y2, y3, z0, z1, z2, z3⟩ := hmv.out _ hSw; go_simp; (try with_reducible rfl)))
  | refine tn hSG 6 rfl (by kernel_rfl) (fun _ _ _ h => h) (by rfl) hHeld ?_
 (try simp only [zq1, zq2, zq3, Act.put, zq4, zq5, zq6])
 first
  | (refine tk hSG 7 (v := ?_) rfl (by kernel_rfl) (fun _ _ _ h => h) (by rfl) ?_ hHeld ?_; rotate_left; focus (intro w' hSw; obtain ⟨y0, y1, y2, y3, z0, z1, z2, z3⟩ := hmv.out _ hSw; go_simp; (try with_reducible rfl)))
  | refine tn hSG 7 rfl (by kernel_rfl) (fun _ _ _ h => h) (by rfl) hHeld ?_
 (try simp only [zq1, zq2, zq3, Act.put, zq4, zq5, zq6])
 first
  | (refine tk hSG 8 (v := ?_) rfl (by kernel_rfl) (fun _ _ _ h => h) (by rfl) ?_ hHeld ?_; rotate_left; focus (intro w' hSw; obtain ⟨y0, y1, y2, y3, z0, z1, z2, z3⟩ := hmv.out _ hSw; go_simp; (try with_reducible rfl)))
  | refine tn hSG 8 rfl (by kernel_rfl) (fun _ _ _ h => h) (by rfl) hHeld ?_
 (try simp only [zq1, zq2, zq3, Act.put, zq4, zq5, zq6])
 first
  | (refine tk hSG 9 (v := ?_) rfl (by kernel_rfl) (fun _ _ _ h => h) (by rfl) ?_ hHeld ?_; rotate_left; focus (intro w' hSw; obtain ⟨y0, y1, y2, y3, z0, z1, z2, z3⟩ := hmv.out _ hSw; go_simp; (try with_reducible rfl)))
  | refine tn hSG 9 rfl (by kernel_rfl) (fun _ _ _ h => h) (by rfl) hHeld ?_
 (try simp only [zq1, zq2, zq3, Act.put, zq4, zq5, zq6])
 refine wpAnyG_done (by kernel_rfl) (fun WF hg => ?_) _
 have hgN := hSG.out _ _ hHeld.out hg
 clear hg hHeld hSG
 have y0 := grCell hgN y0
 have y1 := grCell hgN y1
 have y2 := grCell hgN y2
 have y3 := grCell hgN y3
 have z0 := grCell hgN z0
 have z1 := grCell hgN z1
 have z2 := grCell hgN z2
 have z3 := grCell hgN z3
 have hk7 := Lib.hid (hk7.out.gr hgN)
 have hsW := Lib.hid (Nat.le_trans hsW.out hgN.size)
 have HB := Lib.hid (Gr.tr HB.out hgN)
 clear hgN
 go_upto_region 6 with fail
 refine wp_region_G (S := fun wq => Gr WF wq) (by kernel_rfl) (grDrew _) (fun hHeld => ?_)
 have hSG : Hid (∀ wp wq : World, Gr WF wp → Gr wp wq → Gr WF wq) := Lib.hid (fun _ _ h k => h.tr k)
 have hmv := Lib.hid (fun (wq : World) (hq : Gr WF wq) => And.intro (grCell hq y0) (And.intro (grCell hq y1) (And.intro (grCell hq y2) (And.intro (grCell hq y3) (And.intro (grCell hq z0) (And.intro (grCell hq z1) (And.intro (grCell hq z2) (grCell hq z3))))))))
 first
  | (refine tk hSG 0 (v := ?_) rfl (by kernel_rfl) (fun _ _ _ h => h) (by rfl) ?_ hHeld ?_; rotate_left; focus (intro w' hSw; obtain ⟨y0, y1, y2, y3, z0, z1, z2, z3⟩ := hmv.out _ hSw; go_simp; (try with_reducible rfl)))
  | refine tn hSG 0 rfl (by kernel_rfl) (fun _ _ _ h => h) (by rfl) hHeld ?_
 (try simp only [zq1, zq2, zq3, Act.put, zq4, zq5, zq6])
 first
  | (refine tk hSG 1 (v := ?_) rfl (by kernel_rfl) (fun _ _ _ h => h) (by rfl) ?_ hHeld ?_; rotate_left; focus (intro w' hSw; obtain ⟨y0, y1, y2, y3, z0, z1, z2, z3⟩ := hmv.out _ hSw; go_simp; (try with_reducible rfl)))
  | refine tn hSG 1 rfl (by kernel_rfl) (fun _ _ _ h => h) (by rfl) hHeld ?_
 (try simp only [zq1, zq2, zq3, Act.put, zq4, zq5, zq6])
 refine tc hSG 2 (v := .agg #[.int .i64 1, .int .i64 2, .int .i64 1, .slice none 0 0]) rfl (by kernel_rfl) (fun _ _ _ h => h) (by rfl) ?_ hHeld ?_
 focus (intro wz hSw K hK; obtain ⟨y0, y1, y2, y3, z0, z1, z2, z3⟩ := hmv.out _ hSw; go_simp; go_at_call 18; refine (number_any 2 _).mono ?_; rintro e w2 ⟨rfl, hb2⟩; exact hK.out _ hb2)
 (try simp only [zq1, zq2, zq3, Act.put, zq4, zq5, zq6])
 refine wpAnyG_ready (rs := [3]) (by kernel_rfl) (by simp) (AllG.cons rfl (fun wa hg K hK => ?_) AllG.nil)
 have hgS := hSG.out _ _ hHeld.out hg
 go_simp
 go_at_call 17
 refine (two_any w.heap.size 8 seven (nm 2) A7 none c7 0 wa (Nat.le_trans hsW.out hgS.size) (hk7.out.gr hgS) (KP.nil _ _ _) (by decide) (Nat.zero_le _)).mono ?_
 rintro e wb ⟨⟨A5, c5, rfl, hk⟩, hb⟩
 have hk5 := Lib.hid hk
 refine hK.out _ _ (hgS.tr hb) (fun hHeld => ?_)
 clear hK K hg hgS hb hk
 refine wpAnyG_ready (rs := [4]) (by kernel_rfl) (by simp) (AllG.cons rfl (fun wa hg K hK => ?_) AllG.nil)
 have hgS := hSG.out _ _ hHeld.out hg
 go_simp
 go_at_call 19
 refine (ev_ex (t2 8 seven (nm 2)) (-3) 0 A5 c5 wa (hk5.out.gr hg).here (by kernel_rfl)).mono ?_
 rintro e wb ⟨rfl, hb⟩
 refine hK.out _ _ (hgS.tr hb) (fun hHeld => ?_)
 clear hK K hg hgS hb hk5
 first
  | (refine tk hSG 5 (v := ?_) rfl (by kernel_rfl) (fun _ _ _ h => h) (by rfl) ?_ hHeld ?_; rotate_left; focus (intro w' hSw; obtain ⟨y0, y1, y2, y3, z0, z1, z2, z3⟩ := hmv.out _ hSw; go_simp; (try with_reducible rfl)))
  | refine tn hSG 5 rfl (by kernel_rfl) (fun _ _ _ h => h) (by rfl) hHeld ?_
 (try simp only [zq1, zq2, zq3, Act.put, zq4, zq5, zq6])
 first
  | (refine tk hSG 6 (v := ?_) rfl (by kernel_rfl) (fun _ _ _ h => h) (by rfl) ?_ hHeld ?_; rotate_left; focus (intro w' hSw; obtain ⟨y0, y1, y2, y3, z0, z1, z2, z3⟩ := hmv.out _ hSw; go_simp; (try with_reducible rfl)))
  | refine tn hSG 6 rfl (by kernel_rfl) (fun _ _ _ h => h) (by rfl) hHeld ?_
 (try simp only [zq1, zq2, zq3, Act.put, zq4, zq5, zq6])
 first
  | (refine tk hSG 7 (v := ?_) rfl (by kernel_rfl) (fun _ _ _ h => h) (by rfl) ?_ hHeld ?_; rotate_left; focus (intro w' hSw; obtain ⟨y0, y1, y2, y3, z0, z1, z2, z3⟩ := hmv.out _ hSw; go_simp; (try with_reducible rfl)))
  | refine tn hSG 7 rfl (by kernel_rfl) (fun _ _ _ h => h) (by rfl) hHeld ?_
 (try simp only [zq1, zq2, zq3, Act.put, zq4, zq5, zq6])
 first
  | (refine tk hSG 8 (v := ?_) rfl (by kernel_rfl) (fun _ _ _ h => h) (by rfl) ?_ hHeld ?_; rotate_left; focus (intro w' hSw; obtain ⟨y0, y1, y2, y3, z0, z1, z2, z3⟩ := hmv.out _ hSw; go_simp; (try with_reducible rfl)))
  | refine tn hSG 8 rfl (by kernel_rfl) (fun _ _ _ h => h) (by rfl) hHeld ?_
 (try simp only [zq1, zq2, zq3, Act.put, zq4, zq5, zq6])
 first
  | (refine tk hSG 9 (v := ?_) rfl (by kernel_rfl) (fun _ _ _ h => h) (by rfl) ?_ hHeld ?_; rotate_left; focus (intro w' hSw; obtain ⟨y0, y1, y2, y3, z0, z1, z2, z3⟩ := hmv.out _ hSw; go_simp; (try with_reducible rfl)))
  | refine tn hSG 9 rfl (by kernel_rfl) (fun _ _ _ h => h) (by rfl) hHeld ?_
 (try simp only [zq1, zq2, zq3, Act.put, zq4, zq5, zq6])
 refine wpAnyG_done (by kernel_rfl) (fun WG hg => ?_) _
 have hgN := hSG.out _ _ hHeld.out hg
 clear hg hHeld hSG
 have y0 := grCell hgN y0
 have y1 := grCell hgN y1
 have y2 := grCell hgN y2
 have y3 := grCell hgN y3
 have z0 := grCell hgN z0
 have z1 := grCell hgN z1
 have z2 := grCell hgN z2
 have z3 := grCell hgN z3
 have hk7 := Lib.hid (hk7.out.gr hgN)
 have hsW := Lib.hid (Nat.le_trans hsW.out hgN.size)
 have HB := Lib.hid (Gr.tr HB.out hgN)
 clear hgN
 go_upto_region 7 with fail
 refine wp_region_G (S := fun wq => Gr WG wq) (by kernel_rfl) (grDrew _) (fun hHeld => ?_)
 have hSG : Hid (∀ wp wq : World, Gr WG wp → Gr wp wq → Gr WG wq) := Lib.hid (fun _ _ h k => h.tr k)
 have hmv := Lib.hid (fun (wq : World) (hq : Gr WG wq) => And.intro (grCell hq y0) (And.intro (grCell hq y1) (And.intro (grCell hq y2) (And.intro (grCell hq y3) (And.intro (grCell hq z0) (And.intro (grCell hq z1) (And.intro (grCell hq z2) (grCell hq z3))))))))
 first
  | (refine tk hSG 0 (v := ?_) rfl (by kernel_rfl) (fun _ _ _ h => h) (by rfl) ?_ hHeld ?_; rotate_left; focus (intro w' hSw; obtain ⟨y0, y1, y2, y3, z0, z1, z2, z3⟩ := hmv.out _ hSw; go_simp; (try with_reducible rfl)))
  | refine tn hSG 0 rfl (by kernel_rfl) (fun _ _ _ h => h) (by rfl) hHeld ?_
 (try simp only [zq1, zq2, zq3, Act.put, zq4, zq5, zq6])
 first
  | (refine tk hSG 1 (v := ?_) rfl (by kernel_rfl) (fun _ _ _ h => h) (by rfl) ?_ hHeld ?_; rotate_left; focus (intro w' hSw; obtain ⟨y0, y1, y2, y3, z0, z1, z2, z3⟩ := hmv.out _ hSw; go_simp; (try with_reducible rfl)))
  | refine tn hSG 1 rfl (by kernel_rfl) (fun _ _ _ h => h) (by rfl) hHeld ?_
 (try simp only [zq1, zq2, zq3, Act.put, zq4, zq5, zq6])
 refine tc hSG 2 (v := .agg #[.int .i64 1, .int .i64 0, .int .i64 1, .slice none 0 0]) rfl (by kernel_rfl) (fun _ _ _ h => h) (by rfl) ?_ hHeld ?_
 focus (intro wz hSw K hK; obtain ⟨y0, y1, y2, y3, z0, z1, z2, z3⟩ := hmv.out _ hSw; go_simp; go_at_call 18; refine (number_any 0 _).mono ?_; rintro e w2 ⟨rfl, hb2⟩; exact hK.out _ hb2)
 (try simp only [zq1, zq2, zq3, Act.put, zq4, zq5, zq6])
 refine wpAnyG_ready (rs := [3]) (by kernel_rfl) (by simp) (AllG.cons rfl (fun wa hg K hK => ?_) AllG.nil)
 have hgS := hSG.out _ _ hHeld.out hg
 go_simp
 go_at_call 17
 refine (two_any w.heap.size 8 seven (nm 0) A7 none c7 0 wa (Nat.le_trans hsW.out hgS.size) (hk7.out.gr hgS) (KP.nil _ _ _) (by decide) (Nat.zero_le _)).mono ?_
 rintro e wb ⟨⟨A5, c5, rfl, hk⟩, hb⟩
 have hk5 := Lib.hid hk
 refine hK.out _ _ (hgS.tr hb) (fun hHeld => ?_)
 clear hK K hg hgS hb hk
 refine wpAnyG_ready (rs := [4]) (by kernel_rfl) (by simp) (AllG.cons rfl (fun wa hg K hK => ?_) AllG.nil)
 have hgS := hSG.out _ _ hHeld.out hg
 go_simp
 go_at_call 19
 refine (ev_ex (t2 8 seven (nm 0)) 0 14 A5 c5 wa (hk5.out.gr hg).here (by kernel_rfl)).mono ?_
 rintro e wb ⟨rfl, hb⟩
 refine hK.out _ _ (hgS.tr hb) (fun hHeld => ?_)
 clear hK K hg hgS hb hk5
 first
  | (refine tk hSG 5 (v := ?_) rfl (by kernel_rfl) (fun _ _ _ h => h) (by rfl) ?_ hHeld ?_; rotate_left; focus (intro w' hSw; obtain ⟨y0, y1, y2, y3, z0, z1, z2, z3⟩ := hmv.out _ hSw; go_simp; (try with_reducible rfl)))
  | refine tn hSG 5 rfl (by kernel_rfl) (fun _ _ _ h => h) (by rfl) hHeld ?_
 (try simp only [zq1, zq2, zq3, Act.put, zq4, zq5, zq6])
 first
  | (refine tk hSG 6 (v := ?_) rfl (by kernel_rfl) (fun _ _ _ h => h) (by rfl) ?_ hHeld ?_; rotate_left; focus (intro w' hSw; obtain ⟨y0, y1, y2, y3, z0, z1, z2, z3⟩ := hmv.out _ hSw; go_simp; (try with_reducible rfl)))
  | refine tn hSG 6 rfl (by kernel_rfl) (fun _ _ _ h => h) (by rfl) hHeld ?_
 (try simp only [zq1, zq2, zq3, Act.put, zq4, zq5, zq6])
 first
  | (refine tk hSG 7 (v := ?_) rfl (by kernel_rfl) (fun _ _ _ h => h) (by rfl) ?_ hHeld ?_; rotate_left; focus (intro w' hSw; obtain ⟨y0, y1, y2, y3, z0, z1, z2, z3⟩ := hmv.out _ hSw; go_simp; (try with_reducible rfl)))
  | refine tn hSG 7 rfl (by kernel_rfl) (fun _ _ _ h => h) (by rfl) hHeld ?_
 (try simp only [zq1, zq2, zq3, Act.put, zq4, zq5, zq6])
 first
  | (refine tk hSG 8 (v := ?_) rfl (by kernel_rfl) (fun _ _ _ h => h) (by rfl) ?_ hHeld ?_; rotate_left; focus (intro w' hSw; obtain ⟨y0, y1, y2, y3, z0, z1, z2, z3⟩ := hmv.out _ hSw; go_simp; (try with_reducible rfl)))
  | refine tn hSG 8 rfl (by kernel_rfl) (fun _ _ _ h => h) (by rfl) hHeld ?_
 (try simp only [zq1, zq2, zq3, Act.put, zq4, zq5, zq6])
 first
  | (refine tk hSG 9 (v := ?_) rfl (by kernel_rfl) (fun _ _ _ h => h) (by rfl) ?_ hHeld ?_; rotate_left; focus (intro w' hSw; obtain ⟨y0, y1, y2, y3, z0, z1, z2, z3⟩ := hmv.out _ hSw; go_simp; (try with_reducible rfl)))
  | refine tn hSG 9 rfl (by kernel_rfl) (fun _ _ _ h => h) (by rfl) hHeld ?_
 (try simp only [zq1, zq2, zq3, Act.put, zq4, zq5, zq6])
 refine wpAnyG_done (by kernel_rfl) (fun WH hg => ?_) _
 have hgN := hSG.out _ _ hHeld.out hg
 clear hg hHeld hSG
 have y0 := grCell hgN y0
 have y1 := grCell hgN y1
 have y2 := grCell hgN y2
 have y3 := grCell hgN y3
 have z0 := grCell hgN z0
 have z1 := grCell hgN z1
 have z2 := grCell hgN z2
 have z3 := grCell hgN z3
 have hk7 := Lib.hid (hk7.out.gr hgN)
 have hsW := Lib.hid (Nat.le_trans hsW.out hgN.size)
 have HB := Lib.hid (Gr.tr HB.out hgN)
 clear hgN
 go_upto_region 8 with fail
 refine wp_region_G (S := fun wq => Gr WH wq) (by kernel_rfl) (grDrew _) (fun hHeld => ?_)
 have hSG : Hid (∀ wp wq : World, Gr WH wp → Gr wp wq → Gr WH wq) := Lib.hid (fun _ _ h k => h.tr k)
 have hmv := Lib.hid (fun (wq : World) (hq : Gr WH wq) => And.intro (grCell hq y0) (And.intro (grCell hq y1) (And.intro (grCell hq y2) (grCell hq y3))))
 first
  | (refine tk hSG 0 (v := ?_) rfl (by kernel_rfl) (fun _ _ _ h => h) (by rfl) ?_ hHeld ?_; rotate_left; focus (intro w' hSw; obtain ⟨y0, y1, y2, y3⟩ := hmv.out _ hSw; go_simp; (try with_reducible rfl)))
  | refine tn hSG 0 rfl (by kernel_rfl) (fun _ _ _ h => h) (by rfl) hHeld ?_
 (try simp only [zq1, zq2, zq3, Act.put, zq4, zq5, zq6])
 refine tc hSG 1 (v := .agg #[.int .i64 1, .int .i64 1000000000, .int .i64 1, .slice none 0 0]) rfl (by kernel_rfl) (fun _ _ _ h => h) (by rfl) ?_ hHeld ?_
 focus (intro wz hSw K hK; obtain ⟨y0, y1, y2, y3⟩ := hmv.out _ hSw; go_simp; go_at_call 18; refine (number_any 1000000000 _).mono ?_; rintro e w2 ⟨rfl, hb2⟩; exact hK.out _ hb2)
 (try simp only [zq1, zq2, zq3, Act.put, zq4, zq5, zq6])
 refine tc hSG 2 (v := .agg #[.int .i64 1, .int .i64 1001, .int .i64 1, .slice none 0 0]) rfl (by kernel_rfl) (fun _ _ _ h => h) (by rfl) ?_ hHeld ?_
 focus (intro wz hSw K hK; obtain ⟨y0, y1, y2, y3⟩ := hmv.out _ hSw; go_simp; go_at_call 18; refine (number_any 1001 _).mono ?_; rintro e w2 ⟨rfl, hb2⟩; exact hK.out _ hb2)
 (try simp only [zq1, zq2, zq3, Act.put, zq4, zq5, zq6])
 refine wpAnyG_ready (rs := [3]) (by kernel_rfl) (by simp) (AllG.cons rfl (fun wa hg K hK => ?_) AllG.nil)
 have hgS := hSG.out _ _ hHeld.out hg
 go_simp
 go_at_call 17
 refine (two_any w.heap.size 6 (nm 1000000000) (nm 1001) none none 0 0 wa (Nat.le_trans hsW.out hgS.size) (KP.nil _ _ _) (KP.nil _ _ _) (Nat.zero_le _) (Nat.zero_le _)).mono ?_
 rintro e wb ⟨⟨A5, c5, rfl, hk⟩, hb⟩
 have hk5 := Lib.hid hk
 refine hK.out _ _ (hgS.tr hb) (fun hHeld => ?_)
 clear hK K hg hgS hb hk
 refine wpAnyG_ready (rs := [4]) (by kernel_rfl) (by simp) (AllG.cons rfl (fun wa hg K hK => ?_) AllG.nil)
 have hgS := hSG.out _ _ hHeld.out hg
 go_simp
 go_at_call 19
 refine (ev_ex (t2 6 (nm 1000000000) (nm 1001)) 0 3 A5 c5 wa (hk5.out.gr hg).here (by kernel_rfl)).mono ?_
 rintro e wb ⟨rfl, hb⟩
 refine hK.out _ _ (hgS.tr hb) (fun hHeld => ?_)
 clear hK K hg hgS hb hk5
 first
  | (refine tk hSG 5 (v := ?_) rfl (by kernel_rfl) (fun _ _ _ h => h) (by rfl) ?_ hHeld ?_; rotate_left; focus (intro w' hSw; obtain ⟨y0, y1, y2, y3⟩ := hmv.out _ hSw; go_simp; (try with_reducible rfl)))
  | refine tn hSG 5 rfl (by kernel_rfl) (fun _ _ _ h => h) (by rfl) hHeld ?_
 (try simp only [zq1, zq2, zq3, Act.put, zq4, zq5, zq6])
 first
  | (refine tk hSG 6 (v := ?_) rfl (by kernel_rfl) (fun _ _ _ h => h) (by rfl) ?_ hHeld ?_; rotate_left; focus (intro w' hSw; obtain ⟨y0, y1, y2, y3⟩ := hmv.out _ hSw; go_simp; (try with_reducible rfl)))
  | refine tn hSG 6 rfl (by kernel_rfl) (fun _ _ _ h => h) (by rfl) hHeld ?_
 (try simp only [zq1, zq2, zq3, Act.put, zq4, zq5, zq6])
 first
  | (refine tk hSG 7 (v := ?_) rfl (by kernel_rfl) (fun _ _ _ h => h) (by rfl) ?_ hHeld ?_; rotate_left; focus (intro w' hSw; obtain ⟨y0, y1, y2, y3⟩ := hmv.out _ hSw; go_simp; (try with_reducible rfl)))
  | refine tn hSG 7 rfl (by kernel_rfl) (fun _ _ _ h => h) (by rfl) hHeld ?_
 (try simp only [zq1, zq2, zq3, Act.put, zq4, zq5, zq6])
 first
  | (refine tk hSG 8 (v := ?_) rfl (by kernel_rfl) (fun _ _ _ h => h) (by rfl) ?_ hHeld ?_; rotate_left; focus (intro w' hSw; obtain ⟨y0, y1, y2, y3⟩ := hmv.out _ hSw; go_simp; (try with_reducible rfl)))
  | refine tn hSG 8 rfl (by kernel_rfl) (fun _ _ _ h => h) (by rfl) hHeld ?_
 (try simp only [zq1, zq2, zq3, Act.put, zq4, zq5, zq6])
 first
  | (refine tk hSG 9 (v := ?_) rfl (by kernel_rfl) (fun _ _ _ h => h) (by rfl) ?_ hHeld ?_; rotate_left; focus (intro w' hSw; obtain ⟨y0, y1, y2, y3⟩ := hmv.out _ hSw; go_simp; (try with_reducible rfl)))
  | refine tn hSG 9 rfl (by kernel_rfl) (fun _ _ _ h => h) (by rfl) hHeld ?_
 (try simp only [zq1, zq2, zq3, Act.put, zq4, zq5, zq6])
 refine wpAnyG_done (by kernel_rfl) (fun WI hg => ?_) _
 have hgN := hSG.out _ _ hHeld.out hg
 clear hg hHeld hSG y0 y1 y2 y3 z0 z1 z2 z3
 have HB := Lib.hid (Gr.tr HB.out hgN)
 clear hgN
 go_wp2
 go_ret
 exact ⟨rfl, HB.out⟩
end M
end Go.Proofs.YtdlebaiamdbneaaGreatDoor
