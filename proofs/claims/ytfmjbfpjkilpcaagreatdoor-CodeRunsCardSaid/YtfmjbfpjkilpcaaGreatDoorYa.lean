/- Texts of one proof: KzK, KzR, KzO. -/
import Derived.Test.YtfmjbfpjkilpcaaGreatDoorZe
import Derived.Test.YtfmjbfpjkilpcaaGreatDoorZz
import Derived.Test.YtfmjbfpjkilpcaaGreatDoorRows
import Derived.OpenShut
import Derived.ChangeArms
import Derived.DataReads
import Derived.ChangeSlices
import Derived.ChangeSame
import Derived.Lib.LaidTab
import Derived.MakeChecks
import Derived.LaidMore
set_option linter.unusedVariables false
set_option linter.unusedSimpArgs false
set_option maxRecDepth 100000
set_option maxHeartbeats 8000000
namespace Go.Proofs.YtfmjbfpjkilpcaaGreatDoor
open Go.RowKit
namespace K
open U (Ex St StsR)
abbrev wantL : List In := [⟨3, 0, 0⟩, ⟨1, 2, 0⟩, ⟨12, 8, 1⟩, ⟨2, 0, 0⟩, ⟨3, 0, 0⟩, ⟨4, 0, 0⟩, ⟨11, 0, 0⟩, ⟨13, 10, 0⟩, ⟨1, 1, 0⟩, ⟨11, 0, 0⟩]
theorem ex_valid : C.valPM ⟨#[112]⟩ exVs exOn.list 0 (-1) = true := by decide +kernel
theorem ze_valid : C.valPM ⟨#[]⟩ [] [[], [], [], [], []] 0 0 = false := by decide +kernel
theorem ex_long : longB exOn.list = false := by decide +kernel
theorem ex_code : exOn.list.map (fun l => cL l 0) = [wantL, [], [], [], []] := by rfl
abbrev heE (A : Option Addr) (c : Nat) : Hd := ⟨[], A, c⟩
theorem verC_map (hs : List Hd) (vars : Int) : verC hs vars = (btw2 vars (0, 12) && (hs.map (fun h => h.l)).all (fun l => verH l vars)) := by simp [verC, verAll, List.all_map, Function.comp_def]
theorem ver1 (A0 A1 A2 A3 A4 : Option Addr) (c0 c1 c2 c3 c4 : Nat) : verC [⟨wantL, A0, c0⟩, heE A1 c1, heE A2 c2, heE A3 c3, heE A4 c4] 1 = true := by rw [verC_map]; exact (by decide +kernel : (btw2 1 (0, 12) && ([wantL, [], [], [], []] : List (List In)).all (fun l => verH l 1)) = true)
theorem ver2 (A0 A1 A2 A3 A4 : Option Addr) (c0 c1 c2 c3 c4 : Nat) : verC [⟨wantL, A0, c0⟩, heE A1 c1, heE A2 c2, heE A3 c3, heE A4 c4] 0 = false := by rw [verC_map]; exact (by decide +kernel : (btw2 0 (0, 12) && ([wantL, [], [], [], []] : List (List In)).all (fun l => verH l 0)) = false)
theorem ver3 : verC [heE none 0, heE none 0, heE none 0, heE none 0, heE none 0] 0 = true := by decide +kernel
theorem ver4 : verC [heE none 0, heE none 0, heE none 0, heE none 0, heE none 0] 13 = false := by decide +kernel
theorem ver5 (A : Option Addr) (c : Nat) : verC [heE none 0, heE none 0, ⟨[⟨1, 0, 0⟩], A, c⟩, heE none 0, heE none 0] 1 = false := by rw [verC_map]; exact (by decide +kernel : (btw2 1 (0, 12) && ([[], [], [⟨1, 0, 0⟩], [], []] : List (List In)).all (fun l => verH l 1)) = false)
theorem ver6 (A : Option Addr) (c : Nat) : verC [⟨[⟨1, 0, 0⟩, ⟨4, 0, 0⟩], A, c⟩, heE none 0, heE none 0, heE none 0, heE none 0] 1 = false := by rw [verC_map]; exact (by decide +kernel : (btw2 1 (0, 12) && ([[⟨1, 0, 0⟩, ⟨4, 0, 0⟩], [], [], [], []] : List (List In)).all (fun l => verH l 1)) = false)
theorem ver7 (A : Option Addr) (c : Nat) : verC [heE none 0, heE none 0, heE none 0, heE none 0, ⟨[⟨13, 0, 0⟩], A, c⟩] 1 = false := by rw [verC_map]; exact (by decide +kernel : (btw2 1 (0, 12) && ([[], [], [], [], [⟨13, 0, 0⟩]] : List (List In)).all (fun l => verH l 1)) = false)
theorem insBlk {w : World} {b : Nat} {l : List In} {cs : Array Value} {T : TypeId} (h : w.heap[b]? = some (.cells cs T (0, 0))) (hc : cs.toList = insC l) : InsR w l (some ⟨b, 0, none⟩) := by
 have e : ∀ j, w.cell? ⟨b, j, none⟩ = (insC l)[j]? := fun j => by
  rw [cell_of_row _ _ j _ _ (0, 0) h, ← hc]
  simp
 refine .inr ⟨b, 0, rfl, fun i x hx => ?_⟩
 obtain ⟨k0, k1, k2⟩ := insC_at l i x hx
 rw [Nat.zero_add]
 exact ⟨(e _).trans k0, (e _).trans k1, (e _).trans k2⟩
theorem all5 {P : Hd → Prop} {a b c d e : Hd} (ha : P a) (hb : P b) (hc : P c) (hd : P d) (he : P e) : ∀ h ∈ [a, b, c, d, e], P h := by
 intro h hh
 simp only [List.mem_cons, List.not_mem_nil, or_false] at hh
 rcases hh with rfl | rfl | rfl | rfl | rfl <;> assumption
theorem nilR (w : World) (A : Option Addr) : InsR w [] A := .inl rfl
theorem head_any (w : World) (hP : LaidW w) (hw : 8 < w.heap.size) (hL : U.LaidW w) (hLO : LaidO w) (hE : LaidE w) : Calls Tryz.prog 5 #[] w (GG (.bool true) w) := by
 have HE := Lib.hid hE
 have HC := Lib.hid (fun (wx : World) (VA : Option Addr) (vm : Nat) (a : U.OnA) (hg : Gr w wx) (hV : U.VarsR wx exVs VA) (hO : U.OnR wx exOn a) => Compile_any ⟨#[112]⟩ exVs VA vm exOn a 0 (-1) wx (hP.below hg hw) (Nat.lt_of_lt_of_le hw hg.size) (hL.below hg) hV hO (by decide) (by decide) (hLO.gr hg))
 have HZ := Lib.hid (fun (wx : World) (hg : Gr w wx) => Compile_any ⟨#[]⟩ [] none 0 ⟨[], [], [], [], []⟩ ⟨none, none, none, none, none, 0, 0, 0, 0, 0⟩ 0 0 wx (hP.below hg hw) (Nat.lt_of_lt_of_le hw hg.size) (hL.below hg) (.inl rfl) ⟨trivial, trivial, trivial, trivial, trivial, by decide, by decide, by decide, by decide, by decide⟩ (by decide) (by decide) (hLO.gr hg))
 rw [ex_valid] at HC
 rw [show C.valPM ⟨#[]⟩ [] (U.On.list ⟨[], [], [], [], []⟩) 0 0 = false from ze_valid] at HZ
 clear hP hw hL hLO hE
 go_enter Tryz.func5, Tryz.ntmps5
 go_wp2_with fail
 refine (example_any _).mono ?_
 rintro e wA ⟨⟨VA, vm, a, rfl, hVA, hOA⟩, hgA⟩
 have hgA := Lib.hid hgA
 have hVA := Lib.hid hVA
 have hOA := Lib.hid hOA
 go_wp2_with fail
 refine (HC.out wA VA vm a hgA.out hVA.out hOA.out).mono ?_
 rintro e wB ⟨h, hgB⟩
 have hgB := Lib.hid (Gr.tr hgA.out hgB)
 obtain ⟨l0, l1, l2, l3, l4, A0, A1, A2, A3, A4, c0, c1, c2, c3, c4, rfl, hl, hRc⟩ : ∃ (l0 l1 l2 l3 l4 : List In) (A0 A1 A2 A3 A4 : Option Addr) (c0 c1 c2 c3 c4 : Nat), e = .returned (.tuple #[.agg (cdA ⟨l0, A0, c0⟩ ⟨l1, A1, c1⟩ ⟨l2, A2, c2⟩ ⟨l3, A3, c3⟩ ⟨l4, A4, c4⟩), .int .i64 0]) ∧ [l0, l1, l2, l3, l4] = [wantL, [], [], [], []] ∧ InsR wB l0 A0 := by
  rcases h with ⟨h, -⟩ | ⟨-, h, -⟩ | ⟨-, -, ⟨l0, A0, c0⟩, ⟨l1, A1, c1⟩, ⟨l2, A2, c2⟩, ⟨l3, A3, c3⟩, ⟨l4, A4, c4⟩, rfl, h2, h3⟩
  ·cases h
  ·rw [ex_long] at h; cases h
  ·exact ⟨l0, l1, l2, l3, l4, A0, A1, A2, A3, A4, c0, c1, c2, c3, c4, rfl, h2.trans ex_code, h3 _ (List.mem_cons_self ..)⟩
 simp only [List.cons.injEq, and_true] at hl
 obtain ⟨rfl, rfl, rfl, rfl, rfl⟩ := hl
 have hRc := Lib.hid hRc
 clear HC hgA hVA hOA
 obtain ⟨W1, hW1⟩ : ∃ W1, W1 = wB.alloc (.cells #[.slice A0 10 c0, .slice A1 0 c1, .slice A2 0 c2, .slice A3 0 c3, .slice A4 0 c4] 25) := ⟨_, rfl⟩
 have hg1 := Lib.hid (show Gr w W1 by rw [hW1]; exact Gr.tr hgB.out (grAlloc _ _))
 have hb1 := Lib.hid (show W1.heap[wB.heap.size]? = some (.cells (cdA ⟨wantL, A0, c0⟩ (heE A1 c1) (heE A2 c2) (heE A3 c3) (heE A4 c4)) 25 (0, 0)) by rw [hW1]; exact nBlk _ _ _ rfl)
 have hR1 := Lib.hid (show InsR W1 wantL A0 by rw [hW1]; exact hRc.out.gr (grAlloc _ _))
 go_upto_region 2 with fail
 rw [← hW1]
 clear hW1 hgB hRc
 go_wp2_with fail
 refine (HZ.out W1 hg1.out).mono ?_
 rintro e wD ⟨h, hgD⟩
 obtain rfl : e = .returned (.tuple #[zeroCd, .int .i64 1]) := by
  rcases h with ⟨-, h⟩ | ⟨h, -⟩ | ⟨h, -⟩
  ·exact h
  ·cases h
  ·cases h
 obtain ⟨W2, hW2⟩ : ∃ W2, W2 = wD.alloc (.cells #[nilS, nilS, nilS, nilS, nilS] 25) := ⟨_, rfl⟩
 have hgq : Gr W1 W2 := by rw [hW2]; exact Gr.tr hgD (grAlloc _ _)
 have hg2 := Lib.hid (Gr.tr hg1.out hgq)
 have hb2 := Lib.hid (grBlk hgq hb1.out)
 have hR2 := Lib.hid (hR1.out.gr hgq)
 clear h HZ hgD hgq
 go_upto_region 3 with fail
 rw [← hW2]
 clear hW2 hg1 hb1 hR1
 go_upto_region 8 with fail
 obtain ⟨W3, hW3⟩ : ∃ W3, W3 = (((((((W2.alloc (.cells #[.int .i64 3, .int .i64 0, .int .i64 0, .int .i64 1, .int .i64 2, .int .i64 0, .int .i64 12, .int .i64 8, .int .i64 1, .int .i64 2, .int .i64 0, .int .i64 0, .int .i64 3, .int .i64 0, .int .i64 0, .int .i64 4, .int .i64 0, .int .i64 0, .int .i64 11, .int .i64 0, .int .i64 0, .int .i64 13, .int .i64 10, .int .i64 0, .int .i64 1, .int .i64 1, .int .i64 0, .int .i64 11, .int .i64 0, .int .i64 0] 30)).alloc (.cells #[.slice none 0 0, .slice none 0 0, .slice (some ⟨W2.heap.size + 1 + 1 + 1 + 1, 0, none⟩) 1 1, .slice none 0 0, .slice none 0 0] 25)).alloc (.cells #[.slice (some ⟨W2.heap.size + 1 + 1 + 1 + 1 + 1, 0, none⟩) 2 2, .slice none 0 0, .slice none 0 0, .slice none 0 0, .slice none 0 0] 25)).alloc (.cells #[.slice none 0 0, .slice none 0 0, .slice none 0 0, .slice none 0 0, .slice (some ⟨W2.heap.size + 1 + 1 + 1 + 1 + 1 + 1, 0, none⟩) 1 1] 25)).alloc (.cells #[.int .i64 1, .int .i64 0, .int .i64 0] 30)).alloc (.cells #[.int .i64 1, .int .i64 0, .int .i64 0, .int .i64 4, .int .i64 0, .int .i64 0] 30)).alloc (.cells #[.int .i64 13, .int .i64 0, .int .i64 0] 30)) := ⟨_, rfl⟩
 have hgq : Gr W2 W3 := by rw [hW3]; exact ((((((grAlloc _ _).tr (grAlloc _ _)).tr (grAlloc _ _)).tr (grAlloc _ _)).tr (grAlloc _ _)).tr (grAlloc _ _)).tr (grAlloc _ _)
 have hk0 := Lib.hid (show W3.heap[W2.heap.size]? = some (.cells #[.int .i64 3, .int .i64 0, .int .i64 0, .int .i64 1, .int .i64 2, .int .i64 0, .int .i64 12, .int .i64 8, .int .i64 1, .int .i64 2, .int .i64 0, .int .i64 0, .int .i64 3, .int .i64 0, .int .i64 0, .int .i64 4, .int .i64 0, .int .i64 0, .int .i64 11, .int .i64 0, .int .i64 0, .int .i64 13, .int .i64 10, .int .i64 0, .int .i64 1, .int .i64 1, .int .i64 0, .int .i64 11, .int .i64 0, .int .i64 0] 30 (0, 0)) by rw [hW3]; exact grBlk (grAlloc _ _) (grBlk (grAlloc _ _) (grBlk (grAlloc _ _) (grBlk (grAlloc _ _) (grBlk (grAlloc _ _) (grBlk (grAlloc _ _) (nBlk _ _ _ rfl)))))))
 have hk1 := Lib.hid (show W3.heap[W2.heap.size + 1]? = some (.cells #[.slice none 0 0, .slice none 0 0, .slice (some ⟨W2.heap.size + 1 + 1 + 1 + 1, 0, none⟩) 1 1, .slice none 0 0, .slice none 0 0] 25 (0, 0)) by rw [hW3]; exact grBlk (grAlloc _ _) (grBlk (grAlloc _ _) (grBlk (grAlloc _ _) (grBlk (grAlloc _ _) (grBlk (grAlloc _ _) (nBlk _ _ _ (by simp)))))))
 have hk2 := Lib.hid (show W3.heap[W2.heap.size + 1 + 1]? = some (.cells #[.slice (some ⟨W2.heap.size + 1 + 1 + 1 + 1 + 1, 0, none⟩) 2 2, .slice none 0 0, .slice none 0 0, .slice none 0 0, .slice none 0 0] 25 (0, 0)) by rw [hW3]; exact grBlk (grAlloc _ _) (grBlk (grAlloc _ _) (grBlk (grAlloc _ _) (grBlk (grAlloc _ _) (nBlk _ _ _ (by simp))))))
 have hk3 := Lib.hid (show W3.heap[W2.heap.size + 1 + 1 + 1]? = some (.cells #[.slice none 0 0, .slice none 0 0, .slice none 0 0, .slice none 0 0, .slice (some ⟨W2.heap.size + 1 + 1 + 1 + 1 + 1 + 1, 0, none⟩) 1 1] 25 (0, 0)) by rw [hW3]; exact grBlk (grAlloc _ _) (grBlk (grAlloc _ _) (grBlk (grAlloc _ _) (nBlk _ _ _ (by simp)))))
 have hk4 := Lib.hid (show W3.heap[W2.heap.size + 1 + 1 + 1 + 1]? = some (.cells #[.int .i64 1, .int .i64 0, .int .i64 0] 30 (0, 0)) by rw [hW3]; exact grBlk (grAlloc _ _) (grBlk (grAlloc _ _) (nBlk _ _ _ (by simp))))
 have hk5 := Lib.hid (show W3.heap[W2.heap.size + 1 + 1 + 1 + 1 + 1]? = some (.cells #[.int .i64 1, .int .i64 0, .int .i64 0, .int .i64 4, .int .i64 0, .int .i64 0] 30 (0, 0)) by rw [hW3]; exact grBlk (grAlloc _ _) (nBlk _ _ _ (by simp)))
 have hk6 := Lib.hid (show W3.heap[W2.heap.size + 1 + 1 + 1 + 1 + 1 + 1]? = some (.cells #[.int .i64 13, .int .i64 0, .int .i64 0] 30 (0, 0)) by rw [hW3]; exact nBlk _ _ _ (by simp))
 have hg3 := Lib.hid (Gr.tr hg2.out hgq)
 have hb3 := Lib.hid (grBlk hgq hb2.out)
 have hR3 := Lib.hid (hR2.out.gr hgq)
 have hRw := Lib.hid (insBlk (l := wantL) hk0.out rfl)
 have hRp := Lib.hid (insBlk (l := [⟨1, 0, 0⟩]) hk4.out rfl)
 have hRa := Lib.hid (insBlk (l := [⟨1, 0, 0⟩, ⟨4, 0, 0⟩]) hk5.out rfl)
 have hRl := Lib.hid (insBlk (l := [⟨13, 0, 0⟩]) hk6.out rfl)
 have hg0 := Lib.hid (Below.refl W3.heap.size W3)
 rw [← hW3]
 clear hW3 hgq hg2 hb2 hR2
 obtain ⟨x0, x1, x2, x3, x4⟩ := cells5k hb3.out
 go_wp2_with fail
 have HS := SameInstrs_any wantL wantL A0 (some ⟨W2.heap.size, 0, none⟩) c0 10 W3 hR3.out hRw.out (by decide)
 rw [show sameL wantL wantL = true from rfl] at HS
 refine HS.mono ?_
 clear HS
 rintro e w4 ⟨rfl, hgn⟩
 have hg4 := Lib.hid (Gr.tr hg0.out hgn)
 clear hgn
 clear x0 x1 x2 x3 x4
 obtain ⟨x0, x1, x2, x3, x4⟩ := cells5k (grBlk hg4.out hb3.out)
 go_wp2_with fail
 have HV := Verify_any ⟨wantL, A0, c0⟩ (heE A1 c1) (heE A2 c2) (heE A3 c3) (heE A4 c4) 1 (by decide) w4 (all5 (hR3.out.gr hg4.out) (nilR _ _) (nilR _ _) (nilR _ _) (nilR _ _)) (all5 (Nat.le_of_ble_eq_true rfl) (Nat.le_of_ble_eq_true rfl) (Nat.le_of_ble_eq_true rfl) (Nat.le_of_ble_eq_true rfl) (Nat.le_of_ble_eq_true rfl)) (HE.out.gr (hg3.out.tr hg4.out))
 rw [ver1] at HV
 refine HV.mono ?_
 clear HV
 rintro e w5 ⟨rfl, hgn⟩
 have hg5 := Lib.hid (Gr.tr hg4.out hgn)
 clear hgn
 clear x0 x1 x2 x3 x4
 obtain ⟨x0, x1, x2, x3, x4⟩ := cells5k (grBlk hg5.out hb3.out)
 go_wp2_with fail
 have HV := Verify_any ⟨wantL, A0, c0⟩ (heE A1 c1) (heE A2 c2) (heE A3 c3) (heE A4 c4) 0 (by decide) w5 (all5 (hR3.out.gr hg5.out) (nilR _ _) (nilR _ _) (nilR _ _) (nilR _ _)) (all5 (Nat.le_of_ble_eq_true rfl) (Nat.le_of_ble_eq_true rfl) (Nat.le_of_ble_eq_true rfl) (Nat.le_of_ble_eq_true rfl) (Nat.le_of_ble_eq_true rfl)) (HE.out.gr (hg3.out.tr hg5.out))
 rw [ver2] at HV
 refine HV.mono ?_
 clear HV
 rintro e w6 ⟨rfl, hgn⟩
 have hg6 := Lib.hid (Gr.tr hg5.out hgn)
 clear hgn
 go_wp2_with fail
 have HV := Verify_any (heE none 0) (heE none 0) (heE none 0) (heE none 0) (heE none 0) 0 (by decide) w6 (all5 (nilR _ _) (nilR _ _) (nilR _ _) (nilR _ _) (nilR _ _)) (all5 (Nat.le_of_ble_eq_true rfl) (Nat.le_of_ble_eq_true rfl) (Nat.le_of_ble_eq_true rfl) (Nat.le_of_ble_eq_true rfl) (Nat.le_of_ble_eq_true rfl)) (HE.out.gr (hg3.out.tr hg6.out))
 rw [ver3] at HV
 refine HV.mono ?_
 clear HV
 rintro e w7 ⟨rfl, hgn⟩
 have hg7 := Lib.hid (Gr.tr hg6.out hgn)
 clear hgn
 go_wp2_with fail
 have HV := Verify_any (heE none 0) (heE none 0) (heE none 0) (heE none 0) (heE none 0) 13 (by decide) w7 (all5 (nilR _ _) (nilR _ _) (nilR _ _) (nilR _ _) (nilR _ _)) (all5 (Nat.le_of_ble_eq_true rfl) (Nat.le_of_ble_eq_true rfl) (Nat.le_of_ble_eq_true rfl) (Nat.le_of_ble_eq_true rfl) (Nat.le_of_ble_eq_true rfl)) (HE.out.gr (hg3.out.tr hg7.out))
 rw [ver4] at HV
 refine HV.mono ?_
 clear HV
 rintro e w8 ⟨rfl, hgn⟩
 have hg8 := Lib.hid (Gr.tr hg7.out hgn)
 clear hgn
 clear x0 x1 x2 x3 x4
 obtain ⟨x0, x1, x2, x3, x4⟩ := cells5k (grBlk hg8.out hk1.out)
 go_wp2_with fail
 have HV := Verify_any (heE none 0) (heE none 0) ⟨[⟨1, 0, 0⟩], some ⟨W2.heap.size + 1 + 1 + 1 + 1, 0, none⟩, 1⟩ (heE none 0) (heE none 0) 1 (by decide) w8 (all5 (nilR _ _) (nilR _ _) (hRp.out.gr hg8.out) (nilR _ _) (nilR _ _)) (all5 (Nat.le_of_ble_eq_true rfl) (Nat.le_of_ble_eq_true rfl) (Nat.le_of_ble_eq_true rfl) (Nat.le_of_ble_eq_true rfl) (Nat.le_of_ble_eq_true rfl)) (HE.out.gr (hg3.out.tr hg8.out))
 rw [ver5] at HV
 refine HV.mono ?_
 clear HV
 rintro e w9 ⟨rfl, hgn⟩
 have hg9 := Lib.hid (Gr.tr hg8.out hgn)
 clear hgn
 clear x0 x1 x2 x3 x4
 obtain ⟨x0, x1, x2, x3, x4⟩ := cells5k (grBlk hg9.out hk2.out)
 go_wp2_with fail
 have HV := Verify_any ⟨[⟨1, 0, 0⟩, ⟨4, 0, 0⟩], some ⟨W2.heap.size + 1 + 1 + 1 + 1 + 1, 0, none⟩, 2⟩ (heE none 0) (heE none 0) (heE none 0) (heE none 0) 1 (by decide) w9 (all5 (hRa.out.gr hg9.out) (nilR _ _) (nilR _ _) (nilR _ _) (nilR _ _)) (all5 (Nat.le_of_ble_eq_true rfl) (Nat.le_of_ble_eq_true rfl) (Nat.le_of_ble_eq_true rfl) (Nat.le_of_ble_eq_true rfl) (Nat.le_of_ble_eq_true rfl)) (HE.out.gr (hg3.out.tr hg9.out))
 rw [ver6] at HV
 refine HV.mono ?_
 clear HV
 rintro e w10 ⟨rfl, hgn⟩
 have hg10 := Lib.hid (Gr.tr hg9.out hgn)
 clear hgn
 clear x0 x1 x2 x3 x4
 obtain ⟨x0, x1, x2, x3, x4⟩ := cells5k (grBlk hg10.out hk3.out)
 go_wp2_with fail
 have HV := Verify_any (heE none 0) (heE none 0) (heE none 0) (heE none 0) ⟨[⟨13, 0, 0⟩], some ⟨W2.heap.size + 1 + 1 + 1 + 1 + 1 + 1, 0, none⟩, 1⟩ 1 (by decide) w10 (all5 (nilR _ _) (nilR _ _) (nilR _ _) (nilR _ _) (hRl.out.gr hg10.out)) (all5 (Nat.le_of_ble_eq_true rfl) (Nat.le_of_ble_eq_true rfl) (Nat.le_of_ble_eq_true rfl) (Nat.le_of_ble_eq_true rfl) (Nat.le_of_ble_eq_true rfl)) (HE.out.gr (hg3.out.tr hg10.out))
 rw [ver7] at HV
 refine HV.mono ?_
 clear HV
 rintro e w11 ⟨rfl, hgn⟩
 have hg11 := Lib.hid (Gr.tr hg10.out hgn)
 clear hgn
 go_wp2
 go_ret
 exact ⟨rfl, Gr.tr hg3.out hg11.out⟩
end K
end Go.Proofs.YtfmjbfpjkilpcaaGreatDoor
namespace Go.Proofs.YtfmjbfpjkilpcaaGreatDoor
open Go.RowKit
namespace K
theorem u8_rg {n : Int} (h : (Lit.int .u8 n).wf = true) : 0 ≤ n ∧ n < 256 := by
 simp [Lit.wf, IntKind.min, IntKind.max, IntKind.signed, IntKind.bits] at h
 exact ⟨by omega, by omega⟩
def BolsR (w : World) (l : List Bool) (A : Option Addr) : Prop := l = [] ∨ ∃ g o, A = some ⟨g, o, none⟩ ∧ ∀ (i : Nat) (b : Bool), l[i]? = some b → w.cell? ⟨g, o + i, none⟩ = some (.bool b)
theorem BolsR.gr {w w' : World} {l : List Bool} {A : Option Addr} (h : BolsR w l A) (hg : Gr w w') : BolsR w' l A := by
 rcases h with h | ⟨g, o, hA, h⟩
 ·exact .inl h
 ·exact .inr ⟨g, o, hA, fun i b hb => grCell hg (h i b hb)⟩
theorem BolsR.addr {w : World} {l : List Bool} {A : Option Addr} (h : BolsR w l A) (hn : 0 < l.length) : ∃ g o, A = some ⟨g, o, none⟩ ∧ ∀ (i : Nat) (b : Bool), l[i]? = some b → w.cell? ⟨g, o + i, none⟩ = some (.bool b) := by
 rcases h with h | h
 ·subst h; simp at hn
 ·exact h
theorem short_of {hs : List Hd} {most : Int} (h : shortB hs most = true) : ∀ x ∈ hs, (x.l.length : Int) ≤ most := fun x hx => of_decide_eq_true (List.all_eq_true.1 h x hx)
theorem verC_of {hs : List Hd} {vars : Int} (h : verC hs vars = true) : (0 ≤ vars ∧ vars ≤ 12) ∧ ∀ x ∈ hs, verH x.l vars = true := by
 unfold verC at h
 rw [Bool.and_eq_true] at h
 refine ⟨?_, fun x hx => List.all_eq_true.1 h.2 x hx⟩
 have := h.1
 simp only [btw2, Bool.and_eq_true, decide_eq_true_eq] at this
 exact this
theorem round_spec {H : List Int} {l : List In} {vars : Int} {at_ : Nat} {x : In} (hH : ∀ (j : Nat) (x : In), l[j]? = some x → Nx H x j ∧ formI x j l.length vars = true) (hx : l[at_]? = some x) (h64 : (H[at_]?).getD 0 ≤ 64) :
  (1 ≤ x.op ∧ x.op ≤ 13) ∧ tko x.op ≤ (H[at_]?).getD 0 ∧ 0 ≤ (H[at_]?).getD 0 + (pt x.op - tko x.op) ∧ (H[at_]?).getD 0 + (pt x.op - tko x.op) ≤ 64 ∧ (x.op ≠ 13 → (H[at_ + 1]?).getD 0 = (H[at_]?).getD 0 + (pt x.op - tko x.op)) ∧
  (x.op = 12 ∨ x.op = 13 → ∃ m : Nat, x.n = m ∧ at_ < m ∧ m ≤ l.length ∧ (H[m]?).getD 0 = (H[at_]?).getD 0 + (pt x.op - tko x.op)) := by
 obtain ⟨⟨k1, k2, k3, k4⟩, f⟩ := hH at_ x hx
 have t1 := tko_pos x.op
 have t2 := pt_pos x.op
 refine ⟨?_, k1, by omega, by omega, fun h => by have := k3 h; omega, fun h => ?_⟩
 ·have f2 := f
  unfold formI at f2
  simp only [Bool.and_eq_true, btw2, decide_eq_true_eq] at f2
  exact f2.1
 ·have hn := form_n f h
  exact ⟨x.n.toNat, by omega, hn.1, hn.2, by have := k4 h; omega⟩
theorem pt_le (op : Int) : pt op ≤ 1 := by unfold pt; split <;> (try split) <;> (try split) <;> (try split) <;> omega
theorem tko_le (op : Int) : tko op ≤ 2 := by unfold tko; split <;> (try split) <;> (try split) <;> omega
theorem CodeRuns_any (h0 h1 h2 h3 h4 : Hd) (vars u : Int) (ws : List Bool) (WA : Option Addr) (wc : Nat) (w : World) (hu : 0 ≤ u ∧ u < 256) (hR : ∀ h ∈ [h0, h1, h2, h3, h4], InsR w h.l h.A) (hW : BolsR w ws WA) (hP : LaidW w) (hw : 8 < w.heap.size) (hL : U.LaidW w) (hLO : LaidO w) (hE : LaidE w) :
  Calls Tryz.prog 3 #[.agg (cdA h0 h1 h2 h3 h4), .int .i64 vars, .int .u8 u, .slice WA ws.length wc] w (GG (.bool true) w) := by
 obtain ⟨W1, hW1⟩ : ∃ W1, W1 = w.alloc (.cells (cdA h0 h1 h2 h3 h4) 25) := ⟨_, rfl⟩
 have HG1 := Lib.hid (show Gr w W1 by rw [hW1]; exact grAlloc _ _)
 have HC1 := Lib.hid (show W1.heap[w.heap.size]? = some (.cells (cdA h0 h1 h2 h3 h4) 25 (0, 0)) by rw [hW1]; exact nBlk _ _ _ rfl)
 have HD := Lib.hid (fun (wx : World) (hg : Gr w wx) => head_any wx (hP.below hg hw) (Nat.lt_of_lt_of_le hw hg.size) (hL.below hg) (hLO.gr hg) (hE.gr hg))
 obtain ⟨k, hk, hk5⟩ : ∃ k : Nat, u % 5 = k ∧ k < 5 := ⟨(u % 5).toNat, by omega, by omega⟩
 obtain ⟨x, hx⟩ : ∃ x, [h0, h1, h2, h3, h4][k]? = some x := ⟨[h0, h1, h2, h3, h4][k], List.getElem?_eq_getElem hk5⟩
 have hxm := List.mem_of_getElem? hx
 have HR := Lib.hid hR
 have HE := Lib.hid hE
 have HW := Lib.hid hW
 have hcd := Lib.hid (fun (wx : World) (hX : wx.heap[w.heap.size]? = some (.cells (cdA h0 h1 h2 h3 h4) 25 (0, 0))) => cdAt hX (k := k) (x := x) hx)
 have HRx := Lib.hid (hR x hxm)
 have hxmH := Lib.hid hxm
 obtain ⟨l, A, c⟩ := x
 clear hR hW hP hw hL hLO hE hx hxm
 have HSh := Lib.hid (fun (wx : World) => Short_any h0 h1 h2 h3 h4 4000 wx)
 obtain ⟨S, hS⟩ : ∃ S, shortB [h0, h1, h2, h3, h4] 4000 = S := ⟨_, rfl⟩
 rw [hS] at HSh
 go_enter Tryz.func3, Tryz.ntmps3
 go_upto_region 1 with fail
 rw [← hW1]
 clear hW1
 go_upto_region 2 with (go_at_call 5; refine (HD.out _ HG1.out).mono ?_; rintro e w2 ⟨rfl, hg2⟩; have HC2 := Lib.hid (grBlk hg2 HC1.out); have HG2 := Lib.hid (HG1.out.tr hg2); clear hg2)
 have ck : w2.cell? ⟨w.heap.size, k, none⟩ = some (.slice A l.length c) := hcd.out _ HC2.out
 obtain ⟨y0, y1, y2, y3, y4⟩ := cells5k HC2.out
 have hs2 := blkLt HC2.out
 go_upto_region 3 with fail
 cases S with
 | false =>
  go_wp2_with (first
  | (go_at_call 6; refine (HSh.out _).mono ?_; rintro e w3 ⟨rfl, hg3⟩; have HC3 := Lib.hid (grBlk hg3 HC2.out); have HG3 := Lib.hid (HG2.out.tr hg3); clear hg3 y0 y1 y2 y3 y4; obtain ⟨y0, y1, y2, y3, y4⟩ := cells5k HC3.out)
  | (go_at_call 7; refine (HV.out _ HG3.out).mono ?_; rintro e w4 ⟨rfl, hg4⟩; have HG4 := Lib.hid (HG3.out.tr hg4); clear hg4))
  go_ret
  exact ⟨rfl, HG3.out⟩
 | true =>
  have hlen := short_of hS
  have HV := Lib.hid (fun (wx : World) (hg : Gr w wx) => Verify_all h0 h1 h2 h3 h4 vars wx (fun h hh => (HR.out h hh).gr hg) (fun h hh => by have := hlen h hh; omega) (HE.out.gr hg))
  obtain ⟨V, hV⟩ : ∃ V, verC [h0, h1, h2, h3, h4] vars = V := ⟨_, rfl⟩
  rw [hV] at HV
  have hl4 : l.length ≤ 4000 := by have := hlen _ hxmH.out; simp only at this; omega
  clear hlen hS
  cases V with
  | false =>
   go_wp2_with (first
  | (go_at_call 6; refine (HSh.out _).mono ?_; rintro e w3 ⟨rfl, hg3⟩; have HC3 := Lib.hid (grBlk hg3 HC2.out); have HG3 := Lib.hid (HG2.out.tr hg3); clear hg3 y0 y1 y2 y3 y4; obtain ⟨y0, y1, y2, y3, y4⟩ := cells5k HC3.out)
  | (go_at_call 7; refine (HV.out _ HG3.out).mono ?_; rintro e w4 ⟨rfl, hg4⟩; have HG4 := Lib.hid (HG3.out.tr hg4); clear hg4))
   go_ret
   exact ⟨rfl, HG4.out⟩
  | true =>
   obtain ⟨-, H, hH0, hHe, hHn⟩ := ver_spec ((verC_of hV).2 _ hxmH.out)
   have hHe := Lib.hid hHe
   have hHn := Lib.hid hHn
   have hH0 := Lib.hid hH0
   obtain ⟨n, hn⟩ : ∃ n, l.length = n := ⟨_, rfl⟩
   simp only [hn] at hHe hHn hl4
   have hnH := Lib.hid hn
   rw [hn]
   clear hV hn
   go_upto_region 6 with (first
  | (go_at_call 6; refine (HSh.out _).mono ?_; rintro e w3 ⟨rfl, hg3⟩; have HC3 := Lib.hid (grBlk hg3 HC2.out); have HG3 := Lib.hid (HG2.out.tr hg3); clear hg3 y0 y1 y2 y3 y4; obtain ⟨y0, y1, y2, y3, y4⟩ := cells5k HC3.out)
  | (go_at_call 7; refine (HV.out _ HG3.out).mono ?_; rintro e w4 ⟨rfl, hg4⟩; have HG4 := Lib.hid (HG3.out.tr hg4); clear hg4))
   go_wp2_with fail
   have hg0 : Hid (Gr w w4) := HG4
   go_loopg [11, 12, 13, 36] n (fun gk a11 a12 a13 a36 wr => ∃ (k2 at_ sk : Nat) (h : Int), k2 + gk = n ∧ a11 = .int .i64 at_ ∧ a12 = .int .i64 h ∧ a13 = .int .i64 sk ∧ a36 = .int .i64 k2 ∧ Hid ((H[at_]?).getD 0 = h) ∧ (k2 ≤ at_ ∧ at_ ≤ n ∧ sk ≤ k2) ∧ (0 ≤ h ∧ h ≤ 64) ∧ Hid (Gr w wr))
   case atStart => exact ⟨0, 0, 0, 0, by omega, rfl, rfl, rfl, rfl, hH0, by omega, by omega, hg0⟩
   case round =>
    obtain ⟨k2, at_, sk, h, hk2, rfl, rfl, rfl, rfl, hh, hb, hh64, hG⟩ := hrel
    clear hg0
    by_cases hlt : k2 < n
    ·obtain ⟨gq, rfl⟩ : ∃ g, gk = g + 1 := ⟨gk - 1, by omega⟩
     have hkl : decide ((k2 : Int) < (n : Int)) = true := decide_eq_true (by omega)
     by_cases hend : at_ = n
     ·subst hend
      have h0 : h = 0 := by have := hh.out; have := hHe.out; omega
      subst h0
      go_wp2
      go_ret
      exact ⟨rfl, hG.out⟩
     ·have t1 : ((at_ : Int) == (n : Int)) = false := by rw [beq_eq_false_iff_ne]; omega
      have t2 : decide ((at_ : Int) < 0) = false := decide_eq_false (by omega)
      have t3 : decide ((n : Int) < (at_ : Int)) = false := decide_eq_false (by omega)
      have hatn : at_ < n := by omega
      have hat : at_ < l.length := by have := hnH.out; omega
      have hx := List.getElem?_eq_getElem hat
      obtain ⟨ga, oa, rfl, hal⟩ := (HRx.out.gr hG.out).addr (by omega)
      generalize l[at_] = y at hx
      obtain ⟨e0, e1, e2⟩ := hal at_ y hx
      have hsp := round_spec (H := H) (vars := vars) (by rw [hnH.out]; exact hHn.out) hx (by rw [hh.out]; exact hh64.2)
      rw [hh.out, hnH.out] at hsp
      obtain ⟨hop, htk, hge, hle, hn1, hn2⟩ := hsp
      obtain ⟨y0, y1, y2⟩ : True ∧ True ∧ True := ⟨trivial, trivial, trivial⟩
      have pa := pt_le y.op
      have pb := pt_pos y.op
      have pc := tko_le y.op
      have pd := tko_pos y.op
      have q1 : IntKind.i64.wrap (pt y.op - tko y.op) = pt y.op - tko y.op := IntWalk.i64_in _ (by omega)
      obtain ⟨h2, hh2⟩ : ∃ h2, IntKind.i64.wrap (h + (pt y.op - tko y.op)) = h2 := ⟨_, rfl⟩
      have hh3 : h2 = h + (pt y.op - tko y.op) := by rw [← hh2]; exact IntWalk.i64_in _ (by omega)
      have t4 : decide (h < tko y.op) = false := decide_eq_false (by omega)
      have t5 : decide (64 < h2) = false := decide_eq_false (by omega)
      obtain ⟨W5, hW5⟩ : ∃ W5, W5 = wr.alloc (.cells #[.int .i64 y.op, .int .i64 y.n, .int .i64 y.r] 30) := ⟨_, rfl⟩
      have hg5 := Lib.hid (show Gr wr W5 by rw [hW5]; exact grAlloc _ _)
      have hb5 := Lib.hid (show W5.heap[wr.heap.size]? = some (.cells #[.int .i64 y.op, .int .i64 y.n, .int .i64 y.r] 30 (0, 0)) by rw [hW5]; exact nBlk _ _ _ rfl)
      have hG5 := Lib.hid (hG.out.tr hg5.out)
      have HT := Lib.hid (Takes_any y.op hop W5)
      rw [← hh3] at hn1 hn2 hge hle
      have hn1 := Lib.hid hn1
      have hn2 := Lib.hid hn2
      have hh3 := Lib.hid hh3
      have hxH := Lib.hid hx
      clear hal hx hop htk pa pb pc pd
      go_upto_region 12 with fail
      rw [← hW5]
      clear hW5 e0 e1 e2
      obtain ⟨e0, e1, e2⟩ := cells3k hb5.out
      by_cases h12 : y.op = 12
      ·have u12 : (y.op == 12) = true := by rw [beq_iff_eq]; exact h12
       have u13 : (y.op == 13) = false := by rw [beq_eq_false_iff_ne]; omega
       obtain ⟨m, hm, hm1, hm2, hm3⟩ := hn2.out (.inl h12)
       have hn3 := hn1.out (by omega)
       rw [hm] at e1
       have hm3 := Lib.hid hm3
       have hn3 := Lib.hid hn3
       clear h12 hm
       by_cases hask : sk < ws.length
       ·have t6 : decide ((sk : Int) < (ws.length : Int)) = true := decide_eq_true (by omega)
        obtain ⟨gw, ow, rfl, hwl⟩ := (HW.out.gr hG5.out).addr (by omega)
        have hb0 := hwl sk _ (List.getElem?_eq_getElem hask)
        generalize ws[sk] = b at hb0
        clear hwl
        cases b with
        | true =>
         go_wp2_with (go_at_call 8; refine HT.out.mono ?_; rintro e w6 ⟨rfl, rfl⟩)
         go_roundg gq
         case measure => omega
         case rel => exact ⟨k2 + 1, m, sk + 1, h2, by omega, rfl, by rw [hh3.out], by go_num, by go_num, hm3, by omega, by have := hh3.out; omega, hG5⟩
        | false =>
         go_wp2_with (go_at_call 8; refine HT.out.mono ?_; rintro e w6 ⟨rfl, rfl⟩)
         go_roundg gq
         case measure => omega
         case rel => exact ⟨k2 + 1, at_ + 1, sk + 1, h2, by omega, by go_num, by rw [hh3.out], by go_num, by go_num, hn3, by omega, by have := hh3.out; omega, hG5⟩
       ·have t6 : decide ((sk : Int) < (ws.length : Int)) = false := decide_eq_false (by omega)
        go_wp2_with (go_at_call 8; refine HT.out.mono ?_; rintro e w6 ⟨rfl, rfl⟩)
        go_roundg gq
        case measure => omega
        case rel => exact ⟨k2 + 1, at_ + 1, sk + 1, h2, by omega, by go_num, by rw [hh3.out], by go_num, by go_num, hn3, by omega, by have := hh3.out; omega, hG5⟩
      ·have u12 : (y.op == 12) = false := by rw [beq_eq_false_iff_ne]; exact h12
       by_cases h13 : y.op = 13
       ·have u13 : (y.op == 13) = true := by rw [beq_iff_eq]; exact h13
        obtain ⟨m, hm, hm1, hm2, hm3⟩ := hn2.out (.inr h13)
        rw [hm] at e1
        have hm3 := Lib.hid hm3
        clear h12 h13 hm
        go_wp2_with (go_at_call 8; refine HT.out.mono ?_; rintro e w6 ⟨rfl, rfl⟩)
        go_roundg gq
        case measure => omega
        case rel => exact ⟨k2 + 1, m, sk, h2, by omega, rfl, by rw [hh3.out], rfl, by go_num, hm3, by omega, by have := hh3.out; omega, hG5⟩
       ·have u13 : (y.op == 13) = false := by rw [beq_eq_false_iff_ne]; exact h13
        have hn3 := Lib.hid (hn1.out h13)
        clear h12 h13
        go_wp2_with (go_at_call 8; refine HT.out.mono ?_; rintro e w6 ⟨rfl, rfl⟩)
        go_roundg gq
        case measure => omega
        case rel => exact ⟨k2 + 1, at_ + 1, sk, h2, by omega, by go_num, by rw [hh3.out], rfl, by go_num, hn3, by omega, by have := hh3.out; omega, hG5⟩
    ·obtain rfl : gk = 0 := by omega
     obtain rfl : at_ = n := by omega
     have h0 : h = 0 := by have := hh.out; have := hHe.out; omega
     subst h0
     have hkl : decide ((k2 : Int) < (at_ : Int)) = false := decide_eq_false (by omega)
     go_wp2
     go_ret
     exact ⟨rfl, hG.out⟩
end K
end Go.Proofs.YtfmjbfpjkilpcaaGreatDoor
namespace Go.Proofs.YtfmjbfpjkilpcaaGreatDoor
open Go.RowKit Go.ChangeShapes Go.WideShapes
namespace N
open K
theorem cellsIn : Tryz.prog.cellsOf 30 = 3 := by kernel_rfl
theorem cellsOne : Tryz.prog.cellsOf 3 = 1 := by kernel_rfl
theorem cellsBol : Tryz.prog.cellsOf 4 = 1 := by kernel_rfl
theorem cellsCd : Tryz.prog.cellsOf 25 = 5 := by kernel_rfl
theorem cellsOn : Tryz.prog.cellsOf 23 = 5 := by kernel_rfl
theorem cellsSl : Tryz.prog.cellsOf 22 = 1 := by kernel_rfl
theorem spotK {w : World} {a : Addr} {v : Value} {k : Nat} (h : w.cell? ((a.add (0 * k)).add 0) = some v) : a.spot = none := by
 have := World.cell?_spot h
 simpa [Addr.add] using this
theorem pick {P : Nat → Prop} {α : Type} (d : α) {Q : Nat → α → Prop} {len : Nat} (h : ∀ i, i < len → ∃ v, Q i v) : ∃ l : List α, l.length = len ∧ ∀ i v, l[i]? = some v → Q i v := by
 classical
 refine ⟨(List.range len).map (fun i => if hi : i < len then Classical.choose (h i hi) else d), by simp, fun i v hv => ?_⟩
 simp only [List.getElem?_map, Option.map_eq_some_iff] at hv
 obtain ⟨j, hj, rfl⟩ := hv
 obtain ⟨hlt, rfl⟩ : i < len ∧ i = j := by
  rw [List.getElem?_eq_some_iff] at hj
  obtain ⟨h1, h2⟩ := hj
  simp at h1 h2
  exact ⟨h1, h2⟩
 simp only [dif_pos hlt]
 exact Classical.choose_spec (h i hlt)
section
variable {H : Type} {enc : TypeId × Value → H} {W : World}
theorem open_ins (fuel : Nat) (cs : List Value) (x : DataW H × List MemPlace) (h : DataW.trod enc Tryz.prog W 0 (fun _ => true) true fuel 22 cs = some x) :
  ∃ y : Hd, cs = [hdV y] ∧ InsR W y.l y.A ∧ y.l.length ≤ maxLen := by
 rcases DataW.trod_slice Tryz.underlying22 h with ⟨e3, -⟩ | ⟨ad, len, cap, elems, rest, m, hm, e3, -, -, hlc, hcap, hel, hall, -, -⟩
 ·exact ⟨⟨[], none, 0⟩, e3, .inl rfl, Nat.zero_le _⟩
 ·have hraw : ∀ i, i < len → ∃ v : In, W.cell? ((ad.add (i * 3)).add 0) = some (.int .i64 v.op) ∧ W.cell? ((ad.add (i * 3)).add 1) = some (.int .i64 v.n) ∧ W.cell? ((ad.add (i * 3)).add 2) = some (.int .i64 v.r) := by
   intro i hi
   have hb := hall i hi
   rw [List.getElem?_eq_getElem (by omega), cellsIn] at hb
   obtain ⟨cs', hc', ht'⟩ := Option.bind_eq_some_iff.1 hb
   obtain ⟨xs, n, rfl, -, hl, hlen, hf⟩ := DataW.trod_struct Tryz.underlying30 ht'
   rw [cellsIn] at hl
   match cs', hl with
   | [c0, c1, c2], _ =>
    match xs, hlen with
    | [y0, y1, y2], _ =>
     have h0 := hf 0 _ rfl
     have h1 := hf 1 _ rfl
     have h2 := hf 2 _ rfl
     simp [cellsOne] at h0 h1 h2
     obtain ⟨a, e0, -, -⟩ := DataW.trod_int Tryz.underlying3 h0
     obtain ⟨b, e1, -, -⟩ := DataW.trod_int Tryz.underlying3 h1
     obtain ⟨c, e2, -, -⟩ := DataW.trod_int Tryz.underlying3 h2
     simp only [List.cons.injEq, and_true] at e0 e1 e2
     subst e0 e1 e2
     obtain ⟨-, -, hcell⟩ := World.cells?_some hc'
     exact ⟨⟨a, b, c⟩, hcell 0 (by omega), hcell 1 (by omega), hcell 2 (by omega)⟩
  by_cases h0 : len = 0
  ·subst h0
   exact ⟨⟨[], some ad, cap⟩, e3, .inl rfl, Nat.zero_le _⟩
  ·obtain ⟨_, hk0, -⟩ := hraw 0 (by omega)
   have hsp := spotK hk0
   obtain ⟨g, o, sp⟩ := ad
   simp only at hsp
   subst hsp
   have hadd : ∀ p q : Nat, ((⟨g, o, none⟩ : Addr).add p).add q = ⟨g, o + p + q, none⟩ := fun p q => by rw [Go.WideShapes.add_plain, Go.WideShapes.add_plain]
   obtain ⟨l, hl, hq⟩ := pick (P := fun _ => True) (⟨0, 0, 0⟩ : In) hraw
   refine ⟨⟨l, some ⟨g, o, none⟩, cap⟩, by rw [e3, ← hl], .inr ⟨g, o, rfl, fun i v hv => ?_⟩, by simp only; omega⟩
   obtain ⟨k0, k1, k2⟩ := hq i v hv
   rw [hadd] at k0 k1 k2
   exact ⟨k0, k1, k2⟩
theorem open_code (fuel : Nat) (cs : List Value) (x : DataW H × List MemPlace) (h : DataW.trod enc Tryz.prog W 0 (fun _ => true) true fuel 25 cs = some x) :
  ∃ h0 h1 h2 h3 h4 : Hd, cs = (cdA h0 h1 h2 h3 h4).toList ∧ (∀ y ∈ [h0, h1, h2, h3, h4], InsR W y.l y.A) ∧ (∀ y ∈ [h0, h1, h2, h3, h4], y.l.length ≤ maxLen) := by
 obtain ⟨xs, n, rfl, -, hl, hlen, hf⟩ := DataW.trod_struct Tryz.underlying25 h
 rw [cellsCd] at hl
 match cs, hl with
 | [c0, c1, c2, c3, c4], _ =>
  match xs, hlen with
  | [y0], _ =>
   have h0 := hf 0 _ rfl
   simp [cellsOn] at h0
   obtain ⟨zs, m, -, -, -, zlen, zf⟩ := DataW.trod_array Tryz.underlying23 h0
   simp only [cellsSl] at zf
   match zs, zlen with
   | [z0, z1, z2, z3, z4], _ =>
    obtain ⟨k0, a0, r0, n0⟩ := open_ins _ _ _ (by simpa using zf 0 (by decide))
    obtain ⟨k1, a1, r1, n1⟩ := open_ins _ _ _ (by simpa using zf 1 (by decide))
    obtain ⟨k2, a2, r2, n2⟩ := open_ins _ _ _ (by simpa using zf 2 (by decide))
    obtain ⟨k3, a3, r3, n3⟩ := open_ins _ _ _ (by simpa using zf 3 (by decide))
    obtain ⟨k4, a4, r4, n4⟩ := open_ins _ _ _ (by simpa using zf 4 (by decide))
    simp only [List.cons.injEq, and_true] at a0 a1 a2 a3 a4
    subst a0 a1 a2 a3 a4
    refine ⟨k0, k1, k2, k3, k4, rfl, fun y hy => ?_, fun y hy => ?_⟩
    ·simp only [List.mem_cons, List.not_mem_nil, or_false] at hy
     rcases hy with rfl | rfl | rfl | rfl | rfl <;> assumption
    ·simp only [List.mem_cons, List.not_mem_nil, or_false] at hy
     rcases hy with rfl | rfl | rfl | rfl | rfl <;> assumption
theorem open_bols (fuel : Nat) (cs : List Value) (x : DataW H × List MemPlace) (h : DataW.trod enc Tryz.prog W 0 (fun _ => true) true fuel 26 cs = some x) :
  ∃ (l : List Bool) (A : Option Addr) (m : Nat), cs = [.slice A l.length m] ∧ BolsR W l A ∧ l.length ≤ maxLen ∧ (A = none → m = 0) := by
 rcases DataW.trod_slice Tryz.underlying26 h with ⟨e3, -⟩ | ⟨ad, len, cap, elems, rest, m, hm, e3, -, -, hlc, hcap, hel, hall, -, -⟩
 ·exact ⟨[], none, 0, e3, .inl rfl, Nat.zero_le _, fun _ => rfl⟩
 ·have hraw : ∀ i, i < len → ∃ b : Bool, W.cell? ((ad.add (i * 1)).add 0) = some (.bool b) := by
   intro i hi
   have hb := hall i hi
   rw [List.getElem?_eq_getElem (by omega), cellsBol] at hb
   obtain ⟨cs', hc', ht'⟩ := Option.bind_eq_some_iff.1 hb
   obtain ⟨b, rfl, -⟩ := DataW.trod_bool Tryz.underlying4 ht'
   obtain ⟨-, -, hcell⟩ := World.cells?_some hc'
   exact ⟨b, hcell 0 (by omega)⟩
  by_cases h0 : len = 0
  ·subst h0
   exact ⟨[], some ad, cap, e3, .inl rfl, Nat.zero_le _, fun h => by cases h⟩
  ·obtain ⟨_, hk0⟩ := hraw 0 (by omega)
   have hsp := spotK hk0
   obtain ⟨g, o, sp⟩ := ad
   simp only at hsp
   subst hsp
   have hadd : ∀ p q : Nat, ((⟨g, o, none⟩ : Addr).add p).add q = ⟨g, o + p + q, none⟩ := fun p q => by rw [Go.WideShapes.add_plain, Go.WideShapes.add_plain]
   obtain ⟨l, hl, hq⟩ := pick (P := fun _ => True) false hraw
   refine ⟨l, some ⟨g, o, none⟩, cap, by rw [hl]; exact e3, .inr ⟨g, o, rfl, fun i n hn => ?_⟩, by omega, fun h => by cases h⟩
   have := hq i n hn
   rw [hadd] at this
   simpa using this
end
end N
end Go.Proofs.YtfmjbfpjkilpcaaGreatDoor
