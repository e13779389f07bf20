/- Texts of one proof: KzK, KzV. -/
import Derived.Test.YtamfgjinfcknfaaGreatDoorZn
import Derived.Test.YtamfgjinfcknfaaGreatDoorYk
import Derived.Test.YtamfgjinfcknfaaGreatDoorRows
import Derived.OpenShut
import Derived.ChangeArms
import Derived.ChangeSame
import Derived.Lib.LaidTab
import Derived.Stop.LaidErr
import Derived.MakeChecks
import Derived.LaidMore
set_option linter.unusedVariables false
set_option linter.unusedSimpArgs false
set_option maxRecDepth 100000
set_option maxHeartbeats 8000000
namespace Go.Proofs.YtamfgjinfcknfaaGreatDoor
open Go.RowKit
namespace K
open U (Ex St StsR)
abbrev wantL : List In := [⟨3, 0, 0⟩, ⟨1, 2, 0⟩, ⟨12, 8, 1⟩, ⟨2, 0, 0⟩, ⟨3, 0, 0⟩, ⟨4, 0, 0⟩, ⟨11, 0, 0⟩, ⟨13, 10, 0⟩, ⟨1, 1, 0⟩, ⟨11, 0, 0⟩]
theorem ex_valid : C.valPM ⟨#[112]⟩ exVs exOn.list 0 (-1) = true := by decide +kernel
theorem ze_valid : C.valPM ⟨#[]⟩ [] [[], [], [], [], []] 0 0 = false := by decide +kernel
theorem ex_long : longB exOn.list = false := by decide +kernel
theorem ex_code : exOn.list.map (fun l => cL l 0) = [wantL, [], [], [], []] := by rfl
abbrev heE (A : Option Addr) (c : Nat) : Hd := ⟨[], A, c⟩
theorem verC_map (hs : List Hd) (vars : Int) : verC hs vars = (btw2 vars (0, 12) && (hs.map (fun h => h.l)).all (fun l => verH l vars)) := by simp [verC, verAll, List.all_map, Function.comp_def]
theorem ver1 (A0 A1 A2 A3 A4 : Option Addr) (c0 c1 c2 c3 c4 : Nat) : verC [⟨wantL, A0, c0⟩, heE A1 c1, heE A2 c2, heE A3 c3, heE A4 c4] 1 = true := by rw [verC_map]; exact (by decide +kernel : (btw2 1 (0, 12) && ([wantL, [], [], [], []] : List (List In)).all (fun l => verH l 1)) = true)
theorem ver2 (A0 A1 A2 A3 A4 : Option Addr) (c0 c1 c2 c3 c4 : Nat) : verC [⟨wantL, A0, c0⟩, heE A1 c1, heE A2 c2, heE A3 c3, heE A4 c4] 0 = false := by rw [verC_map]; exact (by decide +kernel : (btw2 0 (0, 12) && ([wantL, [], [], [], []] : List (List In)).all (fun l => verH l 0)) = false)
theorem ver3 : verC [heE none 0, heE none 0, heE none 0, heE none 0, heE none 0] 0 = true := by decide +kernel
theorem ver4 : verC [heE none 0, heE none 0, heE none 0, heE none 0, heE none 0] 13 = false := by decide +kernel
theorem ver5 (A : Option Addr) (c : Nat) : verC [heE none 0, heE none 0, ⟨[⟨1, 0, 0⟩], A, c⟩, heE none 0, heE none 0] 1 = false := by rw [verC_map]; exact (by decide +kernel : (btw2 1 (0, 12) && ([[], [], [⟨1, 0, 0⟩], [], []] : List (List In)).all (fun l => verH l 1)) = false)
theorem ver6 (A : Option Addr) (c : Nat) : verC [⟨[⟨1, 0, 0⟩, ⟨4, 0, 0⟩], A, c⟩, heE none 0, heE none 0, heE none 0, heE none 0] 1 = false := by rw [verC_map]; exact (by decide +kernel : (btw2 1 (0, 12) && ([[⟨1, 0, 0⟩, ⟨4, 0, 0⟩], [], [], [], []] : List (List In)).all (fun l => verH l 1)) = false)
theorem ver7 (A : Option Addr) (c : Nat) : verC [heE none 0, heE none 0, heE none 0, heE none 0, ⟨[⟨13, 0, 0⟩], A, c⟩] 1 = false := by rw [verC_map]; exact (by decide +kernel : (btw2 1 (0, 12) && ([[], [], [], [], [⟨13, 0, 0⟩]] : List (List In)).all (fun l => verH l 1)) = false)
theorem insBlk {w : World} {b : Nat} {l : List In} {cs : Array Value} {T : TypeId} (h : w.heap[b]? = some (.cells cs T (0, 0))) (hc : cs.toList = insC l) : InsR w l (some ⟨b, 0, none⟩) := by
 have e : ∀ j, w.cell? ⟨b, j, none⟩ = (insC l)[j]? := fun j => by
  rw [cell_of_row _ _ j _ _ (0, 0) h, ← hc]
  simp
 refine .inr ⟨b, 0, rfl, fun i x hx => ?_⟩
 obtain ⟨k0, k1, k2⟩ := insC_at l i x hx
 rw [Nat.zero_add]
 exact ⟨(e _).trans k0, (e _).trans k1, (e _).trans k2⟩
theorem all5 {P : Hd → Prop} {a b c d e : Hd} (ha : P a) (hb : P b) (hc : P c) (hd : P d) (he : P e) : ∀ h ∈ [a, b, c, d, e], P h := by
 intro h hh
 simp only [List.mem_cons, List.not_mem_nil, or_false] at hh
 rcases hh with rfl | rfl | rfl | rfl | rfl <;> assumption
theorem nilR (w : World) (A : Option Addr) : InsR w [] A := .inl rfl
theorem head_any (w : World) (hP : LaidW w) (hw : 8 < w.heap.size) (hL : U.LaidW w) (hLO : LaidO w) (hE : LaidE w) : Calls Tryz.prog 6 #[] w (GG (.bool true) w) := by
 have HE := Lib.hid hE
 have HC := Lib.hid (fun (wx : World) (VA : Option Addr) (vm : Nat) (a : U.OnA) (hg : Gr w wx) (hV : U.VarsR wx exVs VA) (hO : U.OnR wx exOn a) => Compile_any ⟨#[112]⟩ exVs VA vm exOn a 0 (-1) wx (hP.below hg hw) (Nat.lt_of_lt_of_le hw hg.size) (hL.below hg) hV hO (by decide) (by decide) (hLO.gr hg))
 have HZ := Lib.hid (fun (wx : World) (hg : Gr w wx) => Compile_any ⟨#[]⟩ [] none 0 ⟨[], [], [], [], []⟩ ⟨none, none, none, none, none, 0, 0, 0, 0, 0⟩ 0 0 wx (hP.below hg hw) (Nat.lt_of_lt_of_le hw hg.size) (hL.below hg) (.inl rfl) ⟨trivial, trivial, trivial, trivial, trivial, by decide, by decide, by decide, by decide, by decide⟩ (by decide) (by decide) (hLO.gr hg))
 rw [ex_valid] at HC
 rw [show C.valPM ⟨#[]⟩ [] (U.On.list ⟨[], [], [], [], []⟩) 0 0 = false from ze_valid] at HZ
 clear hP hw hL hLO hE
 go_enter Tryz.func6, Tryz.ntmps6
 go_wp2_with fail
 refine (example_any _).mono ?_
 rintro e wA ⟨⟨VA, vm, a, rfl, hVA, hOA⟩, hgA⟩
 have hgA := Lib.hid hgA
 have hVA := Lib.hid hVA
 have hOA := Lib.hid hOA
 go_wp2_with fail
 refine (HC.out wA VA vm a hgA.out hVA.out hOA.out).mono ?_
 rintro e wB ⟨h, hgB⟩
 have hgB := Lib.hid (Gr.tr hgA.out hgB)
 obtain ⟨l0, l1, l2, l3, l4, A0, A1, A2, A3, A4, c0, c1, c2, c3, c4, rfl, hl, hRc⟩ : ∃ (l0 l1 l2 l3 l4 : List In) (A0 A1 A2 A3 A4 : Option Addr) (c0 c1 c2 c3 c4 : Nat), e = .returned (.tuple #[.agg (cdA ⟨l0, A0, c0⟩ ⟨l1, A1, c1⟩ ⟨l2, A2, c2⟩ ⟨l3, A3, c3⟩ ⟨l4, A4, c4⟩), .int .i64 0]) ∧ [l0, l1, l2, l3, l4] = [wantL, [], [], [], []] ∧ InsR wB l0 A0 := by
  rcases h with ⟨h, -⟩ | ⟨-, h, -⟩ | ⟨-, -, ⟨l0, A0, c0⟩, ⟨l1, A1, c1⟩, ⟨l2, A2, c2⟩, ⟨l3, A3, c3⟩, ⟨l4, A4, c4⟩, rfl, h2, h3⟩
  ·cases h
  ·rw [ex_long] at h; cases h
  ·exact ⟨l0, l1, l2, l3, l4, A0, A1, A2, A3, A4, c0, c1, c2, c3, c4, rfl, h2.trans ex_code, h3 _ (List.mem_cons_self ..)⟩
 simp only [List.cons.injEq, and_true] at hl
 obtain ⟨rfl, rfl, rfl, rfl, rfl⟩ := hl
 have hRc := Lib.hid hRc
 clear HC hgA hVA hOA
 obtain ⟨W1, hW1⟩ : ∃ W1, W1 = wB.alloc (.cells #[.slice A0 10 c0, .slice A1 0 c1, .slice A2 0 c2, .slice A3 0 c3, .slice A4 0 c4] 32) := ⟨_, rfl⟩
 have hg1 := Lib.hid (show Gr w W1 by rw [hW1]; exact Gr.tr hgB.out (grAlloc _ _))
 have hb1 := Lib.hid (show W1.heap[wB.heap.size]? = some (.cells (cdA ⟨wantL, A0, c0⟩ (heE A1 c1) (heE A2 c2) (heE A3 c3) (heE A4 c4)) 32 (0, 0)) by rw [hW1]; exact nBlk _ _ _ rfl)
 have hR1 := Lib.hid (show InsR W1 wantL A0 by rw [hW1]; exact hRc.out.gr (grAlloc _ _))
 go_upto_region 2 with fail
 rw [← hW1]
 clear hW1 hgB hRc
 go_wp2_with fail
 refine (HZ.out W1 hg1.out).mono ?_
 rintro e wD ⟨h, hgD⟩
 obtain rfl : e = .returned (.tuple #[zeroCd, .int .i64 1]) := by
  rcases h with ⟨-, h⟩ | ⟨h, -⟩ | ⟨h, -⟩
  ·exact h
  ·cases h
  ·cases h
 obtain ⟨W2, hW2⟩ : ∃ W2, W2 = wD.alloc (.cells #[nilS, nilS, nilS, nilS, nilS] 32) := ⟨_, rfl⟩
 have hgq : Gr W1 W2 := by rw [hW2]; exact Gr.tr hgD (grAlloc _ _)
 have hg2 := Lib.hid (Gr.tr hg1.out hgq)
 have hb2 := Lib.hid (grBlk hgq hb1.out)
 have hR2 := Lib.hid (hR1.out.gr hgq)
 clear h HZ hgD hgq
 go_upto_region 3 with fail
 rw [← hW2]
 clear hW2 hg1 hb1 hR1
 go_upto_region 8 with fail
 obtain ⟨W3, hW3⟩ : ∃ W3, W3 = (((((((W2.alloc (.cells #[.int .i64 3, .int .i64 0, .int .i64 0, .int .i64 1, .int .i64 2, .int .i64 0, .int .i64 12, .int .i64 8, .int .i64 1, .int .i64 2, .int .i64 0, .int .i64 0, .int .i64 3, .int .i64 0, .int .i64 0, .int .i64 4, .int .i64 0, .int .i64 0, .int .i64 11, .int .i64 0, .int .i64 0, .int .i64 13, .int .i64 10, .int .i64 0, .int .i64 1, .int .i64 1, .int .i64 0, .int .i64 11, .int .i64 0, .int .i64 0] 43)).alloc (.cells #[.slice none 0 0, .slice none 0 0, .slice (some ⟨W2.heap.size + 1 + 1 + 1 + 1, 0, none⟩) 1 1, .slice none 0 0, .slice none 0 0] 32)).alloc (.cells #[.slice (some ⟨W2.heap.size + 1 + 1 + 1 + 1 + 1, 0, none⟩) 2 2, .slice none 0 0, .slice none 0 0, .slice none 0 0, .slice none 0 0] 32)).alloc (.cells #[.slice none 0 0, .slice none 0 0, .slice none 0 0, .slice none 0 0, .slice (some ⟨W2.heap.size + 1 + 1 + 1 + 1 + 1 + 1, 0, none⟩) 1 1] 32)).alloc (.cells #[.int .i64 1, .int .i64 0, .int .i64 0] 43)).alloc (.cells #[.int .i64 1, .int .i64 0, .int .i64 0, .int .i64 4, .int .i64 0, .int .i64 0] 43)).alloc (.cells #[.int .i64 13, .int .i64 0, .int .i64 0] 43)) := ⟨_, rfl⟩
 have hgq : Gr W2 W3 := by rw [hW3]; exact ((((((grAlloc _ _).tr (grAlloc _ _)).tr (grAlloc _ _)).tr (grAlloc _ _)).tr (grAlloc _ _)).tr (grAlloc _ _)).tr (grAlloc _ _)
 have hk0 := Lib.hid (show W3.heap[W2.heap.size]? = some (.cells #[.int .i64 3, .int .i64 0, .int .i64 0, .int .i64 1, .int .i64 2, .int .i64 0, .int .i64 12, .int .i64 8, .int .i64 1, .int .i64 2, .int .i64 0, .int .i64 0, .int .i64 3, .int .i64 0, .int .i64 0, .int .i64 4, .int .i64 0, .int .i64 0, .int .i64 11, .int .i64 0, .int .i64 0, .int .i64 13, .int .i64 10, .int .i64 0, .int .i64 1, .int .i64 1, .int .i64 0, .int .i64 11, .int .i64 0, .int .i64 0] 43 (0, 0)) by rw [hW3]; exact grBlk (grAlloc _ _) (grBlk (grAlloc _ _) (grBlk (grAlloc _ _) (grBlk (grAlloc _ _) (grBlk (grAlloc _ _) (grBlk (grAlloc _ _) (nBlk _ _ _ rfl)))))))
 have hk1 := Lib.hid (show W3.heap[W2.heap.size + 1]? = some (.cells #[.slice none 0 0, .slice none 0 0, .slice (some ⟨W2.heap.size + 1 + 1 + 1 + 1, 0, none⟩) 1 1, .slice none 0 0, .slice none 0 0] 32 (0, 0)) by rw [hW3]; exact grBlk (grAlloc _ _) (grBlk (grAlloc _ _) (grBlk (grAlloc _ _) (grBlk (grAlloc _ _) (grBlk (grAlloc _ _) (nBlk _ _ _ (by simp)))))))
 have hk2 := Lib.hid (show W3.heap[W2.heap.size + 1 + 1]? = some (.cells #[.slice (some ⟨W2.heap.size + 1 + 1 + 1 + 1 + 1, 0, none⟩) 2 2, .slice none 0 0, .slice none 0 0, .slice none 0 0, .slice none 0 0] 32 (0, 0)) by rw [hW3]; exact grBlk (grAlloc _ _) (grBlk (grAlloc _ _) (grBlk (grAlloc _ _) (grBlk (grAlloc _ _) (nBlk _ _ _ (by simp))))))
 have hk3 := Lib.hid (show W3.heap[W2.heap.size + 1 + 1 + 1]? = some (.cells #[.slice none 0 0, .slice none 0 0, .slice none 0 0, .slice none 0 0, .slice (some ⟨W2.heap.size + 1 + 1 + 1 + 1 + 1 + 1, 0, none⟩) 1 1] 32 (0, 0)) by rw [hW3]; exact grBlk (grAlloc _ _) (grBlk (grAlloc _ _) (grBlk (grAlloc _ _) (nBlk _ _ _ (by simp)))))
 have hk4 := Lib.hid (show W3.heap[W2.heap.size + 1 + 1 + 1 + 1]? = some (.cells #[.int .i64 1, .int .i64 0, .int .i64 0] 43 (0, 0)) by rw [hW3]; exact grBlk (grAlloc _ _) (grBlk (grAlloc _ _) (nBlk _ _ _ (by simp))))
 have hk5 := Lib.hid (show W3.heap[W2.heap.size + 1 + 1 + 1 + 1 + 1]? = some (.cells #[.int .i64 1, .int .i64 0, .int .i64 0, .int .i64 4, .int .i64 0, .int .i64 0] 43 (0, 0)) by rw [hW3]; exact grBlk (grAlloc _ _) (nBlk _ _ _ (by simp)))
 have hk6 := Lib.hid (show W3.heap[W2.heap.size + 1 + 1 + 1 + 1 + 1 + 1]? = some (.cells #[.int .i64 13, .int .i64 0, .int .i64 0] 43 (0, 0)) by rw [hW3]; exact nBlk _ _ _ (by simp))
 have hg3 := Lib.hid (Gr.tr hg2.out hgq)
 have hb3 := Lib.hid (grBlk hgq hb2.out)
 have hR3 := Lib.hid (hR2.out.gr hgq)
 have hRw := Lib.hid (insBlk (l := wantL) hk0.out rfl)
 have hRp := Lib.hid (insBlk (l := [⟨1, 0, 0⟩]) hk4.out rfl)
 have hRa := Lib.hid (insBlk (l := [⟨1, 0, 0⟩, ⟨4, 0, 0⟩]) hk5.out rfl)
 have hRl := Lib.hid (insBlk (l := [⟨13, 0, 0⟩]) hk6.out rfl)
 have hg0 := Lib.hid (Below.refl W3.heap.size W3)
 rw [← hW3]
 clear hW3 hgq hg2 hb2 hR2
 obtain ⟨x0, x1, x2, x3, x4⟩ := cells5k hb3.out
 go_wp2_with fail
 have HS := SameInstrs_any wantL wantL A0 (some ⟨W2.heap.size, 0, none⟩) c0 10 W3 hR3.out hRw.out (by decide)
 rw [show sameL wantL wantL = true from rfl] at HS
 refine HS.mono ?_
 clear HS
 rintro e w4 ⟨rfl, hgn⟩
 have hg4 := Lib.hid (Gr.tr hg0.out hgn)
 clear hgn
 clear x0 x1 x2 x3 x4
 obtain ⟨x0, x1, x2, x3, x4⟩ := cells5k (grBlk hg4.out hb3.out)
 go_wp2_with fail
 have HV := Verify_any ⟨wantL, A0, c0⟩ (heE A1 c1) (heE A2 c2) (heE A3 c3) (heE A4 c4) 1 (by decide) w4 (all5 (hR3.out.gr hg4.out) (nilR _ _) (nilR _ _) (nilR _ _) (nilR _ _)) (all5 (Nat.le_of_ble_eq_true rfl) (Nat.le_of_ble_eq_true rfl) (Nat.le_of_ble_eq_true rfl) (Nat.le_of_ble_eq_true rfl) (Nat.le_of_ble_eq_true rfl)) (HE.out.gr (hg3.out.tr hg4.out))
 rw [ver1] at HV
 refine HV.mono ?_
 clear HV
 rintro e w5 ⟨rfl, hgn⟩
 have hg5 := Lib.hid (Gr.tr hg4.out hgn)
 clear hgn
 clear x0 x1 x2 x3 x4
 obtain ⟨x0, x1, x2, x3, x4⟩ := cells5k (grBlk hg5.out hb3.out)
 go_wp2_with fail
 have HV := Verify_any ⟨wantL, A0, c0⟩ (heE A1 c1) (heE A2 c2) (heE A3 c3) (heE A4 c4) 0 (by decide) w5 (all5 (hR3.out.gr hg5.out) (nilR _ _) (nilR _ _) (nilR _ _) (nilR _ _)) (all5 (Nat.le_of_ble_eq_true rfl) (Nat.le_of_ble_eq_true rfl) (Nat.le_of_ble_eq_true rfl) (Nat.le_of_ble_eq_true rfl) (Nat.le_of_ble_eq_true rfl)) (HE.out.gr (hg3.out.tr hg5.out))
 rw [ver2] at HV
 refine HV.mono ?_
 clear HV
 rintro e w6 ⟨rfl, hgn⟩
 have hg6 := Lib.hid (Gr.tr hg5.out hgn)
 clear hgn
 go_wp2_with fail
 have HV := Verify_any (heE none 0) (heE none 0) (heE none 0) (heE none 0) (heE none 0) 0 (by decide) w6 (all5 (nilR _ _) (nilR _ _) (nilR _ _) (nilR _ _) (nilR _ _)) (all5 (Nat.le_of_ble_eq_true rfl) (Nat.le_of_ble_eq_true rfl) (Nat.le_of_ble_eq_true rfl) (Nat.le_of_ble_eq_true rfl) (Nat.le_of_ble_eq_true rfl)) (HE.out.gr (hg3.out.tr hg6.out))
 rw [ver3] at HV
 refine HV.mono ?_
 clear HV
 rintro e w7 ⟨rfl, hgn⟩
 have hg7 := Lib.hid (Gr.tr hg6.out hgn)
 clear hgn
 go_wp2_with fail
 have HV := Verify_any (heE none 0) (heE none 0) (heE none 0) (heE none 0) (heE none 0) 13 (by decide) w7 (all5 (nilR _ _) (nilR _ _) (nilR _ _) (nilR _ _) (nilR _ _)) (all5 (Nat.le_of_ble_eq_true rfl) (Nat.le_of_ble_eq_true rfl) (Nat.le_of_ble_eq_true rfl) (Nat.le_of_ble_eq_true rfl) (Nat.le_of_ble_eq_true rfl)) (HE.out.gr (hg3.out.tr hg7.out))
 rw [ver4] at HV
 refine HV.mono ?_
 clear HV
 rintro e w8 ⟨rfl, hgn⟩
 have hg8 := Lib.hid (Gr.tr hg7.out hgn)
 clear hgn
 clear x0 x1 x2 x3 x4
 obtain ⟨x0, x1, x2, x3, x4⟩ := cells5k (grBlk hg8.out hk1.out)
 go_wp2_with fail
 have HV := Verify_any (heE none 0) (heE none 0) ⟨[⟨1, 0, 0⟩], some ⟨W2.heap.size + 1 + 1 + 1 + 1, 0, none⟩, 1⟩ (heE none 0) (heE none 0) 1 (by decide) w8 (all5 (nilR _ _) (nilR _ _) (hRp.out.gr hg8.out) (nilR _ _) (nilR _ _)) (all5 (Nat.le_of_ble_eq_true rfl) (Nat.le_of_ble_eq_true rfl) (Nat.le_of_ble_eq_true rfl) (Nat.le_of_ble_eq_true rfl) (Nat.le_of_ble_eq_true rfl)) (HE.out.gr (hg3.out.tr hg8.out))
 rw [ver5] at HV
 refine HV.mono ?_
 clear HV
 rintro e w9 ⟨rfl, hgn⟩
 have hg9 := Lib.hid (Gr.tr hg8.out hgn)
 clear hgn
 clear x0 x1 x2 x3 x4
 obtain ⟨x0, x1, x2, x3, x4⟩ := cells5k (grBlk hg9.out hk2.out)
 go_wp2_with fail
 have HV := Verify_any ⟨[⟨1, 0, 0⟩, ⟨4, 0, 0⟩], some ⟨W2.heap.size + 1 + 1 + 1 + 1 + 1, 0, none⟩, 2⟩ (heE none 0) (heE none 0) (heE none 0) (heE none 0) 1 (by decide) w9 (all5 (hRa.out.gr hg9.out) (nilR _ _) (nilR _ _) (nilR _ _) (nilR _ _)) (all5 (Nat.le_of_ble_eq_true rfl) (Nat.le_of_ble_eq_true rfl) (Nat.le_of_ble_eq_true rfl) (Nat.le_of_ble_eq_true rfl) (Nat.le_of_ble_eq_true rfl)) (HE.out.gr (hg3.out.tr hg9.out))
 rw [ver6] at HV
 refine HV.mono ?_
 clear HV
 rintro e w10 ⟨rfl, hgn⟩
 have hg10 := Lib.hid (Gr.tr hg9.out hgn)
 clear hgn
 clear x0 x1 x2 x3 x4
 obtain ⟨x0, x1, x2, x3, x4⟩ := cells5k (grBlk hg10.out hk3.out)
 go_wp2_with fail
 have HV := Verify_any (heE none 0) (heE none 0) (heE none 0) (heE none 0) ⟨[⟨13, 0, 0⟩], some ⟨W2.heap.size + 1 + 1 + 1 + 1 + 1 + 1, 0, none⟩, 1⟩ 1 (by decide) w10 (all5 (nilR _ _) (nilR _ _) (nilR _ _) (nilR _ _) (hRl.out.gr hg10.out)) (all5 (Nat.le_of_ble_eq_true rfl) (Nat.le_of_ble_eq_true rfl) (Nat.le_of_ble_eq_true rfl) (Nat.le_of_ble_eq_true rfl) (Nat.le_of_ble_eq_true rfl)) (HE.out.gr (hg3.out.tr hg10.out))
 rw [ver7] at HV
 refine HV.mono ?_
 clear HV
 rintro e w11 ⟨rfl, hgn⟩
 have hg11 := Lib.hid (Gr.tr hg10.out hgn)
 clear hgn
 go_wp2
 go_ret
 exact ⟨rfl, Gr.tr hg3.out hg11.out⟩
end K
end Go.Proofs.YtamfgjinfcknfaaGreatDoor
namespace Go.Proofs.YtamfgjinfcknfaaGreatDoor
open Go.RowKit Go.ChangeShapes Go.WideShapes
namespace L8
open U (PwAt)
theorem gClasses : Tryz.prog.globalNamed "queuelab/lexer.classes" = some 4 := by kernel_rfl
theorem gClassesT : (Tryz.prog.globals[4]?).map (·.type) = some 182 := by kernel_rfl
theorem cellsArr : Tryz.prog.cellsOf 182 = 128 := by kernel_rfl
theorem cellsCls : Tryz.prog.cellsOf 175 = 1 := by kernel_rfl
theorem gES : Tryz.prog.globalNamed "strconv.ErrSyntax" = some 7 := by kernel_rfl
theorem gEST : (Tryz.prog.globals[7]?).map (·.type) = some 184 := by kernel_rfl
theorem gER : Tryz.prog.globalNamed "strconv.ErrRange" = some 8 := by kernel_rfl
theorem gERT : (Tryz.prog.globals[8]?).map (·.type) = some 184 := by kernel_rfl
theorem cellsES : Tryz.prog.cellsOf 208 = 1 := by kernel_rfl
theorem cellsStr : Tryz.prog.cellsOf 9 = 1 := by kernel_rfl
theorem starES : "*" ++ "errors.errorString" = "*errors.errorString" := by decide
theorem rowES (u : TypeId) (h : Tryz.prog.typeName? 3 u = some "*errors.errorString") : u = 206 :=
 typeName_ptr_named (nm := "errors.errorString") (by rw [starES]; kernel_rfl) (by kernel_rfl) (by decide) u (by rw [starES]; exact h)
theorem gLast : Tryz.prog.globalNamed "math/bits.deBruijn64tab" = some 11 := by kernel_rfl
theorem gLastT : (Tryz.prog.globals[11]?).map (·.type) = some 221 := by kernel_rfl
theorem cells64 : Tryz.prog.cellsOf 221 = 64 := by kernel_rfl
theorem cellsU8 : Tryz.prog.cellsOf 5 = 1 := by kernel_rfl
theorem gK : Tryz.prog.globalNamed "queuelab/units.kinds" = some 1 := by kernel_rfl
theorem gKT : (Tryz.prog.globals[1]?).map (·.type) = some 119 := by kernel_rfl
theorem gI : Tryz.prog.globalNamed "queuelab/units.inputs" = some 3 := by kernel_rfl
theorem gIT : (Tryz.prog.globals[3]?).map (·.type) = some 172 := by kernel_rfl
theorem cellsI4 : Tryz.prog.cellsOf 172 = 4 := by kernel_rfl
theorem cellsInt : Tryz.prog.cellsOf 3 = 1 := by kernel_rfl
theorem cellsP3 : Tryz.prog.cellsOf 118 = 3 := by kernel_rfl
section
variable {H : Type} {enc : TypeId × Value → H} {W : World} {sp : Nat → Bool} {held : Bool}
theorem int_of {fuel : Nat} {cs : List Value} {y : DataW H × List MemPlace} {a : Int} (h : DataW.trod enc Tryz.prog W 0 sp held fuel 3 cs = some y) (hy : y.1 = .lit (.int .i64 a)) : cs = [.int .i64 a] := by
 obtain ⟨n, e, hx, -⟩ := DataW.trod_int Tryz.underlying3 h
 rw [hx] at hy
 simp at hy
 rw [e, hy]
theorem row_of {fuel : Nat} {cs : List Value} {y : DataW H × List MemPlace} {a b c : Int} (h : DataW.trod enc Tryz.prog W 0 sp held fuel 118 cs = some y) (hy : y.1 = .agg [.lit (.int .i64 a), .lit (.int .i64 b), .lit (.int .i64 c)]) : cs = [.int .i64 a, .int .i64 b, .int .i64 c] := by
 obtain ⟨xs, m, rfl, hx, hl, hlen, hf⟩ := DataW.trod_array Tryz.underlying118 h
 rw [cellsP3] at hl
 rw [hx] at hy
 simp only [cellsInt] at hf
 match cs, hl with
 | [c0, c1, c2], _ =>
  match xs, hlen with
  | [y0, y1, y2], _ =>
   simp at hy
   obtain ⟨e0, e1, e2⟩ := hy
   have h0 := int_of (by simpa using hf 0 (by decide)) e0
   have h1 := int_of (by simpa using hf 1 (by decide)) e1
   have h2 := int_of (by simpa using hf 2 (by decide)) e2
   simp at h0 h1 h2
   rw [h0, h1, h2]
end
theorem take3 {cs : Array Value} {i : Nat} {a b c : Value} (h : (cs.toList.drop (i * 3)).take 3 = [a, b, c]) : cs[i * 3]? = some a ∧ cs[i * 3 + 1]? = some b ∧ cs[i * 3 + 2]? = some c := by
 have e : ∀ j, j < 3 → cs[i * 3 + j]? = ([a, b, c] : List Value)[j]? := fun j hj => by
  rw [← h, List.getElem?_take_of_lt hj, List.getElem?_drop]
  simp
 exact ⟨e 0 (by decide), e 1 (by decide), e 2 (by decide)⟩
theorem gF : Tryz.prog.globalNamed "queuelab/code.effects" = some 0 := by kernel_rfl
theorem gFT : (Tryz.prog.globals[0]?).map (·.type) = some 92 := by kernel_rfl
theorem cellsEf2 : Tryz.prog.cellsOf 91 = 2 := by kernel_rfl
theorem gO : Tryz.prog.globalNamed "queuelab/code.operations" = some 2 := by kernel_rfl
theorem gOT : (Tryz.prog.globals[2]?).map (·.type) = some 125 := by kernel_rfl
section
variable {H : Type} {enc : TypeId × Value → H} {W : World} {sp : Nat → Bool} {held : Bool}
theorem eff_of {fuel : Nat} {cs : List Value} {y : DataW H × List MemPlace} {a b : Int} (h : DataW.trod enc Tryz.prog W 0 sp held fuel 91 cs = some y) (hy : y.1 = .agg [.lit (.int .i64 a), .lit (.int .i64 b)]) : cs = [.int .i64 a, .int .i64 b] := by
 obtain ⟨xs, n, rfl, hx, hl, hlen, hf⟩ := DataW.trod_struct Tryz.underlying91 h
 rw [cellsEf2] at hl
 rw [hx] at hy
 match cs, hl with
 | [c0, c1], _ =>
  match xs, hlen with
  | [y0, y1], _ =>
   simp at hy
   obtain ⟨e0, e1⟩ := hy
   have h0 := hf 0 _ rfl
   have h1 := hf 1 _ rfl
   simp [cellsInt] at h0 h1
   have k0 := int_of h0 e0
   have k1 := int_of h1 e1
   simp at k0 k1
   rw [k0, k1]
end
theorem take2 {cs : Array Value} {i : Nat} {a b : Value} (h : (cs.toList.drop (i * 2)).take 2 = [a, b]) : cs[i * 2]? = some a ∧ cs[i * 2 + 1]? = some b := by
 have e : ∀ j, j < 2 → cs[i * 2 + j]? = ([a, b] : List Value)[j]? := fun j hj => by
  rw [← h, List.getElem?_take_of_lt hj, List.getElem?_drop]
  simp
 exact ⟨e 0 (by decide), e 1 (by decide)⟩
theorem lexer_laid {W : World} {r : List (String × DataW Unit)} (h : laidMet Tryz.prog (("math/bits.deBruijn32tab", Rows.laid_math_bits_deBruijn32tab) :: ("math/bits.deBruijn64tab", Rows.laid_math_bits_deBruijn64tab) :: ("internal/strconv.uint64pow10", Rows.laid_internal_strconv_uint64pow10) :: ("strconv.ErrRange", Rows.laid_strconv_ErrRange) :: ("strconv.ErrSyntax", Rows.laid_strconv_ErrSyntax) :: ("queuelab/lexer.classes", Rows.laid_queuelab_lexer_classes) :: r) W) : LaidW W ∧ 8 < W.heap.size := by
 have h2 := laidMet.tail h
 have h3 := laidMet.tail h2
 have h4 := laidMet.tail h3
 have h5 := laidMet.tail h4
 have h6 := laidMet.tail h5
 obtain ⟨a0, s0, hv0, -, -, -⟩ := laid_sentinel h4 gER gERT Tryz.underlying184 rowES Tryz.underlying206 Tryz.underlying208 rfl rfl Tryz.underlying9 cellsES cellsStr
 obtain ⟨a1, s1, hv1, -, -, -⟩ := laid_sentinel h5 gES gEST Tryz.underlying184 rowES Tryz.underlying206 Tryz.underlying208 rfl rfl Tryz.underlying9 cellsES cellsStr
 have ht : Lib.TabIs Tryz.prog W "queuelab/lexer.classes" .u8 clsTab :=
  Lib.tabIs_of_head (rest := r) gClasses gClassesT Tryz.underlying182 Tryz.underlying175 cellsCls cellsArr h6
 have hl := Lib.tabIs_of_head (zs := [0, 1, 56, 2, 57, 49, 28, 3, 61, 58, 42, 50, 38, 29, 17, 4, 62, 47, 59, 36, 45, 43, 51, 22, 53, 39, 33, 30, 24, 18, 12, 5, 63, 55, 48, 27, 60, 41, 37, 16, 46, 35, 44, 21, 52, 32, 23, 11, 54, 26, 40, 15, 34, 20, 31, 10, 25, 14, 19, 9, 13, 8, 7, 6]) gLast gLastT Tryz.underlying221 Tryz.underlying5 cellsU8 cells64 h2
 have hpos : ∀ i, i < 128 → clsTab.getD i 0 = ((cls i : Nat) : Int) := by decide +kernel
 refine ⟨⟨fun i hi => ?_, ⟨206, .pointer (some a1), ?_⟩, ⟨206, .pointer (some a0), ?_⟩⟩, ?_⟩
 ·have := ht.cell gClasses i hi
  rw [this, hpos i hi]
 ·have := World.var?_cell gES hv1 0
  simpa using this
 ·have := World.var?_cell gER hv0 0
  simpa using this
 ·have := hl.cell gLast 0 (by decide)
  exact Nat.lt_of_le_of_lt (by decide) (World.block_lt_of_cell? W _ this)
theorem units_laid {W : World} {r : List (String × DataW Unit)} (h : laidMet Tryz.prog (("queuelab/units.kinds", Rows.laid_queuelab_units_kinds) :: ("queuelab/units.inputs", Rows.laid_queuelab_units_inputs) :: r) W) : U.LaidW W := by
 have h2 := laidMet.tail h
 have hin := Lib.tabIs_of_head (zs := [1, 3, 2, 1]) gI gIT Tryz.underlying172 Tryz.underlying3 cellsInt cellsI4 h2
 obtain ⟨ps, ⟨g', t', cs, fuel, p, q, hg', ht', hvar, hd, _, _⟩, _⟩ := h
 obtain rfl := Option.some.inj (gK.symm.trans hg')
 obtain rfl := Option.some.inj (gKT.symm.trans ht')
 obtain ⟨xs, m, rfl, hx, hl, hlen, hf⟩ := DataW.trod_array Tryz.underlying119 hd
 simp only [cellsP3] at hf
 match xs, hlen with
 | [y0, y1, y2, y3, y4], _ =>
  simp [Rows.laid_queuelab_units_kinds] at hx
  obtain ⟨⟨e0, e1, e2, e3, e4⟩, -⟩ := hx
  have r0 := take3 (i := 0) (row_of (by simpa using hf 0 (by decide)) e0.symm)
  have r1 := take3 (i := 1) (row_of (by simpa using hf 1 (by decide)) e1.symm)
  have r2 := take3 (i := 2) (row_of (by simpa using hf 2 (by decide)) e2.symm)
  have r3 := take3 (i := 3) (row_of (by simpa using hf 3 (by decide)) e3.symm)
  have r4 := take3 (i := 4) (row_of (by simpa using hf 4 (by decide)) e4.symm)
  have hc : ∀ i, W.cell? ⟨1, i, none⟩ = cs[i]? := fun i => by simpa using World.var?_cell gK hvar i
  refine ⟨fun k hk => ?_, fun k hk => ?_⟩
  ·unfold PwAt
   rw [hc, hc, hc]
   match k, hk with
   | 0, _ => exact r0
   | 1, _ => exact r1
   | 2, _ => exact r2
   | 3, _ => exact r3
   | 4, _ => exact r4
  ·have := hin.cell gI k hk
   rw [this]
   match k, hk with
   | 0, _ => rfl
   | 1, _ => rfl
   | 2, _ => rfl
   | 3, _ => rfl
theorem effects_laid {W : World} {r : List (String × DataW Unit)} (h : laidMet Tryz.prog (("queuelab/code.effects", Rows.laid_queuelab_code_effects) :: r) W) : K.LaidE W := by
 obtain ⟨ps, ⟨g', t', cs, fuel, p, q, hg', ht', hvar, hd, _, _⟩, _⟩ := h
 obtain rfl := Option.some.inj (gF.symm.trans hg')
 obtain rfl := Option.some.inj (gFT.symm.trans ht')
 obtain ⟨xs, m, rfl, hx, hl, hlen, hf⟩ := DataW.trod_array Tryz.underlying92 hd
 simp only [cellsEf2] at hf
 match xs, hlen with
 | [y0, y1, y2, y3, y4, y5, y6, y7, y8, y9, y10, y11, y12, y13], _ =>
  simp [Rows.laid_queuelab_code_effects] at hx
  obtain ⟨⟨e0, e1, e2, e3, e4, e5, e6, e7, e8, e9, e10, e11, e12, e13⟩, -⟩ := hx
  have r0 := take2 (i := 0) (eff_of (by simpa using hf 0 (by decide)) e0.symm)
  have r1 := take2 (i := 1) (eff_of (by simpa using hf 1 (by decide)) e1.symm)
  have r2 := take2 (i := 2) (eff_of (by simpa using hf 2 (by decide)) e2.symm)
  have r3 := take2 (i := 3) (eff_of (by simpa using hf 3 (by decide)) e3.symm)
  have r4 := take2 (i := 4) (eff_of (by simpa using hf 4 (by decide)) e4.symm)
  have r5 := take2 (i := 5) (eff_of (by simpa using hf 5 (by decide)) e5.symm)
  have r6 := take2 (i := 6) (eff_of (by simpa using hf 6 (by decide)) e6.symm)
  have r7 := take2 (i := 7) (eff_of (by simpa using hf 7 (by decide)) e7.symm)
  have r8 := take2 (i := 8) (eff_of (by simpa using hf 8 (by decide)) e8.symm)
  have r9 := take2 (i := 9) (eff_of (by simpa using hf 9 (by decide)) e9.symm)
  have r10 := take2 (i := 10) (eff_of (by simpa using hf 10 (by decide)) e10.symm)
  have r11 := take2 (i := 11) (eff_of (by simpa using hf 11 (by decide)) e11.symm)
  have r12 := take2 (i := 12) (eff_of (by simpa using hf 12 (by decide)) e12.symm)
  have r13 := take2 (i := 13) (eff_of (by simpa using hf 13 (by decide)) e13.symm)
  have hc : ∀ i, W.cell? ⟨0, i, none⟩ = cs[i]? := fun i => by simpa using World.var?_cell gF hvar i
  intro k h1 h2
  rw [hc, hc]
  match k, h1, h2 with
  | 1, _, _ => exact r1
  | 2, _, _ => exact r2
  | 3, _, _ => exact r3
  | 4, _, _ => exact r4
  | 5, _, _ => exact r5
  | 6, _, _ => exact r6
  | 7, _, _ => exact r7
  | 8, _, _ => exact r8
  | 9, _, _ => exact r9
  | 10, _, _ => exact r10
  | 11, _, _ => exact r11
  | 12, _, _ => exact r12
  | 13, _, _ => exact r13
theorem operations_laid {W : World} {r : List (String × DataW Unit)} (h : laidMet Tryz.prog (("queuelab/code.operations", Rows.laid_queuelab_code_operations) :: r) W) : K.LaidO W := by
 obtain ⟨ps, ⟨g', t', cs, fuel, p, q, hg', ht', hvar, hd, _, _⟩, _⟩ := h
 obtain rfl := Option.some.inj (gO.symm.trans hg')
 obtain rfl := Option.some.inj (gOT.symm.trans ht')
 obtain ⟨xs, m, rfl, hx, hl, hlen, hf⟩ := DataW.trod_array Tryz.underlying125 hd
 simp only [cellsInt] at hf
 match xs, hlen with
 | [y0, y1, y2, y3, y4, y5, y6, y7, y8, y9, y10], _ =>
  simp [Rows.laid_queuelab_code_operations] at hx
  obtain ⟨⟨e0, e1, e2, e3, e4, e5, e6, e7, e8, e9, e10⟩, -⟩ := hx
  have hc : ∀ i, W.cell? ⟨2, i, none⟩ = cs[i]? := fun i => by simpa using World.var?_cell gO hvar i
  have take1 : ∀ (i : Nat) (a : Value), (cs.toList.drop i).take 1 = [a] → cs[i]? = some a := fun i a h => by
   have : cs.toList[i]? = ([a] : List Value)[0]? := by rw [← h, List.getElem?_take_of_lt (by decide), List.getElem?_drop]; simp
   simpa using this
  have r1 := take1 1 _ (int_of (by simpa using hf 1 (by decide)) e1.symm)
  have r2 := take1 2 _ (int_of (by simpa using hf 2 (by decide)) e2.symm)
  have r3 := take1 3 _ (int_of (by simpa using hf 3 (by decide)) e3.symm)
  have r4 := take1 4 _ (int_of (by simpa using hf 4 (by decide)) e4.symm)
  have r5 := take1 5 _ (int_of (by simpa using hf 5 (by decide)) e5.symm)
  have r6 := take1 6 _ (int_of (by simpa using hf 6 (by decide)) e6.symm)
  have r7 := take1 7 _ (int_of (by simpa using hf 7 (by decide)) e7.symm)
  have r8 := take1 8 _ (int_of (by simpa using hf 8 (by decide)) e8.symm)
  have r9 := take1 9 _ (int_of (by simpa using hf 9 (by decide)) e9.symm)
  have r10 := take1 10 _ (int_of (by simpa using hf 10 (by decide)) e10.symm)
  intro k h1 h2
  rw [hc]
  match k, h1, h2 with
  | 1, _, _ => exact r1
  | 2, _, _ => exact r2
  | 3, _, _ => exact r3
  | 4, _, _ => exact r4
  | 5, _, _ => exact r5
  | 6, _, _ => exact r6
  | 7, _, _ => exact r7
  | 8, _, _ => exact r8
  | 9, _, _ => exact r9
  | 10, _, _ => exact r10
theorem of_laidK {W : World} (h : laidMetH Tryz.prog Rows.codeSizeRow.laid W) : (LaidW W ∧ 8 < W.heap.size) ∧ U.LaidW W ∧ K.LaidO W ∧ K.LaidE W := by
 rw [MakeChecks.laidMetH_plain _ _ _ (by kernel_rfl)] at h
 have h7 := laidMet.tail (laidMet.tail (laidMet.tail (laidMet.tail (laidMet.tail (laidMet.tail h)))))
 have h11 := laidMet.tail (laidMet.tail (laidMet.tail (laidMet.tail h7)))
 exact ⟨lexer_laid h, units_laid h7, operations_laid (laidMet.tail h11), effects_laid h11⟩
end L8
end Go.Proofs.YtamfgjinfcknfaaGreatDoor
