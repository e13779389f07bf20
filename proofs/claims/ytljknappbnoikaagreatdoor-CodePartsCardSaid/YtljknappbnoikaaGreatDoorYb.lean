/- Texts of one proof: KzK, KxB, KxE, KzM. -/
import Derived.Test.YtljknappbnoikaaGreatDoorZz
import Derived.Test.YtljknappbnoikaaGreatDoorYa
import Derived.Deep.AppendLies
import Derived.Test.YtljknappbnoikaaGreatDoorZd
set_option linter.unusedVariables false
set_option linter.unusedSimpArgs false
set_option maxRecDepth 100000
set_option maxHeartbeats 8000000
namespace Go.Proofs.YtljknappbnoikaaGreatDoor
open Go.RowKit
namespace K
open U (Ex St StsR)
abbrev wantL : List In := [⟨3, 0, 0⟩, ⟨1, 2, 0⟩, ⟨12, 8, 1⟩, ⟨2, 0, 0⟩, ⟨3, 0, 0⟩, ⟨4, 0, 0⟩, ⟨11, 0, 0⟩, ⟨13, 10, 0⟩, ⟨1, 1, 0⟩, ⟨11, 0, 0⟩]
theorem ex_valid : C.valPM ⟨#[112]⟩ exVs exOn.list 0 (-1) = true := by decide +kernel
theorem ze_valid : C.valPM ⟨#[]⟩ [] [[], [], [], [], []] 0 0 = false := by decide +kernel
theorem ex_long : longB exOn.list = false := by decide +kernel
theorem ex_code : exOn.list.map (fun l => cL l 0) = [wantL, [], [], [], []] := by rfl
abbrev heE (A : Option Addr) (c : Nat) : Hd := ⟨[], A, c⟩
theorem verC_map (hs : List Hd) (vars : Int) : verC hs vars = (btw2 vars (0, 12) && (hs.map (fun h => h.l)).all (fun l => verH l vars)) := by simp [verC, verAll, List.all_map, Function.comp_def]
theorem ver1 (A0 A1 A2 A3 A4 : Option Addr) (c0 c1 c2 c3 c4 : Nat) : verC [⟨wantL, A0, c0⟩, heE A1 c1, heE A2 c2, heE A3 c3, heE A4 c4] 1 = true := by rw [verC_map]; exact (by decide +kernel : (btw2 1 (0, 12) && ([wantL, [], [], [], []] : List (List In)).all (fun l => verH l 1)) = true)
theorem ver2 (A0 A1 A2 A3 A4 : Option Addr) (c0 c1 c2 c3 c4 : Nat) : verC [⟨wantL, A0, c0⟩, heE A1 c1, heE A2 c2, heE A3 c3, heE A4 c4] 0 = false := by rw [verC_map]; exact (by decide +kernel : (btw2 0 (0, 12) && ([wantL, [], [], [], []] : List (List In)).all (fun l => verH l 0)) = false)
theorem ver3 : verC [heE none 0, heE none 0, heE none 0, heE none 0, heE none 0] 0 = true := by decide +kernel
theorem ver4 : verC [heE none 0, heE none 0, heE none 0, heE none 0, heE none 0] 13 = false := by decide +kernel
theorem ver5 (A : Option Addr) (c : Nat) : verC [heE none 0, heE none 0, ⟨[⟨1, 0, 0⟩], A, c⟩, heE none 0, heE none 0] 1 = false := by rw [verC_map]; exact (by decide +kernel : (btw2 1 (0, 12) && ([[], [], [⟨1, 0, 0⟩], [], []] : List (List In)).all (fun l => verH l 1)) = false)
theorem ver6 (A : Option Addr) (c : Nat) : verC [⟨[⟨1, 0, 0⟩, ⟨4, 0, 0⟩], A, c⟩, heE none 0, heE none 0, heE none 0, heE none 0] 1 = false := by rw [verC_map]; exact (by decide +kernel : (btw2 1 (0, 12) && ([[⟨1, 0, 0⟩, ⟨4, 0, 0⟩], [], [], [], []] : List (List In)).all (fun l => verH l 1)) = false)
theorem ver7 (A : Option Addr) (c : Nat) : verC [heE none 0, heE none 0, heE none 0, heE none 0, ⟨[⟨13, 0, 0⟩], A, c⟩] 1 = false := by rw [verC_map]; exact (by decide +kernel : (btw2 1 (0, 12) && ([[], [], [], [], [⟨13, 0, 0⟩]] : List (List In)).all (fun l => verH l 1)) = false)
theorem insBlk {w : World} {b : Nat} {l : List In} {cs : Array Value} {T : TypeId} (h : w.heap[b]? = some (.cells cs T (0, 0))) (hc : cs.toList = insC l) : InsR w l (some ⟨b, 0, none⟩) := by
 have e : ∀ j, w.cell? ⟨b, j, none⟩ = (insC l)[j]? := fun j => by
  rw [cell_of_row _ _ j _ _ (0, 0) h, ← hc]
  simp
 refine .inr ⟨b, 0, rfl, fun i x hx => ?_⟩
 obtain ⟨k0, k1, k2⟩ := insC_at l i x hx
 rw [Nat.zero_add]
 exact ⟨(e _).trans k0, (e _).trans k1, (e _).trans k2⟩
theorem all5 {P : Hd → Prop} {a b c d e : Hd} (ha : P a) (hb : P b) (hc : P c) (hd : P d) (he : P e) : ∀ h ∈ [a, b, c, d, e], P h := by
 intro h hh
 simp only [List.mem_cons, List.not_mem_nil, or_false] at hh
 rcases hh with rfl | rfl | rfl | rfl | rfl <;> assumption
theorem nilR (w : World) (A : Option Addr) : InsR w [] A := .inl rfl
theorem head_any (w : World) (hP : LaidW w) (hw : 8 < w.heap.size) (hL : U.LaidW w) (hLO : LaidO w) (hE : LaidE w) : Calls Tryz.prog 5 #[] w (GG (.bool true) w) := by
 have HE := Lib.hid hE
 have HC := Lib.hid (fun (wx : World) (VA : Option Addr) (vm : Nat) (a : U.OnA) (hg : Gr w wx) (hV : U.VarsR wx exVs VA) (hO : U.OnR wx exOn a) => Compile_any ⟨#[112]⟩ exVs VA vm exOn a 0 (-1) wx (hP.below hg hw) (Nat.lt_of_lt_of_le hw hg.size) (hL.below hg) hV hO (by decide) (by decide) (hLO.gr hg))
 have HZ := Lib.hid (fun (wx : World) (hg : Gr w wx) => Compile_any ⟨#[]⟩ [] none 0 ⟨[], [], [], [], []⟩ ⟨none, none, none, none, none, 0, 0, 0, 0, 0⟩ 0 0 wx (hP.below hg hw) (Nat.lt_of_lt_of_le hw hg.size) (hL.below hg) (.inl rfl) ⟨trivial, trivial, trivial, trivial, trivial, by decide, by decide, by decide, by decide, by decide⟩ (by decide) (by decide) (hLO.gr hg))
 rw [ex_valid] at HC
 rw [show C.valPM ⟨#[]⟩ [] (U.On.list ⟨[], [], [], [], []⟩) 0 0 = false from ze_valid] at HZ
 clear hP hw hL hLO hE
 go_enter Tryz.func5, Tryz.ntmps5
 go_wp2_with fail
 refine (example_any _).mono ?_
 rintro e wA ⟨⟨VA, vm, a, rfl, hVA, hOA⟩, hgA⟩
 have hgA := Lib.hid hgA
 have hVA := Lib.hid hVA
 have hOA := Lib.hid hOA
 go_wp2_with fail
 refine (HC.out wA VA vm a hgA.out hVA.out hOA.out).mono ?_
 rintro e wB ⟨h, hgB⟩
 have hgB := Lib.hid (Gr.tr hgA.out hgB)
 obtain ⟨l0, l1, l2, l3, l4, A0, A1, A2, A3, A4, c0, c1, c2, c3, c4, rfl, hl, hRc⟩ : ∃ (l0 l1 l2 l3 l4 : List In) (A0 A1 A2 A3 A4 : Option Addr) (c0 c1 c2 c3 c4 : Nat), e = .returned (.tuple #[.agg (cdA ⟨l0, A0, c0⟩ ⟨l1, A1, c1⟩ ⟨l2, A2, c2⟩ ⟨l3, A3, c3⟩ ⟨l4, A4, c4⟩), .int .i64 0]) ∧ [l0, l1, l2, l3, l4] = [wantL, [], [], [], []] ∧ InsR wB l0 A0 := by
  rcases h with ⟨h, -⟩ | ⟨-, h, -⟩ | ⟨-, -, ⟨l0, A0, c0⟩, ⟨l1, A1, c1⟩, ⟨l2, A2, c2⟩, ⟨l3, A3, c3⟩, ⟨l4, A4, c4⟩, rfl, h2, h3⟩
  ·cases h
  ·rw [ex_long] at h; cases h
  ·exact ⟨l0, l1, l2, l3, l4, A0, A1, A2, A3, A4, c0, c1, c2, c3, c4, rfl, h2.trans ex_code, h3 _ (List.mem_cons_self ..)⟩
 simp only [List.cons.injEq, and_true] at hl
 obtain ⟨rfl, rfl, rfl, rfl, rfl⟩ := hl
 have hRc := Lib.hid hRc
 clear HC hgA hVA hOA
 obtain ⟨W1, hW1⟩ : ∃ W1, W1 = wB.alloc (.cells #[.slice A0 10 c0, .slice A1 0 c1, .slice A2 0 c2, .slice A3 0 c3, .slice A4 0 c4] 30) := ⟨_, rfl⟩
 have hg1 := Lib.hid (show Gr w W1 by rw [hW1]; exact Gr.tr hgB.out (grAlloc _ _))
 have hb1 := Lib.hid (show W1.heap[wB.heap.size]? = some (.cells (cdA ⟨wantL, A0, c0⟩ (heE A1 c1) (heE A2 c2) (heE A3 c3) (heE A4 c4)) 30 (0, 0)) by rw [hW1]; exact nBlk _ _ _ rfl)
 have hR1 := Lib.hid (show InsR W1 wantL A0 by rw [hW1]; exact hRc.out.gr (grAlloc _ _))
 go_upto_region 2 with fail
 rw [← hW1]
 clear hW1 hgB hRc
 go_wp2_with fail
 refine (HZ.out W1 hg1.out).mono ?_
 rintro e wD ⟨h, hgD⟩
 obtain rfl : e = .returned (.tuple #[zeroCd, .int .i64 1]) := by
  rcases h with ⟨-, h⟩ | ⟨h, -⟩ | ⟨h, -⟩
  ·exact h
  ·cases h
  ·cases h
 obtain ⟨W2, hW2⟩ : ∃ W2, W2 = wD.alloc (.cells #[nilS, nilS, nilS, nilS, nilS] 30) := ⟨_, rfl⟩
 have hgq : Gr W1 W2 := by rw [hW2]; exact Gr.tr hgD (grAlloc _ _)
 have hg2 := Lib.hid (Gr.tr hg1.out hgq)
 have hb2 := Lib.hid (grBlk hgq hb1.out)
 have hR2 := Lib.hid (hR1.out.gr hgq)
 clear h HZ hgD hgq
 go_upto_region 3 with fail
 rw [← hW2]
 clear hW2 hg1 hb1 hR1
 go_upto_region 8 with fail
 obtain ⟨W3, hW3⟩ : ∃ W3, W3 = (((((((W2.alloc (.cells #[.int .i64 3, .int .i64 0, .int .i64 0, .int .i64 1, .int .i64 2, .int .i64 0, .int .i64 12, .int .i64 8, .int .i64 1, .int .i64 2, .int .i64 0, .int .i64 0, .int .i64 3, .int .i64 0, .int .i64 0, .int .i64 4, .int .i64 0, .int .i64 0, .int .i64 11, .int .i64 0, .int .i64 0, .int .i64 13, .int .i64 10, .int .i64 0, .int .i64 1, .int .i64 1, .int .i64 0, .int .i64 11, .int .i64 0, .int .i64 0] 41)).alloc (.cells #[.slice none 0 0, .slice none 0 0, .slice (some ⟨W2.heap.size + 1 + 1 + 1 + 1, 0, none⟩) 1 1, .slice none 0 0, .slice none 0 0] 30)).alloc (.cells #[.slice (some ⟨W2.heap.size + 1 + 1 + 1 + 1 + 1, 0, none⟩) 2 2, .slice none 0 0, .slice none 0 0, .slice none 0 0, .slice none 0 0] 30)).alloc (.cells #[.slice none 0 0, .slice none 0 0, .slice none 0 0, .slice none 0 0, .slice (some ⟨W2.heap.size + 1 + 1 + 1 + 1 + 1 + 1, 0, none⟩) 1 1] 30)).alloc (.cells #[.int .i64 1, .int .i64 0, .int .i64 0] 41)).alloc (.cells #[.int .i64 1, .int .i64 0, .int .i64 0, .int .i64 4, .int .i64 0, .int .i64 0] 41)).alloc (.cells #[.int .i64 13, .int .i64 0, .int .i64 0] 41)) := ⟨_, rfl⟩
 have hgq : Gr W2 W3 := by rw [hW3]; exact ((((((grAlloc _ _).tr (grAlloc _ _)).tr (grAlloc _ _)).tr (grAlloc _ _)).tr (grAlloc _ _)).tr (grAlloc _ _)).tr (grAlloc _ _)
 have hk0 := Lib.hid (show W3.heap[W2.heap.size]? = some (.cells #[.int .i64 3, .int .i64 0, .int .i64 0, .int .i64 1, .int .i64 2, .int .i64 0, .int .i64 12, .int .i64 8, .int .i64 1, .int .i64 2, .int .i64 0, .int .i64 0, .int .i64 3, .int .i64 0, .int .i64 0, .int .i64 4, .int .i64 0, .int .i64 0, .int .i64 11, .int .i64 0, .int .i64 0, .int .i64 13, .int .i64 10, .int .i64 0, .int .i64 1, .int .i64 1, .int .i64 0, .int .i64 11, .int .i64 0, .int .i64 0] 41 (0, 0)) by rw [hW3]; exact grBlk (grAlloc _ _) (grBlk (grAlloc _ _) (grBlk (grAlloc _ _) (grBlk (grAlloc _ _) (grBlk (grAlloc _ _) (grBlk (grAlloc _ _) (nBlk _ _ _ rfl)))))))
 have hk1 := Lib.hid (show W3.heap[W2.heap.size + 1]? = some (.cells #[.slice none 0 0, .slice none 0 0, .slice (some ⟨W2.heap.size + 1 + 1 + 1 + 1, 0, none⟩) 1 1, .slice none 0 0, .slice none 0 0] 30 (0, 0)) by rw [hW3]; exact grBlk (grAlloc _ _) (grBlk (grAlloc _ _) (grBlk (grAlloc _ _) (grBlk (grAlloc _ _) (grBlk (grAlloc _ _) (nBlk _ _ _ (by simp)))))))
 have hk2 := Lib.hid (show W3.heap[W2.heap.size + 1 + 1]? = some (.cells #[.slice (some ⟨W2.heap.size + 1 + 1 + 1 + 1 + 1, 0, none⟩) 2 2, .slice none 0 0, .slice none 0 0, .slice none 0 0, .slice none 0 0] 30 (0, 0)) by rw [hW3]; exact grBlk (grAlloc _ _) (grBlk (grAlloc _ _) (grBlk (grAlloc _ _) (grBlk (grAlloc _ _) (nBlk _ _ _ (by simp))))))
 have hk3 := Lib.hid (show W3.heap[W2.heap.size + 1 + 1 + 1]? = some (.cells #[.slice none 0 0, .slice none 0 0, .slice none 0 0, .slice none 0 0, .slice (some ⟨W2.heap.size + 1 + 1 + 1 + 1 + 1 + 1, 0, none⟩) 1 1] 30 (0, 0)) by rw [hW3]; exact grBlk (grAlloc _ _) (grBlk (grAlloc _ _) (grBlk (grAlloc _ _) (nBlk _ _ _ (by simp)))))
 have hk4 := Lib.hid (show W3.heap[W2.heap.size + 1 + 1 + 1 + 1]? = some (.cells #[.int .i64 1, .int .i64 0, .int .i64 0] 41 (0, 0)) by rw [hW3]; exact grBlk (grAlloc _ _) (grBlk (grAlloc _ _) (nBlk _ _ _ (by simp))))
 have hk5 := Lib.hid (show W3.heap[W2.heap.size + 1 + 1 + 1 + 1 + 1]? = some (.cells #[.int .i64 1, .int .i64 0, .int .i64 0, .int .i64 4, .int .i64 0, .int .i64 0] 41 (0, 0)) by rw [hW3]; exact grBlk (grAlloc _ _) (nBlk _ _ _ (by simp)))
 have hk6 := Lib.hid (show W3.heap[W2.heap.size + 1 + 1 + 1 + 1 + 1 + 1]? = some (.cells #[.int .i64 13, .int .i64 0, .int .i64 0] 41 (0, 0)) by rw [hW3]; exact nBlk _ _ _ (by simp))
 have hg3 := Lib.hid (Gr.tr hg2.out hgq)
 have hb3 := Lib.hid (grBlk hgq hb2.out)
 have hR3 := Lib.hid (hR2.out.gr hgq)
 have hRw := Lib.hid (insBlk (l := wantL) hk0.out rfl)
 have hRp := Lib.hid (insBlk (l := [⟨1, 0, 0⟩]) hk4.out rfl)
 have hRa := Lib.hid (insBlk (l := [⟨1, 0, 0⟩, ⟨4, 0, 0⟩]) hk5.out rfl)
 have hRl := Lib.hid (insBlk (l := [⟨13, 0, 0⟩]) hk6.out rfl)
 have hg0 := Lib.hid (Below.refl W3.heap.size W3)
 rw [← hW3]
 clear hW3 hgq hg2 hb2 hR2
 obtain ⟨x0, x1, x2, x3, x4⟩ := cells5k hb3.out
 go_wp2_with fail
 have HS := SameInstrs_any wantL wantL A0 (some ⟨W2.heap.size, 0, none⟩) c0 10 W3 hR3.out hRw.out (by decide)
 rw [show sameL wantL wantL = true from rfl] at HS
 refine HS.mono ?_
 clear HS
 rintro e w4 ⟨rfl, hgn⟩
 have hg4 := Lib.hid (Gr.tr hg0.out hgn)
 clear hgn
 clear x0 x1 x2 x3 x4
 obtain ⟨x0, x1, x2, x3, x4⟩ := cells5k (grBlk hg4.out hb3.out)
 go_wp2_with fail
 have HV := Verify_any ⟨wantL, A0, c0⟩ (heE A1 c1) (heE A2 c2) (heE A3 c3) (heE A4 c4) 1 (by decide) w4 (all5 (hR3.out.gr hg4.out) (nilR _ _) (nilR _ _) (nilR _ _) (nilR _ _)) (all5 (Nat.le_of_ble_eq_true rfl) (Nat.le_of_ble_eq_true rfl) (Nat.le_of_ble_eq_true rfl) (Nat.le_of_ble_eq_true rfl) (Nat.le_of_ble_eq_true rfl)) (HE.out.gr (hg3.out.tr hg4.out))
 rw [ver1] at HV
 refine HV.mono ?_
 clear HV
 rintro e w5 ⟨rfl, hgn⟩
 have hg5 := Lib.hid (Gr.tr hg4.out hgn)
 clear hgn
 clear x0 x1 x2 x3 x4
 obtain ⟨x0, x1, x2, x3, x4⟩ := cells5k (grBlk hg5.out hb3.out)
 go_wp2_with fail
 have HV := Verify_any ⟨wantL, A0, c0⟩ (heE A1 c1) (heE A2 c2) (heE A3 c3) (heE A4 c4) 0 (by decide) w5 (all5 (hR3.out.gr hg5.out) (nilR _ _) (nilR _ _) (nilR _ _) (nilR _ _)) (all5 (Nat.le_of_ble_eq_true rfl) (Nat.le_of_ble_eq_true rfl) (Nat.le_of_ble_eq_true rfl) (Nat.le_of_ble_eq_true rfl) (Nat.le_of_ble_eq_true rfl)) (HE.out.gr (hg3.out.tr hg5.out))
 rw [ver2] at HV
 refine HV.mono ?_
 clear HV
 rintro e w6 ⟨rfl, hgn⟩
 have hg6 := Lib.hid (Gr.tr hg5.out hgn)
 clear hgn
 go_wp2_with fail
 have HV := Verify_any (heE none 0) (heE none 0) (heE none 0) (heE none 0) (heE none 0) 0 (by decide) w6 (all5 (nilR _ _) (nilR _ _) (nilR _ _) (nilR _ _) (nilR _ _)) (all5 (Nat.le_of_ble_eq_true rfl) (Nat.le_of_ble_eq_true rfl) (Nat.le_of_ble_eq_true rfl) (Nat.le_of_ble_eq_true rfl) (Nat.le_of_ble_eq_true rfl)) (HE.out.gr (hg3.out.tr hg6.out))
 rw [ver3] at HV
 refine HV.mono ?_
 clear HV
 rintro e w7 ⟨rfl, hgn⟩
 have hg7 := Lib.hid (Gr.tr hg6.out hgn)
 clear hgn
 go_wp2_with fail
 have HV := Verify_any (heE none 0) (heE none 0) (heE none 0) (heE none 0) (heE none 0) 13 (by decide) w7 (all5 (nilR _ _) (nilR _ _) (nilR _ _) (nilR _ _) (nilR _ _)) (all5 (Nat.le_of_ble_eq_true rfl) (Nat.le_of_ble_eq_true rfl) (Nat.le_of_ble_eq_true rfl) (Nat.le_of_ble_eq_true rfl) (Nat.le_of_ble_eq_true rfl)) (HE.out.gr (hg3.out.tr hg7.out))
 rw [ver4] at HV
 refine HV.mono ?_
 clear HV
 rintro e w8 ⟨rfl, hgn⟩
 have hg8 := Lib.hid (Gr.tr hg7.out hgn)
 clear hgn
 clear x0 x1 x2 x3 x4
 obtain ⟨x0, x1, x2, x3, x4⟩ := cells5k (grBlk hg8.out hk1.out)
 go_wp2_with fail
 have HV := Verify_any (heE none 0) (heE none 0) ⟨[⟨1, 0, 0⟩], some ⟨W2.heap.size + 1 + 1 + 1 + 1, 0, none⟩, 1⟩ (heE none 0) (heE none 0) 1 (by decide) w8 (all5 (nilR _ _) (nilR _ _) (hRp.out.gr hg8.out) (nilR _ _) (nilR _ _)) (all5 (Nat.le_of_ble_eq_true rfl) (Nat.le_of_ble_eq_true rfl) (Nat.le_of_ble_eq_true rfl) (Nat.le_of_ble_eq_true rfl) (Nat.le_of_ble_eq_true rfl)) (HE.out.gr (hg3.out.tr hg8.out))
 rw [ver5] at HV
 refine HV.mono ?_
 clear HV
 rintro e w9 ⟨rfl, hgn⟩
 have hg9 := Lib.hid (Gr.tr hg8.out hgn)
 clear hgn
 clear x0 x1 x2 x3 x4
 obtain ⟨x0, x1, x2, x3, x4⟩ := cells5k (grBlk hg9.out hk2.out)
 go_wp2_with fail
 have HV := Verify_any ⟨[⟨1, 0, 0⟩, ⟨4, 0, 0⟩], some ⟨W2.heap.size + 1 + 1 + 1 + 1 + 1, 0, none⟩, 2⟩ (heE none 0) (heE none 0) (heE none 0) (heE none 0) 1 (by decide) w9 (all5 (hRa.out.gr hg9.out) (nilR _ _) (nilR _ _) (nilR _ _) (nilR _ _)) (all5 (Nat.le_of_ble_eq_true rfl) (Nat.le_of_ble_eq_true rfl) (Nat.le_of_ble_eq_true rfl) (Nat.le_of_ble_eq_true rfl) (Nat.le_of_ble_eq_true rfl)) (HE.out.gr (hg3.out.tr hg9.out))
 rw [ver6] at HV
 refine HV.mono ?_
 clear HV
 rintro e w10 ⟨rfl, hgn⟩
 have hg10 := Lib.hid (Gr.tr hg9.out hgn)
 clear hgn
 clear x0 x1 x2 x3 x4
 obtain ⟨x0, x1, x2, x3, x4⟩ := cells5k (grBlk hg10.out hk3.out)
 go_wp2_with fail
 have HV := Verify_any (heE none 0) (heE none 0) (heE none 0) (heE none 0) ⟨[⟨13, 0, 0⟩], some ⟨W2.heap.size + 1 + 1 + 1 + 1 + 1 + 1, 0, none⟩, 1⟩ 1 (by decide) w10 (all5 (nilR _ _) (nilR _ _) (nilR _ _) (nilR _ _) (hRl.out.gr hg10.out)) (all5 (Nat.le_of_ble_eq_true rfl) (Nat.le_of_ble_eq_true rfl) (Nat.le_of_ble_eq_true rfl) (Nat.le_of_ble_eq_true rfl) (Nat.le_of_ble_eq_true rfl)) (HE.out.gr (hg3.out.tr hg10.out))
 rw [ver7] at HV
 refine HV.mono ?_
 clear HV
 rintro e w11 ⟨rfl, hgn⟩
 have hg11 := Lib.hid (Gr.tr hg10.out hgn)
 clear hgn
 go_wp2
 go_ret
 exact ⟨rfl, Gr.tr hg3.out hg11.out⟩
end K
end Go.Proofs.YtljknappbnoikaaGreatDoor
namespace Go.Proofs.YtljknappbnoikaaGreatDoor
open Go.RowKit
namespace K
open U (Ex St)
def onW (l : List St) : U.On := ⟨l, [], [], [], []⟩
def anW (A : Option Addr) (m : Nat) : U.OnA := ⟨A, none, none, none, none, m, 0, 0, 0, 0⟩
theorem onW_R {w : World} {l : List St} {A : Option Addr} {m : Nat} (h : U.StsR w l A) (hl : l.length ≤ maxLen) : U.OnR w (onW l) (anW A m) :=
 ⟨h, by unfold U.StsR; trivial, by unfold U.StsR; trivial, by unfold U.StsR; trivial, by unfold U.StsR; trivial, hl, Nat.zero_le _, Nat.zero_le _, Nat.zero_le _, Nat.zero_le _⟩
theorem with_any (x : ByteArray) (VA : Option Addr) (vn vm : Nat) (o : U.On) (a : U.OnA) (wi pa : Int) (l : List St) (A : Option Addr) (m : Nat) (w : World) :
  Calls Tryz.prog 14 #[U.pgv x VA vn vm o a wi pa, .slice A l.length m] w (GG (U.pgv x VA vn vm (onW l) (anW A m) wi pa) w) := by
 go_enter Tryz.func14, Tryz.ntmps14
 go_wp2
 exact bodyPost_ret (v := U.pgv x VA vn vm (onW l) (anW A m) wi pa) (by simp [results, Tryz.results14, go_sem, onW, anW]) rfl ⟨rfl, (grAlloc _ _).tr (grAlloc _ _)⟩
def hdl (ls : List (List St)) (k : Nat) : List St := (ls[k]?).getD []
theorem pg_onK {w w0 : World} {b : Nat} {x : ByteArray} {VA : Option Addr} {vn vm : Nat} {o : U.On} {a : U.OnA} {wi pa : Int} {T : TypeId} (h : w.heap[b]? = some (.cells (U.pgArr x VA vn vm o a wi pa) T (0, 0))) (hO : U.OnR w0 o a) (k : Nat) (hk : k < 5) :
  ∃ LA lm, w.cell? ⟨b, 2 + k, none⟩ = some (.slice LA (hdl o.list k).length lm) ∧ U.StsR w0 (hdl o.list k) LA ∧ (hdl o.list k).length ≤ maxLen := by
 obtain ⟨p0, p1, p2, p3, p4, p5, p6, p7, p8⟩ := U.cells9 h
 have h5 : k = 0 ∨ k = 1 ∨ k = 2 ∨ k = 3 ∨ k = 4 := by omega
 rcases h5 with rfl | rfl | rfl | rfl | rfl
 ·exact ⟨a.a0, a.m0, p2, hO.r0, hO.n0⟩
 ·exact ⟨a.a1, a.m1, p3, hO.r1, hO.n1⟩
 ·exact ⟨a.a2, a.m2, p4, hO.r2, hO.n2⟩
 ·exact ⟨a.a3, a.m3, p5, hO.r3, hO.n3⟩
 ·exact ⟨a.a4, a.m4, p6, hO.r4, hO.n4⟩
theorem lnS_pos : ∀ x : St, 1 ≤ lnS x
 | .mk k v r a b th el => by rw [lnS]; split <;> omega
theorem lnL_ge : ∀ l : List St, l.length ≤ lnL l
 | [] => Nat.zero_le _
 | x :: xs => by have := lnL_ge xs; have := lnS_pos x; rw [lnL, List.length_cons]; omega
structure CmpU (v : Bool) (ls : List (List St)) (er : Int) (h0 h1 h2 h3 h4 : Hd) : Prop where
 ok : er = 0 → v = true ∧ longB ls = false ∧ [h0.l, h1.l, h2.l, h3.l, h4.l] = ls.map (fun l => cL l 0)
 no : v = true → longB ls = false → er = 0
theorem CmpQ.uni {v : Bool} {ls : List (List St)} {w w' : World} {e : Ending} (h : CmpQ v ls w e w') : ∃ (er : Int) (h0 h1 h2 h3 h4 : Hd), e = .returned (.tuple #[.agg (cdA h0 h1 h2 h3 h4), .int .i64 er]) ∧ CmpU v ls er h0 h1 h2 h3 h4 ∧ (∀ h ∈ [h0, h1, h2, h3, h4], InsR w' h.l h.A) ∧ Gr w w' := by
 obtain ⟨⟨hv, rfl⟩ | ⟨hv, hl, rfl⟩ | ⟨hv, hl, h0, h1, h2, h3, h4, rfl, hls, hR⟩, hg⟩ := h
 ·exact ⟨1, heE none 0, heE none 0, heE none 0, heE none 0, heE none 0, rfl, ⟨(fun h => absurd h (by decide)), (fun h => by rw [hv] at h; cases h)⟩, all5 (nilR _ _) (nilR _ _) (nilR _ _) (nilR _ _) (nilR _ _), hg⟩
 ·exact ⟨2, heE none 0, heE none 0, heE none 0, heE none 0, heE none 0, rfl, ⟨(fun h => absurd h (by decide)), (fun _ h => by rw [hl] at h; cases h)⟩, all5 (nilR _ _) (nilR _ _) (nilR _ _) (nilR _ _) (nilR _ _), hg⟩
 ·exact ⟨0, h0, h1, h2, h3, h4, rfl, ⟨fun _ => ⟨hv, hl, hls⟩, fun _ _ => rfl⟩, hR, hg⟩
end K
end Go.Proofs.YtljknappbnoikaaGreatDoor
namespace Go.Proofs.YtljknappbnoikaaGreatDoor
open Go.RowKit
namespace K
theorem ins1j {w : World} {b : Nat} {x : In} {T : TypeId} (h : w.heap[b]? = some (.cells #[.int .i64 x.op, .int .i64 x.n, .int .i64 x.r] T (0, 0))) : InsR w [x] (some ⟨b, 0, none⟩) := by
 obtain ⟨c0, c1, c2⟩ := cells3k h
 refine .inr ⟨b, 0, rfl, fun i y hy => ?_⟩
 rcases i with _ | i
 ·simp at hy; subst hy; exact ⟨c0, c1, c2⟩
 ·simp at hy
theorem run_append_empty {w : World} (base : Nat) (t ty e : TypeId) (i : TypeInfo) (size : Nat) (ht : Tryz.prog.underlying t = some (.slice e)) (hi : Tryz.prog.info? e = some i)
  (v : Value) (n : Nat) (xs : List Value) (c : Nat) (hown : w.ownsRow base e size v n xs) :
  (Builtin.append_ #[t, t] ty #[v, .slice none 0 c]).run Tryz.prog w = .ok v w := by
 rcases hown.2 with ⟨rfl, rfl⟩ | ⟨g, cap, cur, rfl, _, _, hnc, _⟩
 ·simp [Builtin.append_, run_underlying ht, sizeOf, typeInfo, hi, Builtin.lenOf, Builtin.firstCells]
 ·simp [Builtin.append_, run_underlying ht, sizeOf, typeInfo, hi, Builtin.lenOf, Builtin.firstCells, hnc, storeCells]
theorem insC_mem {w : World} {l : List In} {g o : Nat} (h : ∀ (i : Nat) (x : In), l[i]? = some x → InAt w g (o + i * 3) x) : ∀ (j : Nat) (u : Value), (insC l)[j]? = some u → w.cell? ⟨g, o + j, none⟩ = some u := by
 intro j u hu
 have hj : j < l.length * 3 := by have := (List.getElem?_eq_some_iff.1 hu).1; rw [insC_len] at this; exact this
 obtain ⟨i, hi⟩ : ∃ i, i = j / 3 := ⟨_, rfl⟩
 have hil : i < l.length := by omega
 have hx := List.getElem?_eq_getElem hil
 generalize l[i] = x at hx
 obtain ⟨c0, c1, c2⟩ := h _ _ hx
 obtain ⟨k0, k1, k2⟩ := insC_at l _ _ hx
 rcases (show j = i * 3 ∨ j = i * 3 + 1 ∨ j = i * 3 + 2 by omega) with e | e | e
 ·rw [e, k0] at hu; cases hu; rw [e]; exact c0
 ·rw [e, k1] at hu; cases hu; rw [e]; exact c1
 ·rw [e, k2] at hu; cases hu; rw [e]; exact c2
theorem wp_append_hd {w : World} {o : Oper} {a : Act} {K : Act → World → Prop} {Q : Exit → Act → World → Prop} (s x : Operand)
  (ho : o.op = .call { callee := .builtin .append, args := #[s, x], argTypes := #[27, 27] })
  (base : Nat) (v : Value) (n : Nat) (xs : List Value) (hs : a.eval s = v) (hown : w.ownsRow base 41 3 v n xs) (y : Hd) (hx : a.eval x = hdV y) (hy : InsR w y.l y.A) (h63 : n + y.l.length ≤ 100000) (hbase : base ≤ w.heap.size)
  (h : ∀ v' w', w'.ownsRow base 41 3 v' (n + y.l.length) (xs ++ insC y.l) → w.grownBy w' v.ownBlock → K (a.put o.dst v') w') : o.wp Tryz.prog a w K Q := by
 obtain ⟨ix, hi, hz0, hz1, hz2⟩ := info_parts2 insInfo
 obtain ⟨l, A, c⟩ := y
 simp only at *
 cases A with
 | none =>
  have hl : l = [] := by
   rcases hy with h | ⟨g, o2, h, -⟩
   ·exact h
   ·cases h
  subst hl
  have hrun := run_append_empty (w := w) base 27 o.type 41 ix 3 Tryz.underlying27 hi v n xs c hown
  unfold Oper.wp
  simp only [hdV, List.length_nil] at hx
  simp [execOp, ho, resolve, invoke, builtin, hs, hx, hrun, Result.andThen]
  exact h v w (by simpa [insC] using hown) (gbRefl _ _)
 | some ad =>
  refine wp_append_own w s x 27 ho base 41 ix _ 3 24 Tryz.underlying27 hi hz0 hz1 hz2 rfl (by decide) v n xs hs hown ad l.length c (insC l) hx (insC_len l) (fun j u hu => ?_) (insC_one l) (by unfold maxLen; omega) (by omega) hbase (fun v' w' h2 h3 _ => h v' w' h2 h3)
  rcases hy with h | ⟨g, o2, h, hat⟩
  ·subst h; simp [insC] at hu
  ·cases h
   rw [addN]
   exact insC_mem hat j u hu
theorem wpList_append_hd {w : World} {ops : Array Oper} {rest : List Oper} {o : Oper} {a : Act} {Q : Exit → Act → World → Prop} (hgd : o.guard = none) (s x : Operand)
  (ho : o.op = .call { callee := .builtin .append, args := #[s, x], argTypes := #[27, 27] })
  (base : Nat) (v : Value) (n : Nat) (xs : List Value) (hs : a.eval s = v) (hown : w.ownsRow base 41 3 v n xs) (y : Hd) (hx : a.eval x = hdV y) (hy : InsR w y.l y.A) (h63 : n + y.l.length ≤ 100000) (hbase : base ≤ w.heap.size)
  (h : ∀ v' w', w'.ownsRow base 41 3 v' (n + y.l.length) (xs ++ insC y.l) → w.grownBy w' v.ownBlock → wpList Tryz.prog ops Q rest (a.put o.dst v') w') : wpList Tryz.prog ops Q (o :: rest) a w :=
 wpList_plain hgd fun K hK => wp_append_hd s x ho base v n xs hs hown y hx hy h63 hbase fun v' w' h2 h3 => hK _ _ (h v' w' h2 h3)
end K
end Go.Proofs.YtljknappbnoikaaGreatDoor
namespace Go.Proofs.YtljknappbnoikaaGreatDoor
namespace K
open U (Ex St szK)
def no (_ : Nat) : Prop := False
end K
end Go.Proofs.YtljknappbnoikaaGreatDoor
