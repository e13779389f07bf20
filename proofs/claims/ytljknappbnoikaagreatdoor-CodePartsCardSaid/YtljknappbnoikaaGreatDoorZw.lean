/- Texts of one proof: QaI. -/
import Derived.Test.YtljknappbnoikaaGreatDoorZv
import Derived.Deep.RegionWith
set_option linter.unusedVariables false
set_option linter.unusedSimpArgs false
set_option maxRecDepth 100000
set_option maxHeartbeats 8000000
namespace Go.Proofs.YtljknappbnoikaaGreatDoor
open Go.RowKit
theorem prog_more (ts : List Nd) (g o m : Nat) (w : World) (hL : LaidW w) (hw : 8 < w.heap.size) (hN : NmSs ts) (hlen : ts.length ≤ maxLen) (hm : ts.length ≤ m) (hK : KidsR w (From 0) ts (some ⟨g, o, none⟩)) (ha : lead vVar ts < ts.length) :
  Calls Tryz.prog 93 #[.slice (some ⟨g, o, none⟩) ts.length m] w (BB (vProg ts) w) := by
 have hR : ∃ r, vProg ts = r := ⟨_, rfl⟩
 obtain ⟨r, hr⟩ := hR
 rw [hr]
 unfold vProg vRest at hr
 have hKd := hK.drop _ _ _ _ ha
 have hNd := NmSs.drop (lead vVar ts) hN
 have hld : (ts.drop (lead vVar ts)).length = ts.length - lead vVar ts := List.length_drop
 have H1 := Lib.hid (lead_validVar vVar ts (some ⟨g, o, none⟩) m w hK (does_var ts w hL hw hN) hlen)
 have H2 := Lib.hid (fun wx (hb : Below w.heap.size w wx) => lead_validHandler vHandler (ts.drop (lead vVar ts)) (some ⟨g, o + lead vVar ts * 6, none⟩) (m - lead vVar ts) wx (KidsR.keep (fun q h1 h2 => ⟨hb.block q h2, h1⟩) _ _ hKd) (does_handler _ wx (hL.below hb hw) (Nat.lt_of_lt_of_le hw hb.size) hNd) (by rw [hld]; omega))
 rw [hld] at H2
 have hb := lead_le vHandler (ts.drop (lead vVar ts))
 rw [hld] at hb
 have hle := lead_le vHandler (ts.drop (lead vVar ts))
 generalize hu : ts.drop (lead vVar ts) = us at *
 generalize lead vVar ts = a at *
 generalize hb' : lead vHandler us = b at *
 have hmax := hlen
 unfold maxLen at hlen
 generalize ts.length = n at *
 have hca : ¬ m = a := by omega
 by_cases hrest : b = n - a
 ·have hvs : us.drop b = [] := List.drop_eq_nil_of_le (by omega)
  rw [hvs] at hr
  have hr2 : false = r := hr
  subst hr2
  clear hr hKd hNd hK hN hL hu hb' hvs hle hld
  by_cases hcb : m = n
  ·subst hcb
   have hz : m - a - (m - a) = 0 := by omega
   subst hrest
   go_enter Tryz.func93, Tryz.ntmps93
   go_wp2_with (first
    | (go_at_call_of 88 (Value.slice (some (Addr.mk g o none)) m m); refine H1.out.mono ?_; rintro e w1 ⟨rfl, hb1⟩; have HW1 := Lib.hid hb1)
    | (go_at_call_of 88 (m - a); refine (H2.out _ HW1.out).mono ?_; rintro e w2 ⟨rfl, hb2⟩; have HW2 := Lib.hid (HW1.out.trans (hb2.mono HW1.out.size))))
   go_loopg [17] 0 (fun gk i wr => i = .int .i64 0 ∧ Hid (Below w.heap.size w wr))
   case atStart => exact ⟨rfl, HW2⟩
   case round =>
    obtain ⟨rfl, hW⟩ := hrel
    go_wp2_with (go_at_call 107; refine (between_any 0 1 2 _).mono ?_; rintro e w3 ⟨rfl, hb3⟩)
    go_ret
    exact ⟨rfl, hW.out.trans (hb3.mono hW.out.size)⟩
  ·have hcb2 : ¬ m - a = n - a := by omega
   have hz : n - a - (n - a) = 0 := by omega
   subst hrest
   go_enter Tryz.func93, Tryz.ntmps93
   go_wp2_with (first
    | (go_at_call_of 88 (Value.slice (some (Addr.mk g o none)) n m); refine H1.out.mono ?_; rintro e w1 ⟨rfl, hb1⟩; have HW1 := Lib.hid hb1)
    | (go_at_call_of 88 (m - a); refine (H2.out _ HW1.out).mono ?_; rintro e w2 ⟨rfl, hb2⟩; have HW2 := Lib.hid (HW1.out.trans (hb2.mono HW1.out.size))))
   go_loopg [17] 0 (fun gk i wr => i = .int .i64 0 ∧ Hid (Below w.heap.size w wr))
   case atStart => exact ⟨rfl, HW2⟩
   case round =>
    obtain ⟨rfl, hW⟩ := hrel
    go_wp2_with (go_at_call 107; refine (between_any 0 1 2 _).mono ?_; rintro e w3 ⟨rfl, hb3⟩)
    go_ret
    exact ⟨rfl, hW.out.trans (hb3.mono hW.out.size)⟩
 ·have hcb : ¬ m - a = b := by omega
  have hKr := KidsR.drop us g (o + a * 6) b (by omega) hKd
  have hNr := NmSs.drop b hNd
  have hlr : (us.drop b).length = n - a - b := by rw [List.length_drop, hld]
  generalize us.drop b = vs at *
  have HKr := Lib.hid hKr
  have HNr := Lib.hid hNr
  have HLr := Lib.hid hlr
  have HL := Lib.hid hL
  have HR := Lib.hid (show (vUses (vs.drop 0) ((0 : Nat) : Int) && btw (n - a - b : Nat) 1 2) = r by rw [← hlr]; exact hr)
  clear hr hKd hNd hK hN hL hu hb' hle hld hKr hNr hlr
  go_enter Tryz.func93, Tryz.ntmps93
  go_wp2_with (first
   | (go_at_call_of 88 (Value.slice (some (Addr.mk g o none)) n m); refine H1.out.mono ?_; rintro e w1 ⟨rfl, hb1⟩; have HW1 := Lib.hid hb1)
   | (go_at_call_of 88 (m - a); refine (H2.out _ HW1.out).mono ?_; rintro e w2 ⟨rfl, hb2⟩; have HW2 := Lib.hid (HW1.out.trans (hb2.mono HW1.out.size))))
  go_loopg [17] (n - a - b) (fun gk i wr => ∃ j : Nat, j + gk = n - a - b ∧ i = .int .i64 j ∧ Hid ((vUses (vs.drop j) (j : Int) && btw (n - a - b : Nat) 1 2) = r) ∧ Hid (Below w.heap.size w wr))
  case atStart => exact ⟨0, by omega, rfl, HR, HW2⟩
  case round =>
   obtain ⟨j, hj, rfl, hS, hW⟩ := hrel
   by_cases hlt : j < n - a - b
   ·obtain ⟨gq, rfl⟩ : ∃ gq, gk = gq + 1 := ⟨gk - 1, by omega⟩
    have hlv : j < vs.length := by rw [HLr.out]; exact hlt
    have hSq := hS.out
    rw [vUses_drop vs j hlv] at hSq
    have hKw : KidsR wr (From 0) vs (some ⟨g, o + a * 6 + b * 6, none⟩) := KidsR.keep (fun q h1 h2 => ⟨hW.out.block q h2, h1⟩) _ _ HKr.out
    obtain ⟨A1, c1, ⟨e0, e1, e2, e3, e4, e5⟩, hK1⟩ := (hKw.get _ _ _ j _ (List.getElem?_eq_getElem hlv)).cells
    have hNj := HNr.out.mem _ (List.getElem_mem hlv)
    have hnm := Lib.hid hNj.name
    generalize vs[j] = v at *
    obtain ⟨vk, vx, vn, vu, va, vks⟩ := v
    simp only [Nd.kind, Nd.name, Nd.n, Nd.unit, Nd.at0, Nd.kids, zn] at e0 e1 e2 e3 e4 e5 hSq hnm
    have HT := Lib.hid (show ∀ wx, Calls Tryz.prog 106 #[aggN vk vx vn vu va A1 vks.length c1] wx (fun e w' => e = .returned (.tuple #[.int .i64 vn, aggN vk vx 0 vu va A1 vks.length c1]) ∧ Below wx.heap.size wx w') from fun wx => take_any (.mk vk vx vn vu va vks) A1 c1 wx)
    have HNm := Lib.hid (show ∀ wx (hb : Below w.heap.size w wx), Calls Tryz.prog 89 #[aggN vk vx 0 vu va A1 vks.length c1, .int .i64 9] wx (BB (namedB (.mk vk vx 0 vu va vks) 9) wx) from fun wx hb => named_any (.mk vk vx 0 vu va vks) A1 c1 9 wx (HL.out.below hb hw) (Nat.lt_of_lt_of_le hw hb.size) hnm.out)
    clear hKw hK1 hNj hS
    by_cases h1 : vn = (j : Int)
    ·subst h1
     cases h2 : namedB (.mk vk vx 0 vu va vks) 9 with
     | false =>
      have hF : false = r := by rw [h2] at hSq; simpa using hSq
      subst hF
      clear hSq
      go_wp2_with (first
       | (go_at_call 106; refine (HT.out _).mono ?_; rintro e w1x ⟨rfl, hb1x⟩; have HX1 := Lib.hid ((hW.out.alloc hW.out.size _).trans (hb1x.mono (by have := hW.out.size; simp; omega))); have HX2 := Lib.hid (HX1.out.alloc HX1.out.size (.cells (arrN vk vx 0 vu va A1 vks.length c1) 79)); have HBn := Lib.hid (newBlk w1x (.cells (arrN vk vx 0 vu va A1 vks.length c1) 79) _ rfl); clear hb1x)
       | (go_at_call 89; refine (bb_of h2 (HNm.out _ HX2.out)).mono ?_; rintro e w3x ⟨rfl, hb3x⟩; have HX3 := Lib.hid (HX2.out.trans (hb3x.mono HX2.out.size)); obtain ⟨⟨y0, y1, y2, y3, y4, y5⟩, -⟩ := cells6 ((hb3x.block _ (blkLt HBn.out)).trans HBn.out); have hxy := Nat.lt_of_lt_of_le (blkLt HBn.out) hb3x.size; clear hb3x))
      go_ret
      exact ⟨rfl, HX3.out⟩
     | true =>
      by_cases h3 : vks.length = 0
      ·obtain rfl : vks = [] := List.eq_nil_of_length_eq_zero h3
       have h4 : ([] : List Nd).isEmpty = true := rfl
       have hSN : (vUses (vs.drop (j + 1)) ((j + 1 : Nat) : Int) && btw (n - a - b : Nat) 1 2) = r := by rw [h2, h4] at hSq; simpa using hSq
       have hSN := Lib.hid hSN
       clear hSq h4 h3
       have HT0 := HT.out
       have HN0 := HNm.out
       simp only [aggN, List.length_nil, Nat.zero_add] at HT0 HN0 e5
       have HT := Lib.hid HT0
       have HNm := Lib.hid HN0
       clear HT0 HN0
       go_wp2_with (first
        | (go_at_call 106; refine (HT.out _).mono ?_; rintro e w1x ⟨rfl, hb1x⟩; have HX1 := Lib.hid ((hW.out.alloc hW.out.size _).trans (hb1x.mono (by have := hW.out.size; simp; omega))); have HX2 := Lib.hid (HX1.out.alloc HX1.out.size (.cells (#[.int .i64 vk, .string vx, .int .i64 0, .int .i64 vu, .int .i64 va, .slice A1 0 c1] : Array Value) 79)); have HBn := Lib.hid (newBlk w1x (.cells (#[.int .i64 vk, .string vx, .int .i64 0, .int .i64 vu, .int .i64 va, .slice A1 0 c1] : Array Value) 79) _ rfl); clear hb1x)
        | (go_at_call 89; refine (bb_of h2 (HNm.out _ HX2.out)).mono ?_; rintro e w3x ⟨rfl, hb3x⟩; have HX3 := Lib.hid (HX2.out.trans (hb3x.mono HX2.out.size)); obtain ⟨⟨y0, y1, y2, y3, y4, y5⟩, -⟩ := cells6 ((hb3x.block _ (blkLt HBn.out)).trans HBn.out); have hxy := Nat.lt_of_lt_of_le (blkLt HBn.out) hb3x.size; clear hb3x))
       go_roundg gq
       case measure => omega
       case rel => exact ⟨j + 1, by omega, by go_num, hSN, HX3⟩
      ·have h4 : vks.isEmpty = false := by cases vks with | nil => exact absurd rfl h3 | cons _ _ => rfl
       have hF : false = r := by rw [h2, h4] at hSq; simpa using hSq
       subst hF
       have hl0 : 0 < vks.length := by omega
       clear hSq h4
       go_wp2_with (first
        | (go_at_call 106; refine (HT.out _).mono ?_; rintro e w1x ⟨rfl, hb1x⟩; have HX1 := Lib.hid ((hW.out.alloc hW.out.size _).trans (hb1x.mono (by have := hW.out.size; simp; omega))); have HX2 := Lib.hid (HX1.out.alloc HX1.out.size (.cells (arrN vk vx 0 vu va A1 vks.length c1) 79)); have HBn := Lib.hid (newBlk w1x (.cells (arrN vk vx 0 vu va A1 vks.length c1) 79) _ rfl); clear hb1x)
        | (go_at_call 89; refine (bb_of h2 (HNm.out _ HX2.out)).mono ?_; rintro e w3x ⟨rfl, hb3x⟩; have HX3 := Lib.hid (HX2.out.trans (hb3x.mono HX2.out.size)); obtain ⟨⟨y0, y1, y2, y3, y4, y5⟩, -⟩ := cells6 ((hb3x.block _ (blkLt HBn.out)).trans HBn.out); have hxy := Nat.lt_of_lt_of_le (blkLt HBn.out) hb3x.size; clear hb3x))
       go_ret
       exact ⟨rfl, HX3.out⟩
    ·have hF : false = r := by simpa [h1] using hSq
     subst hF
     have hne : (vn != (j : Int)) = true := by simpa using h1
     clear hSq h1
     go_wp2_with (go_at_call 106; refine (HT.out _).mono ?_; rintro e w1x ⟨rfl, hb1x⟩; have HX1 := Lib.hid ((hW.out.alloc hW.out.size _).trans (hb1x.mono (by have := hW.out.size; simp; omega))); have HX2 := Lib.hid (HX1.out.alloc HX1.out.size (.cells (arrN vk vx 0 vu va A1 vks.length c1) 79)); have HBn := Lib.hid (newBlk w1x (.cells (arrN vk vx 0 vu va A1 vks.length c1) 79) _ rfl); clear hb1x)
     go_ret
     exact ⟨rfl, HX2.out⟩
   ·have hF : btw (n - a - b : Nat) 1 2 = r := by
     have := hS.out
     rw [List.drop_eq_nil_of_le (by rw [HLr.out]; omega)] at this
     simpa [vUses] using this
    subst hF
    clear hS
    go_wp2_with (go_at_call 107; refine (bb_of rfl (between_any _ 1 2 _)).mono ?_; rintro e w3 ⟨rfl, hb3⟩)
    go_ret
    exact ⟨rfl, hW.out.trans (hb3.mono hW.out.size)⟩
end Go.Proofs.YtljknappbnoikaaGreatDoor
