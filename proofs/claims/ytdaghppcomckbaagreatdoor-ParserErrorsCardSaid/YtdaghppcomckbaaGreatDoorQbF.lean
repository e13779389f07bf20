/- Texts of one proof: QbF. -/
import Derived.Test.YtdaghppcomckbaaGreatDoorQmE
import Derived.Test.YtdaghppcomckbaaGreatDoorPmH
import Derived.BigQuiet
import Derived.Deep.Cut
/- The law ParserErrors' contract: it returns true; condition: the listed package-level variables hold what the text lays. -/
namespace Go.Proofs.YtdaghppcomckbaaGreatDoor
open Go.RowKit
set_option linter.unusedVariables false
set_option linter.unusedSimpArgs false

set_option maxHeartbeats 1000000 in
set_option maxRecDepth 100000 in
theorem usable_any (s : ByteArray) (w : World) (hm : s.size ≤ maxLen) : Calls Tryz.prog 6 #[.string s] w (BB (decide ((lx s).2.1 = 0)) w) := by
  obtain ⟨ts, er, p, hx⟩ : ∃ ts er p, lx s = (ts, er, p) := ⟨_, _, _, rfl⟩
  have e1 : decide ((lx s).2.1 = 0) = decide (er = 0) := by rw [hx]
  rw [e1]
  have HX := Lib.hid hx
  clear hx e1
  go_enter Tryz.func6, Tryz.ntmps6
  go_wp2_with fail
  refine (RLex_any s w hm).mono ?_
  intro e w1 hp
  obtain ⟨A, c, rfl, -, hb1⟩ := hp.el0 HX.out
  clear hp
  go_wp2
  go_ret
  refine ⟨?_, hb1⟩
  rfl
theorem items_20 : ∀ (f : Nat) (acc : List Nd) (ds : List (Int × Int)) (l : List Tk), ds.length ≤ 20 → (itemsF f acc ds l).2.length ≤ 20
  | 0, acc, ds, l, h => h
  | f + 1, acc, ds, l, h => by
    rw [itemsF]
    split
    · exact h
    · rename_i hc
      split
      · exact items_20 f _ _ _ h
      · exact items_20 f _ _ _ (by simp only [List.length_append, List.length_cons, List.length_nil]; omega)
theorem parse_20 (s : ByteArray) : (parseM s).2.length ≤ 20 := by
  unfold parseM
  split
  · simp
  · unfold parseT endOf
    split
    · exact items_20 _ _ _ _ (by simp)
    · split <;> simp
theorem grow3 (w : World) (O1 O2 O3 : Obj) (W : World) (h : ((w.alloc O1).alloc O2).alloc O3 = W) : Below w.heap.size w W ∧ w.heap.size + 3 ≤ W.heap.size ∧ W.heap[w.heap.size + 1]? = some O2 ∧ W.heap[w.heap.size + 1 + 1]? = some O3 := by
  subst h
  have n2 := newBlk (w.alloc O1) O2 (w.heap.size + 1) (by simp)
  have n3 := newBlk ((w.alloc O1).alloc O2) O3 (w.heap.size + 1 + 1) (by simp)
  exact ⟨(((Below.refl _ _).alloc (Nat.le_refl _) _).alloc (by simp) _).alloc (by simp; omega) _, by simp, (Below.heap_alloc _ O3 _ (blkLt n2)).trans n2, n3⟩
theorem bw_size (i : Nat) (h : i < 10) : (bw i).size ≤ 60 := by
  rcases i with _ | _ | _ | _ | _ | _ | _ | _ | _ | _ | i
  all_goals first | decide | omega
theorem bo_size (i : Nat) (h : i < 10) : 0 ≤ bo i ∧ bo i ≤ 60 := by
  rcases i with _ | _ | _ | _ | _ | _ | _ | _ | _ | _ | i
  all_goals first | decide | omega
theorem two_allocs (w : World) (O1 O2 : Obj) : Below w.heap.size w ((w.alloc O1).alloc O2) := ((Below.refl _ _).alloc (Nat.le_refl _) _).alloc (by simp) _
theorem new_second (w : World) (O1 O2 : Obj) : ((w.alloc O1).alloc O2).heap[w.heap.size + 1]? = some O2 := newBlk (w.alloc O1) O2 (w.heap.size + 1) (by simp)
theorem sd_one (D : Option Addr) (c : Nat) (v : Int) (w : World) (hD : DiagsR w D [((7 : Int), v)]) (b : Nat) (wx : World) (hb : Below w.heap.size w wx) (hc : wx.heap[b]? = some (.cells #[.int .i64 7, .int .i64 v] 31 (0, 0))) :
    Calls Tryz.prog 7 #[.slice D 1 c, .slice (some ⟨b, 0, none⟩) 1 1] wx (BB true wx) :=
  SameDiags_true [((7 : Int), v)] D (some ⟨b, 0, none⟩) c 1 wx (by simp) (hD.keep hb) (fun _ => ⟨b, 0, rfl, fun i d hd => by
    cases i with
    | zero => simp only [List.getElem?_cons_zero, Option.some.injEq] at hd; subst hd; exact ⟨cellK hc 0 rfl, cellK hc 1 rfl⟩
    | succ i => simp at hd⟩)
set_option maxHeartbeats 8000000 in
set_option maxRecDepth 100000 in
theorem Errors_any (a b : ByteArray) (k : Nat) (hk : k < 256) (w : World) (hL : LaidW w) (hw : 2 < w.heap.size) (hma : a.size ≤ maxLen) (hmb : b.size ≤ maxLen) : Calls Tryz.prog 3 #[.string a, .string b, .int .u8 k] w (BB true w) := by
  have HL := Lib.hid (fun wx (hb : Below w.heap.size w wx) => hL.below hb hw)
  have HS := Lib.hid (fun wx (hb : Below w.heap.size w wx) => Nat.lt_of_lt_of_le hw hb.size)
  have HH := Lib.hid (head_any w hL hw)
  clear hL
  unfold maxLen at hma hmb
  go_enter Tryz.func3, Tryz.ntmps3
  by_cases ha : 10010 < a.size
  · go_wp2_with (go_at_call 4; refine HH.out.mono ?_; rintro e w1 ⟨rfl, hb1⟩)
    go_ret
    exact ⟨rfl, hb1⟩
  by_cases hb : 10010 < b.size
  · go_wp2_with (go_at_call 4; refine HH.out.mono ?_; rintro e w1 ⟨rfl, hb1⟩)
    go_ret
    exact ⟨rfl, hb1⟩
  have hma' : a.size ≤ maxLen := by unfold maxLen; omega
  have hmb' : b.size ≤ maxLen := by unfold maxLen; omega
  have HPa := Lib.hid (fun wx (hx : Below w.heap.size w wx) => Parse_any a wx (HL.out wx hx) (HS.out wx hx) hma')
  have hOrd := parse_order a
  obtain ⟨na, da, hpa⟩ : ∃ na da, parseM a = (na, da) := ⟨_, _, rfl⟩
  rw [hpa] at hOrd
  have h20 := parse_20 a
  rw [hpa] at h20
  simp only at h20 hOrd
  have HpA := Lib.hid hpa
  have HOr := Lib.hid hOrd
  clear hpa hOrd
  go_wp2_with (first
    | (go_at_call 4; refine HH.out.mono ?_; rintro e w1 ⟨rfl, hb1⟩; have HW1 := Lib.hid hb1; clear hb1)
    | (go_at_call 5; refine (HPa.out _ HW1.out).mono ?_; intro e w2 hp; unfold ParsePost at hp; rw [HpA.out] at hp; obtain ⟨A2, c2, D2, dc2, he, -, hD2, hb2⟩ := hp; have he2 : e = .returned (.tuple #[nv na A2 c2, .slice D2 da.length dc2]) := he; clear he; subst he2; have hDa := Lib.hid hD2; have HW2 := Lib.hid (HW1.out.trans (hb2.mono HW1.out.size)); clear hD2 hb2))
  go_loopw [36] (fun i wr => ∃ j : Nat, j ≤ da.length ∧ i = .int .i64 j ∧ Hid (Below w2.heap.size w2 wr)) (fun i _ => da.length - (intOf i).toNat)
  case atStart => exact ⟨0, Nat.zero_le _, rfl, (Below.refl _ _).alloc (Nat.le_refl _) _⟩
  case round =>
    obtain ⟨j, hj, rfl, hwr⟩ := hrel
    by_cases hlt : j < da.length
    · obtain ⟨gA, oA, rfl, hcA⟩ := (hDa.out.keep hwr.out) (by omega)
      obtain ⟨c0, c1⟩ := hcA j _ (List.getElem?_eq_getElem hlt)
      have hd := HOr.out.2 _ (List.getElem_mem hlt)
      rcases j with _ | m
      · simp only [Nat.zero_mul, Nat.add_zero] at c0 c1
        generalize da[0] = t at *
        obtain ⟨hd1, hd2, hd3⟩ := hd
        have f1 : decide (t.2 < 0) = false := by simp; omega
        have f2 : decide ((a.size : Int) < t.2) = false := by simp; omega
        have f3 : (t.1 == 0) = false := by simp [hd1]
        clear hcA hd1 hd2 hd3
        go_wp2_with fail
        go_big_quiet (fail)
        go_wp2_with fail
        go_roundw
        case rel => exact ⟨1, by omega, by go_num, Lib.hid (hwr.out.trans ((belowDrewN _ _).mono hwr.out.size))⟩
        case measure => simp [intOf]; omega
      · obtain ⟨e0, e1⟩ := hcA m _ (List.getElem?_eq_getElem (show m < da.length by omega))
        have hlt2 : da[m].2 < da[m + 1].2 := (List.pairwise_iff_getElem.1 HOr.out.1) m (m + 1) (by omega) hlt (by omega)
        generalize da[m + 1] = t at *
        generalize da[m] = t0 at *
        obtain ⟨hd1, hd2, hd3⟩ := hd
        have f1 : decide (t.2 < 0) = false := by simp; omega
        have f2 : decide ((a.size : Int) < t.2) = false := by simp; omega
        have f3 : (t.1 == 0) = false := by simp [hd1]
        have f4 : decide (t.2 ≤ t0.2) = false := by simp; omega
        have f5 : IntKind.i64.wrap ((m : Int) + 1 - 1) = (m : Int) := by rw [show (m : Int) + 1 - 1 = m by omega]; exact IntWalk.i64_in _ (by omega)
        clear hcA hd1 hd2 hd3 hlt2
        go_wp2_with fail
        go_big_quiet (fail)
        go_wp2_with fail
        go_roundw
        case rel => exact ⟨m + 1 + 1, by omega, by go_num, Lib.hid (hwr.out.trans ((belowDrewN _ _).mono hwr.out.size))⟩
        case measure => simp [intOf]; omega
    · have hWr := Lib.hid (HW2.out.trans (hwr.out.mono HW2.out.size))
      have hdak := Lib.hid (hDa.out.keep hwr.out)
      have HPb := Lib.hid (Parse_any b wr (HL.out wr hWr.out) (HS.out wr hWr.out) hmb')
      obtain ⟨nb, db, hpb⟩ : ∃ nb db, parseM b = (nb, db) := ⟨_, _, rfl⟩
      have h20b := parse_20 b
      rw [hpb] at h20b
      simp only at h20b
      have HpB := Lib.hid hpb
      clear hpb
      go_upto_region 15 with (go_at_call 5; refine HPb.out.mono ?_; intro e w4 hp; unfold ParsePost at hp; rw [HpB.out] at hp; obtain ⟨A4, c4, D4, dc4, he, -, hD4, hb4⟩ := hp; have he2 : e = .returned (.tuple #[nv nb A4 c4, .slice D4 db.length dc4]) := he; clear he; subst he2; have hDb := Lib.hid hD4; have HW4 := Lib.hid (hWr.out.trans (hb4.mono hWr.out.size)); clear hD4 hb4)
      generalize hW : ((w4.alloc _).alloc _).alloc _ = w5
      obtain ⟨hV5, hsz5, bO2, bO3⟩ := grow3 w4 _ _ _ w5 hW
      have hwd : ∀ i, i < 10 → w5.cell? ⟨w4.heap.size + 1, i, none⟩ = some (.string (bw i)) := fun i hi => by
        rcases i with _ | _ | _ | _ | _ | _ | _ | _ | _ | _ | i
        case _ => exact cellK bO2 0 rfl
        case _ => exact cellK bO2 1 rfl
        case _ => exact cellK bO2 2 rfl
        case _ => exact cellK bO2 3 rfl
        case _ => exact cellK bO2 4 rfl
        case _ => exact cellK bO2 5 rfl
        case _ => exact cellK bO2 6 rfl
        case _ => exact cellK bO2 7 rfl
        case _ => exact cellK bO2 8 rfl
        case _ => exact cellK bO2 9 rfl
        omega
      have hod : ∀ i, i < 10 → w5.cell? ⟨w4.heap.size + 1 + 1, i, none⟩ = some (.int .i64 (bo i)) := fun i hi => by
        rcases i with _ | _ | _ | _ | _ | _ | _ | _ | _ | _ | i
        case _ => exact cellK bO3 0 rfl
        case _ => exact cellK bO3 1 rfl
        case _ => exact cellK bO3 2 rfl
        case _ => exact cellK bO3 3 rfl
        case _ => exact cellK bO3 4 rfl
        case _ => exact cellK bO3 5 rfl
        case _ => exact cellK bO3 6 rfl
        case _ => exact cellK bO3 7 rfl
        case _ => exact cellK bO3 8 rfl
        case _ => exact cellK bO3 9 rfl
        omega
      have hik : (k : Int) % 10 = ((k % 10 : Nat) : Int) := by omega
      rw [hik]
      have hi10 : k % 10 < 10 := Nat.mod_lt _ (by decide)
      generalize k % 10 = i at *
      have hwi := hwd i hi10
      have hoi := hod i hi10
      have HV5 := Lib.hid hV5
      have hxo := blkLt bO3
      have hxw := blkLt bO2
      clear hW hwd hod hV5 bO2 bO3 hik
      have hbs := bw_size i hi10
      have hos := bo_size i hi10
      have HW5 := Lib.hid (HW4.out.trans (HV5.out.mono HW4.out.size))
      by_cases hdd : 0 < da.length + db.length
      · have hdd2 : (0 : Int) < (da.length : Int) + (db.length : Int) := by omega
        go_wp2_with fail
        go_ret
        exact ⟨rfl, HW5.out⟩
      · obtain rfl : da = [] := List.eq_nil_of_length_eq_zero (by omega)
        obtain rfl : db = [] := List.eq_nil_of_length_eq_zero (by omega)
        have hS : (a ++ ⟨#[10]⟩ ++ bw i ++ ⟨#[10]⟩ ++ b : ByteArray).data.toList = a.data.toList ++ 10 :: ((bw i).data.toList ++ 10 :: b.data.toList) := by simp
        have hSz : (a ++ ⟨#[10]⟩ ++ bw i ++ ⟨#[10]⟩ ++ b : ByteArray).size = a.size + 1 + (bw i).size + 1 + b.size := by
          have := congrArg List.length hS
          simp only [List.length_append, List.length_cons, len_list] at this
          omega
        have hmS : (a ++ ⟨#[10]⟩ ++ bw i ++ ⟨#[10]⟩ ++ b : ByteArray).size ≤ maxLen := by rw [hSz]; unfold maxLen; omega
        have HU := Lib.hid (usable_any (a ++ ⟨#[10]⟩ ++ bw i ++ ⟨#[10]⟩ ++ b) w5 hmS)
        cases hu : decide ((lx (a ++ ⟨#[10]⟩ ++ bw i ++ ⟨#[10]⟩ ++ b)).2.1 = 0) with
        | false =>
          have HU := Lib.hid (bb_of hu HU.out)
          clear hS hSz hmS hu
          go_wp2_with (go_at_call 6; refine HU.out.mono ?_; rintro e w6 ⟨rfl, hb6⟩; have HW6 := Lib.hid (HW5.out.trans (hb6.mono HW5.out.size)))
          go_ret
          exact ⟨rfl, HW6.out⟩
        | true =>
          have HU := Lib.hid (bb_of hu HU.out)
          have hM := errors_math a b _ i hi10 hS (by rw [HpA.out]) (by rw [HpB.out]) (of_decide_eq_true hu)
          obtain ⟨ns, dd, hps⟩ : ∃ ns dd, parseM (a ++ ⟨#[10]⟩ ++ bw i ++ ⟨#[10]⟩ ++ b) = (ns, dd) := ⟨_, _, rfl⟩
          rw [hps] at hM
          simp only at hM
          subst hM
          have HpS := Lib.hid hps
          have HPs := Lib.hid (fun wx (hx : Below w.heap.size w wx) => Parse_any (a ++ ⟨#[10]⟩ ++ bw i ++ ⟨#[10]⟩ ++ b) wx (HL.out wx hx) (HS.out wx hx) hmS)
          have q0 : IntKind.i64.wrap ((a.size : Int) + 1) = (a.size : Int) + 1 := IntWalk.i64_in _ (by omega)
          have q1 : IntKind.i64.wrap ((a.size : Int) + 1 + bo i) = (a.size : Int) + 1 + bo i := IntWalk.i64_in _ (by omega)
          clear hS hSz hmS hu hps
          go_wp2_with (first
            | (go_at_call 6; refine HU.out.mono ?_; rintro e w6 ⟨rfl, hb6⟩; have HW6 := Lib.hid (HW5.out.trans (hb6.mono HW5.out.size)); have hoi6 := (hb6.cell (p := ⟨w4.heap.size + 1 + 1, i, none⟩) hxo).trans hoi; have hxo6 := Nat.lt_of_lt_of_le hxo hb6.size)
            | (go_at_call 5; refine (HPs.out _ HW6.out).mono ?_; intro e w7 hp; unfold ParsePost at hp; rw [HpS.out] at hp; obtain ⟨A7, c7, D7, dc7, he, -, hD7, hb7⟩ := hp; have he2 : e = .returned (.tuple #[nv ns A7 c7, .slice D7 1 dc7]) := he; clear he; subst he2; have hD7H := Lib.hid hD7; have HW7 := Lib.hid (HW6.out.trans (hb7.mono HW6.out.size)); have hoi7 := (hb7.cell (p := ⟨w4.heap.size + 1 + 1, i, none⟩) hxo6).trans hoi6; have hxo7 := Nat.lt_of_lt_of_le hxo6 hb7.size; clear hD7)
            | (go_at_call 7; refine (sd_one D7 dc7 ((a.size : Int) + 1 + bo i) w7 hD7H.out (w7.heap.size + 1) _ (two_allocs _ _ _) (new_second _ _ _)).mono ?_; rintro e w8 ⟨rfl, hb8⟩; have HW8 := Lib.hid (HW7.out.trans (((two_allocs w7 _ _).trans (hb8.mono (two_allocs w7 _ _).size)).mono HW7.out.size))))
          all_goals
            go_ret
            exact ⟨rfl, HW8.out⟩
end Go.Proofs.YtdaghppcomckbaaGreatDoor
