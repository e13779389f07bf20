/- Law package 04: its examples; condition: the listed package-level variables hold what the text lays. -/
import Derived.Test.YtmofclpheioepaaDoorUxM
import Derived.Test.YtmofclpheioepaaDoorUxN
import Derived.Deep.DeepCutAuto
import Derived.Deep.Cut
namespace Go.Proofs.YtmofclpheioepaaDoor
open Go.RowKit
set_option linter.unusedVariables false
set_option linter.unusedSimpArgs false

abbrev tw : Ex := .mk 2 0 0 []
abbrev tp : Ex := .mk 2 1 0 []
abbrev tn (n u : Int) : Ex := .mk 1 n u []
abbrev ti (n : Int) : Ex := .mk 3 n 0 []
abbrev t8 : Ex := .mk 6 0 0 [ti 2, tn 8 0]
abbrev tr : Ex := .mk 7 0 0 [t8, ti 1]
abbrev tww : Ex := .mk 6 0 0 [tw, tw]
abbrev tsq : Ex := .mk 6 0 0 [tww, tww]
abbrev st1 : St := .mk 1 0 0 (.mk 7 0 0 [tw, tn 2 0]) (.mk 0 0 0 []) [] []
abbrev st2 : St := .mk 2 0 1 tw tp [] []
theorem one_st {w : World} {b : Nat} {x : St} {A B T E : Option Addr} {c d m n : Nat} {Ty : TypeId} (h : w.heap[b]? = some (.cells (sArr x A c B d T m E n) Ty (0, 0))) (hA : KidsE w x.a.kids A) (hB : KidsE w x.b.kids B) (hT : StsR w x.th T) (hE : StsR w x.el E)
    (hlt : x.th.length ≤ maxLen) (hle : x.el.length ≤ maxLen) : StsR w [x] (some ⟨b, 0, none⟩) := by
  obtain ⟨e0, e1, e2, e3, e4, e5, e6, e7, e8, e9, e10, e11, e12⟩ := cells13 h
  obtain ⟨k, v, r, a, bb, th, el⟩ := x
  unfold StsR
  refine ⟨b, 0, rfl, ?_, ?_⟩
  · unfold StR
    exact ⟨A, c, B, d, T, m, E, n, ⟨e0, e1, e2, e3, e4, e5, e6, e7, e8, e9, e10, e11, e12⟩, hA, hB, hT, hE, hlt, hle⟩
  · unfold StsR
    trivial
def VarsB (w : World) (e : Ending) (w' : World) : Prop := ∃ n, e = .returned (.slice (some ⟨n, 0, none⟩) 2 2) ∧ w'.heap[n]? = some (.cells #[.string ⟨#[119]⟩, .int .i64 1, .int .i64 0, .int .i64 0, .int .i64 0, .string ⟨#[112]⟩, .int .i64 4, .int .i64 0, .int .i64 0, .int .i64 0] 50 (0, 0)) ∧ Below w.heap.size w w'
theorem vars_b (w : World) : Calls Tryd.prog 25 #[] w (VarsB w) := (vars_any w).mono fun e w' h => ⟨w.heap.size, h.1, by rw [h.2]; exact newBlk _ _ _ rfl, by rw [h.2]; exact bAlloc (Below.refl _ _)⟩
theorem fzOf {w : World} {b : Nat} {cs : Array Value} {T : TypeId} (h : w.heap[b]? = some (.cells cs T (0, 0))) (i : Nat) : w.frozen? ⟨b, i, none⟩ = false := by simp [World.frozen?, h]
theorem far1a {w : World} {b c i j : Nat} {x : Value} {o : Obj} (h : c ≠ b) (hl : c < w.heap.size) : ((w.setCell ⟨b, j, none⟩ x).alloc o).cell? ⟨c, i, none⟩ = w.cell? ⟨c, i, none⟩ :=
  World.cell?_of_block (a := ⟨c, i, none⟩) ((Below.heap_alloc _ _ _ (by simpa using hl)).trans (heap_setCell_other _ _ _ _ h))
theorem far1 {w : World} {b c i j : Nat} {x : Value} (h : c ≠ b) : (w.setCell ⟨b, j, none⟩ x).cell? ⟨c, i, none⟩ = w.cell? ⟨c, i, none⟩ := World.cell?_of_block (a := ⟨c, i, none⟩) (heap_setCell_other _ _ _ _ h)
theorem ex1 : inferM [1, 4] (.mk 4 0 0 [tw, tn 1 1]) = (⟨1, 0, 0⟩, 0) := by decide +kernel
theorem ex2 : inferM [1, 4] (.mk 4 0 0 [tw, tn 1 0]) = (⟨0, 0, 0⟩, 13) := by decide +kernel
theorem ex3 : inferM [1, 4] tr = (⟨0, 1, -1⟩, 0) := by decide +kernel
theorem ex4 : inferM [1, 4] (.mk 7 0 0 [.mk 6 0 0 [tp, ti 1], ti 2]) = (⟨0, 0, 0⟩, 0) := by decide +kernel
theorem ex5 : inferM [1, 4] tsq = (⟨4, 0, 0⟩, 0) := by decide +kernel
theorem ex6 : inferM [1, 4] (.mk 6 0 0 [tsq, tw]) = (⟨0, 0, 0⟩, 13) := by decide +kernel
theorem ex7 : inferM [1, 4] (.mk 2 2 0 []) = (⟨0, 0, 0⟩, 1) := by decide +kernel
theorem ex8 : inferM [1, 4] (.mk 4 0 0 [tw]) = (⟨0, 0, 0⟩, 1) := by decide +kernel
theorem ex9 : checkM [1, 4] [[], [.mk 1 0 0 (.mk 7 0 0 [tw, tn 2 0]) (.mk 0 0 0 []) [] []], [], [], []] = (-1, 0) := by decide +kernel
theorem exA : checkM [1, 4] [[], [.mk 1 0 0 (.mk 7 0 0 [tw, tn 2 0]) (.mk 0 0 0 []) [] []], [], [.mk 2 0 1 tw tp [] []], []] = (3, 13) := by decide +kernel
theorem vars_of {w : World} {n : Nat} (h : w.heap[n]? = some (.cells #[.string ⟨#[119]⟩, .int .i64 1, .int .i64 0, .int .i64 0, .int .i64 0, .string ⟨#[112]⟩, .int .i64 4, .int .i64 0, .int .i64 0, .int .i64 0] 50 (0, 0))) : VarsR w exVars (some ⟨n, 0, none⟩) := by
  refine .inr ⟨n, 0, rfl, fun i v hv => ?_⟩
  have e : ∀ j, w.cell? ⟨n, j, none⟩ = (#[.string ⟨#[119]⟩, .int .i64 1, .int .i64 0, .int .i64 0, .int .i64 0, .string ⟨#[112]⟩, .int .i64 4, .int .i64 0, .int .i64 0, .int .i64 0] : Array Value)[j]? := fun j => cell_of_row _ _ j _ _ (0, 0) h
  match i, hv with
  | 0, hv => simp only [List.getElem?_cons_zero, Option.some.injEq] at hv; subst hv; exact ⟨e 0, e 1, e 2, e 3, e 4⟩
  | 1, hv => simp only [List.getElem?_cons_succ, List.getElem?_cons_zero, Option.some.injEq] at hv; subst hv; exact ⟨e 5, e 6, e 7, e 8, e 9⟩
  | j + 2, hv => simp at hv
theorem check_good (nv b1 : Nat) (X : World) (hL : LaidW X) (hV : X.heap[nv]? = some (.cells #[.string ⟨#[119]⟩, .int .i64 1, .int .i64 0, .int .i64 0, .int .i64 0, .string ⟨#[112]⟩, .int .i64 4, .int .i64 0, .int .i64 0, .int .i64 0] 50 (0, 0))) (hS : StsR X [st1] (some ⟨b1, 0, none⟩)) :
    Calls Tryd.prog 13 #[.agg #[.string ⟨#[]⟩, .slice (some ⟨nv, 0, none⟩) 2 2, .slice none 0 0, .slice (some ⟨b1, 0, none⟩) 1 1, .slice none 0 0, .slice none 0 0, .slice none 0 0, .int .i64 0, .int .i64 0]] X (VV (.tuple #[.int .i64 (-1), .int .i64 0]) X) := by
  have h := Check_any ⟨#[]⟩ exVars (some ⟨nv, 0, none⟩) 2 ⟨[], [st1], [], [], []⟩ ⟨none, some ⟨b1, 0, none⟩, none, none, none, 0, 1, 0, 0, 0⟩ 0 0 X hL (vars_of hV) ⟨trivial, hS, trivial, trivial, trivial, Nat.zero_le _, (by unfold maxLen; decide), Nat.zero_le _, Nat.zero_le _, Nat.zero_le _⟩
  rw [show checkM (exVars.map (·.u)) (On.list ⟨[], [st1], [], [], []⟩) = (-1, 0) from ex9] at h
  exact h
theorem check_bad (nv b1 b3 : Nat) (X : World) (hL : LaidW X) (hV : X.heap[nv]? = some (.cells #[.string ⟨#[119]⟩, .int .i64 1, .int .i64 0, .int .i64 0, .int .i64 0, .string ⟨#[112]⟩, .int .i64 4, .int .i64 0, .int .i64 0, .int .i64 0] 50 (0, 0))) (hS : StsR X [st1] (some ⟨b1, 0, none⟩)) (hT : StsR X [st2] (some ⟨b3, 0, none⟩)) :
    Calls Tryd.prog 13 #[.agg #[.string ⟨#[]⟩, .slice (some ⟨nv, 0, none⟩) 2 2, .slice none 0 0, .slice (some ⟨b1, 0, none⟩) 1 1, .slice none 0 0, .slice (some ⟨b3, 0, none⟩) 1 1, .slice none 0 0, .int .i64 0, .int .i64 0]] X (VV (.tuple #[.int .i64 3, .int .i64 13]) X) := by
  have h := Check_any ⟨#[]⟩ exVars (some ⟨nv, 0, none⟩) 2 ⟨[], [st1], [], [st2], []⟩ ⟨none, some ⟨b1, 0, none⟩, none, some ⟨b3, 0, none⟩, none, 0, 1, 0, 1, 0⟩ 0 0 X hL (vars_of hV) ⟨trivial, hS, trivial, hT, trivial, Nat.zero_le _, (by unfold maxLen; decide), Nat.zero_le _, (by unfold maxLen; decide), Nat.zero_le _⟩
  rw [show checkM (exVars.map (·.u)) (On.list ⟨[], [st1], [], [st2], []⟩) = (3, 13) from exA] at h
  exact h
theorem of4 (X : World) (hL : LaidW X) : Calls Tryd.prog 15 #[.int .i64 4] X (VV (.tuple #[pv ⟨0, 1, -1⟩, .int .i64 0]) X) := Of_any 4 X hL
theorem of5 (X : World) (hL : LaidW X) : Calls Tryd.prog 15 #[.int .i64 5] X (VV (.tuple #[pv ⟨0, 0, 0⟩, .int .i64 9]) X) := Of_any 5 X hL
set_option maxHeartbeats 16000000 in
set_option maxRecDepth 100000 in
theorem head_any (w : World) (hL : LaidW w) : Calls Tryd.prog 8 #[] w (BB true w) := by
  have kl : ∀ {l : List Ex}, l.length ≤ 2 → l.length ≤ maxLen := fun h => Nat.le_trans h (by unfold maxLen; decide)
  have HL := Lib.hid hL
  have HB := Lib.hid (Below.refl w.heap.size w)
  clear hL
  go_enter Tryd.func8, Tryd.ntmps8
  go_upto_region 1 with fail
  go_cut [1, 2] (fun s1 s2 wx => ∃ bw bp : Nat, s1 = .pointer (some ⟨bw, 0, none⟩) ∧ s2 = .pointer (some ⟨bp, 0, none⟩) ∧ Hid (wx.heap[bw]? = some (.cells (arrE 2 0 0 none 0 0) 29 (0, 0))) ∧ Hid (wx.heap[bp]? = some (.cells (arrE 2 1 0 none 0 0) 29 (0, 0))) ∧ Hid (Below w.heap.size w wx))
  case first =>
    go_wp2_with (first
      | (go_at_call 20; refine (variable_any _ _).mono ?_; rintro e wn ⟨rfl, hbn⟩; have HB := Lib.hid (bCall (by (repeat with_reducible first | exact HB.out | apply bDrew | apply bAlloc)) hbn)))
    go_meet
    exact ⟨_, _, rfl, rfl, Lib.hid ((Below.heap_alloc _ _ _ (by simp)).trans (newBlk _ _ _ rfl)), Lib.hid (newBlk _ _ _ (by simp)), Lib.hid (bAlloc (bAlloc HB.out))⟩
  case rest =>
    clear HB
    obtain ⟨bw, bp, rfl, rfl, Hw, Hp, HW⟩ := hcut
    go_upto_region 2 with fail
    go_cut [3] (fun s3 wx => ∃ (br : Nat) (Ar : Option Addr), s3 = .pointer (some ⟨br, 0, none⟩) ∧ Hid (wx.heap[br]? = some (.cells (arrE 7 0 0 Ar 2 2) 29 (0, 0))) ∧ Hid (KidsE wx [t8, ti 1] Ar) ∧ Hid (Below wc.heap.size wc wx))
    case first =>
      have HB := Lib.hid (Below.refl wc.heap.size wc)
      go_wp2_with (first
        | (go_at_call 21; refine (input_any _ _).mono ?_; rintro e wn ⟨rfl, hbn⟩; have HB := Lib.hid (bCall (by (repeat with_reducible first | exact HB.out | apply bDrew | apply bAlloc)) hbn); (first | have K8 := Lib.hid ((K8.out.below (by (repeat with_reducible first | exact Below.refl _ _ | apply bDrew | apply bAlloc))).below hbn) | skip))
        | (go_at_call 22; refine (number_any _ _ _).mono ?_; rintro e wn ⟨rfl, hbn⟩; have HB := Lib.hid (bCall (by (repeat with_reducible first | exact HB.out | apply bDrew | apply bAlloc)) hbn); (first | have K8 := Lib.hid ((K8.out.below (by (repeat with_reducible first | exact Below.refl _ _ | apply bDrew | apply bAlloc))).below hbn) | skip))
        | (go_at_call_of 18 (aggE 1 8 0 none 0 0); refine (two_any 6 (ti 2) (tn 8 0) none none 0 0 _ ?_ ?_ (kl (by decide)) (kl (by decide))).mono ?_; (trivial); (trivial); rintro e wn ⟨A8, rfl, hkn, hbn⟩; have HB := Lib.hid (bCall (by (repeat with_reducible first | exact HB.out | apply bDrew | apply bAlloc)) hbn); have K8 := Lib.hid hkn)
        | (go_at_call_of 18 (aggE 6 0 0 A8 2 2); refine (two_any 7 t8 (ti 1) A8 none 0 0 _ ?_ ?_ (kl (by decide)) (kl (by decide))).mono ?_; (exact K8.out.below (by (repeat with_reducible first | exact Below.refl _ _ | apply bDrew | apply bAlloc))); (trivial); rintro e wn ⟨Ar, rfl, hkn, hbn⟩; have HB := Lib.hid (bCall (by (repeat with_reducible first | exact HB.out | apply bDrew | apply bAlloc)) hbn); have Kr := Lib.hid hkn))
      go_meet
      exact ⟨_, _, rfl, Lib.hid (newBlk _ _ _ rfl), Lib.hid (Kr.out.below (bAlloc (Below.refl _ _))), Lib.hid (bAlloc HB.out)⟩
    case rest =>
      obtain ⟨br, Ar, rfl, Hr, Kr, HBc⟩ := hcut
      have Hw := Lib.hid ((HBc.out.block _ (blkLt Hw.out)).trans Hw.out)
      have Hp := Lib.hid ((HBc.out.block _ (blkLt Hp.out)).trans Hp.out)
      have HW := Lib.hid (bCall HW.out HBc.out)
      clear HBc
      go_upto_region 3 with fail
      go_cut [4] (fun s4 wx => ∃ (bs : Nat) (As : Option Addr), s4 = .pointer (some ⟨bs, 0, none⟩) ∧ Hid (wx.heap[bs]? = some (.cells (arrE 6 0 0 As 2 2) 29 (0, 0))) ∧ Hid (KidsE wx [tww, tww] As) ∧ Hid (Below wc.heap.size wc wx))
      case first =>
        have HB := Lib.hid (Below.refl wc.heap.size wc)
        have w0 := (cells4 Hw.out).1.1
        have w1 := (cells4 Hw.out).1.2.1
        have w2 := (cells4 Hw.out).1.2.2.1
        have w3 := (cells4 Hw.out).1.2.2.2
        have wl := blkLt Hw.out
        have wb := blkLt Hw.out
        have hn0 := Nat.ne_of_lt wb
        go_region_held3 (fun w' => w'.cell? ⟨bw, 0, none⟩ = some (.int .i64 2) ∧ w'.cell? ⟨bw, 1, none⟩ = some (.int .i64 0) ∧ w'.cell? ⟨bw, 2, none⟩ = some (.int .i64 0) ∧ w'.cell? ⟨bw, 3, none⟩ = some (.slice none 0 0))
          (first | (with_reducible exact ⟨w0, w1, w2, w3⟩) | (with_reducible exact ⟨(far4 hn2).trans w0, (far4 hn2).trans w1, (far4 hn2).trans w2, (far4 hn2).trans w3⟩) | (with_reducible exact ⟨(far4 hn1).trans w0, (far4 hn1).trans w1, (far4 hn1).trans w2, (far4 hn1).trans w3⟩) | (with_reducible exact ⟨(far4 hn0).trans w0, (far4 hn0).trans w1, (far4 hn0).trans w2, (far4 hn0).trans w3⟩) | go_keep)
          (first
            | (go_at_call_of 18 (Value.agg #[.int .i64 2, .int .i64 0, .int .i64 0, .slice none 0 0]); have hq := Hg1; refine (two_blk 6 tw tw none none 0 0 _).mono ?_; rintro e wn2 ⟨g2, rfl, hg2, Hg2, hbn⟩; have hst : Below wn1.heap.size wn1 wn2 := bCall (by (repeat with_reducible first | exact Below.refl _ _ | apply bDrew | apply bAlloc)) hbn; (first | have hU := newU (X := wn1) (o := (.cells #[.int .i64 0, .int .i64 0, .int .i64 0, .slice none 0 0] 29)) hbn | have hU := newUd (X := wn1) (o := (.cells #[.int .i64 0, .int .i64 0, .int .i64 0, .slice none 0 0] 29)) hbn | have hU := (hst.block _ (blkLt hU)).trans hU | skip); have Hg1 := (hst.block _ (blkLt Hg1)).trans Hg1; have hgl2 := blkLt Hg2; have HB := Lib.hid (bCall (by (repeat with_reducible first | exact HB.out | apply bDrew | apply bAlloc)) hbn); have w0 := (cells4 ((HB.out.block _ (blkLt Hw.out)).trans Hw.out)).1.1; have w1 := (cells4 ((HB.out.block _ (blkLt Hw.out)).trans Hw.out)).1.2.1; have w2 := (cells4 ((HB.out.block _ (blkLt Hw.out)).trans Hw.out)).1.2.2.1; have w3 := (cells4 ((HB.out.block _ (blkLt Hw.out)).trans Hw.out)).1.2.2.2; have wl := Nat.lt_of_lt_of_le (blkLt Hw.out) HB.out.size; have hsz2 := HB.out.size; have hss2 := hst.size; have hn2 := Nat.ne_of_lt (Nat.lt_of_lt_of_le wb HB.out.size))
            | (go_at_call_of 18 (Value.agg #[.int .i64 2, .int .i64 0, .int .i64 0, .slice none 0 0]); refine (two_blk 6 tw tw none none 0 0 _).mono ?_; rintro e wn1 ⟨g1, rfl, hg1, Hg1, hbn⟩; have hst : Below wc.heap.size wc wn1 := bCall (by (repeat with_reducible first | exact Below.refl _ _ | apply bDrew | apply bAlloc)) hbn; (first | have hU := newU (X := wc) (o := (.cells #[.int .i64 0, .int .i64 0, .int .i64 0, .slice none 0 0] 29)) hbn | have hU := newUd (X := wc) (o := (.cells #[.int .i64 0, .int .i64 0, .int .i64 0, .slice none 0 0] 29)) hbn | have hU := (hst.block _ (blkLt hU)).trans hU | skip); have hgl1 := blkLt Hg1; have HB := Lib.hid (bCall (by (repeat with_reducible first | exact HB.out | apply bDrew | apply bAlloc)) hbn); have w0 := (cells4 ((HB.out.block _ (blkLt Hw.out)).trans Hw.out)).1.1; have w1 := (cells4 ((HB.out.block _ (blkLt Hw.out)).trans Hw.out)).1.2.1; have w2 := (cells4 ((HB.out.block _ (blkLt Hw.out)).trans Hw.out)).1.2.2.1; have w3 := (cells4 ((HB.out.block _ (blkLt Hw.out)).trans Hw.out)).1.2.2.2; have wl := Nat.lt_of_lt_of_le (blkLt Hw.out) HB.out.size; have hsz1 := HB.out.size; have hss1 := hst.size; have hn1 := Nat.ne_of_lt (Nat.lt_of_lt_of_le wb HB.out.size))
            | (go_at_call_of 18 (aggE 6 0 0 (some ⟨g2, 0, none⟩) 2 2); refine (two_blk 6 tww tww (some ⟨g1, 0, none⟩) (some ⟨g2, 0, none⟩) 0 0 _).mono ?_; rintro e wn3 ⟨g3, rfl, hg3, Hg3, hbn⟩; have hst : Below wn2.heap.size wn2 wn3 := bCall (by (repeat with_reducible first | exact Below.refl _ _ | apply bDrew | apply bAlloc)) hbn; (first | have hU := newU (X := wn2) (o := (.cells #[.int .i64 0, .int .i64 0, .int .i64 0, .slice none 0 0] 29)) hbn | have hU := newUd (X := wn2) (o := (.cells #[.int .i64 0, .int .i64 0, .int .i64 0, .slice none 0 0] 29)) hbn | have hU := (hst.block _ (blkLt hU)).trans hU | skip); have Hg1 := (hst.block _ (blkLt Hg1)).trans Hg1; have Hg2 := (hst.block _ (blkLt Hg2)).trans Hg2; have hgl3 := blkLt Hg3; have HB := Lib.hid (bCall (by (repeat with_reducible first | exact HB.out | apply bDrew | apply bAlloc)) hbn); have w0 := (cells4 ((HB.out.block _ (blkLt Hw.out)).trans Hw.out)).1.1; have w1 := (cells4 ((HB.out.block _ (blkLt Hw.out)).trans Hw.out)).1.2.1; have w2 := (cells4 ((HB.out.block _ (blkLt Hw.out)).trans Hw.out)).1.2.2.1; have w3 := (cells4 ((HB.out.block _ (blkLt Hw.out)).trans Hw.out)).1.2.2.2; have wl := Nat.lt_of_lt_of_le (blkLt Hw.out) HB.out.size; have hsz3 := HB.out.size; have hss3 := hst.size; have hn3 := Nat.ne_of_lt (Nat.lt_of_lt_of_le wb HB.out.size); (first | (have u0 := (cells4 hU).1.1; have u1 := (cells4 hU).1.2.1; have u2 := (cells4 hU).1.2.2.1; have u3 := (cells4 hU).1.2.2.2; have v0 := (cells4 hU).2.1; have v1 := (cells4 hU).2.2.1; have v2 := (cells4 hU).2.2.2.1; have v3 := (cells4 hU).2.2.2.2; have hul := blkLt hU) | skip)))
        all_goals go_wp2_with fail
        all_goals go_meet
        all_goals (first
          | (have hq := hU
             refine ⟨_, _, rfl, Lib.hid (set4 hU), Lib.hid (two_kids (s := tww) (t := tww) (c := 0) (d := 0) ((far4b ?_).trans Hg3) (kl (by decide)) (kl (by decide)) (two_kids (s := tw) (t := tw) (c := 0) (d := 0) (A := none) (B := none) ((far4b ?_).trans Hg1) (kl (by decide)) (kl (by decide)) trivial trivial) (two_kids (s := tw) (t := tw) (c := 0) (d := 0) (A := none) (B := none) ((far4b ?_).trans Hg2) (kl (by decide)) (kl (by decide)) trivial trivial)), Lib.hid (below4 HB.out ?_)⟩
             all_goals ((try simp at hg1); (try simp at hg2); (try simp at hg3); omega))
          | exact ⟨_, _, rfl, Lib.hid (newBlk _ _ _ rfl), Lib.hid (two_kids (s := tww) (t := tww) (c := 0) (d := 0) ((Below.heap_alloc _ _ _ hgl3).trans Hg3) (kl (by decide)) (kl (by decide)) (two_kids (s := tw) (t := tw) (c := 0) (d := 0) (A := none) (B := none) ((Below.heap_alloc _ _ _ (blkLt Hg1)).trans Hg1) (kl (by decide)) (kl (by decide)) trivial trivial) (two_kids (s := tw) (t := tw) (c := 0) (d := 0) (A := none) (B := none) ((Below.heap_alloc _ _ _ (blkLt Hg2)).trans Hg2) (kl (by decide)) (kl (by decide)) trivial trivial)), Lib.hid (bAlloc HB.out)⟩)
      case rest =>
        obtain ⟨bs, As, rfl, Hs, Ks, HBc⟩ := hcut
        have Hw := Lib.hid ((HBc.out.block _ (blkLt Hw.out)).trans Hw.out)
        have Hp := Lib.hid ((HBc.out.block _ (blkLt Hp.out)).trans Hp.out)
        have Hr := Lib.hid ((HBc.out.block _ (blkLt Hr.out)).trans Hr.out)
        have Kr := Lib.hid (Kr.out.below HBc.out)
        have HW := Lib.hid (bCall HW.out HBc.out)
        clear HBc
        go_upto_region 4 with fail
        go_cut [5] (fun s5 wx => s5 = .bool true ∧ Hid (Below wc.heap.size wc wx))
        case first =>
          have HLc := Lib.hid (HL.out.below HW.out)
          have HB := Lib.hid (Below.refl wc.heap.size wc)
          have w0 := (cells4 Hw.out).1.1
          have w1 := (cells4 Hw.out).1.2.1
          have w2 := (cells4 Hw.out).1.2.2.1
          have w3 := (cells4 Hw.out).1.2.2.2
          have wl := blkLt Hw.out
          have p0 := (cells4 Hp.out).1.1
          have p1 := (cells4 Hp.out).1.2.1
          have p2 := (cells4 Hp.out).1.2.2.1
          have p3 := (cells4 Hp.out).1.2.2.2
          have pl := blkLt Hp.out
          have r0 := (cells4 Hr.out).1.1
          have r1 := (cells4 Hr.out).1.2.1
          have r2 := (cells4 Hr.out).1.2.2.1
          have r3 := (cells4 Hr.out).1.2.2.2
          have rl := blkLt Hr.out
          go_region_held3 (fun w' => w'.cell? ⟨bw, 0, none⟩ = some (.int .i64 2) ∧ w'.cell? ⟨bw, 1, none⟩ = some (.int .i64 0) ∧ w'.cell? ⟨bw, 2, none⟩ = some (.int .i64 0) ∧ w'.cell? ⟨bw, 3, none⟩ = some (.slice none 0 0) ∧ w'.cell? ⟨bp, 0, none⟩ = some (.int .i64 2) ∧ w'.cell? ⟨bp, 1, none⟩ = some (.int .i64 1) ∧ w'.cell? ⟨bp, 2, none⟩ = some (.int .i64 0) ∧ w'.cell? ⟨bp, 3, none⟩ = some (.slice none 0 0) ∧ w'.cell? ⟨br, 0, none⟩ = some (.int .i64 7) ∧ w'.cell? ⟨br, 1, none⟩ = some (.int .i64 0) ∧ w'.cell? ⟨br, 2, none⟩ = some (.int .i64 0) ∧ w'.cell? ⟨br, 3, none⟩ = some (.slice Ar 2 2))
            (first | (with_reducible exact ⟨w0, w1, w2, w3, p0, p1, p2, p3, r0, r1, r2, r3⟩) | go_keep)
            (first
              | (go_at_call 22; refine (number_any _ _ _).mono ?_; rintro e wn ⟨rfl, hbn⟩; have HB := Lib.hid (bCall (by (repeat with_reducible first | exact HB.out | apply bDrew | apply bAlloc)) hbn); have w0 := (cells4 ((HB.out.block _ (blkLt Hw.out)).trans Hw.out)).1.1; have w1 := (cells4 ((HB.out.block _ (blkLt Hw.out)).trans Hw.out)).1.2.1; have w2 := (cells4 ((HB.out.block _ (blkLt Hw.out)).trans Hw.out)).1.2.2.1; have w3 := (cells4 ((HB.out.block _ (blkLt Hw.out)).trans Hw.out)).1.2.2.2; have wl := Nat.lt_of_lt_of_le (blkLt Hw.out) HB.out.size; have p0 := (cells4 ((HB.out.block _ (blkLt Hp.out)).trans Hp.out)).1.1; have p1 := (cells4 ((HB.out.block _ (blkLt Hp.out)).trans Hp.out)).1.2.1; have p2 := (cells4 ((HB.out.block _ (blkLt Hp.out)).trans Hp.out)).1.2.2.1; have p3 := (cells4 ((HB.out.block _ (blkLt Hp.out)).trans Hp.out)).1.2.2.2; have pl := Nat.lt_of_lt_of_le (blkLt Hp.out) HB.out.size; have r0 := (cells4 ((HB.out.block _ (blkLt Hr.out)).trans Hr.out)).1.1; have r1 := (cells4 ((HB.out.block _ (blkLt Hr.out)).trans Hr.out)).1.2.1; have r2 := (cells4 ((HB.out.block _ (blkLt Hr.out)).trans Hr.out)).1.2.2.1; have r3 := (cells4 ((HB.out.block _ (blkLt Hr.out)).trans Hr.out)).1.2.2.2; have rl := Nat.lt_of_lt_of_le (blkLt Hr.out) HB.out.size)
              | (go_at_call 21; refine (input_any _ _).mono ?_; rintro e wn ⟨rfl, hbn⟩; have HB := Lib.hid (bCall (by (repeat with_reducible first | exact HB.out | apply bDrew | apply bAlloc)) hbn); (first | have K3 := Lib.hid ((K3.out.below (by (repeat with_reducible first | exact Below.refl _ _ | apply bDrew | apply bAlloc))).below hbn) | skip); have w0 := (cells4 ((HB.out.block _ (blkLt Hw.out)).trans Hw.out)).1.1; have w1 := (cells4 ((HB.out.block _ (blkLt Hw.out)).trans Hw.out)).1.2.1; have w2 := (cells4 ((HB.out.block _ (blkLt Hw.out)).trans Hw.out)).1.2.2.1; have w3 := (cells4 ((HB.out.block _ (blkLt Hw.out)).trans Hw.out)).1.2.2.2; have wl := Nat.lt_of_lt_of_le (blkLt Hw.out) HB.out.size; have p0 := (cells4 ((HB.out.block _ (blkLt Hp.out)).trans Hp.out)).1.1; have p1 := (cells4 ((HB.out.block _ (blkLt Hp.out)).trans Hp.out)).1.2.1; have p2 := (cells4 ((HB.out.block _ (blkLt Hp.out)).trans Hp.out)).1.2.2.1; have p3 := (cells4 ((HB.out.block _ (blkLt Hp.out)).trans Hp.out)).1.2.2.2; have pl := Nat.lt_of_lt_of_le (blkLt Hp.out) HB.out.size; have r0 := (cells4 ((HB.out.block _ (blkLt Hr.out)).trans Hr.out)).1.1; have r1 := (cells4 ((HB.out.block _ (blkLt Hr.out)).trans Hr.out)).1.2.1; have r2 := (cells4 ((HB.out.block _ (blkLt Hr.out)).trans Hr.out)).1.2.2.1; have r3 := (cells4 ((HB.out.block _ (blkLt Hr.out)).trans Hr.out)).1.2.2.2; have rl := Nat.lt_of_lt_of_le (blkLt Hr.out) HB.out.size)
              | (go_at_call_of 18 (aggE 1 1 1 none 0 0); refine (two_any 4 tw (tn 1 1) none none 0 0 _ ?_ ?_ (kl (by decide)) (kl (by decide))).mono ?_; (trivial); (trivial); rintro e wn ⟨A1, rfl, hkn, hbn⟩; have HB := Lib.hid (bCall (by (repeat with_reducible first | exact HB.out | apply bDrew | apply bAlloc)) hbn); have w0 := (cells4 ((HB.out.block _ (blkLt Hw.out)).trans Hw.out)).1.1; have w1 := (cells4 ((HB.out.block _ (blkLt Hw.out)).trans Hw.out)).1.2.1; have w2 := (cells4 ((HB.out.block _ (blkLt Hw.out)).trans Hw.out)).1.2.2.1; have w3 := (cells4 ((HB.out.block _ (blkLt Hw.out)).trans Hw.out)).1.2.2.2; have wl := Nat.lt_of_lt_of_le (blkLt Hw.out) HB.out.size; have p0 := (cells4 ((HB.out.block _ (blkLt Hp.out)).trans Hp.out)).1.1; have p1 := (cells4 ((HB.out.block _ (blkLt Hp.out)).trans Hp.out)).1.2.1; have p2 := (cells4 ((HB.out.block _ (blkLt Hp.out)).trans Hp.out)).1.2.2.1; have p3 := (cells4 ((HB.out.block _ (blkLt Hp.out)).trans Hp.out)).1.2.2.2; have pl := Nat.lt_of_lt_of_le (blkLt Hp.out) HB.out.size; have r0 := (cells4 ((HB.out.block _ (blkLt Hr.out)).trans Hr.out)).1.1; have r1 := (cells4 ((HB.out.block _ (blkLt Hr.out)).trans Hr.out)).1.2.1; have r2 := (cells4 ((HB.out.block _ (blkLt Hr.out)).trans Hr.out)).1.2.2.1; have r3 := (cells4 ((HB.out.block _ (blkLt Hr.out)).trans Hr.out)).1.2.2.2; have rl := Nat.lt_of_lt_of_le (blkLt Hr.out) HB.out.size; have K1 := Lib.hid hkn)
              | (go_at_call_of 23 (aggE 4 0 0 A1 2 2); refine (is_any (.mk 4 0 0 [tw, tn 1 1]) A1 0 ⟨1, 0, 0⟩ _ ?_ ?_ ex1).mono ?_; (exact HLc.out.below (by (repeat with_reducible first | exact HB.out | apply bDrew | apply bAlloc))); (exact K1.out.below (by (repeat with_reducible first | exact Below.refl _ _ | apply bDrew | apply bAlloc))); rintro e wn ⟨rfl, hbn⟩; have HB := Lib.hid (bCall (by (repeat with_reducible first | exact HB.out | apply bDrew | apply bAlloc)) hbn); have w0 := (cells4 ((HB.out.block _ (blkLt Hw.out)).trans Hw.out)).1.1; have w1 := (cells4 ((HB.out.block _ (blkLt Hw.out)).trans Hw.out)).1.2.1; have w2 := (cells4 ((HB.out.block _ (blkLt Hw.out)).trans Hw.out)).1.2.2.1; have w3 := (cells4 ((HB.out.block _ (blkLt Hw.out)).trans Hw.out)).1.2.2.2; have wl := Nat.lt_of_lt_of_le (blkLt Hw.out) HB.out.size; have p0 := (cells4 ((HB.out.block _ (blkLt Hp.out)).trans Hp.out)).1.1; have p1 := (cells4 ((HB.out.block _ (blkLt Hp.out)).trans Hp.out)).1.2.1; have p2 := (cells4 ((HB.out.block _ (blkLt Hp.out)).trans Hp.out)).1.2.2.1; have p3 := (cells4 ((HB.out.block _ (blkLt Hp.out)).trans Hp.out)).1.2.2.2; have pl := Nat.lt_of_lt_of_le (blkLt Hp.out) HB.out.size; have r0 := (cells4 ((HB.out.block _ (blkLt Hr.out)).trans Hr.out)).1.1; have r1 := (cells4 ((HB.out.block _ (blkLt Hr.out)).trans Hr.out)).1.2.1; have r2 := (cells4 ((HB.out.block _ (blkLt Hr.out)).trans Hr.out)).1.2.2.1; have r3 := (cells4 ((HB.out.block _ (blkLt Hr.out)).trans Hr.out)).1.2.2.2; have rl := Nat.lt_of_lt_of_le (blkLt Hr.out) HB.out.size)
              | (go_at_call_of 18 (aggE 1 1 0 none 0 0); refine (two_any 4 tw (tn 1 0) none none 0 0 _ ?_ ?_ (kl (by decide)) (kl (by decide))).mono ?_; (trivial); (trivial); rintro e wn ⟨A2, rfl, hkn, hbn⟩; have HB := Lib.hid (bCall (by (repeat with_reducible first | exact HB.out | apply bDrew | apply bAlloc)) hbn); have w0 := (cells4 ((HB.out.block _ (blkLt Hw.out)).trans Hw.out)).1.1; have w1 := (cells4 ((HB.out.block _ (blkLt Hw.out)).trans Hw.out)).1.2.1; have w2 := (cells4 ((HB.out.block _ (blkLt Hw.out)).trans Hw.out)).1.2.2.1; have w3 := (cells4 ((HB.out.block _ (blkLt Hw.out)).trans Hw.out)).1.2.2.2; have wl := Nat.lt_of_lt_of_le (blkLt Hw.out) HB.out.size; have p0 := (cells4 ((HB.out.block _ (blkLt Hp.out)).trans Hp.out)).1.1; have p1 := (cells4 ((HB.out.block _ (blkLt Hp.out)).trans Hp.out)).1.2.1; have p2 := (cells4 ((HB.out.block _ (blkLt Hp.out)).trans Hp.out)).1.2.2.1; have p3 := (cells4 ((HB.out.block _ (blkLt Hp.out)).trans Hp.out)).1.2.2.2; have pl := Nat.lt_of_lt_of_le (blkLt Hp.out) HB.out.size; have r0 := (cells4 ((HB.out.block _ (blkLt Hr.out)).trans Hr.out)).1.1; have r1 := (cells4 ((HB.out.block _ (blkLt Hr.out)).trans Hr.out)).1.2.1; have r2 := (cells4 ((HB.out.block _ (blkLt Hr.out)).trans Hr.out)).1.2.2.1; have r3 := (cells4 ((HB.out.block _ (blkLt Hr.out)).trans Hr.out)).1.2.2.2; have rl := Nat.lt_of_lt_of_le (blkLt Hr.out) HB.out.size; have K2 := Lib.hid hkn)
              | (go_at_call_of 24 (aggE 4 0 0 A2 2 2); refine (fails_any (.mk 4 0 0 [tw, tn 1 0]) A2 0 13 _ ?_ ?_ ex2).mono ?_; (exact HLc.out.below (by (repeat with_reducible first | exact HB.out | apply bDrew | apply bAlloc))); (exact K2.out.below (by (repeat with_reducible first | exact Below.refl _ _ | apply bDrew | apply bAlloc))); rintro e wn ⟨rfl, hbn⟩; have HB := Lib.hid (bCall (by (repeat with_reducible first | exact HB.out | apply bDrew | apply bAlloc)) hbn); have w0 := (cells4 ((HB.out.block _ (blkLt Hw.out)).trans Hw.out)).1.1; have w1 := (cells4 ((HB.out.block _ (blkLt Hw.out)).trans Hw.out)).1.2.1; have w2 := (cells4 ((HB.out.block _ (blkLt Hw.out)).trans Hw.out)).1.2.2.1; have w3 := (cells4 ((HB.out.block _ (blkLt Hw.out)).trans Hw.out)).1.2.2.2; have wl := Nat.lt_of_lt_of_le (blkLt Hw.out) HB.out.size; have p0 := (cells4 ((HB.out.block _ (blkLt Hp.out)).trans Hp.out)).1.1; have p1 := (cells4 ((HB.out.block _ (blkLt Hp.out)).trans Hp.out)).1.2.1; have p2 := (cells4 ((HB.out.block _ (blkLt Hp.out)).trans Hp.out)).1.2.2.1; have p3 := (cells4 ((HB.out.block _ (blkLt Hp.out)).trans Hp.out)).1.2.2.2; have pl := Nat.lt_of_lt_of_le (blkLt Hp.out) HB.out.size; have r0 := (cells4 ((HB.out.block _ (blkLt Hr.out)).trans Hr.out)).1.1; have r1 := (cells4 ((HB.out.block _ (blkLt Hr.out)).trans Hr.out)).1.2.1; have r2 := (cells4 ((HB.out.block _ (blkLt Hr.out)).trans Hr.out)).1.2.2.1; have r3 := (cells4 ((HB.out.block _ (blkLt Hr.out)).trans Hr.out)).1.2.2.2; have rl := Nat.lt_of_lt_of_le (blkLt Hr.out) HB.out.size)
              | (go_at_call_of 23 (Value.slice Ar 2 2); refine (is_any tr Ar 0 ⟨0, 1, -1⟩ _ ?_ ?_ ex3).mono ?_; (exact HLc.out.below (by (repeat with_reducible first | exact HB.out | apply bDrew | apply bAlloc))); (exact Kr.out.below (by (repeat with_reducible first | exact HB.out | apply bDrew | apply bAlloc))); rintro e wn ⟨rfl, hbn⟩; have HB := Lib.hid (bCall (by (repeat with_reducible first | exact HB.out | apply bDrew | apply bAlloc)) hbn); have w0 := (cells4 ((HB.out.block _ (blkLt Hw.out)).trans Hw.out)).1.1; have w1 := (cells4 ((HB.out.block _ (blkLt Hw.out)).trans Hw.out)).1.2.1; have w2 := (cells4 ((HB.out.block _ (blkLt Hw.out)).trans Hw.out)).1.2.2.1; have w3 := (cells4 ((HB.out.block _ (blkLt Hw.out)).trans Hw.out)).1.2.2.2; have wl := Nat.lt_of_lt_of_le (blkLt Hw.out) HB.out.size; have p0 := (cells4 ((HB.out.block _ (blkLt Hp.out)).trans Hp.out)).1.1; have p1 := (cells4 ((HB.out.block _ (blkLt Hp.out)).trans Hp.out)).1.2.1; have p2 := (cells4 ((HB.out.block _ (blkLt Hp.out)).trans Hp.out)).1.2.2.1; have p3 := (cells4 ((HB.out.block _ (blkLt Hp.out)).trans Hp.out)).1.2.2.2; have pl := Nat.lt_of_lt_of_le (blkLt Hp.out) HB.out.size; have r0 := (cells4 ((HB.out.block _ (blkLt Hr.out)).trans Hr.out)).1.1; have r1 := (cells4 ((HB.out.block _ (blkLt Hr.out)).trans Hr.out)).1.2.1; have r2 := (cells4 ((HB.out.block _ (blkLt Hr.out)).trans Hr.out)).1.2.2.1; have r3 := (cells4 ((HB.out.block _ (blkLt Hr.out)).trans Hr.out)).1.2.2.2; have rl := Nat.lt_of_lt_of_le (blkLt Hr.out) HB.out.size)
              | (go_at_call_of 18 (aggE 3 1 0 none 0 0); refine (two_any 6 tp (ti 1) none none 0 0 _ ?_ ?_ (kl (by decide)) (kl (by decide))).mono ?_; (trivial); (trivial); rintro e wn ⟨A3, rfl, hkn, hbn⟩; have HB := Lib.hid (bCall (by (repeat with_reducible first | exact HB.out | apply bDrew | apply bAlloc)) hbn); have w0 := (cells4 ((HB.out.block _ (blkLt Hw.out)).trans Hw.out)).1.1; have w1 := (cells4 ((HB.out.block _ (blkLt Hw.out)).trans Hw.out)).1.2.1; have w2 := (cells4 ((HB.out.block _ (blkLt Hw.out)).trans Hw.out)).1.2.2.1; have w3 := (cells4 ((HB.out.block _ (blkLt Hw.out)).trans Hw.out)).1.2.2.2; have wl := Nat.lt_of_lt_of_le (blkLt Hw.out) HB.out.size; have p0 := (cells4 ((HB.out.block _ (blkLt Hp.out)).trans Hp.out)).1.1; have p1 := (cells4 ((HB.out.block _ (blkLt Hp.out)).trans Hp.out)).1.2.1; have p2 := (cells4 ((HB.out.block _ (blkLt Hp.out)).trans Hp.out)).1.2.2.1; have p3 := (cells4 ((HB.out.block _ (blkLt Hp.out)).trans Hp.out)).1.2.2.2; have pl := Nat.lt_of_lt_of_le (blkLt Hp.out) HB.out.size; have r0 := (cells4 ((HB.out.block _ (blkLt Hr.out)).trans Hr.out)).1.1; have r1 := (cells4 ((HB.out.block _ (blkLt Hr.out)).trans Hr.out)).1.2.1; have r2 := (cells4 ((HB.out.block _ (blkLt Hr.out)).trans Hr.out)).1.2.2.1; have r3 := (cells4 ((HB.out.block _ (blkLt Hr.out)).trans Hr.out)).1.2.2.2; have rl := Nat.lt_of_lt_of_le (blkLt Hr.out) HB.out.size; have K3 := Lib.hid hkn)
              | (go_at_call_of 18 (aggE 6 0 0 A3 2 2); refine (two_any 7 (.mk 6 0 0 [tp, ti 1]) (ti 2) A3 none 0 0 _ ?_ ?_ (kl (by decide)) (kl (by decide))).mono ?_; (exact K3.out.below (by (repeat with_reducible first | exact Below.refl _ _ | apply bDrew | apply bAlloc))); (trivial); rintro e wn ⟨A4, rfl, hkn, hbn⟩; have HB := Lib.hid (bCall (by (repeat with_reducible first | exact HB.out | apply bDrew | apply bAlloc)) hbn); have w0 := (cells4 ((HB.out.block _ (blkLt Hw.out)).trans Hw.out)).1.1; have w1 := (cells4 ((HB.out.block _ (blkLt Hw.out)).trans Hw.out)).1.2.1; have w2 := (cells4 ((HB.out.block _ (blkLt Hw.out)).trans Hw.out)).1.2.2.1; have w3 := (cells4 ((HB.out.block _ (blkLt Hw.out)).trans Hw.out)).1.2.2.2; have wl := Nat.lt_of_lt_of_le (blkLt Hw.out) HB.out.size; have p0 := (cells4 ((HB.out.block _ (blkLt Hp.out)).trans Hp.out)).1.1; have p1 := (cells4 ((HB.out.block _ (blkLt Hp.out)).trans Hp.out)).1.2.1; have p2 := (cells4 ((HB.out.block _ (blkLt Hp.out)).trans Hp.out)).1.2.2.1; have p3 := (cells4 ((HB.out.block _ (blkLt Hp.out)).trans Hp.out)).1.2.2.2; have pl := Nat.lt_of_lt_of_le (blkLt Hp.out) HB.out.size; have r0 := (cells4 ((HB.out.block _ (blkLt Hr.out)).trans Hr.out)).1.1; have r1 := (cells4 ((HB.out.block _ (blkLt Hr.out)).trans Hr.out)).1.2.1; have r2 := (cells4 ((HB.out.block _ (blkLt Hr.out)).trans Hr.out)).1.2.2.1; have r3 := (cells4 ((HB.out.block _ (blkLt Hr.out)).trans Hr.out)).1.2.2.2; have rl := Nat.lt_of_lt_of_le (blkLt Hr.out) HB.out.size; have K4 := Lib.hid hkn)
              | (go_at_call_of 23 (aggE 7 0 0 A4 2 2); refine (is_any (.mk 7 0 0 [.mk 6 0 0 [tp, ti 1], ti 2]) A4 0 ⟨0, 0, 0⟩ _ ?_ ?_ ex4).mono ?_; (exact HLc.out.below (by (repeat with_reducible first | exact HB.out | apply bDrew | apply bAlloc))); (exact K4.out.below (by (repeat with_reducible first | exact Below.refl _ _ | apply bDrew | apply bAlloc))); rintro e wn ⟨rfl, hbn⟩; have HB := Lib.hid (bCall (by (repeat with_reducible first | exact HB.out | apply bDrew | apply bAlloc)) hbn); have w0 := (cells4 ((HB.out.block _ (blkLt Hw.out)).trans Hw.out)).1.1; have w1 := (cells4 ((HB.out.block _ (blkLt Hw.out)).trans Hw.out)).1.2.1; have w2 := (cells4 ((HB.out.block _ (blkLt Hw.out)).trans Hw.out)).1.2.2.1; have w3 := (cells4 ((HB.out.block _ (blkLt Hw.out)).trans Hw.out)).1.2.2.2; have wl := Nat.lt_of_lt_of_le (blkLt Hw.out) HB.out.size; have p0 := (cells4 ((HB.out.block _ (blkLt Hp.out)).trans Hp.out)).1.1; have p1 := (cells4 ((HB.out.block _ (blkLt Hp.out)).trans Hp.out)).1.2.1; have p2 := (cells4 ((HB.out.block _ (blkLt Hp.out)).trans Hp.out)).1.2.2.1; have p3 := (cells4 ((HB.out.block _ (blkLt Hp.out)).trans Hp.out)).1.2.2.2; have pl := Nat.lt_of_lt_of_le (blkLt Hp.out) HB.out.size; have r0 := (cells4 ((HB.out.block _ (blkLt Hr.out)).trans Hr.out)).1.1; have r1 := (cells4 ((HB.out.block _ (blkLt Hr.out)).trans Hr.out)).1.2.1; have r2 := (cells4 ((HB.out.block _ (blkLt Hr.out)).trans Hr.out)).1.2.2.1; have r3 := (cells4 ((HB.out.block _ (blkLt Hr.out)).trans Hr.out)).1.2.2.2; have rl := Nat.lt_of_lt_of_le (blkLt Hr.out) HB.out.size))
          all_goals go_wp2_with fail
          all_goals go_meet
          all_goals exact ⟨rfl, HB⟩
        case rest =>
          obtain ⟨rfl, HBc⟩ := hcut
          have Hw := Lib.hid ((HBc.out.block _ (blkLt Hw.out)).trans Hw.out)
          have Hp := Lib.hid ((HBc.out.block _ (blkLt Hp.out)).trans Hp.out)
          have Hs := Lib.hid ((HBc.out.block _ (blkLt Hs.out)).trans Hs.out)
          have Ks := Lib.hid (Ks.out.below HBc.out)
          have HW := Lib.hid (bCall HW.out HBc.out)
          clear HBc Hr Kr
          go_upto_region 5 with fail
          go_cut [5] (fun s5 wx => s5 = .bool true ∧ Hid (Below wc.heap.size wc wx))
          case first =>
            have HLc := Lib.hid (HL.out.below HW.out)
            have HB := Lib.hid (Below.refl wc.heap.size wc)
            have w0 := (cells4 Hw.out).1.1
            have w1 := (cells4 Hw.out).1.2.1
            have w2 := (cells4 Hw.out).1.2.2.1
            have w3 := (cells4 Hw.out).1.2.2.2
            have wl := blkLt Hw.out
            have s0 := (cells4 Hs.out).1.1
            have s1 := (cells4 Hs.out).1.2.1
            have s2 := (cells4 Hs.out).1.2.2.1
            have s3 := (cells4 Hs.out).1.2.2.2
            have sl := blkLt Hs.out
            go_wp2_with (first
                | (go_at_call_of 23 (Value.slice As 2 2); refine (is_any tsq As 0 ⟨4, 0, 0⟩ _ ?_ ?_ ex5).mono ?_; (exact HLc.out.below (by (repeat with_reducible first | exact HB.out | apply bDrew | apply bAlloc))); (exact Ks.out.below (by (repeat with_reducible first | exact HB.out | apply bDrew | apply bAlloc))); rintro e wn ⟨rfl, hbn⟩; have HB := Lib.hid (bCall (by (repeat with_reducible first | exact HB.out | apply bDrew | apply bAlloc)) hbn); have w0 := (cells4 ((HB.out.block _ (blkLt Hw.out)).trans Hw.out)).1.1; have w1 := (cells4 ((HB.out.block _ (blkLt Hw.out)).trans Hw.out)).1.2.1; have w2 := (cells4 ((HB.out.block _ (blkLt Hw.out)).trans Hw.out)).1.2.2.1; have w3 := (cells4 ((HB.out.block _ (blkLt Hw.out)).trans Hw.out)).1.2.2.2; have wl := Nat.lt_of_lt_of_le (blkLt Hw.out) HB.out.size; have s0 := (cells4 ((HB.out.block _ (blkLt Hs.out)).trans Hs.out)).1.1; have s1 := (cells4 ((HB.out.block _ (blkLt Hs.out)).trans Hs.out)).1.2.1; have s2 := (cells4 ((HB.out.block _ (blkLt Hs.out)).trans Hs.out)).1.2.2.1; have s3 := (cells4 ((HB.out.block _ (blkLt Hs.out)).trans Hs.out)).1.2.2.2; have sl := Nat.lt_of_lt_of_le (blkLt Hs.out) HB.out.size)
                | (go_at_call_of 18 (Value.slice As 2 2); refine (two_any 6 tsq tw As none 0 0 _ ?_ ?_ (kl (by decide)) (kl (by decide))).mono ?_; (exact Ks.out.below (by (repeat with_reducible first | exact HB.out | apply bDrew | apply bAlloc))); (trivial); rintro e wn ⟨A6, rfl, hkn, hbn⟩; have HB := Lib.hid (bCall (by (repeat with_reducible first | exact HB.out | apply bDrew | apply bAlloc)) hbn); have w0 := (cells4 ((HB.out.block _ (blkLt Hw.out)).trans Hw.out)).1.1; have w1 := (cells4 ((HB.out.block _ (blkLt Hw.out)).trans Hw.out)).1.2.1; have w2 := (cells4 ((HB.out.block _ (blkLt Hw.out)).trans Hw.out)).1.2.2.1; have w3 := (cells4 ((HB.out.block _ (blkLt Hw.out)).trans Hw.out)).1.2.2.2; have wl := Nat.lt_of_lt_of_le (blkLt Hw.out) HB.out.size; have s0 := (cells4 ((HB.out.block _ (blkLt Hs.out)).trans Hs.out)).1.1; have s1 := (cells4 ((HB.out.block _ (blkLt Hs.out)).trans Hs.out)).1.2.1; have s2 := (cells4 ((HB.out.block _ (blkLt Hs.out)).trans Hs.out)).1.2.2.1; have s3 := (cells4 ((HB.out.block _ (blkLt Hs.out)).trans Hs.out)).1.2.2.2; have sl := Nat.lt_of_lt_of_le (blkLt Hs.out) HB.out.size; have K6 := Lib.hid hkn)
                | (go_at_call_of 24 (aggE 6 0 0 A6 2 2); refine (fails_any (.mk 6 0 0 [tsq, tw]) A6 0 13 _ ?_ ?_ ex6).mono ?_; (exact HLc.out.below (by (repeat with_reducible first | exact HB.out | apply bDrew | apply bAlloc))); (exact K6.out.below (by (repeat with_reducible first | exact Below.refl _ _ | apply bDrew | apply bAlloc))); rintro e wn ⟨rfl, hbn⟩; have HB := Lib.hid (bCall (by (repeat with_reducible first | exact HB.out | apply bDrew | apply bAlloc)) hbn); have w0 := (cells4 ((HB.out.block _ (blkLt Hw.out)).trans Hw.out)).1.1; have w1 := (cells4 ((HB.out.block _ (blkLt Hw.out)).trans Hw.out)).1.2.1; have w2 := (cells4 ((HB.out.block _ (blkLt Hw.out)).trans Hw.out)).1.2.2.1; have w3 := (cells4 ((HB.out.block _ (blkLt Hw.out)).trans Hw.out)).1.2.2.2; have wl := Nat.lt_of_lt_of_le (blkLt Hw.out) HB.out.size; have s0 := (cells4 ((HB.out.block _ (blkLt Hs.out)).trans Hs.out)).1.1; have s1 := (cells4 ((HB.out.block _ (blkLt Hs.out)).trans Hs.out)).1.2.1; have s2 := (cells4 ((HB.out.block _ (blkLt Hs.out)).trans Hs.out)).1.2.2.1; have s3 := (cells4 ((HB.out.block _ (blkLt Hs.out)).trans Hs.out)).1.2.2.2; have sl := Nat.lt_of_lt_of_le (blkLt Hs.out) HB.out.size)
                | (go_at_call 20; refine (variable_any _ _).mono ?_; rintro e wn ⟨rfl, hbn⟩; have HB := Lib.hid (bCall (by (repeat with_reducible first | exact HB.out | apply bDrew | apply bAlloc)) hbn); have w0 := (cells4 ((HB.out.block _ (blkLt Hw.out)).trans Hw.out)).1.1; have w1 := (cells4 ((HB.out.block _ (blkLt Hw.out)).trans Hw.out)).1.2.1; have w2 := (cells4 ((HB.out.block _ (blkLt Hw.out)).trans Hw.out)).1.2.2.1; have w3 := (cells4 ((HB.out.block _ (blkLt Hw.out)).trans Hw.out)).1.2.2.2; have wl := Nat.lt_of_lt_of_le (blkLt Hw.out) HB.out.size; have s0 := (cells4 ((HB.out.block _ (blkLt Hs.out)).trans Hs.out)).1.1; have s1 := (cells4 ((HB.out.block _ (blkLt Hs.out)).trans Hs.out)).1.2.1; have s2 := (cells4 ((HB.out.block _ (blkLt Hs.out)).trans Hs.out)).1.2.2.1; have s3 := (cells4 ((HB.out.block _ (blkLt Hs.out)).trans Hs.out)).1.2.2.2; have sl := Nat.lt_of_lt_of_le (blkLt Hs.out) HB.out.size)
                | (go_at_call_of 24 (aggE 2 2 0 none 0 0); refine (fails_any (.mk 2 2 0 []) none 0 1 _ ?_ ?_ ex7).mono ?_; (exact HLc.out.below (by (repeat with_reducible first | exact HB.out | apply bDrew | apply bAlloc))); (trivial); rintro e wn ⟨rfl, hbn⟩; have HB := Lib.hid (bCall (by (repeat with_reducible first | exact HB.out | apply bDrew | apply bAlloc)) hbn); have w0 := (cells4 ((HB.out.block _ (blkLt Hw.out)).trans Hw.out)).1.1; have w1 := (cells4 ((HB.out.block _ (blkLt Hw.out)).trans Hw.out)).1.2.1; have w2 := (cells4 ((HB.out.block _ (blkLt Hw.out)).trans Hw.out)).1.2.2.1; have w3 := (cells4 ((HB.out.block _ (blkLt Hw.out)).trans Hw.out)).1.2.2.2; have wl := Nat.lt_of_lt_of_le (blkLt Hw.out) HB.out.size; have s0 := (cells4 ((HB.out.block _ (blkLt Hs.out)).trans Hs.out)).1.1; have s1 := (cells4 ((HB.out.block _ (blkLt Hs.out)).trans Hs.out)).1.2.1; have s2 := (cells4 ((HB.out.block _ (blkLt Hs.out)).trans Hs.out)).1.2.2.1; have s3 := (cells4 ((HB.out.block _ (blkLt Hs.out)).trans Hs.out)).1.2.2.2; have sl := Nat.lt_of_lt_of_le (blkLt Hs.out) HB.out.size)
                | (go_at_call 24; refine (fails_any (.mk 4 0 0 [tw]) _ 0 1 _ ?_ ?_ ex8).mono ?_; (exact HLc.out.below (by (repeat with_reducible first | exact HB.out | apply bDrew | apply bAlloc))); (exact one_kid (t := tw) (A := none) (c := 0) (newBlk _ _ _ rfl) (kl (by decide)) trivial); rintro e wn ⟨rfl, hbn⟩; have HB := Lib.hid (bCall (by (repeat with_reducible first | exact HB.out | apply bDrew | apply bAlloc)) hbn)))
            go_meet
            exact ⟨rfl, HB⟩
          case rest =>
            obtain ⟨rfl, HBc⟩ := hcut
            have Hw := Lib.hid ((HBc.out.block _ (blkLt Hw.out)).trans Hw.out)
            have Hp := Lib.hid ((HBc.out.block _ (blkLt Hp.out)).trans Hp.out)
            have HW := Lib.hid (bCall HW.out HBc.out)
            clear HBc Hs Ks
            go_upto_region 6 with fail
            go_cut [6] (fun s6 wx => ∃ (bg nv : Nat), s6 = .pointer (some ⟨bg, 0, none⟩) ∧ Hid (wx.heap[bg]? = some (.cells #[.string ⟨#[]⟩, .slice (some ⟨nv, 0, none⟩) 2 2, .slice none 0 0, .slice none 0 0, .slice none 0 0, .slice none 0 0, .slice none 0 0, .int .i64 0, .int .i64 0] 26 (0, 0))) ∧ Hid (wx.heap[nv]? = some (.cells #[.string ⟨#[119]⟩, .int .i64 1, .int .i64 0, .int .i64 0, .int .i64 0, .string ⟨#[112]⟩, .int .i64 4, .int .i64 0, .int .i64 0, .int .i64 0] 50 (0, 0))) ∧ Hid (Below wc.heap.size wc wx) ∧ wc.heap.size ≤ bg ∧ nv < bg)
            case first =>
              have HB := Lib.hid (Below.refl wc.heap.size wc)
              go_wp2_with (go_at_call 25; refine (vars_b _).mono ?_; rintro e wn ⟨nv, rfl, hVn, hbn⟩; have HB := Lib.hid (bCall (by (repeat with_reducible first | exact HB.out | apply bDrew | apply bAlloc)) hbn); have HVn := Lib.hid hVn)
              go_meet
              exact ⟨_, _, rfl, Lib.hid (newBlk _ _ _ rfl), Lib.hid ((Below.heap_alloc _ _ _ (blkLt HVn.out)).trans HVn.out), Lib.hid (bAlloc HB.out), HB.out.size, blkLt HVn.out⟩
            case rest =>
              obtain ⟨bg, nv, rfl, Hg, HV, HBc, hbg, hvg⟩ := hcut
              have hwbg : w.heap.size ≤ bg := Nat.le_trans HW.out.size hbg
              have hwg : bw ≠ bg := Nat.ne_of_lt (Nat.lt_of_lt_of_le (blkLt Hw.out) hbg)
              have hpg : bp ≠ bg := Nat.ne_of_lt (Nat.lt_of_lt_of_le (blkLt Hp.out) hbg)
              have Hw := Lib.hid ((HBc.out.block _ (blkLt Hw.out)).trans Hw.out)
              have Hp := Lib.hid ((HBc.out.block _ (blkLt Hp.out)).trans Hp.out)
              have HW := Lib.hid (bCall HW.out HBc.out)
              clear HBc hbg
              go_upto_region 7 with fail
              go_cut [6] (fun s6 wx => s6 = .pointer (some ⟨bg, 0, none⟩) ∧ ∃ (b1 : Nat), Hid (wx.heap[bg]? = some (.cells #[.string ⟨#[]⟩, .slice (some ⟨nv, 0, none⟩) 2 2, .slice none 0 0, .slice (some ⟨b1, 0, none⟩) 1 1, .slice none 0 0, .slice none 0 0, .slice none 0 0, .int .i64 0, .int .i64 0] 26 (0, 0))) ∧ Hid (StsR wx [st1] (some ⟨b1, 0, none⟩)) ∧ Hid (KpL bg wc wx))
              case first =>
                have HB := Lib.hid (Below.refl wc.heap.size wc)
                have w0 := (cells4 Hw.out).1.1
                have w1 := (cells4 Hw.out).1.2.1
                have w2 := (cells4 Hw.out).1.2.2.1
                have w3 := (cells4 Hw.out).1.2.2.2
                have wl := blkLt Hw.out
                go_region_held3 (fun w' => w'.cell? ⟨bw, 0, none⟩ = some (.int .i64 2) ∧ w'.cell? ⟨bw, 1, none⟩ = some (.int .i64 0) ∧ w'.cell? ⟨bw, 2, none⟩ = some (.int .i64 0) ∧ w'.cell? ⟨bw, 3, none⟩ = some (.slice none 0 0))
                  (first | (with_reducible exact ⟨w0, w1, w2, w3⟩) | (with_reducible exact ⟨(far1a hwg wl).trans w0, (far1a hwg wl).trans w1, (far1a hwg wl).trans w2, (far1a hwg wl).trans w3⟩) | (with_reducible exact ⟨(far1 hwg).trans w0, (far1 hwg).trans w1, (far1 hwg).trans w2, (far1 hwg).trans w3⟩) | go_keep)
                  (first
                    | (go_at_call 22; refine (number_any _ _ _).mono ?_; rintro e wn ⟨rfl, hbn⟩; have HB := Lib.hid (bCall (by (repeat with_reducible first | exact HB.out | apply bDrew | apply bAlloc)) hbn); have w0 := (cells4 ((HB.out.block _ (blkLt Hw.out)).trans Hw.out)).1.1; have w1 := (cells4 ((HB.out.block _ (blkLt Hw.out)).trans Hw.out)).1.2.1; have w2 := (cells4 ((HB.out.block _ (blkLt Hw.out)).trans Hw.out)).1.2.2.1; have w3 := (cells4 ((HB.out.block _ (blkLt Hw.out)).trans Hw.out)).1.2.2.2; have wl := Nat.lt_of_lt_of_le (blkLt Hw.out) HB.out.size; have hg := (HB.out.block _ (blkLt Hg.out)).trans Hg.out; have gl := blkLt hg; have g3 := (cells9 hg).2.2.2.1; have gf := fzOf hg 3; have gl1 := blkLt hg)
                    | (go_at_call 18; refine (two_blk 7 tw (tn 2 0) none none 0 0 _).mono ?_; rintro e wn ⟨g7, rfl, hg7, Hg7, hbn⟩; have HB := Lib.hid (bCall (by (repeat with_reducible first | exact HB.out | apply bDrew | apply bAlloc)) hbn); have w0 := (cells4 ((HB.out.block _ (blkLt Hw.out)).trans Hw.out)).1.1; have w1 := (cells4 ((HB.out.block _ (blkLt Hw.out)).trans Hw.out)).1.2.1; have w2 := (cells4 ((HB.out.block _ (blkLt Hw.out)).trans Hw.out)).1.2.2.1; have w3 := (cells4 ((HB.out.block _ (blkLt Hw.out)).trans Hw.out)).1.2.2.2; have wl := Nat.lt_of_lt_of_le (blkLt Hw.out) HB.out.size; have hg := (HB.out.block _ (blkLt Hg.out)).trans Hg.out; have gl := blkLt hg; have g3 := (cells9 hg).2.2.2.1; have gf := fzOf hg 3; have hgl7 := blkLt Hg7))
                all_goals go_wp2_with fail
                all_goals go_meet
                all_goals exact ⟨rfl, _, Lib.hid ((Below.heap_alloc _ _ _ (by simpa using gl)).trans (by rw [heap_setCell_same _ _ _ _ _ _ hg]; rfl)),
                  Lib.hid (one_st (x := st1) (c := 0) (d := 0) (newBlk _ _ _ (by simp)) (two_kids (s := tw) (t := tn 2 0) (c := 0) (d := 0) (A := none) (B := none) ((Below.heap_alloc _ _ _ (by simpa using hgl7)).trans ((heap_setCell_other _ _ _ _ (Nat.ne_of_gt (Nat.lt_of_lt_of_le gl1 hg7))).trans Hg7)) (kl (by decide)) (kl (by decide)) trivial trivial) trivial trivial trivial (Nat.zero_le _) (Nat.zero_le _)),
                  Lib.hid (((Below.kpl HB.out).set _).alloc _)⟩
              case rest =>
                obtain ⟨rfl, b1, Hg, HS1, HKc⟩ := hcut
                have Hw := Lib.hid ((HKc.out.block _ (blkLt Hw.out) hwg).trans Hw.out)
                have Hp := Lib.hid ((HKc.out.block _ (blkLt Hp.out) hpg).trans Hp.out)
                have HV := Lib.hid ((HKc.out.block _ (blkLt HV.out) (Nat.ne_of_lt hvg)).trans HV.out)
                have HW := Lib.hid (KpL.below HW.out HKc.out HW.out.size hwbg)
                clear HKc hwg hpg hwbg hvg
                obtain ⟨g0, g1, g2, g3, g4, g5, g6, g7, g8⟩ := cells9 Hg.out
                have gl := blkLt Hg.out
                have w0 := (cells4 Hw.out).1.1
                have w1 := (cells4 Hw.out).1.2.1
                have w2 := (cells4 Hw.out).1.2.2.1
                have w3 := (cells4 Hw.out).1.2.2.2
                have wl := blkLt Hw.out
                have p0 := (cells4 Hp.out).1.1
                have p1 := (cells4 Hp.out).1.2.1
                have p2 := (cells4 Hp.out).1.2.2.1
                have p3 := (cells4 Hp.out).1.2.2.2
                have pl := blkLt Hp.out
                go_upto_region 10 with fail
                generalize hW3 : ((wc.alloc _).alloc _) = W3
                have HB3 : Below wc.heap.size wc W3 := by rw [← hW3]; exact bAlloc (bAlloc (Below.refl _ _))
                have HWw := Lib.hid (bCall HW.out HB3)
                have HGW := Lib.hid ((HB3.block _ (blkLt Hg.out)).trans Hg.out)
                have HVW := Lib.hid ((HB3.block _ (blkLt HV.out)).trans HV.out)
                have HS1W := Lib.hid (HS1.out.below HB3)
                have HBB : Hid (W3.heap[wc.heap.size]? = some (.cells #[.string ⟨#[]⟩, .slice (some ⟨nv, 0, none⟩) 2 2, .slice none 0 0, .slice (some ⟨b1, 0, none⟩) 1 1, .slice none 0 0, .slice (some ⟨wc.heap.size + 1, 0, none⟩) 1 1, .slice none 0 0, .int .i64 0, .int .i64 0] 26 (0, 0))) := Lib.hid (by rw [← hW3]; exact (Below.heap_alloc _ _ _ (by simp)).trans (newBlk _ _ _ rfl))
                have HS2W : Hid (StsR W3 [st2] (some ⟨wc.heap.size + 1, 0, none⟩)) := Lib.hid (by rw [← hW3]; exact one_st (x := st2) (A := none) (B := none) (T := none) (E := none) (c := 0) (d := 0) (m := 0) (n := 0) (newBlk _ _ _ (by simp)) trivial trivial trivial trivial (Nat.zero_le _) (Nat.zero_le _))
                have HLc := Lib.hid (HL.out.below HWw.out)
                have HB := Lib.hid (Below.refl W3.heap.size W3)
                clear g0 g1 g2 g3 g4 g5 g6 g7 g8 gl w0 w1 w2 w3 wl p0 p1 p2 p3 pl HB3 hW3 HW Hw Hp Hg HV HS1 HL
                generalize wc.heap.size + 1 = b3 at *
                generalize wc.heap.size = bb at *
                have g0 := (cells9 HGW.out).1
                have g1 := (cells9 HGW.out).2.1
                have g2 := (cells9 HGW.out).2.2.1
                have g3 := (cells9 HGW.out).2.2.2.1
                have g4 := (cells9 HGW.out).2.2.2.2.1
                have g5 := (cells9 HGW.out).2.2.2.2.2.1
                have g6 := (cells9 HGW.out).2.2.2.2.2.2.1
                have g7 := (cells9 HGW.out).2.2.2.2.2.2.2.1
                have g8 := (cells9 HGW.out).2.2.2.2.2.2.2.2
                have gl := blkLt HGW.out
                have k0 := (cells9 HBB.out).1
                have k1 := (cells9 HBB.out).2.1
                have k2 := (cells9 HBB.out).2.2.1
                have k3 := (cells9 HBB.out).2.2.2.1
                have k4 := (cells9 HBB.out).2.2.2.2.1
                have k5 := (cells9 HBB.out).2.2.2.2.2.1
                have k6 := (cells9 HBB.out).2.2.2.2.2.2.1
                have k7 := (cells9 HBB.out).2.2.2.2.2.2.2.1
                have k8 := (cells9 HBB.out).2.2.2.2.2.2.2.2
                have kl9 := blkLt HBB.out
                go_wp2_with (first
                  | (go_at_call_of 13 (Value.slice (some ⟨b3, 0, none⟩) 1 1); refine (check_bad nv b1 b3 _ ?_ ?_ ?_ ?_).mono ?_; (exact HLc.out.below (by (repeat with_reducible first | exact HB.out | apply bDrew | apply bAlloc))); (exact (HB.out.block _ (blkLt HVW.out)).trans HVW.out); (exact HS1W.out.below HB.out); (exact HS2W.out.below HB.out); rintro e wn ⟨rfl, hbn⟩; have HB := Lib.hid (bCall (by (repeat with_reducible first | exact HB.out | apply bDrew | apply bAlloc)) hbn))
                  | (go_at_call 13; refine (check_good nv b1 _ ?_ ?_ ?_).mono ?_; (exact HLc.out); (exact HVW.out); (exact HS1W.out); rintro e wn ⟨rfl, hbn⟩; have HB := Lib.hid (bCall (by (repeat with_reducible first | exact HB.out | apply bDrew | apply bAlloc)) hbn); have hbb := (HB.out.block _ (blkLt HBB.out)).trans HBB.out; have k0 := (cells9 hbb).1; have k1 := (cells9 hbb).2.1; have k2 := (cells9 hbb).2.2.1; have k3 := (cells9 hbb).2.2.2.1; have k4 := (cells9 hbb).2.2.2.2.1; have k5 := (cells9 hbb).2.2.2.2.2.1; have k6 := (cells9 hbb).2.2.2.2.2.2.1; have k7 := (cells9 hbb).2.2.2.2.2.2.2.1; have k8 := (cells9 hbb).2.2.2.2.2.2.2.2; have kl9 := blkLt hbb)
                  | (go_at_call_of 15 (Value.int IntKind.i64 4); refine (of4 _ ?_).mono ?_; (exact HLc.out.below (by (repeat with_reducible first | exact HB.out | apply bDrew | apply bAlloc))); rintro e wn4 ⟨rfl, hbn⟩; have HB := Lib.hid (bCall (by (repeat with_reducible first | exact HB.out | apply bDrew | apply bAlloc)) hbn))
                  | (go_at_call 15; refine (of5 _ ?_).mono ?_; (exact HLc.out.below (by (repeat with_reducible first | exact HB.out | apply bDrew | apply bAlloc))); rintro e wn5 ⟨rfl, hbn⟩; have hU := newU (X := wn4) (o := .cells (pArr ⟨0, 1, -1⟩) 34) hbn; have HB := Lib.hid (bCall (by (repeat with_reducible first | exact HB.out | apply bDrew | apply bAlloc)) hbn); have u0 := (cells3 hU).1.1; have u1 := (cells3 hU).1.2.1; have u2 := (cells3 hU).1.2.2; have ul := blkLt hU))
                go_ret
                refine ⟨rfl, bCall HWw.out ?_⟩
                (repeat with_reducible first | exact HB.out | apply bDrew | apply bAlloc)
end Go.Proofs.YtmofclpheioepaaDoor




