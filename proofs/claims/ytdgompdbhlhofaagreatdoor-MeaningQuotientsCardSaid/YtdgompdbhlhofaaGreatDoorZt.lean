/- Texts of one proof: QaE. -/
import Derived.Test.YtdgompdbhlhofaaGreatDoorZs
import Derived.Deep.RegionWith
namespace Go.Proofs.YtdgompdbhlhofaaGreatDoor
open Go.RowKit
set_option linter.unusedVariables false
set_option linter.unusedSimpArgs false
set_option maxHeartbeats 4000000 in
set_option maxRecDepth 100000 in
theorem expr_len (t : Nd) (w : World) (A : Option Addr) (c : Nat) (lv : Int) (h12 : ¬ 12 < lv) (h3 : t.kind ≠ 13) (h4 : t.kind ≠ 14) (hl : t.kids.length ≠ 2) :
    Calls Tryz.prog 111 #[nv t A c, .int .i64 lv] w (BB false w) := by
  have hb0 := (Below.refl w.heap.size w).alloc (Nat.le_refl _) (.cells (ndArr t A c) 67)
  have HB := Lib.hid (newBlk w (.cells (ndArr t A c) 67) _ rfl)
  have hlv : decide (12 < lv) = false := by simp; omega
  have hk3 : (t.kind == 13) = false := by simp [h3]
  have hk4 : (t.kind == 14) = false := by simp [h4]
  have hlb : ((t.kids.length : Int) != 2) = true := by simp; omega
  clear hl h3 h4
  go_enter Tryz.func111, Tryz.ntmps111
  go_wp2_with (first
    | (go_at_call 84; refine (between_any t.kind 15 21 _).mono ?_; rintro e w1 ⟨rfl, hb1⟩; have HW1 := Lib.hid (hb0.trans (hb1.mono (by simp))); have HB1 := Lib.hid ((hb1.block _ (blkLt HB.out)).trans HB.out); obtain ⟨⟨b0, b1, b2, b3, b4, b5⟩, -⟩ := cells6 HB1.out; have hx1 := blkLt HB1.out; clear hb1)
    | (go_at_call 55; refine (plain_any t A c t.kind _).mono ?_; rintro e w2 ⟨rfl, hb2⟩; have HW2 := Lib.hid (HW1.out.trans (hb2.mono HW1.out.size)); have HB2 := Lib.hid ((hb2.block _ hx1).trans HB1.out); clear b0 b1 b2 b3 b4 b5; obtain ⟨⟨b0, b1, b2, b3, b4, b5⟩, -⟩ := cells6 HB2.out; have hx2 := blkLt HB2.out; clear hb2))
  all_goals
    go_ret
    exact ⟨rfl, by first | exact HW2.out | exact HW1.out⟩
set_option maxHeartbeats 8000000 in
set_option maxRecDepth 100000 in
theorem expr_bin (k : Int) (x : ByteArray) (n u a : Int) (l r : Nd) (hl : XC l) (hr : XC r) (w : World) (A : Option Addr) (c : Nat) (lv : Int) (h1 : 1 ≤ lv) (h12 : ¬ 12 < lv) (h3 : k ≠ 13) (h4 : k ≠ 14)
    (hL : LaidW w) (hw : 7 < w.heap.size) (hNl : NmS l) (hNr : NmS r) (hK : KidsR w (From 0) [l, r] A) :
    Calls Tryz.prog 111 #[aggN k x n u a A 2 c, .int .i64 lv] w (BB (btw k 15 21 && plainB (.mk k x n u a [l, r]) k && (vExpr l (if tight l.kind < least1 k then lv + 1 else lv) && vExpr r (if tight r.kind < least2 k then lv + 1 else lv))) w) := by
  have hb0 := (Below.refl w.heap.size w).alloc (Nat.le_refl _) (.cells (arrN k x n u a A 2 c) 67)
  have HB := Lib.hid (newBlk w (.cells (arrN k x n u a A 2 c) 67) _ rfl)
  have hlv : decide (12 < lv) = false := by simp; omega
  have hk3 : (k == 13) = false := by simp [h3]
  have hk4 : (k == 14) = false := by simp [h4]
  obtain ⟨g, o, rfl⟩ := hK.addr (by simp)
  have hKH := Lib.hid hK
  obtain ⟨R1, hR1⟩ : ∃ R1, vExpr l (if tight l.kind < least1 k then lv + 1 else lv) = R1 := ⟨_, rfl⟩
  obtain ⟨R2, hR2⟩ : ∃ R2, vExpr r (if tight r.kind < least2 k then lv + 1 else lv) = R2 := ⟨_, rfl⟩
  rw [hR1, hR2]
  have hlH := Lib.hid (fun w A c hL hw hK => bb_of hR1 (validOperand_of l hl w A c (least1 k) lv h1 (by omega) hL hw hNl hK))
  have hrH := Lib.hid (fun w A c hL hw hK => bb_of hR2 (validOperand_of r hr w A c (least2 k) lv h1 (by omega) hL hw hNr hK))
  clear hR1 hR2
  have hLH := Lib.hid hL
  clear h3 h4 hK hl hr hL
  go_enter Tryz.func111, Tryz.ntmps111
  go_wp2_with (first
    | (go_at_call 84; refine (between_any k 15 21 _).mono ?_; rintro e w1 ⟨rfl, hb1⟩; have HW1 := Lib.hid (hb0.trans (hb1.mono (by simp))); have HB1 := Lib.hid ((hb1.block _ (blkLt HB.out)).trans HB.out); obtain ⟨⟨b0, b1, b2, b3, b4, b5⟩, -⟩ := cells6 HB1.out; have hx1 := blkLt HB1.out; clear hb1)
    | (go_at_call 55; refine (plain_any (.mk k x n u a [l, r]) (some ⟨g, o, none⟩) c k _).mono ?_; rintro e w2 ⟨rfl, hb2⟩; have HW2 := Lib.hid (HW1.out.trans (hb2.mono HW1.out.size)); have HB2 := Lib.hid ((hb2.block _ hx1).trans HB1.out); clear b0 b1 b2 b3 b4 b5; obtain ⟨⟨b0, b1, b2, b3, b4, b5⟩, -⟩ := cells6 HB2.out; have hx2 := blkLt HB2.out; clear hb2; have hK2 := hKH.out.keep (w' := w2) (P' := From 0) (fun q h1 h2 => ⟨HW2.out.block q h2, h1⟩); obtain ⟨A1, c1, ⟨e0, e1, e2, e3, e4, e5⟩, hK1⟩ := (KidsR.get _ _ _ hK2 0 l rfl).cells; have hK1H := Lib.hid hK1; clear hK1 hK2; simp only [Nat.zero_mul, Nat.add_zero] at e0 e1 e2 e3 e4 e5)
    | (go_at_call 124; refine (least_any k _).mono ?_; rintro e wl ⟨rfl, hwl⟩; have hwl := hwl.symm; subst hwl)
    | (go_at_call_of 125 (Value.int IntKind.i64 (least1 k)); refine (hlH.out w2 A1 c1 (hLH.out.below HW2.out hw) (Nat.lt_of_lt_of_le hw HW2.out.size) hK1H.out).mono ?_; rintro e w3 ⟨rfl, hb3⟩; have HW3 := Lib.hid (HW2.out.trans (hb3.mono HW2.out.size)); have HB3 := Lib.hid ((hb3.block _ hx2).trans HB2.out); clear b0 b1 b2 b3 b4 b5 e0 e1 e2 e3 e4 e5; obtain ⟨⟨b0, b1, b2, b3, b4, b5⟩, -⟩ := cells6 HB3.out; clear hb3; have hK3 := hKH.out.keep (w' := w3) (P' := From 0) (fun q h1 h2 => ⟨HW3.out.block q h2, h1⟩); obtain ⟨A2, c2, ⟨e0, e1, e2, e3, e4, e5⟩, hK2⟩ := (KidsR.get _ _ _ hK3 1 r rfl).cells; have hK2H := Lib.hid hK2; clear hK2 hK3; simp only [Nat.one_mul] at e0 e1 e2 e3 e4 e5)
    | (go_at_call_of 125 (Value.int IntKind.i64 (least2 k)); refine (hrH.out w3 A2 c2 (hLH.out.below HW3.out hw) (Nat.lt_of_lt_of_le hw HW3.out.size) hK2H.out).mono ?_; rintro e w4 ⟨rfl, hb4⟩; have HW4 := Lib.hid (HW3.out.trans (hb4.mono HW3.out.size)); clear hb4))
  all_goals
    go_ret
    refine ⟨?_, by first | exact HW4.out | exact HW3.out | exact HW2.out | exact HW1.out⟩
    simp [*]
theorem expr_step (t : Nd) (ih : ∀ u ∈ t.kids, XC u) : XC t := by
  intro w A c lv h1 h2 hL hw hN hK
  by_cases h12 : 12 < lv
  · rw [vExpr_deep t lv h12]; exact expr_deep2 t w A c lv h12
  · obtain ⟨k, x, n, u, a, ks⟩ := t
    by_cases h3 : k = 13
    · subst h3
      rw [vExpr_num (.mk 13 x n u a ks) lv h12 rfl]
      exact expr_num x n u a ks w A c lv h12
    · by_cases h4 : k = 14
      · subst h4
        cases hi : inpB x with
        | true => rw [vExpr_inp (.mk 14 x n u a ks) lv h12 rfl hi]; exact expr_inp x n u a ks w A c lv h12 hi
        | false => rw [vExpr_name (.mk 14 x n u a ks) lv h12 rfl hi]; exact expr_name x n u a ks w A c lv h12 hi hL hw hN.name
      · rw [vExpr_op (.mk k x n u a ks) lv h12 h3 h4]
        by_cases hl : ks.length = 2
        · obtain ⟨l, r, rfl⟩ : ∃ l r, ks = [l, r] := by
            match ks, hl with
            | [l, r], _ => exact ⟨l, r, rfl⟩
          have hk := hN.kids
          have hl1 : XC l := ih l (by simp [Nd.kids])
          have hr1 : XC r := ih r (by simp [Nd.kids])
          have hNl : NmS l := hk.mem l (by simp [Nd.kids])
          have hNr : NmS r := hk.mem r (by simp [Nd.kids])
          have e : vOps (Nd.mk k x n u a [l, r]).kids [least1 (Nd.mk k x n u a [l, r]).kind, least2 (Nd.mk k x n u a [l, r]).kind] lv = (vExpr l (if tight l.kind < least1 k then lv + 1 else lv) && vExpr r (if tight r.kind < least2 k then lv + 1 else lv)) := by
            show vOps [l, r] [least1 k, least2 k] lv = _
            rw [vOps, vOps, vOps, Bool.and_true]
          rw [e]
          exact expr_bin k x n u a l r hl1 hr1 w A c lv h1 h12 h3 h4 hL hw hNl hNr hK
        · have e : vOps (Nd.mk k x n u a ks).kids [least1 (Nd.mk k x n u a ks).kind, least2 (Nd.mk k x n u a ks).kind] lv = false := vOps_len _ _ _ hl
          rw [e, Bool.and_false]
          exact expr_len (.mk k x n u a ks) w A c lv h12 h3 h4 hl
mutual
theorem vexpr_any : ∀ t : Nd, XC t
  | .mk k x n u a kids => expr_step (.mk k x n u a kids) (vexpr_all kids)
theorem vexpr_all : ∀ (ts : List Nd), ∀ u ∈ ts, XC u
  | [], u, hu => by cases hu
  | t :: ts, u, hu => by
    rcases List.mem_cons.1 hu with h | h
    · rw [h]; exact vexpr_any t
    · exact vexpr_all ts u h
end
end Go.Proofs.YtdgompdbhlhofaaGreatDoor
