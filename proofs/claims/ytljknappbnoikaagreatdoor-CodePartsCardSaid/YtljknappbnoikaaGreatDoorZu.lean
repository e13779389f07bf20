/- Texts of one proof: QaD, QaE. -/
import Derived.Test.YtljknappbnoikaaGreatDoorZt
import Derived.Deep.RegionWith
set_option linter.unusedVariables false
set_option linter.unusedSimpArgs false
set_option maxRecDepth 100000
set_option maxHeartbeats 8000000
namespace Go.Proofs.YtljknappbnoikaaGreatDoor
open Go.RowKit
mutual
def NmS : Nd → Prop
 | .mk _ x _ _ _ ks => x.size ≤ maxLen ∧ ks.length ≤ maxLen ∧ NmSs ks
def NmSs : List Nd → Prop
 | [] => True
 | t :: ts => NmS t ∧ NmSs ts
end
theorem NmS.name {t : Nd} (h : NmS t) : t.name.size ≤ maxLen := by cases t; unfold NmS at h; exact h.1
theorem NmS.len {t : Nd} (h : NmS t) : t.kids.length ≤ maxLen := by cases t; unfold NmS at h; exact h.2.1
theorem NmS.kids {t : Nd} (h : NmS t) : NmSs t.kids := by cases t; unfold NmS at h; exact h.2.2
theorem NmSs.mem : ∀ {ts : List Nd}, NmSs ts → ∀ u ∈ ts, NmS u
 | [], _, u, hu => by cases hu
 | t :: ts, h, u, hu => by
  unfold NmSs at h
  rcases List.mem_cons.1 hu with rfl | h2
  ·exact h.1
  ·exact NmSs.mem h.2 u h2
mutual
def vExpr : Nd → Int → Bool
 | .mk k x n u a ks, lv => if 12 < lv then false else if k = 13 then btw u 0 4 && vNumber (.mk k x n 0 a ks)
  else if k = 14 ∧ inpB x = true then plainB (.mk k ⟨#[]⟩ n u a ks) 14 && ks.isEmpty
  else if k = 14 then vName (.mk k x n u a ks)
  else btw k 15 21 && plainB (.mk k x n u a ks) k && vOps ks [least1 k, least2 k] lv
def vOps : List Nd → List Int → Int → Bool
 | [], [], _ => true
 | t :: ts, m :: ms, lv => vExpr t (if tight t.kind < m then lv + 1 else lv) && vOps ts ms lv
 | _, _, _ => false
end
theorem vExpr_deep (t : Nd) (lv : Int) (h : 12 < lv) : vExpr t lv = false := by cases t; rw [vExpr, if_pos h]
theorem vExpr_num (t : Nd) (lv : Int) (h : ¬ 12 < lv) (hk : t.kind = 13) : vExpr t lv = (btw t.unit 0 4 && vNumber (zu t)) := by
 cases t; simp only [Nd.kind] at hk; rw [vExpr, if_neg h, if_pos hk]; rfl
theorem vExpr_inp (t : Nd) (lv : Int) (h : ¬ 12 < lv) (hk : t.kind = 14) (hi : inpB t.name = true) : vExpr t lv = (plainB (zx t) 14 && t.kids.isEmpty) := by
 cases t; simp only [Nd.kind, Nd.name] at hk hi; subst hk; rw [vExpr, if_neg h, if_neg (by decide), if_pos ⟨rfl, hi⟩]; rfl
theorem vExpr_name (t : Nd) (lv : Int) (h : ¬ 12 < lv) (hk : t.kind = 14) (hi : inpB t.name = false) : vExpr t lv = vName t := by
 cases t; simp only [Nd.kind, Nd.name] at hk hi; subst hk; rw [vExpr, if_neg h, if_neg (by decide), if_neg (by rw [hi]; simp), if_pos rfl]
theorem vExpr_op (t : Nd) (lv : Int) (h : ¬ 12 < lv) (h3 : t.kind ≠ 13) (h4 : t.kind ≠ 14) : vExpr t lv = (btw t.kind 15 21 && plainB t t.kind && vOps t.kids [least1 t.kind, least2 t.kind] lv) := by
 cases t; simp only [Nd.kind] at h3 h4; rw [vExpr, if_neg h, if_neg h3, if_neg (fun e => h4 e.1), if_neg h4]; rfl
theorem vOps_len : ∀ (ts : List Nd) (ms : List Int) (lv : Int), ts.length ≠ ms.length → vOps ts ms lv = false
 | [], [], _, h => absurd rfl h
 | t :: ts, m :: ms, lv, h => by rw [vOps, vOps_len ts ms lv (by simpa using h)]; simp
 | [], m :: ms, lv, _ => by rw [vOps] <;> simp
 | t :: ts, [], lv, _ => by rw [vOps] <;> simp
def XC (t : Nd) : Prop := ∀ (w : World) (A : Option Addr) (c : Nat) (lv : Int), 1 ≤ lv → lv ≤ 13 → LaidW w → 8 < w.heap.size → NmS t → KidsR w (From 0) t.kids A → Calls Tryz.prog 136 #[nv t A c, .int .i64 lv] w (BB (vExpr t lv) w)
theorem validOperand_of (t : Nd) (hX : XC t) (w : World) (A : Option Addr) (c : Nat) (m lv : Int) (h1 : 1 ≤ lv) (h2 : lv ≤ 12) (hL : LaidW w) (hw : 8 < w.heap.size) (hN : NmS t) (hK : KidsR w (From 0) t.kids A) :
  Calls Tryz.prog 150 #[nv t A c, .int .i64 m, .int .i64 lv] w (BB (vExpr t (if tight t.kind < m then lv + 1 else lv)) w) := by
 have hb0 := (Below.refl w.heap.size w).alloc (Nat.le_refl _) (.cells (ndArr t A c) 79)
 have hK0 : KidsR (w.alloc (.cells (ndArr t A c) 79)) (From 0) t.kids A := hK.keep (fun q h1 h2 => ⟨hb0.block q h2, h1⟩)
 have hL0 := hL.below hb0 hw
 have hw0 : 8 < (w.alloc (.cells (ndArr t A c) 79)).heap.size := by simp; omega
 have hx : w.heap.size < (w.alloc (.cells (ndArr t A c) 79)).heap.size := by simp
 by_cases hm : tight t.kind < m
 ·rw [if_pos hm]
  have hC := Lib.hid (hX _ A c (lv + 1) (by omega) (by omega) hL0 hw0 hN hK0)
  have q0 : IntKind.i64.wrap (lv + 1) = lv + 1 := IntWalk.i64_in _ (by omega)
  clear hX hK hK0 hL hL0 hw hw0 hN
  go_enter Tryz.func150, Tryz.ntmps150
  go_wp2_with (first
   | (go_at_call 158; refine (tightness_any t.kind _).mono ?_; rintro e w1 ⟨rfl, rfl⟩)
   | (go_at_call 136; refine hC.out.mono ?_; rintro e w2 ⟨rfl, hb2⟩))
  go_ret
  exact ⟨rfl, hb0.trans (hb2.mono (by simp))⟩
 ·rw [if_neg hm]
  have hC := Lib.hid (hX _ A c lv (by omega) (by omega) hL0 hw0 hN hK0)
  have hmb : decide (tight t.kind < m) = false := by simp; omega
  clear hX hK hK0 hL hL0 hw hw0 hN
  go_enter Tryz.func150, Tryz.ntmps150
  go_wp2_with (first
   | (go_at_call 158; refine (tightness_any t.kind _).mono ?_; rintro e w1 ⟨rfl, rfl⟩)
   | (go_at_call 136; refine hC.out.mono ?_; rintro e w2 ⟨rfl, hb2⟩))
  go_ret
  exact ⟨rfl, hb0.trans (hb2.mono (by simp))⟩
abbrev aggN (k : Int) (x : ByteArray) (n u a : Int) (A : Option Addr) (m c : Nat) : Value := .agg #[.int .i64 k, .string x, .int .i64 n, .int .i64 u, .int .i64 a, .slice A m (m + c)]
abbrev arrN (k : Int) (x : ByteArray) (n u a : Int) (A : Option Addr) (m c : Nat) : Array Value := #[.int .i64 k, .string x, .int .i64 n, .int .i64 u, .int .i64 a, .slice A m (m + c)]
theorem expr_deep2 (t : Nd) (w : World) (A : Option Addr) (c : Nat) (lv : Int) (h12 : 12 < lv) :
  Calls Tryz.prog 136 #[nv t A c, .int .i64 lv] w (BB false w) := by
 go_enter Tryz.func136, Tryz.ntmps136
 go_wp2_with fail
 go_ret
 exact ⟨rfl, (Below.refl w.heap.size w).alloc (Nat.le_refl _) _⟩
theorem expr_num (x : ByteArray) (n u a : Int) (ks : List Nd) (w : World) (A : Option Addr) (c : Nat) (lv : Int) (h12 : ¬ 12 < lv) :
  Calls Tryz.prog 136 #[aggN 13 x n u a A ks.length c, .int .i64 lv] w (BB (btw u 0 4 && vNumber (.mk 13 x n 0 a ks)) w) := by
 have hb0 := (Below.refl w.heap.size w).alloc (Nat.le_refl _) (.cells (arrN 13 x n 0 a A ks.length c) 79)
 have HB := Lib.hid (newBlk w (.cells (arrN 13 x n 0 a A ks.length c) 79) _ rfl)
 have hlv : decide (12 < lv) = false := by simp; omega
 go_enter Tryz.func136, Tryz.ntmps136
 go_wp2_with (first
  | (go_at_call 107; refine (between_any u 0 4 _).mono ?_; rintro e w1 ⟨rfl, hb1⟩; have HW1 := Lib.hid (hb0.trans (hb1.mono (by simp))); have HB1 := Lib.hid ((hb1.block _ (blkLt HB.out)).trans HB.out); obtain ⟨⟨b0, b1, b2, b3, b4, b5⟩, -⟩ := cells6 HB1.out; have hx1 := blkLt HB1.out; clear hb1)
  | (go_at_call 105; refine (validNumber_any (.mk 13 x n 0 a ks) A c _).mono ?_; rintro e w2 ⟨rfl, hb2⟩; have HW2 := Lib.hid (HW1.out.trans (hb2.mono HW1.out.size)); clear hb2))
 all_goals
  go_ret
  refine ⟨?_, by first | exact HW2.out | exact HW1.out⟩
  simp [*]
theorem expr_inp (x : ByteArray) (n u a : Int) (ks : List Nd) (w : World) (A : Option Addr) (c : Nat) (lv : Int) (h12 : ¬ 12 < lv) (hi : inpB x = true) :
  Calls Tryz.prog 136 #[aggN 14 x n u a A ks.length c, .int .i64 lv] w (BB (plainB (.mk 14 ⟨#[]⟩ n u a ks) 14 && ks.isEmpty) w) := by
 have hb0 := (Below.refl w.heap.size w).alloc (Nat.le_refl _) (.cells (arrN 14 ⟨#[]⟩ n u a A ks.length c) 79)
 have HB := Lib.hid (newBlk w (.cells (arrN 14 ⟨#[]⟩ n u a A ks.length c) 79) _ rfl)
 have hlv : decide (12 < lv) = false := by simp; omega
 have he := empty_len ks
 go_enter Tryz.func136, Tryz.ntmps136
 go_wp2_with (first
  | (go_at_call 134; refine (isInput_any x _).mono ?_; rintro e w1 ⟨rfl, rfl⟩)
  | (go_at_call 74; refine (plain_any (.mk 14 ⟨#[]⟩ n u a ks) A c 14 _).mono ?_; rintro e w2 ⟨rfl, hb2⟩; have HW2 := Lib.hid (hb0.trans (hb2.mono (by simp))); have HB2 := Lib.hid ((hb2.block _ (blkLt HB.out)).trans HB.out); obtain ⟨⟨b0, b1, b2, b3, b4, b5⟩, -⟩ := cells6 HB2.out; have hx2 := blkLt HB2.out; clear hb2))
 all_goals
  go_ret
  refine ⟨?_, HW2.out⟩
  simp [*]
theorem expr_name (x : ByteArray) (n u a : Int) (ks : List Nd) (w : World) (A : Option Addr) (c : Nat) (lv : Int) (h12 : ¬ 12 < lv) (hi : inpB x = false) (hL : LaidW w) (hw : 8 < w.heap.size) (hm : x.size ≤ maxLen) :
  Calls Tryz.prog 136 #[aggN 14 x n u a A ks.length c, .int .i64 lv] w (BB (vName (.mk 14 x n u a ks)) w) := by
 have hb0 := (Below.refl w.heap.size w).alloc (Nat.le_refl _) (.cells (arrN 14 x n u a A ks.length c) 79)
 have hV := Lib.hid (validName_any (.mk 14 x n u a ks) A c (w.alloc (.cells (arrN 14 x n u a A ks.length c) 79)) (hL.below hb0 hw) (by simp; omega) hm)
 have hlv : decide (12 < lv) = false := by simp; omega
 clear hL hw
 go_enter Tryz.func136, Tryz.ntmps136
 go_wp2_with (first
  | (go_at_call 134; refine (isInput_any x _).mono ?_; rintro e w1 ⟨rfl, rfl⟩)
  | (go_at_call 90; refine hV.out.mono ?_; rintro e w2 ⟨rfl, hb2⟩))
 all_goals
  go_ret
  exact ⟨rfl, hb0.trans (hb2.mono (by simp))⟩
end Go.Proofs.YtljknappbnoikaaGreatDoor
namespace Go.Proofs.YtljknappbnoikaaGreatDoor
open Go.RowKit
theorem expr_len (t : Nd) (w : World) (A : Option Addr) (c : Nat) (lv : Int) (h12 : ¬ 12 < lv) (h3 : t.kind ≠ 13) (h4 : t.kind ≠ 14) (hl : t.kids.length ≠ 2) :
  Calls Tryz.prog 136 #[nv t A c, .int .i64 lv] w (BB false w) := by
 have hb0 := (Below.refl w.heap.size w).alloc (Nat.le_refl _) (.cells (ndArr t A c) 79)
 have HB := Lib.hid (newBlk w (.cells (ndArr t A c) 79) _ rfl)
 have hlv : decide (12 < lv) = false := by simp; omega
 have hk3 : (t.kind == 13) = false := by simp [h3]
 have hk4 : (t.kind == 14) = false := by simp [h4]
 have hlb : ((t.kids.length : Int) != 2) = true := by simp; omega
 clear hl h3 h4
 go_enter Tryz.func136, Tryz.ntmps136
 go_wp2_with (first
  | (go_at_call 107; refine (between_any t.kind 15 21 _).mono ?_; rintro e w1 ⟨rfl, hb1⟩; have HW1 := Lib.hid (hb0.trans (hb1.mono (by simp))); have HB1 := Lib.hid ((hb1.block _ (blkLt HB.out)).trans HB.out); obtain ⟨⟨b0, b1, b2, b3, b4, b5⟩, -⟩ := cells6 HB1.out; have hx1 := blkLt HB1.out; clear hb1)
  | (go_at_call 74; refine (plain_any t A c t.kind _).mono ?_; rintro e w2 ⟨rfl, hb2⟩; have HW2 := Lib.hid (HW1.out.trans (hb2.mono HW1.out.size)); have HB2 := Lib.hid ((hb2.block _ hx1).trans HB1.out); clear b0 b1 b2 b3 b4 b5; obtain ⟨⟨b0, b1, b2, b3, b4, b5⟩, -⟩ := cells6 HB2.out; have hx2 := blkLt HB2.out; clear hb2))
 all_goals
  go_ret
  exact ⟨rfl, by first | exact HW2.out | exact HW1.out⟩
theorem expr_bin (k : Int) (x : ByteArray) (n u a : Int) (l r : Nd) (hl : XC l) (hr : XC r) (w : World) (A : Option Addr) (c : Nat) (lv : Int) (h1 : 1 ≤ lv) (h12 : ¬ 12 < lv) (h3 : k ≠ 13) (h4 : k ≠ 14)
  (hL : LaidW w) (hw : 8 < w.heap.size) (hNl : NmS l) (hNr : NmS r) (hK : KidsR w (From 0) [l, r] A) :
  Calls Tryz.prog 136 #[aggN k x n u a A 2 c, .int .i64 lv] w (BB (btw k 15 21 && plainB (.mk k x n u a [l, r]) k && (vExpr l (if tight l.kind < least1 k then lv + 1 else lv) && vExpr r (if tight r.kind < least2 k then lv + 1 else lv))) w) := by
 have hb0 := (Below.refl w.heap.size w).alloc (Nat.le_refl _) (.cells (arrN k x n u a A 2 c) 79)
 have HB := Lib.hid (newBlk w (.cells (arrN k x n u a A 2 c) 79) _ rfl)
 have hlv : decide (12 < lv) = false := by simp; omega
 have hk3 : (k == 13) = false := by simp [h3]
 have hk4 : (k == 14) = false := by simp [h4]
 obtain ⟨g, o, rfl⟩ := hK.addr (by simp)
 have hKH := Lib.hid hK
 obtain ⟨R1, hR1⟩ : ∃ R1, vExpr l (if tight l.kind < least1 k then lv + 1 else lv) = R1 := ⟨_, rfl⟩
 obtain ⟨R2, hR2⟩ : ∃ R2, vExpr r (if tight r.kind < least2 k then lv + 1 else lv) = R2 := ⟨_, rfl⟩
 rw [hR1, hR2]
 have hlH := Lib.hid (fun w A c hL hw hK => bb_of hR1 (validOperand_of l hl w A c (least1 k) lv h1 (by omega) hL hw hNl hK))
 have hrH := Lib.hid (fun w A c hL hw hK => bb_of hR2 (validOperand_of r hr w A c (least2 k) lv h1 (by omega) hL hw hNr hK))
 clear hR1 hR2
 have hLH := Lib.hid hL
 clear h3 h4 hK hl hr hL
 go_enter Tryz.func136, Tryz.ntmps136
 go_wp2_with (first
  | (go_at_call 107; refine (between_any k 15 21 _).mono ?_; rintro e w1 ⟨rfl, hb1⟩; have HW1 := Lib.hid (hb0.trans (hb1.mono (by simp))); have HB1 := Lib.hid ((hb1.block _ (blkLt HB.out)).trans HB.out); obtain ⟨⟨b0, b1, b2, b3, b4, b5⟩, -⟩ := cells6 HB1.out; have hx1 := blkLt HB1.out; clear hb1)
  | (go_at_call 74; refine (plain_any (.mk k x n u a [l, r]) (some ⟨g, o, none⟩) c k _).mono ?_; rintro e w2 ⟨rfl, hb2⟩; have HW2 := Lib.hid (HW1.out.trans (hb2.mono HW1.out.size)); have HB2 := Lib.hid ((hb2.block _ hx1).trans HB1.out); clear b0 b1 b2 b3 b4 b5; obtain ⟨⟨b0, b1, b2, b3, b4, b5⟩, -⟩ := cells6 HB2.out; have hx2 := blkLt HB2.out; clear hb2; have hK2 := hKH.out.keep (w' := w2) (P' := From 0) (fun q h1 h2 => ⟨HW2.out.block q h2, h1⟩); obtain ⟨A1, c1, ⟨e0, e1, e2, e3, e4, e5⟩, hK1⟩ := (KidsR.get _ _ _ hK2 0 l rfl).cells; have hK1H := Lib.hid hK1; clear hK1 hK2; simp only [Nat.zero_mul, Nat.add_zero] at e0 e1 e2 e3 e4 e5)
  | (go_at_call 149; refine (least_any k _).mono ?_; rintro e wl ⟨rfl, hwl⟩; have hwl := hwl.symm; subst hwl)
  | (go_at_call_of 150 (Value.int IntKind.i64 (least1 k)); refine (hlH.out w2 A1 c1 (hLH.out.below HW2.out hw) (Nat.lt_of_lt_of_le hw HW2.out.size) hK1H.out).mono ?_; rintro e w3 ⟨rfl, hb3⟩; have HW3 := Lib.hid (HW2.out.trans (hb3.mono HW2.out.size)); have HB3 := Lib.hid ((hb3.block _ hx2).trans HB2.out); clear b0 b1 b2 b3 b4 b5 e0 e1 e2 e3 e4 e5; obtain ⟨⟨b0, b1, b2, b3, b4, b5⟩, -⟩ := cells6 HB3.out; clear hb3; have hK3 := hKH.out.keep (w' := w3) (P' := From 0) (fun q h1 h2 => ⟨HW3.out.block q h2, h1⟩); obtain ⟨A2, c2, ⟨e0, e1, e2, e3, e4, e5⟩, hK2⟩ := (KidsR.get _ _ _ hK3 1 r rfl).cells; have hK2H := Lib.hid hK2; clear hK2 hK3; simp only [Nat.one_mul] at e0 e1 e2 e3 e4 e5)
  | (go_at_call_of 150 (Value.int IntKind.i64 (least2 k)); refine (hrH.out w3 A2 c2 (hLH.out.below HW3.out hw) (Nat.lt_of_lt_of_le hw HW3.out.size) hK2H.out).mono ?_; rintro e w4 ⟨rfl, hb4⟩; have HW4 := Lib.hid (HW3.out.trans (hb4.mono HW3.out.size)); clear hb4))
 all_goals
  go_ret
  refine ⟨?_, by first | exact HW4.out | exact HW3.out | exact HW2.out | exact HW1.out⟩
  simp [*]
theorem expr_step (t : Nd) (ih : ∀ u ∈ t.kids, XC u) : XC t := by
 intro w A c lv h1 h2 hL hw hN hK
 by_cases h12 : 12 < lv
 ·rw [vExpr_deep t lv h12]; exact expr_deep2 t w A c lv h12
 ·obtain ⟨k, x, n, u, a, ks⟩ := t
  by_cases h3 : k = 13
  ·subst h3
   rw [vExpr_num (.mk 13 x n u a ks) lv h12 rfl]
   exact expr_num x n u a ks w A c lv h12
  ·by_cases h4 : k = 14
   ·subst h4
    cases hi : inpB x with
    | true => rw [vExpr_inp (.mk 14 x n u a ks) lv h12 rfl hi]; exact expr_inp x n u a ks w A c lv h12 hi
    | false => rw [vExpr_name (.mk 14 x n u a ks) lv h12 rfl hi]; exact expr_name x n u a ks w A c lv h12 hi hL hw hN.name
   ·rw [vExpr_op (.mk k x n u a ks) lv h12 h3 h4]
    by_cases hl : ks.length = 2
    ·obtain ⟨l, r, rfl⟩ : ∃ l r, ks = [l, r] := by
      match ks, hl with
      | [l, r], _ => exact ⟨l, r, rfl⟩
     have hk := hN.kids
     have hl1 : XC l := ih l (by simp [Nd.kids])
     have hr1 : XC r := ih r (by simp [Nd.kids])
     have hNl : NmS l := hk.mem l (by simp [Nd.kids])
     have hNr : NmS r := hk.mem r (by simp [Nd.kids])
     have e : vOps (Nd.mk k x n u a [l, r]).kids [least1 (Nd.mk k x n u a [l, r]).kind, least2 (Nd.mk k x n u a [l, r]).kind] lv = (vExpr l (if tight l.kind < least1 k then lv + 1 else lv) && vExpr r (if tight r.kind < least2 k then lv + 1 else lv)) := by
      show vOps [l, r] [least1 k, least2 k] lv = _
      rw [vOps, vOps, vOps, Bool.and_true]
     rw [e]
     exact expr_bin k x n u a l r hl1 hr1 w A c lv h1 h12 h3 h4 hL hw hNl hNr hK
    ·have e : vOps (Nd.mk k x n u a ks).kids [least1 (Nd.mk k x n u a ks).kind, least2 (Nd.mk k x n u a ks).kind] lv = false := vOps_len _ _ _ hl
     rw [e, Bool.and_false]
     exact expr_len (.mk k x n u a ks) w A c lv h12 h3 h4 hl
mutual
theorem vexpr_any : ∀ t : Nd, XC t
 | .mk k x n u a kids => expr_step (.mk k x n u a kids) (vexpr_all kids)
theorem vexpr_all : ∀ (ts : List Nd), ∀ u ∈ ts, XC u
 | [], u, hu => by cases hu
 | t :: ts, u, hu => by
  rcases List.mem_cons.1 hu with h | h
  ·rw [h]; exact vexpr_any t
  ·exact vexpr_all ts u h
end
end Go.Proofs.YtljknappbnoikaaGreatDoor
