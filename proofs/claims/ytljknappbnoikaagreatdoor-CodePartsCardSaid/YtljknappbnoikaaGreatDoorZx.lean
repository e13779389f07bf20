/- Texts of one proof: QaJ. -/
import Derived.Test.YtljknappbnoikaaGreatDoorZw
set_option linter.unusedVariables false
set_option linter.unusedSimpArgs false
set_option maxRecDepth 100000
set_option maxHeartbeats 8000000
namespace Go.Proofs.YtljknappbnoikaaGreatDoor
open Go.RowKit
theorem prog_any (ts : List Nd) (A : Option Addr) (c : Nat) (w : World) (hL : LaidW w) (hw : 8 < w.heap.size) (hN : NmSs ts) (hlen : ts.length ≤ maxLen) (hK : KidsR w (From 0) ts A) :
  Calls Tryz.prog 93 #[.slice A ts.length (ts.length + c)] w (BB (vProg ts) w) := by
 have hle := lead_le vVar ts
 by_cases ha : lead vVar ts = ts.length
 ·have e : vProg ts = false := by unfold vProg vRest; rw [ha, List.drop_length]; rfl
  rw [e]
  exact prog_vars ts A (ts.length + c) w hL hw hN hlen (by omega) hK ha
 ·obtain ⟨g, o, rfl⟩ := hK.addr (by omega)
  exact prog_more ts g o (ts.length + c) w hL hw hN hlen (by omega) hK (by omega)
def vP3 (ks : List Nd) : Bool := match ks[3]? with
 | some t => vPolicy t
 | none => false
def vItem (t : Nd) : Bool := namedB t t.kind && (if t.kind = 2 then decide (t.kids.length = 4) && (vNumbers (t.kids.take 3) 3 && vP3 t.kids)
 else if t.kind = 4 then decide (1 ≤ lead vName t.kids) && vNumbers (t.kids.drop (lead vName t.kids)) 1
 else if t.kind = 5 then decide (2 ≤ lead vName t.kids) && vNumbers (t.kids.drop (lead vName t.kids)) 3
 else if t.kind = 6 then vProg t.kids else false)
theorem does_name (ts : List Nd) (w : World) (hL : LaidW w) (hw : 8 < w.heap.size) (hN : NmSs ts) : Does 90 #[] vName ts w :=
 fun t ht wx A c hb hK => validName_any t A c wx (hL.below hb hw) (Nat.lt_of_lt_of_le hw hb.size) (hN.mem t ht).name
theorem numbers_nil (q : Int) (hq : q ≠ 0) (w : World) (A : Option Addr) (c : Nat) : Calls Tryz.prog 91 #[.slice A 0 c, .int .i64 q] w (BB false w) := by
 have h := validNumbers_any [] A c q w trivial (by unfold maxLen; simp)
 have e : vNumbers [] q = false := by unfold vNumbers; simp; intro h; exact absurd h.symm hq
 rw [e] at h
 exact h
theorem item_no (k : Int) (x : ByteArray) (n u a : Int) (ks : List Nd) (w : World) (A : Option Addr) (c : Nat) (hL : LaidW w) (hw : 8 < w.heap.size) (hm : x.size ≤ maxLen) (hlen : ks.length ≤ maxLen) (hNs : NmSs ks) (hK : KidsR w (From 0) ks A) (hn : namedB (.mk k x n u a ks) k = false) :
  Calls Tryz.prog 76 #[aggN k x n u a A ks.length c] w (BB (false) w) := by
 have HW0 := Lib.hid ((Below.refl w.heap.size w).alloc (Nat.le_refl _) (.cells (arrN k x n u a A ks.length c) 79))
 have HB0 := Lib.hid (newBlk w (.cells (arrN k x n u a A ks.length c) 79) _ rfl)
 have HN := Lib.hid (bb_of hn (show Calls Tryz.prog 89 #[aggN k x n u a A ks.length c, .int .i64 k] (w.alloc (.cells (arrN k x n u a A ks.length c) 79)) (BB (namedB (.mk k x n u a ks) k) (w.alloc (.cells (arrN k x n u a A ks.length c) 79))) from named_any (.mk k x n u a ks) A c k (w.alloc (.cells (arrN k x n u a A ks.length c) 79)) (hL.below HW0.out hw) (by simp; omega) hm))
 have HLd := Lib.hid (fun wx (hb : Below w.heap.size w wx) => (show Calls Tryz.prog 88 #[.slice A ks.length (ks.length + c), .func (.func 90) #[] #[]] wx (NN (lead vName ks) wx) from lead_validName vName ks A (ks.length + c) wx (KidsR.keep (fun q h1 h2 => ⟨hb.block q h2, h1⟩) _ _ hK) (does_name ks wx (hL.below hb hw) (Nat.lt_of_lt_of_le hw hb.size) hNs) hlen))
 clear hL hK hNs HLd
 go_enter Tryz.func76, Tryz.ntmps76
 go_wp2_with (first
  | (go_at_call 89; refine (HN.out).mono ?_; rintro e w1 ⟨rfl, hb1⟩; have HW1 := Lib.hid (HW0.out.trans (hb1.mono HW0.out.size)); have HB1 := Lib.hid ((hb1.block _ (blkLt HB0.out)).trans HB0.out); obtain ⟨⟨b0, b1, b2, b3, b4, b5⟩, -⟩ := cells6 HB1.out; have hx1 := blkLt HB1.out; clear hb1))
 all_goals
  go_ret
  exact ⟨rfl, by first | exact HW1.out⟩
theorem item_other (k : Int) (x : ByteArray) (n u a : Int) (ks : List Nd) (w : World) (A : Option Addr) (c : Nat) (hL : LaidW w) (hw : 8 < w.heap.size) (hm : x.size ≤ maxLen) (hlen : ks.length ≤ maxLen) (hNs : NmSs ks) (hK : KidsR w (From 0) ks A) (hn : namedB (.mk k x n u a ks) k = true) (hk : k ≠ 2 ∧ k ≠ 4 ∧ k ≠ 5 ∧ k ≠ 6) :
  Calls Tryz.prog 76 #[aggN k x n u a A ks.length c] w (BB (false) w) := by
 have HW0 := Lib.hid ((Below.refl w.heap.size w).alloc (Nat.le_refl _) (.cells (arrN k x n u a A ks.length c) 79))
 have HB0 := Lib.hid (newBlk w (.cells (arrN k x n u a A ks.length c) 79) _ rfl)
 have HN := Lib.hid (bb_of hn (show Calls Tryz.prog 89 #[aggN k x n u a A ks.length c, .int .i64 k] (w.alloc (.cells (arrN k x n u a A ks.length c) 79)) (BB (namedB (.mk k x n u a ks) k) (w.alloc (.cells (arrN k x n u a A ks.length c) 79))) from named_any (.mk k x n u a ks) A c k (w.alloc (.cells (arrN k x n u a A ks.length c) 79)) (hL.below HW0.out hw) (by simp; omega) hm))
 have HLd := Lib.hid (fun wx (hb : Below w.heap.size w wx) => (show Calls Tryz.prog 88 #[.slice A ks.length (ks.length + c), .func (.func 90) #[] #[]] wx (NN (lead vName ks) wx) from lead_validName vName ks A (ks.length + c) wx (KidsR.keep (fun q h1 h2 => ⟨hb.block q h2, h1⟩) _ _ hK) (does_name ks wx (hL.below hb hw) (Nat.lt_of_lt_of_le hw hb.size) hNs) hlen))
 have h2 : (k == 2) = false := by simp; omega
 have h4 : (k == 4) = false := by simp; omega
 have h5 : (k == 5) = false := by simp; omega
 have h6 : (k == 6) = false := by simp; omega
 clear hL hK hNs hk
 go_enter Tryz.func76, Tryz.ntmps76
 go_wp2_with (first
  | (go_at_call 89; refine (HN.out).mono ?_; rintro e w1 ⟨rfl, hb1⟩; have HW1 := Lib.hid (HW0.out.trans (hb1.mono HW0.out.size)); have HB1 := Lib.hid ((hb1.block _ (blkLt HB0.out)).trans HB0.out); obtain ⟨⟨b0, b1, b2, b3, b4, b5⟩, -⟩ := cells6 HB1.out; have hx1 := blkLt HB1.out; clear hb1)
  | (go_at_call 88; refine (HLd.out _ HW1.out).mono ?_; rintro e w2 ⟨rfl, hb2⟩; have HW2 := Lib.hid (HW1.out.trans (hb2.mono HW1.out.size)); have HB2 := Lib.hid ((hb2.block _ (blkLt HB1.out)).trans HB1.out); clear b0 b1 b2 b3 b4 b5; obtain ⟨⟨b0, b1, b2, b3, b4, b5⟩, -⟩ := cells6 HB2.out; have hx2 := blkLt HB2.out; clear hb2))
 all_goals
  go_ret
  exact ⟨rfl, by first | exact HW2.out⟩
theorem item_prog (x : ByteArray) (n u a : Int) (ks : List Nd) (w : World) (A : Option Addr) (c : Nat) (hL : LaidW w) (hw : 8 < w.heap.size) (hm : x.size ≤ maxLen) (hlen : ks.length ≤ maxLen) (hNs : NmSs ks) (hK : KidsR w (From 0) ks A) (hn : namedB (.mk 6 x n u a ks) 6 = true) :
  Calls Tryz.prog 76 #[aggN 6 x n u a A ks.length c] w (BB (vProg ks) w) := by
 have HW0 := Lib.hid ((Below.refl w.heap.size w).alloc (Nat.le_refl _) (.cells (arrN 6 x n u a A ks.length c) 79))
 have HB0 := Lib.hid (newBlk w (.cells (arrN 6 x n u a A ks.length c) 79) _ rfl)
 have HN := Lib.hid (bb_of hn (show Calls Tryz.prog 89 #[aggN 6 x n u a A ks.length c, .int .i64 6] (w.alloc (.cells (arrN 6 x n u a A ks.length c) 79)) (BB (namedB (.mk 6 x n u a ks) 6) (w.alloc (.cells (arrN 6 x n u a A ks.length c) 79))) from named_any (.mk 6 x n u a ks) A c 6 (w.alloc (.cells (arrN 6 x n u a A ks.length c) 79)) (hL.below HW0.out hw) (by simp; omega) hm))
 have HLd := Lib.hid (fun wx (hb : Below w.heap.size w wx) => (show Calls Tryz.prog 88 #[.slice A ks.length (ks.length + c), .func (.func 90) #[] #[]] wx (NN (lead vName ks) wx) from lead_validName vName ks A (ks.length + c) wx (KidsR.keep (fun q h1 h2 => ⟨hb.block q h2, h1⟩) _ _ hK) (does_name ks wx (hL.below hb hw) (Nat.lt_of_lt_of_le hw hb.size) hNs) hlen))
 have HP := Lib.hid (fun wx (hb : Below w.heap.size w wx) => prog_any ks A c wx (hL.below hb hw) (Nat.lt_of_lt_of_le hw hb.size) hNs hlen (KidsR.keep (fun q h1 h2 => ⟨hb.block q h2, h1⟩) _ _ hK))
 clear hL hK hNs
 go_enter Tryz.func76, Tryz.ntmps76
 go_wp2_with (first
  | (go_at_call 89; refine (HN.out).mono ?_; rintro e w1 ⟨rfl, hb1⟩; have HW1 := Lib.hid (HW0.out.trans (hb1.mono HW0.out.size)); have HB1 := Lib.hid ((hb1.block _ (blkLt HB0.out)).trans HB0.out); obtain ⟨⟨b0, b1, b2, b3, b4, b5⟩, -⟩ := cells6 HB1.out; have hx1 := blkLt HB1.out; clear hb1)
  | (go_at_call 88; refine (HLd.out _ HW1.out).mono ?_; rintro e w2 ⟨rfl, hb2⟩; have HW2 := Lib.hid (HW1.out.trans (hb2.mono HW1.out.size)); have HB2 := Lib.hid ((hb2.block _ (blkLt HB1.out)).trans HB1.out); clear b0 b1 b2 b3 b4 b5; obtain ⟨⟨b0, b1, b2, b3, b4, b5⟩, -⟩ := cells6 HB2.out; have hx2 := blkLt HB2.out; clear hb2)
  | (go_at_call 93; refine (HP.out _ HW2.out).mono ?_; rintro e w3 ⟨rfl, hb3⟩; have HW3 := Lib.hid (HW2.out.trans (hb3.mono HW2.out.size)); clear hb3))
 all_goals
  go_ret
  exact ⟨rfl, by first | exact HW3.out⟩
theorem item_link_len (x : ByteArray) (n u a : Int) (ks : List Nd) (w : World) (A : Option Addr) (c : Nat) (hL : LaidW w) (hw : 8 < w.heap.size) (hm : x.size ≤ maxLen) (hlen : ks.length ≤ maxLen) (hNs : NmSs ks) (hK : KidsR w (From 0) ks A) (hn : namedB (.mk 2 x n u a ks) 2 = true) (hl : ks.length ≠ 4) :
  Calls Tryz.prog 76 #[aggN 2 x n u a A ks.length c] w (BB (false) w) := by
 have HW0 := Lib.hid ((Below.refl w.heap.size w).alloc (Nat.le_refl _) (.cells (arrN 2 x n u a A ks.length c) 79))
 have HB0 := Lib.hid (newBlk w (.cells (arrN 2 x n u a A ks.length c) 79) _ rfl)
 have HN := Lib.hid (bb_of hn (show Calls Tryz.prog 89 #[aggN 2 x n u a A ks.length c, .int .i64 2] (w.alloc (.cells (arrN 2 x n u a A ks.length c) 79)) (BB (namedB (.mk 2 x n u a ks) 2) (w.alloc (.cells (arrN 2 x n u a A ks.length c) 79))) from named_any (.mk 2 x n u a ks) A c 2 (w.alloc (.cells (arrN 2 x n u a A ks.length c) 79)) (hL.below HW0.out hw) (by simp; omega) hm))
 have HLd := Lib.hid (fun wx (hb : Below w.heap.size w wx) => (show Calls Tryz.prog 88 #[.slice A ks.length (ks.length + c), .func (.func 90) #[] #[]] wx (NN (lead vName ks) wx) from lead_validName vName ks A (ks.length + c) wx (KidsR.keep (fun q h1 h2 => ⟨hb.block q h2, h1⟩) _ _ hK) (does_name ks wx (hL.below hb hw) (Nat.lt_of_lt_of_le hw hb.size) hNs) hlen))
 have hlb : ((ks.length : Int) == 4) = false := by simp; omega
 clear hL hK hNs hl
 go_enter Tryz.func76, Tryz.ntmps76
 go_wp2_with (first
  | (go_at_call 89; refine (HN.out).mono ?_; rintro e w1 ⟨rfl, hb1⟩; have HW1 := Lib.hid (HW0.out.trans (hb1.mono HW0.out.size)); have HB1 := Lib.hid ((hb1.block _ (blkLt HB0.out)).trans HB0.out); obtain ⟨⟨b0, b1, b2, b3, b4, b5⟩, -⟩ := cells6 HB1.out; have hx1 := blkLt HB1.out; clear hb1)
  | (go_at_call 88; refine (HLd.out _ HW1.out).mono ?_; rintro e w2 ⟨rfl, hb2⟩; have HW2 := Lib.hid (HW1.out.trans (hb2.mono HW1.out.size)); have HB2 := Lib.hid ((hb2.block _ (blkLt HB1.out)).trans HB1.out); clear b0 b1 b2 b3 b4 b5; obtain ⟨⟨b0, b1, b2, b3, b4, b5⟩, -⟩ := cells6 HB2.out; have hx2 := blkLt HB2.out; clear hb2))
 all_goals
  go_ret
  exact ⟨rfl, by first | exact HW2.out⟩
theorem item_link (x : ByteArray) (n u a : Int) (p q r s : Nd) (w : World) (g o : Nat) (c : Nat) (hL : LaidW w) (hw : 8 < w.heap.size) (hm : x.size ≤ maxLen) (hlen : [p, q, r, s].length ≤ maxLen) (hNs : NmSs [p, q, r, s]) (hK : KidsR w (From 0) [p, q, r, s] (some ⟨g, o, none⟩)) (hn : namedB (.mk 2 x n u a [p, q, r, s]) 2 = true) :
  Calls Tryz.prog 76 #[aggN 2 x n u a (some ⟨g, o, none⟩) 4 c] w (BB (vNumbers [p, q, r] 3 && vPolicy s) w) := by
 have HW0 := Lib.hid ((Below.refl w.heap.size w).alloc (Nat.le_refl _) (.cells (arrN 2 x n u a (some ⟨g, o, none⟩) 4 c) 79))
 have HB0 := Lib.hid (newBlk w (.cells (arrN 2 x n u a (some ⟨g, o, none⟩) 4 c) 79) _ rfl)
 have HN := Lib.hid (bb_of hn (show Calls Tryz.prog 89 #[aggN 2 x n u a (some ⟨g, o, none⟩) 4 c, .int .i64 2] (w.alloc (.cells (arrN 2 x n u a (some ⟨g, o, none⟩) 4 c) 79)) (BB (namedB (.mk 2 x n u a [p, q, r, s]) 2) (w.alloc (.cells (arrN 2 x n u a (some ⟨g, o, none⟩) 4 c) 79))) from named_any (.mk 2 x n u a [p, q, r, s]) (some ⟨g, o, none⟩) c 2 (w.alloc (.cells (arrN 2 x n u a (some ⟨g, o, none⟩) 4 c) 79)) (hL.below HW0.out hw) (by simp; omega) hm))
 have HLd := Lib.hid (fun wx (hb : Below w.heap.size w wx) => (show Calls Tryz.prog 88 #[.slice (some ⟨g, o, none⟩) 4 (4 + c), .func (.func 90) #[] #[]] wx (NN (lead vName [p, q, r, s]) wx) from lead_validName vName [p, q, r, s] (some ⟨g, o, none⟩) (4 + c) wx (KidsR.keep (fun q h1 h2 => ⟨hb.block q h2, h1⟩) _ _ hK) (does_name [p, q, r, s] wx (hL.below hb hw) (Nat.lt_of_lt_of_le hw hb.size) hNs) hlen))
 have hk3 : KidsR w (From 0) [p, q, r] (some ⟨g, o, none⟩) := by
  unfold KidsR at hK ⊢
  obtain ⟨g1, o1, e1, h1, h2, hK⟩ := hK
  refine ⟨g1, o1, e1, h1, h2, ?_⟩
  unfold KidsR at hK ⊢
  obtain ⟨g1, o1, e1, h1, h2, hK⟩ := hK
  refine ⟨g1, o1, e1, h1, h2, ?_⟩
  unfold KidsR at hK ⊢
  obtain ⟨g1, o1, e1, h1, h2, hK⟩ := hK
  exact ⟨g1, o1, e1, h1, h2, trivial⟩
 have HV3 := Lib.hid (fun wx (hb : Below w.heap.size w wx) => (show Calls Tryz.prog 91 #[.slice (some ⟨g, o, none⟩) 3 (4 + c), .int .i64 3] wx (BB (vNumbers [p, q, r] 3) wx) from validNumbers_any [p, q, r] (some ⟨g, o, none⟩) (4 + c) 3 wx (KidsR.keep (fun q h1 h2 => ⟨hb.block q h2, h1⟩) _ _ hk3) (by unfold maxLen; simp)))
 have HK := Lib.hid (fun wx (hb : Below w.heap.size w wx) => hK.keep (w' := wx) (P' := From 0) (fun q h1 h2 => ⟨hb.block q h2, h1⟩))
 have hNsl := Lib.hid (hNs.mem s (by simp)).len
 clear hL hK hNs hk3
 go_enter Tryz.func76, Tryz.ntmps76
 go_wp2_with (first
  | (go_at_call 89; refine (HN.out).mono ?_; rintro e w1 ⟨rfl, hb1⟩; have HW1 := Lib.hid (HW0.out.trans (hb1.mono HW0.out.size)); have HB1 := Lib.hid ((hb1.block _ (blkLt HB0.out)).trans HB0.out); obtain ⟨⟨b0, b1, b2, b3, b4, b5⟩, -⟩ := cells6 HB1.out; have hx1 := blkLt HB1.out; clear hb1)
  | (go_at_call 88; refine (HLd.out _ HW1.out).mono ?_; rintro e w2 ⟨rfl, hb2⟩; have HW2 := Lib.hid (HW1.out.trans (hb2.mono HW1.out.size)); have HB2 := Lib.hid ((hb2.block _ (blkLt HB1.out)).trans HB1.out); clear b0 b1 b2 b3 b4 b5; obtain ⟨⟨b0, b1, b2, b3, b4, b5⟩, -⟩ := cells6 HB2.out; have hx2 := blkLt HB2.out; clear hb2)
  | (go_at_call 91; refine (HV3.out w2 HW2.out).mono ?_; rintro e w3 ⟨rfl, hb3⟩; have HW3 := Lib.hid (HW2.out.trans (hb3.mono HW2.out.size)); have HB3 := Lib.hid ((hb3.block _ (blkLt HB2.out)).trans HB2.out); clear b0 b1 b2 b3 b4 b5; obtain ⟨⟨b0, b1, b2, b3, b4, b5⟩, -⟩ := cells6 HB3.out; have hx3 := blkLt HB3.out; have hKi := HK.out w3 HW3.out; obtain ⟨A0, c0, ⟨e0, e1c, e2c, e3, e4, e5⟩, hK0⟩ := (KidsR.get _ _ _ hKi 3 _ rfl).cells; have hK0H := Lib.hid hK0; clear hKi hK0; simp only [show (3 : Nat) * 6 = 18 from rfl] at e0 e1c e2c e3 e4 e5; clear hb3)
  | (go_at_call 92; refine (validPolicy_any s A0 c0 _ hK0H.out hNsl.out).mono ?_; rintro e w4 ⟨rfl, hb4⟩; have HW4 := Lib.hid (HW3.out.trans (hb4.mono HW3.out.size)); clear hb4))
 all_goals
  go_ret
  refine ⟨?_, by first | exact HW4.out | exact HW3.out | exact HW2.out⟩
  simp [*]
theorem item_few4 (x : ByteArray) (n u a : Int) (ks : List Nd) (w : World) (A : Option Addr) (c : Nat) (hL : LaidW w) (hw : 8 < w.heap.size) (hm : x.size ≤ maxLen) (hlen : ks.length ≤ maxLen) (hNs : NmSs ks) (hK : KidsR w (From 0) ks A) (hn : namedB (.mk 4 x n u a ks) 4 = true) (hf : ¬ 1 ≤ lead vName ks) :
  Calls Tryz.prog 76 #[aggN 4 x n u a A ks.length c] w (BB (false) w) := by
 have HW0 := Lib.hid ((Below.refl w.heap.size w).alloc (Nat.le_refl _) (.cells (arrN 4 x n u a A ks.length c) 79))
 have HB0 := Lib.hid (newBlk w (.cells (arrN 4 x n u a A ks.length c) 79) _ rfl)
 have HN := Lib.hid (bb_of hn (show Calls Tryz.prog 89 #[aggN 4 x n u a A ks.length c, .int .i64 4] (w.alloc (.cells (arrN 4 x n u a A ks.length c) 79)) (BB (namedB (.mk 4 x n u a ks) 4) (w.alloc (.cells (arrN 4 x n u a A ks.length c) 79))) from named_any (.mk 4 x n u a ks) A c 4 (w.alloc (.cells (arrN 4 x n u a A ks.length c) 79)) (hL.below HW0.out hw) (by simp; omega) hm))
 have HLd := Lib.hid (fun wx (hb : Below w.heap.size w wx) => (show Calls Tryz.prog 88 #[.slice A ks.length (ks.length + c), .func (.func 90) #[] #[]] wx (NN (lead vName ks) wx) from lead_validName vName ks A (ks.length + c) wx (KidsR.keep (fun q h1 h2 => ⟨hb.block q h2, h1⟩) _ _ hK) (does_name ks wx (hL.below hb hw) (Nat.lt_of_lt_of_le hw hb.size) hNs) hlen))
 have hl := lead_le vName ks
 generalize lead vName ks = l at *
 have hlb : decide ((1 : Int) ≤ (l : Int)) = false := by simp; omega
 clear hL hK hNs hf
 go_enter Tryz.func76, Tryz.ntmps76
 go_wp2_with (first
  | (go_at_call 89; refine (HN.out).mono ?_; rintro e w1 ⟨rfl, hb1⟩; have HW1 := Lib.hid (HW0.out.trans (hb1.mono HW0.out.size)); have HB1 := Lib.hid ((hb1.block _ (blkLt HB0.out)).trans HB0.out); obtain ⟨⟨b0, b1, b2, b3, b4, b5⟩, -⟩ := cells6 HB1.out; have hx1 := blkLt HB1.out; clear hb1)
  | (go_at_call 88; refine (HLd.out _ HW1.out).mono ?_; rintro e w2 ⟨rfl, hb2⟩; have HW2 := Lib.hid (HW1.out.trans (hb2.mono HW1.out.size)); have HB2 := Lib.hid ((hb2.block _ (blkLt HB1.out)).trans HB1.out); clear b0 b1 b2 b3 b4 b5; obtain ⟨⟨b0, b1, b2, b3, b4, b5⟩, -⟩ := cells6 HB2.out; have hx2 := blkLt HB2.out; clear hb2))
 all_goals
  go_ret
  exact ⟨rfl, by first | exact HW2.out⟩
theorem item_all4 (x : ByteArray) (n u a : Int) (ks : List Nd) (w : World) (A : Option Addr) (c : Nat) (hL : LaidW w) (hw : 8 < w.heap.size) (hm : x.size ≤ maxLen) (hlen : ks.length ≤ maxLen) (hNs : NmSs ks) (hK : KidsR w (From 0) ks A) (hn : namedB (.mk 4 x n u a ks) 4 = true) (hf : 1 ≤ lead vName ks) (hall : lead vName ks = ks.length) :
  Calls Tryz.prog 76 #[aggN 4 x n u a A ks.length c] w (BB (false) w) := by
 have HW0 := Lib.hid ((Below.refl w.heap.size w).alloc (Nat.le_refl _) (.cells (arrN 4 x n u a A ks.length c) 79))
 have HB0 := Lib.hid (newBlk w (.cells (arrN 4 x n u a A ks.length c) 79) _ rfl)
 have HN := Lib.hid (bb_of hn (show Calls Tryz.prog 89 #[aggN 4 x n u a A ks.length c, .int .i64 4] (w.alloc (.cells (arrN 4 x n u a A ks.length c) 79)) (BB (namedB (.mk 4 x n u a ks) 4) (w.alloc (.cells (arrN 4 x n u a A ks.length c) 79))) from named_any (.mk 4 x n u a ks) A c 4 (w.alloc (.cells (arrN 4 x n u a A ks.length c) 79)) (hL.below HW0.out hw) (by simp; omega) hm))
 have HLd := Lib.hid (fun wx (hb : Below w.heap.size w wx) => (show Calls Tryz.prog 88 #[.slice A ks.length (ks.length + c), .func (.func 90) #[] #[]] wx (NN (lead vName ks) wx) from lead_validName vName ks A (ks.length + c) wx (KidsR.keep (fun q h1 h2 => ⟨hb.block q h2, h1⟩) _ _ hK) (does_name ks wx (hL.below hb hw) (Nat.lt_of_lt_of_le hw hb.size) hNs) hlen))
 rw [hall] at HLd
 have hq : (1 : Int) ≠ 0 := by decide
 have hlb : (1 : Int) ≤ (ks.length : Int) := by omega
 clear hL hK hNs hall hf
 unfold maxLen at hlen
 generalize ks.length = N at *
 by_cases hc : c = 0
 ·subst hc
  simp only [aggN, arrN, Nat.add_zero] at HW0 HB0 HN HLd ⊢
  go_enter Tryz.func76, Tryz.ntmps76
  go_wp2_with (first
   | (go_at_call 89; refine (HN.out).mono ?_; rintro e w1 ⟨rfl, hb1⟩; have HW1 := Lib.hid (HW0.out.trans (hb1.mono HW0.out.size)); have HB1 := Lib.hid ((hb1.block _ (blkLt HB0.out)).trans HB0.out); obtain ⟨⟨b0, b1, b2, b3, b4, b5⟩, -⟩ := cells6 HB1.out; have hx1 := blkLt HB1.out; clear hb1)
   | (go_at_call 88; refine (HLd.out _ HW1.out).mono ?_; rintro e w2 ⟨rfl, hb2⟩; have HW2 := Lib.hid (HW1.out.trans (hb2.mono HW1.out.size)); have HB2 := Lib.hid ((hb2.block _ (blkLt HB1.out)).trans HB1.out); clear b0 b1 b2 b3 b4 b5; obtain ⟨⟨b0, b1, b2, b3, b4, b5⟩, -⟩ := cells6 HB2.out; have hx2 := blkLt HB2.out; clear hb2)
   | (go_at_call 91; refine (numbers_nil 1 hq _ _ _).mono ?_; rintro e w3 ⟨rfl, hb3⟩; have HW3 := Lib.hid (HW2.out.trans (hb3.mono HW2.out.size)); clear hb3))
  all_goals
   go_ret
   exact ⟨rfl, HW3.out⟩
 ·have hc2 : ¬ N + c = N := by omega
  go_enter Tryz.func76, Tryz.ntmps76
  go_wp2_with (first
   | (go_at_call 89; refine (HN.out).mono ?_; rintro e w1 ⟨rfl, hb1⟩; have HW1 := Lib.hid (HW0.out.trans (hb1.mono HW0.out.size)); have HB1 := Lib.hid ((hb1.block _ (blkLt HB0.out)).trans HB0.out); obtain ⟨⟨b0, b1, b2, b3, b4, b5⟩, -⟩ := cells6 HB1.out; have hx1 := blkLt HB1.out; clear hb1)
   | (go_at_call 88; refine (HLd.out _ HW1.out).mono ?_; rintro e w2 ⟨rfl, hb2⟩; have HW2 := Lib.hid (HW1.out.trans (hb2.mono HW1.out.size)); have HB2 := Lib.hid ((hb2.block _ (blkLt HB1.out)).trans HB1.out); clear b0 b1 b2 b3 b4 b5; obtain ⟨⟨b0, b1, b2, b3, b4, b5⟩, -⟩ := cells6 HB2.out; have hx2 := blkLt HB2.out; clear hb2)
   | (go_at_call 91; refine (numbers_nil 1 hq _ _ _).mono ?_; rintro e w3 ⟨rfl, hb3⟩; have HW3 := Lib.hid (HW2.out.trans (hb3.mono HW2.out.size)); clear hb3))
  all_goals
   go_ret
   exact ⟨rfl, HW3.out⟩
theorem item_more4 (x : ByteArray) (n u a : Int) (ks : List Nd) (w : World) (g o : Nat) (c : Nat) (hL : LaidW w) (hw : 8 < w.heap.size) (hm : x.size ≤ maxLen) (hlen : ks.length ≤ maxLen) (hNs : NmSs ks) (hK : KidsR w (From 0) ks (some ⟨g, o, none⟩)) (hn : namedB (.mk 4 x n u a ks) 4 = true) (hf : 1 ≤ lead vName ks) (hlt : lead vName ks < ks.length) :
  Calls Tryz.prog 76 #[aggN 4 x n u a (some ⟨g, o, none⟩) ks.length c] w (BB (vNumbers (ks.drop (lead vName ks)) 1) w) := by
 have HW0 := Lib.hid ((Below.refl w.heap.size w).alloc (Nat.le_refl _) (.cells (arrN 4 x n u a (some ⟨g, o, none⟩) ks.length c) 79))
 have HB0 := Lib.hid (newBlk w (.cells (arrN 4 x n u a (some ⟨g, o, none⟩) ks.length c) 79) _ rfl)
 have HN := Lib.hid (bb_of hn (show Calls Tryz.prog 89 #[aggN 4 x n u a (some ⟨g, o, none⟩) ks.length c, .int .i64 4] (w.alloc (.cells (arrN 4 x n u a (some ⟨g, o, none⟩) ks.length c) 79)) (BB (namedB (.mk 4 x n u a ks) 4) (w.alloc (.cells (arrN 4 x n u a (some ⟨g, o, none⟩) ks.length c) 79))) from named_any (.mk 4 x n u a ks) (some ⟨g, o, none⟩) c 4 (w.alloc (.cells (arrN 4 x n u a (some ⟨g, o, none⟩) ks.length c) 79)) (hL.below HW0.out hw) (by simp; omega) hm))
 have HLd := Lib.hid (fun wx (hb : Below w.heap.size w wx) => (show Calls Tryz.prog 88 #[.slice (some ⟨g, o, none⟩) ks.length (ks.length + c), .func (.func 90) #[] #[]] wx (NN (lead vName ks) wx) from lead_validName vName ks (some ⟨g, o, none⟩) (ks.length + c) wx (KidsR.keep (fun q h1 h2 => ⟨hb.block q h2, h1⟩) _ _ hK) (does_name ks wx (hL.below hb hw) (Nat.lt_of_lt_of_le hw hb.size) hNs) hlen))
 have hKd := hK.drop _ _ _ _ hlt
 have hld : (ks.drop (lead vName ks)).length = ks.length - lead vName ks := List.length_drop
 have HVn := Lib.hid (fun wx (hb : Below w.heap.size w wx) => validNumbers_any (ks.drop (lead vName ks)) (some ⟨g, o + lead vName ks * 6, none⟩) (ks.length + c - lead vName ks) 1 wx (KidsR.keep (fun q h1 h2 => ⟨hb.block q h2, h1⟩) _ _ hKd) (by rw [hld]; omega))
 rw [hld] at HVn
 generalize vNumbers (ks.drop (lead vName ks)) 1 = R at *
 clear hKd hld hL hK hNs
 generalize lead vName ks = l at *
 have hlb : (1 : Int) ≤ (l : Int) := by omega
 have hlb2 : l ≤ ks.length := by omega
 have hcc : ¬ ks.length + c = l := by omega
 unfold maxLen at hlen
 go_enter Tryz.func76, Tryz.ntmps76
 go_wp2_with (first
  | (go_at_call 89; refine (HN.out).mono ?_; rintro e w1 ⟨rfl, hb1⟩; have HW1 := Lib.hid (HW0.out.trans (hb1.mono HW0.out.size)); have HB1 := Lib.hid ((hb1.block _ (blkLt HB0.out)).trans HB0.out); obtain ⟨⟨b0, b1, b2, b3, b4, b5⟩, -⟩ := cells6 HB1.out; have hx1 := blkLt HB1.out; clear hb1)
  | (go_at_call 88; refine (HLd.out _ HW1.out).mono ?_; rintro e w2 ⟨rfl, hb2⟩; have HW2 := Lib.hid (HW1.out.trans (hb2.mono HW1.out.size)); have HB2 := Lib.hid ((hb2.block _ (blkLt HB1.out)).trans HB1.out); clear b0 b1 b2 b3 b4 b5; obtain ⟨⟨b0, b1, b2, b3, b4, b5⟩, -⟩ := cells6 HB2.out; have hx2 := blkLt HB2.out; clear hb2)
  | (go_at_call 91; refine (HVn.out w2 HW2.out).mono ?_; rintro e w3 ⟨rfl, hb3⟩; have HW3 := Lib.hid (HW2.out.trans (hb3.mono HW2.out.size)); clear hb3))
 all_goals
  go_ret
  exact ⟨rfl, HW3.out⟩
theorem item_few5 (x : ByteArray) (n u a : Int) (ks : List Nd) (w : World) (A : Option Addr) (c : Nat) (hL : LaidW w) (hw : 8 < w.heap.size) (hm : x.size ≤ maxLen) (hlen : ks.length ≤ maxLen) (hNs : NmSs ks) (hK : KidsR w (From 0) ks A) (hn : namedB (.mk 5 x n u a ks) 5 = true) (hf : ¬ 2 ≤ lead vName ks) :
  Calls Tryz.prog 76 #[aggN 5 x n u a A ks.length c] w (BB (false) w) := by
 have HW0 := Lib.hid ((Below.refl w.heap.size w).alloc (Nat.le_refl _) (.cells (arrN 5 x n u a A ks.length c) 79))
 have HB0 := Lib.hid (newBlk w (.cells (arrN 5 x n u a A ks.length c) 79) _ rfl)
 have HN := Lib.hid (bb_of hn (show Calls Tryz.prog 89 #[aggN 5 x n u a A ks.length c, .int .i64 5] (w.alloc (.cells (arrN 5 x n u a A ks.length c) 79)) (BB (namedB (.mk 5 x n u a ks) 5) (w.alloc (.cells (arrN 5 x n u a A ks.length c) 79))) from named_any (.mk 5 x n u a ks) A c 5 (w.alloc (.cells (arrN 5 x n u a A ks.length c) 79)) (hL.below HW0.out hw) (by simp; omega) hm))
 have HLd := Lib.hid (fun wx (hb : Below w.heap.size w wx) => (show Calls Tryz.prog 88 #[.slice A ks.length (ks.length + c), .func (.func 90) #[] #[]] wx (NN (lead vName ks) wx) from lead_validName vName ks A (ks.length + c) wx (KidsR.keep (fun q h1 h2 => ⟨hb.block q h2, h1⟩) _ _ hK) (does_name ks wx (hL.below hb hw) (Nat.lt_of_lt_of_le hw hb.size) hNs) hlen))
 have hl := lead_le vName ks
 generalize lead vName ks = l at *
 have hlb : decide ((2 : Int) ≤ (l : Int)) = false := by simp; omega
 clear hL hK hNs hf
 go_enter Tryz.func76, Tryz.ntmps76
 go_wp2_with (first
  | (go_at_call 89; refine (HN.out).mono ?_; rintro e w1 ⟨rfl, hb1⟩; have HW1 := Lib.hid (HW0.out.trans (hb1.mono HW0.out.size)); have HB1 := Lib.hid ((hb1.block _ (blkLt HB0.out)).trans HB0.out); obtain ⟨⟨b0, b1, b2, b3, b4, b5⟩, -⟩ := cells6 HB1.out; have hx1 := blkLt HB1.out; clear hb1)
  | (go_at_call 88; refine (HLd.out _ HW1.out).mono ?_; rintro e w2 ⟨rfl, hb2⟩; have HW2 := Lib.hid (HW1.out.trans (hb2.mono HW1.out.size)); have HB2 := Lib.hid ((hb2.block _ (blkLt HB1.out)).trans HB1.out); clear b0 b1 b2 b3 b4 b5; obtain ⟨⟨b0, b1, b2, b3, b4, b5⟩, -⟩ := cells6 HB2.out; have hx2 := blkLt HB2.out; clear hb2))
 all_goals
  go_ret
  exact ⟨rfl, by first | exact HW2.out⟩
theorem item_all5 (x : ByteArray) (n u a : Int) (ks : List Nd) (w : World) (A : Option Addr) (c : Nat) (hL : LaidW w) (hw : 8 < w.heap.size) (hm : x.size ≤ maxLen) (hlen : ks.length ≤ maxLen) (hNs : NmSs ks) (hK : KidsR w (From 0) ks A) (hn : namedB (.mk 5 x n u a ks) 5 = true) (hf : 2 ≤ lead vName ks) (hall : lead vName ks = ks.length) :
  Calls Tryz.prog 76 #[aggN 5 x n u a A ks.length c] w (BB (false) w) := by
 have HW0 := Lib.hid ((Below.refl w.heap.size w).alloc (Nat.le_refl _) (.cells (arrN 5 x n u a A ks.length c) 79))
 have HB0 := Lib.hid (newBlk w (.cells (arrN 5 x n u a A ks.length c) 79) _ rfl)
 have HN := Lib.hid (bb_of hn (show Calls Tryz.prog 89 #[aggN 5 x n u a A ks.length c, .int .i64 5] (w.alloc (.cells (arrN 5 x n u a A ks.length c) 79)) (BB (namedB (.mk 5 x n u a ks) 5) (w.alloc (.cells (arrN 5 x n u a A ks.length c) 79))) from named_any (.mk 5 x n u a ks) A c 5 (w.alloc (.cells (arrN 5 x n u a A ks.length c) 79)) (hL.below HW0.out hw) (by simp; omega) hm))
 have HLd := Lib.hid (fun wx (hb : Below w.heap.size w wx) => (show Calls Tryz.prog 88 #[.slice A ks.length (ks.length + c), .func (.func 90) #[] #[]] wx (NN (lead vName ks) wx) from lead_validName vName ks A (ks.length + c) wx (KidsR.keep (fun q h1 h2 => ⟨hb.block q h2, h1⟩) _ _ hK) (does_name ks wx (hL.below hb hw) (Nat.lt_of_lt_of_le hw hb.size) hNs) hlen))
 rw [hall] at HLd
 have hq : (3 : Int) ≠ 0 := by decide
 have hlb : (2 : Int) ≤ (ks.length : Int) := by omega
 clear hL hK hNs hall hf
 unfold maxLen at hlen
 generalize ks.length = N at *
 by_cases hc : c = 0
 ·subst hc
  simp only [aggN, arrN, Nat.add_zero] at HW0 HB0 HN HLd ⊢
  go_enter Tryz.func76, Tryz.ntmps76
  go_wp2_with (first
   | (go_at_call 89; refine (HN.out).mono ?_; rintro e w1 ⟨rfl, hb1⟩; have HW1 := Lib.hid (HW0.out.trans (hb1.mono HW0.out.size)); have HB1 := Lib.hid ((hb1.block _ (blkLt HB0.out)).trans HB0.out); obtain ⟨⟨b0, b1, b2, b3, b4, b5⟩, -⟩ := cells6 HB1.out; have hx1 := blkLt HB1.out; clear hb1)
   | (go_at_call 88; refine (HLd.out _ HW1.out).mono ?_; rintro e w2 ⟨rfl, hb2⟩; have HW2 := Lib.hid (HW1.out.trans (hb2.mono HW1.out.size)); have HB2 := Lib.hid ((hb2.block _ (blkLt HB1.out)).trans HB1.out); clear b0 b1 b2 b3 b4 b5; obtain ⟨⟨b0, b1, b2, b3, b4, b5⟩, -⟩ := cells6 HB2.out; have hx2 := blkLt HB2.out; clear hb2)
   | (go_at_call 91; refine (numbers_nil 3 hq _ _ _).mono ?_; rintro e w3 ⟨rfl, hb3⟩; have HW3 := Lib.hid (HW2.out.trans (hb3.mono HW2.out.size)); clear hb3))
  all_goals
   go_ret
   exact ⟨rfl, HW3.out⟩
 ·have hc2 : ¬ N + c = N := by omega
  go_enter Tryz.func76, Tryz.ntmps76
  go_wp2_with (first
   | (go_at_call 89; refine (HN.out).mono ?_; rintro e w1 ⟨rfl, hb1⟩; have HW1 := Lib.hid (HW0.out.trans (hb1.mono HW0.out.size)); have HB1 := Lib.hid ((hb1.block _ (blkLt HB0.out)).trans HB0.out); obtain ⟨⟨b0, b1, b2, b3, b4, b5⟩, -⟩ := cells6 HB1.out; have hx1 := blkLt HB1.out; clear hb1)
   | (go_at_call 88; refine (HLd.out _ HW1.out).mono ?_; rintro e w2 ⟨rfl, hb2⟩; have HW2 := Lib.hid (HW1.out.trans (hb2.mono HW1.out.size)); have HB2 := Lib.hid ((hb2.block _ (blkLt HB1.out)).trans HB1.out); clear b0 b1 b2 b3 b4 b5; obtain ⟨⟨b0, b1, b2, b3, b4, b5⟩, -⟩ := cells6 HB2.out; have hx2 := blkLt HB2.out; clear hb2)
   | (go_at_call 91; refine (numbers_nil 3 hq _ _ _).mono ?_; rintro e w3 ⟨rfl, hb3⟩; have HW3 := Lib.hid (HW2.out.trans (hb3.mono HW2.out.size)); clear hb3))
  all_goals
   go_ret
   exact ⟨rfl, HW3.out⟩
theorem item_more5 (x : ByteArray) (n u a : Int) (ks : List Nd) (w : World) (g o : Nat) (c : Nat) (hL : LaidW w) (hw : 8 < w.heap.size) (hm : x.size ≤ maxLen) (hlen : ks.length ≤ maxLen) (hNs : NmSs ks) (hK : KidsR w (From 0) ks (some ⟨g, o, none⟩)) (hn : namedB (.mk 5 x n u a ks) 5 = true) (hf : 2 ≤ lead vName ks) (hlt : lead vName ks < ks.length) :
  Calls Tryz.prog 76 #[aggN 5 x n u a (some ⟨g, o, none⟩) ks.length c] w (BB (vNumbers (ks.drop (lead vName ks)) 3) w) := by
 have HW0 := Lib.hid ((Below.refl w.heap.size w).alloc (Nat.le_refl _) (.cells (arrN 5 x n u a (some ⟨g, o, none⟩) ks.length c) 79))
 have HB0 := Lib.hid (newBlk w (.cells (arrN 5 x n u a (some ⟨g, o, none⟩) ks.length c) 79) _ rfl)
 have HN := Lib.hid (bb_of hn (show Calls Tryz.prog 89 #[aggN 5 x n u a (some ⟨g, o, none⟩) ks.length c, .int .i64 5] (w.alloc (.cells (arrN 5 x n u a (some ⟨g, o, none⟩) ks.length c) 79)) (BB (namedB (.mk 5 x n u a ks) 5) (w.alloc (.cells (arrN 5 x n u a (some ⟨g, o, none⟩) ks.length c) 79))) from named_any (.mk 5 x n u a ks) (some ⟨g, o, none⟩) c 5 (w.alloc (.cells (arrN 5 x n u a (some ⟨g, o, none⟩) ks.length c) 79)) (hL.below HW0.out hw) (by simp; omega) hm))
 have HLd := Lib.hid (fun wx (hb : Below w.heap.size w wx) => (show Calls Tryz.prog 88 #[.slice (some ⟨g, o, none⟩) ks.length (ks.length + c), .func (.func 90) #[] #[]] wx (NN (lead vName ks) wx) from lead_validName vName ks (some ⟨g, o, none⟩) (ks.length + c) wx (KidsR.keep (fun q h1 h2 => ⟨hb.block q h2, h1⟩) _ _ hK) (does_name ks wx (hL.below hb hw) (Nat.lt_of_lt_of_le hw hb.size) hNs) hlen))
 have hKd := hK.drop _ _ _ _ hlt
 have hld : (ks.drop (lead vName ks)).length = ks.length - lead vName ks := List.length_drop
 have HVn := Lib.hid (fun wx (hb : Below w.heap.size w wx) => validNumbers_any (ks.drop (lead vName ks)) (some ⟨g, o + lead vName ks * 6, none⟩) (ks.length + c - lead vName ks) 3 wx (KidsR.keep (fun q h1 h2 => ⟨hb.block q h2, h1⟩) _ _ hKd) (by rw [hld]; omega))
 rw [hld] at HVn
 generalize vNumbers (ks.drop (lead vName ks)) 3 = R at *
 clear hKd hld hL hK hNs
 generalize lead vName ks = l at *
 have hlb : (2 : Int) ≤ (l : Int) := by omega
 have hlb2 : l ≤ ks.length := by omega
 have hcc : ¬ ks.length + c = l := by omega
 unfold maxLen at hlen
 go_enter Tryz.func76, Tryz.ntmps76
 go_wp2_with (first
  | (go_at_call 89; refine (HN.out).mono ?_; rintro e w1 ⟨rfl, hb1⟩; have HW1 := Lib.hid (HW0.out.trans (hb1.mono HW0.out.size)); have HB1 := Lib.hid ((hb1.block _ (blkLt HB0.out)).trans HB0.out); obtain ⟨⟨b0, b1, b2, b3, b4, b5⟩, -⟩ := cells6 HB1.out; have hx1 := blkLt HB1.out; clear hb1)
  | (go_at_call 88; refine (HLd.out _ HW1.out).mono ?_; rintro e w2 ⟨rfl, hb2⟩; have HW2 := Lib.hid (HW1.out.trans (hb2.mono HW1.out.size)); have HB2 := Lib.hid ((hb2.block _ (blkLt HB1.out)).trans HB1.out); clear b0 b1 b2 b3 b4 b5; obtain ⟨⟨b0, b1, b2, b3, b4, b5⟩, -⟩ := cells6 HB2.out; have hx2 := blkLt HB2.out; clear hb2)
  | (go_at_call 91; refine (HVn.out w2 HW2.out).mono ?_; rintro e w3 ⟨rfl, hb3⟩; have HW3 := Lib.hid (HW2.out.trans (hb3.mono HW2.out.size)); clear hb3))
 all_goals
  go_ret
  exact ⟨rfl, HW3.out⟩
theorem link4 (p q r s : Nd) : (decide ([p, q, r, s].length = 4) && (vNumbers ([p, q, r, s].take 3) 3 && vP3 [p, q, r, s])) = (vNumbers [p, q, r] 3 && vPolicy s) := by simp [vP3]
theorem validItem_any (t : Nd) (w : World) (A : Option Addr) (c : Nat) (hL : LaidW w) (hw : 8 < w.heap.size) (hN : NmS t) (hK : KidsR w (From 0) t.kids A) :
  Calls Tryz.prog 76 #[nv t A c] w (BB (vItem t) w) := by
 obtain ⟨k, x, n, u, a, ks⟩ := t
 have hm := hN.name
 have hlen := hN.len
 have hNs := hN.kids
 simp only [Nd.name, Nd.kids] at hm hlen hNs hK
 have hle := lead_le vName ks
 cases hn : namedB (.mk k x n u a ks) k with
 | false =>
  have e : vItem (.mk k x n u a ks) = false := by unfold vItem; simp only [Nd.kind]; rw [hn]; rfl
  rw [e]
  exact item_no k x n u a ks w A c hL hw hm hlen hNs hK hn
 | true =>
  have e : vItem (.mk k x n u a ks) = (if k = 2 then decide (ks.length = 4) && (vNumbers (ks.take 3) 3 && vP3 ks)
   else if k = 4 then decide (1 ≤ lead vName ks) && vNumbers (ks.drop (lead vName ks)) 1
   else if k = 5 then decide (2 ≤ lead vName ks) && vNumbers (ks.drop (lead vName ks)) 3
   else if k = 6 then vProg ks else false) := by unfold vItem; simp only [Nd.kind, Nd.kids]; rw [hn]; rfl
  rw [e]
  have nil1 : ∀ q : Int, q ≠ 0 → vNumbers [] q = false := fun q hq => by unfold vNumbers; simp; intro h; exact absurd h.symm hq
  by_cases h2 : k = 2
  ·subst h2
   rw [if_pos rfl]
   by_cases hl : ks.length = 4
   ·obtain ⟨p, q, r, s, rfl⟩ : ∃ p q r s, ks = [p, q, r, s] := by
     match ks, hl with
     | [p, q, r, s], _ => exact ⟨p, q, r, s, rfl⟩
    obtain ⟨g, o, rfl⟩ := hK.addr (by simp)
    rw [link4]
    exact item_link x n u a p q r s w g o c hL hw hm hlen hNs hK hn
   ·have e2 : (decide (ks.length = 4) && (vNumbers (ks.take 3) 3 && vP3 ks)) = false := by simp [hl]
    rw [e2]
    exact item_link_len x n u a ks w A c hL hw hm hlen hNs hK hn hl
  rw [if_neg h2]
  by_cases h4 : k = 4
  ·subst h4
   rw [if_pos rfl]
   by_cases hf : 1 ≤ lead vName ks
   ·by_cases hall : lead vName ks = ks.length
    ·rw [hall, List.drop_length, nil1 1 (by decide), Bool.and_false]
     exact item_all4 x n u a ks w A c hL hw hm hlen hNs hK hn hf hall
    ·obtain ⟨g, o, rfl⟩ := hK.addr (by omega)
     have e3 : decide (1 ≤ lead vName ks) = true := by simp; omega
     rw [e3, Bool.true_and]
     exact item_more4 x n u a ks w g o c hL hw hm hlen hNs hK hn hf (by omega)
   ·have e3 : decide (1 ≤ lead vName ks) = false := by simp; omega
    rw [e3, Bool.false_and]
    exact item_few4 x n u a ks w A c hL hw hm hlen hNs hK hn hf
  rw [if_neg h4]
  by_cases h5 : k = 5
  ·subst h5
   rw [if_pos rfl]
   by_cases hf : 2 ≤ lead vName ks
   ·by_cases hall : lead vName ks = ks.length
    ·rw [hall, List.drop_length, nil1 3 (by decide), Bool.and_false]
     exact item_all5 x n u a ks w A c hL hw hm hlen hNs hK hn hf hall
    ·obtain ⟨g, o, rfl⟩ := hK.addr (by omega)
     have e3 : decide (2 ≤ lead vName ks) = true := by simp; omega
     rw [e3, Bool.true_and]
     exact item_more5 x n u a ks w g o c hL hw hm hlen hNs hK hn hf (by omega)
   ·have e3 : decide (2 ≤ lead vName ks) = false := by simp; omega
    rw [e3, Bool.false_and]
    exact item_few5 x n u a ks w A c hL hw hm hlen hNs hK hn hf
  rw [if_neg h5]
  by_cases h6 : k = 6
  ·subst h6
   rw [if_pos rfl]
   exact item_prog x n u a ks w A c hL hw hm hlen hNs hK hn
  rw [if_neg h6]
  exact item_other k x n u a ks w A c hL hw hm hlen hNs hK hn ⟨h2, h4, h5, h6⟩
def validN (t : Nd) : Bool := decide (0 ≤ spareN t 2500) && (plainB t 1 && allB vItem t.kids)
theorem Valid_any (t : Nd) (w : World) (A : Option Addr) (c : Nat) (hL : LaidW w) (hw : 8 < w.heap.size) (hN : NmS t) (hK : KidsR w (From 0) t.kids A) :
  Calls Tryz.prog 57 #[nv t A c] w (BB (validN t) w) := by
 have HW0 := Lib.hid ((Below.refl w.heap.size w).alloc (Nat.le_refl _) (.cells (ndArr t A c) 79))
 have HB0 := Lib.hid (newBlk w (.cells (ndArr t A c) 79) _ rfl)
 have HS := Lib.hid (fun wx (hb : Below w.heap.size w wx) => spare_any t wx 2500 A c (by decide) (by decide) (KidsR.keep (fun q h1 h2 => ⟨hb.block q h2, h1⟩) _ _ hK))
 have HE := Lib.hid (fun wx (hb : Below w.heap.size w wx) => every_validItem vItem t.kids A (t.kids.length + c) wx (KidsR.keep (fun q h1 h2 => ⟨hb.block q h2, h1⟩) _ _ hK)
  (fun u hu wy A2 c2 hb2 hk2 => validItem_any u wy A2 c2 ((hL.below hb hw).below hb2 (Nat.lt_of_lt_of_le hw hb.size)) (Nat.lt_of_lt_of_le hw (Nat.le_trans hb.size hb2.size)) (hN.kids.mem u hu) hk2) hN.len)
 clear hL hK hN
 by_cases hs : 0 ≤ spareN t 2500
 ·have e : validN t = (plainB t 1 && allB vItem t.kids) := by unfold validN; simp [hs]
  rw [e]
  generalize spareN t 2500 = S at *
  go_enter Tryz.func57, Tryz.ntmps57
  go_wp2_with (first
   | (go_at_call 73; refine (HS.out _ HW0.out).mono ?_; rintro e w1 ⟨rfl, hb1⟩; have HW1 := Lib.hid (HW0.out.trans (hb1.mono HW0.out.size)); have HB1 := Lib.hid ((hb1.block _ (blkLt HB0.out)).trans HB0.out); obtain ⟨⟨b0, b1, b2, b3, b4, b5⟩, -⟩ := cells6 HB1.out; have hx1 := blkLt HB1.out; clear hb1)
   | (go_at_call 74; refine (plain_any t A c 1 _).mono ?_; rintro e w2 ⟨rfl, hb2⟩; have HW2 := Lib.hid (HW1.out.trans (hb2.mono HW1.out.size)); have HB2 := Lib.hid ((hb2.block _ (blkLt HB1.out)).trans HB1.out); clear b0 b1 b2 b3 b4 b5; obtain ⟨⟨b0, b1, b2, b3, b4, b5⟩, -⟩ := cells6 HB2.out; have hx2 := blkLt HB2.out; clear hb2)
   | (go_at_call 75; refine (HE.out _ HW2.out).mono ?_; rintro e w3 ⟨rfl, hb3⟩; have HW3 := Lib.hid (HW2.out.trans (hb3.mono HW2.out.size)); clear hb3))
  all_goals
   go_ret
   refine ⟨?_, by first | exact HW3.out | exact HW2.out | exact HW1.out⟩
   simp [*]
 ·have e : validN t = false := by unfold validN; simp [hs]
  rw [e]
  generalize spareN t 2500 = S at *
  have hsb : decide (0 ≤ S) = false := by simp; omega
  go_enter Tryz.func57, Tryz.ntmps57
  go_wp2_with (first
   | (go_at_call 73; refine (HS.out _ HW0.out).mono ?_; rintro e w1 ⟨rfl, hb1⟩; have HW1 := Lib.hid (HW0.out.trans (hb1.mono HW0.out.size)); have HB1 := Lib.hid ((hb1.block _ (blkLt HB0.out)).trans HB0.out); obtain ⟨⟨b0, b1, b2, b3, b4, b5⟩, -⟩ := cells6 HB1.out; have hx1 := blkLt HB1.out; clear hb1))
  all_goals
   go_ret
   exact ⟨rfl, HW1.out⟩
end Go.Proofs.YtljknappbnoikaaGreatDoor
