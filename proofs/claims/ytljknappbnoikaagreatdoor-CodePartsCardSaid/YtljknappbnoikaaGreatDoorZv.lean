/- Texts of one proof: QaF, QaG, QaH. -/
import Derived.Test.YtljknappbnoikaaGreatDoorZu
set_option linter.unusedVariables false
set_option linter.unusedSimpArgs false
set_option maxRecDepth 100000
set_option maxHeartbeats 8000000
namespace Go.Proofs.YtljknappbnoikaaGreatDoor
open Go.RowKit
def vE (ks : List Nd) (i : Nat) : Bool := match ks[i]? with
 | some t => vExpr t 1
 | none => false
mutual
def vStmt : Nd → Int → Bool
 | .mk k x n u a ks, lv => if 12 < lv then false else if k = 10 then namedB (.mk k x n u a ks) 10 && (decide (ks.length = 1) && vE ks 0)
  else btw n 1 6 && (plainB (.mk k x 0 u a ks) 11 && (btw ks.length 3 4 && (vE ks 0 && (vE ks 1 && vBlks ks 2 (lv + 1)))))
def vBlks : List Nd → Nat → Int → Bool
 | [], _, _ => true
 | t :: ts, 0, lv => vBlk t lv && vBlks ts 0 lv
 | t :: ts, n + 1, lv => vBlks ts n lv
def vBlk : Nd → Int → Bool
 | .mk k x n u a ks, lv => plainB (.mk k x n u a ks) 12 && vSts ks lv
def vSts : List Nd → Int → Bool
 | [], _ => true
 | t :: ts, lv => vStmt t lv && vSts ts lv
end
theorem vSts_all (lv : Int) : ∀ ts : List Nd, allB (fun t => vStmt t lv) ts = vSts ts lv
 | [] => by rw [vSts]; rfl
 | t :: ts => by rw [vSts, ← vSts_all lv ts]; rfl
theorem vBlks_all (lv : Int) : ∀ ts : List Nd, allB (fun t => vBlk t lv) ts = vBlks ts 0 lv
 | [] => by rw [vBlks]; rfl
 | t :: ts => by rw [vBlks, ← vBlks_all lv ts]; rfl
theorem cellI {w : World} {b : Nat} {lv : Int} {T : TypeId} (h : w.heap[b]? = some (.cells #[.int .i64 lv] T (0, 0))) : w.cell? ⟨b, 0, none⟩ = some (.int .i64 lv) := by rw [cell_of_row _ _ 0 _ _ (0, 0) h]; rfl
theorem set6O {w : World} {b k : Nat} {v0 v1 v2 v3 v4 v5 : Value} (h : k ≠ b) :
  ((((((w.setCell ⟨b, 0, none⟩ v0).setCell ⟨b, 1, none⟩ v1).setCell ⟨b, 2, none⟩ v2).setCell ⟨b, 3, none⟩ v3).setCell ⟨b, 4, none⟩ v4).setCell ⟨b, 5, none⟩ v5).heap[k]? = w.heap[k]? := by
 rw [heap_setCell_other _ ⟨b, 5, none⟩ k v5 h, heap_setCell_other _ ⟨b, 4, none⟩ k v4 h, heap_setCell_other _ ⟨b, 3, none⟩ k v3 h, heap_setCell_other _ ⟨b, 2, none⟩ k v2 h, heap_setCell_other _ ⟨b, 1, none⟩ k v1 h, heap_setCell_other _ ⟨b, 0, none⟩ k v0 h]
def StC (t : Nd) : Prop := ∀ (w : World) (A : Option Addr) (c : Nat) (lv : Int) (b : Nat), 1 ≤ lv → lv ≤ 13 → w.cell? ⟨b, 0, none⟩ = some (.int .i64 lv) → LaidW w → 8 < w.heap.size → NmS t → KidsR w (From 0) t.kids A →
 Calls Tryz.prog 135 #[nv t A c, .pointer (some ⟨b, 0, none⟩)] w (BB (vStmt t lv) w)
def BlC (t : Nd) : Prop := ∀ (w : World) (A : Option Addr) (c : Nat) (lv : Int) (b : Nat), 1 ≤ lv → lv ≤ 12 → w.cell? ⟨b, 0, none⟩ = some (.int .i64 lv) → LaidW w → 8 < w.heap.size → NmS t → KidsR w (From 0) t.kids A →
 Calls Tryz.prog 151 #[nv t A c, .pointer (some ⟨b, 0, none⟩)] w (BB (vBlk t (lv + 1)) w)
theorem validStmts_of (ts : List Nd) (hS : ∀ t ∈ ts, StC t) (w : World) (A : Option Addr) (c : Nat) (lv : Int) (h1 : 1 ≤ lv) (h2 : lv ≤ 13) (hL : LaidW w) (hw : 8 < w.heap.size) (hN : NmSs ts) (hlen : ts.length ≤ maxLen) (hK : KidsR w (From 0) ts A) :
  Calls Tryz.prog 124 #[.slice A ts.length c, .int .i64 lv] w (BB (vSts ts lv) w) := by
 have hb0 := (Below.refl w.heap.size w).alloc (Nat.le_refl _) (.cells #[.int .i64 lv] 3)
 have HB := Lib.hid (newBlk w (.cells #[.int .i64 lv] 3) _ rfl)
 have hE := every_validStmts1 (.pointer (some ⟨w.heap.size, 0, none⟩)) (fun t => vStmt t lv) ts A c (w.alloc (.cells #[.int .i64 lv] 3)) (hK.keep (fun q h1 h2 => ⟨hb0.block q h2, h1⟩))
  (fun t ht wx A2 c2 hb hk => hS t ht wx A2 c2 lv w.heap.size h1 h2 ((hb.cell (by simp)).trans (cellI HB.out)) ((hL.below hb0 hw).below hb (by simp; omega)) (by have := hb.size; simp at this; omega) (hN.mem t ht) hk) hlen
 rw [vSts_all] at hE
 have HE := Lib.hid hE
 clear hE hS hK hL
 go_enter Tryz.func124, Tryz.ntmps124
 go_wp2_with (go_at_call 75; refine HE.out.mono ?_; rintro e w2 ⟨rfl, hb2⟩)
 go_ret
 exact ⟨rfl, hb0.trans (hb2.mono (by simp))⟩
theorem block_of (t : Nd) (hS : ∀ u ∈ t.kids, StC u) : BlC t := by
 intro w A c lv b h1 h2 hc hL hw hN hK
 have hlt := World.block_lt_of_cell? w _ hc
 have HW0 := Lib.hid ((Below.refl w.heap.size w).alloc (Nat.le_refl _) (.cells (ndArr t A c) 79))
 have HB0 := Lib.hid (newBlk w (.cells (ndArr t A c) 79) _ rfl)
 have hM : vBlk t (lv + 1) = (plainB t 12 && vSts t.kids (lv + 1)) := by cases t; rw [vBlk]; rfl
 rw [hM]
 have HS := Lib.hid (fun wx (hb : Below w.heap.size w wx) => validStmts_of t.kids hS wx A (t.kids.length + c) (lv + 1) (by omega) (by omega) (hL.below hb hw) (Nat.lt_of_lt_of_le hw hb.size) hN.kids hN.len (hK.keep (fun q h1 h2 => ⟨hb.block q h2, h1⟩)))
 have HC := Lib.hid (fun wx (hb : Below w.heap.size w wx) => (hb.cell (p := ⟨b, 0, none⟩) hlt).trans hc)
 have q0 : IntKind.i64.wrap (lv + 1) = lv + 1 := IntWalk.i64_in _ (by omega)
 clear hS hc hL hK
 go_enter Tryz.func151, Tryz.ntmps151
 go_wp2_with (first
  | (go_at_call 74; refine (plain_any t A c 12 _).mono ?_; rintro e w1 ⟨rfl, hb1⟩; have HW1 := Lib.hid (HW0.out.trans (hb1.mono HW0.out.size)); have HB1 := Lib.hid ((hb1.block _ (blkLt HB0.out)).trans HB0.out); obtain ⟨⟨b0, b1, b2, b3, b4, b5⟩, -⟩ := cells6 HB1.out; have hx1 := blkLt HB1.out; have l0 := HC.out w1 HW1.out; clear hb1)
  | (go_at_call 124; refine (HS.out w1 HW1.out).mono ?_; rintro e w2 ⟨rfl, hb2⟩; have HW2 := Lib.hid (HW1.out.trans (hb2.mono HW1.out.size)); clear hb2))
 all_goals
  go_ret
  refine ⟨?_, by first | exact HW2.out | exact HW1.out⟩
  simp [*]
theorem if_len (k : Int) (x : ByteArray) (n u a : Int) (ks : List Nd) (w : World) (A : Option Addr) (c : Nat) (lv : Int) (hl : btw ks.length 3 4 = false) :
  Calls Tryz.prog 137 #[aggN k x n u a A ks.length c, .int .i64 lv] w (BB false w) := by
 have HW0 := Lib.hid (((Below.refl w.heap.size w).alloc (Nat.le_refl _) (.cells (arrN k x n u a A ks.length c) 79)).alloc (by simp) (.cells #[.int .i64 lv] 3))
 have HB0 := Lib.hid ((Below.heap_alloc (w.alloc (.cells (arrN k x n u a A ks.length c) 79)) (.cells #[.int .i64 lv] 3) _ (by simp)).trans (newBlk w (.cells (arrN k x n u a A ks.length c) 79) w.heap.size rfl))
 have HT := Lib.hid (show ∀ wx, Calls Tryz.prog 106 #[aggN k x n u a A ks.length c] wx (fun e w' => e = .returned (.tuple #[.int .i64 n, aggN k x 0 u a A ks.length c]) ∧ Below wx.heap.size wx w') from fun wx => take_any (.mk k x n u a ks) A c wx)
 have HV0 := Lib.hid (newBlk (w.alloc (.cells (arrN k x n u a A ks.length c) 79)) (.cells #[.int .i64 lv] 3) (w.heap.size + 1) (by simp))
 go_enter Tryz.func137, Tryz.ntmps137
 go_wp2_with (first
  | (go_at_call 106; refine (HT.out _).mono ?_; rintro e w1 ⟨rfl, hb1⟩; have HW1 := Lib.hid (HW0.out.trans (hb1.mono HW0.out.size)); have HB1 := Lib.hid ((hb1.block _ (blkLt HB0.out)).trans HB0.out); have HV1 := Lib.hid ((hb1.block _ (blkLt HV0.out)).trans HV0.out); obtain ⟨⟨b0, b1, b2, b3, b4, b5⟩, d0, d1, d2, d3, d4, d5⟩ := cells6 HB1.out; have hx1 := blkLt HB1.out; have l0 := cellI HV1.out; have hxl1 := blkLt HV1.out; clear hb1)
  | (go_at_call_of 107 (Value.int IntKind.i64 n); refine (between_any n 1 6 _).mono ?_; rintro e w2 ⟨rfl, hb2⟩; have HB2 := Lib.hid ((hb2.block _ (by rw [size6]; exact hx1)).trans (set6A HB1.out)); have HV2 := Lib.hid ((hb2.block _ (by rw [size6]; exact hxl1)).trans ((set6O (by omega)).trans HV1.out)); clear b0 b1 b2 b3 b4 b5 d0 d1 d2 d3 d4 d5 l0; obtain ⟨⟨b0, b1, b2, b3, b4, b5⟩, -⟩ := cells6 HB2.out; have hx2 := blkLt HB2.out; have l0 := cellI HV2.out; have HW2 := Lib.hid ((below6 HW1.out (Nat.le_refl _)).trans (hb2.mono (by rw [size6]; exact HW1.out.size))); clear hb2)
  | (go_at_call 74; refine (plain_any (.mk k x 0 u a ks) A c 11 _).mono ?_; rintro e w3 ⟨rfl, hb3⟩; have HW3 := Lib.hid (HW2.out.trans (hb3.mono HW2.out.size)); have HB3 := Lib.hid ((hb3.block _ (blkLt HB2.out)).trans HB2.out); have HV3 := Lib.hid ((hb3.block _ (blkLt HV2.out)).trans HV2.out); clear b0 b1 b2 b3 b4 b5; obtain ⟨⟨b0, b1, b2, b3, b4, b5⟩, -⟩ := cells6 HB3.out; have hx3 := blkLt HB3.out; clear l0; have l0 := cellI HV3.out; have hxl3 := blkLt HV3.out; clear hb3)
  | (go_at_call_of 107 (Value.int IntKind.i64 4); refine (bb_of hl (between_any (ks.length : Int) 3 4 _)).mono ?_; rintro e w4 ⟨rfl, hb4⟩; have HW4 := Lib.hid (HW3.out.trans (hb4.mono HW3.out.size)); have HB4 := Lib.hid ((hb4.block _ (blkLt HB3.out)).trans HB3.out); have HV4 := Lib.hid ((hb4.block _ (blkLt HV3.out)).trans HV3.out); clear b0 b1 b2 b3 b4 b5; obtain ⟨⟨b0, b1, b2, b3, b4, b5⟩, -⟩ := cells6 HB4.out; have hx4 := blkLt HB4.out; clear l0; have l0 := cellI HV4.out; have hxl4 := blkLt HV4.out; clear hb4))
 all_goals
  go_ret
  exact ⟨rfl, by first | exact HW4.out | exact HW3.out | exact HW2.out⟩
theorem if_3 (k : Int) (x : ByteArray) (n u a : Int) (e1 e2 f1 : Nd) (hf1 : BlC f1) (w : World) (A : Option Addr) (c : Nat) (lv : Int) (h1 : 1 ≤ lv) (h2 : lv ≤ 12) (hL : LaidW w) (hw : 8 < w.heap.size) (hN1 : NmS e1) (hN2 : NmS e2) (hNf1 : NmS f1) (hK : KidsR w (From 0) [e1, e2, f1] A) :
  Calls Tryz.prog 137 #[aggN k x n u a A 3 c, .int .i64 lv] w (BB (btw n 1 6 && (plainB (.mk k x 0 u a [e1, e2, f1]) 11 && (vExpr e1 1 && (vExpr e2 1 && vBlks [f1] 0 (lv + 1))))) w) := by
 obtain ⟨g, o, rfl⟩ := hK.addr (by simp)
 have HW0 := Lib.hid (((Below.refl w.heap.size w).alloc (Nat.le_refl _) (.cells (arrN k x n u a (some ⟨g, o, none⟩) 3 c) 79)).alloc (by simp) (.cells #[.int .i64 lv] 3))
 have HB0 := Lib.hid ((Below.heap_alloc (w.alloc (.cells (arrN k x n u a (some ⟨g, o, none⟩) 3 c) 79)) (.cells #[.int .i64 lv] 3) _ (by simp)).trans (newBlk w (.cells (arrN k x n u a (some ⟨g, o, none⟩) 3 c) 79) w.heap.size rfl))
 have HT := Lib.hid (show ∀ wx, Calls Tryz.prog 106 #[aggN k x n u a (some ⟨g, o, none⟩) 3 c] wx (fun e w' => e = .returned (.tuple #[.int .i64 n, aggN k x 0 u a (some ⟨g, o, none⟩) 3 c]) ∧ Below wx.heap.size wx w') from fun wx => take_any (.mk k x n u a [e1, e2, f1]) (some ⟨g, o, none⟩) c wx)
 have HV0 := Lib.hid (newBlk (w.alloc (.cells (arrN k x n u a (some ⟨g, o, none⟩) 3 c) 79)) (.cells #[.int .i64 lv] 3) (w.heap.size + 1) (by simp))
 have HX1e := Lib.hid (fun wx (hb : Below w.heap.size w wx) A2 c2 hk => vexpr_any e1 wx A2 c2 1 (by decide) (by decide) (hL.below hb hw) (Nat.lt_of_lt_of_le hw hb.size) hN1 hk)
 have HX2e := Lib.hid (fun wx (hb : Below w.heap.size w wx) A2 c2 hk => vexpr_any e2 wx A2 c2 1 (by decide) (by decide) (hL.below hb hw) (Nat.lt_of_lt_of_le hw hb.size) hN2 hk)
 have HK := Lib.hid (fun wx (hb : Below w.heap.size w wx) => hK.keep (w' := wx) (P' := From 0) (fun q h1 h2 => ⟨hb.block q h2, h1⟩))
 have HE : Hid (∀ wx (HX : Below w.heap.size w wx), w.heap.size + 2 ≤ wx.heap.size → wx.cell? ⟨w.heap.size + 1, 0, none⟩ = some (.int .i64 lv) → Calls Tryz.prog 75 #[.slice (some ⟨g, o + 12, none⟩) 1 (3 + c - 2), .func (.func 151) #[] #[.pointer (some ⟨w.heap.size + 1, 0, none⟩)]] wx (BB (vBlks [f1] 0 (lv + 1)) wx)) := by
  intro wx HX hsz hcl
  have hLx := hL.below HX hw
  have hwx := Nat.lt_of_lt_of_le hw HX.size
  have hk0 := HK.out wx HX
  unfold KidsR at hk0
  obtain ⟨g1, o1, ee, _, _, hk0⟩ := hk0
  cases ee
  unfold KidsR at hk0
  obtain ⟨g2, o2, ee, _, _, hk0⟩ := hk0
  cases ee
  have hE := every_validIf1 (.pointer (some ⟨w.heap.size + 1, 0, none⟩)) (fun t => vBlk t (lv + 1)) [f1] (some ⟨g, o + 12, none⟩) (3 + c - 2) wx hk0 (fun t ht wy A2 c2 hb hk => ?_) (by unfold maxLen; simp)
  ·rw [vBlks_all] at hE; exact hE
  ·simp only [List.mem_cons, List.mem_nil_iff, or_false] at ht
   ·subst ht; exact hf1 wy A2 c2 lv (w.heap.size + 1) h1 h2 ((hb.cell (by show w.heap.size + 1 < wx.heap.size; omega)).trans hcl) (hLx.below hb hwx) (Nat.lt_of_lt_of_le hwx hb.size) hNf1 hk
 clear hL hK hf1
 generalize vBlks [f1] 0 (lv + 1) = R3 at *
 go_enter Tryz.func137, Tryz.ntmps137
 go_wp2_with (first
  | (go_at_call 106; refine (HT.out _).mono ?_; rintro e w1 ⟨rfl, hb1⟩; have HW1 := Lib.hid (HW0.out.trans (hb1.mono HW0.out.size)); have HB1 := Lib.hid ((hb1.block _ (blkLt HB0.out)).trans HB0.out); have HV1 := Lib.hid ((hb1.block _ (blkLt HV0.out)).trans HV0.out); obtain ⟨⟨b0, b1, b2, b3, b4, b5⟩, d0, d1, d2, d3, d4, d5⟩ := cells6 HB1.out; have hx1 := blkLt HB1.out; have l0 := cellI HV1.out; have hxl1 := blkLt HV1.out; clear hb1)
  | (go_at_call_of 107 (Value.int IntKind.i64 n); refine (between_any n 1 6 _).mono ?_; rintro e w2 ⟨rfl, hb2⟩; have HB2 := Lib.hid ((hb2.block _ (by rw [size6]; exact hx1)).trans (set6A HB1.out)); have HV2 := Lib.hid ((hb2.block _ (by rw [size6]; exact hxl1)).trans ((set6O (by omega)).trans HV1.out)); clear b0 b1 b2 b3 b4 b5 d0 d1 d2 d3 d4 d5 l0; obtain ⟨⟨b0, b1, b2, b3, b4, b5⟩, -⟩ := cells6 HB2.out; have hx2 := blkLt HB2.out; have l0 := cellI HV2.out; have HW2 := Lib.hid ((below6 HW1.out (Nat.le_refl _)).trans (hb2.mono (by rw [size6]; exact HW1.out.size))); clear hb2)
  | (go_at_call 74; refine (plain_any (.mk k x 0 u a [e1, e2, f1]) (some ⟨g, o, none⟩) c 11 _).mono ?_; rintro e w3 ⟨rfl, hb3⟩; have HW3 := Lib.hid (HW2.out.trans (hb3.mono HW2.out.size)); have HB3 := Lib.hid ((hb3.block _ (blkLt HB2.out)).trans HB2.out); have HV3 := Lib.hid ((hb3.block _ (blkLt HV2.out)).trans HV2.out); clear b0 b1 b2 b3 b4 b5; obtain ⟨⟨b0, b1, b2, b3, b4, b5⟩, -⟩ := cells6 HB3.out; have hx3 := blkLt HB3.out; clear l0; have l0 := cellI HV3.out; have hxl3 := blkLt HV3.out; clear hb3)
  | (go_at_call_of 107 (Value.int IntKind.i64 4); refine (between_any 3 3 4 _).mono ?_; rintro e w4 ⟨rfl, hb4⟩; have HW4 := Lib.hid (HW3.out.trans (hb4.mono HW3.out.size)); have HB4 := Lib.hid ((hb4.block _ (blkLt HB3.out)).trans HB3.out); have HV4 := Lib.hid ((hb4.block _ (blkLt HV3.out)).trans HV3.out); clear b0 b1 b2 b3 b4 b5; obtain ⟨⟨b0, b1, b2, b3, b4, b5⟩, -⟩ := cells6 HB4.out; have hx4 := blkLt HB4.out; clear l0; have l0 := cellI HV4.out; have hxl4 := blkLt HV4.out; have hKi := HK.out w4 HW4.out; obtain ⟨A0, c0, ⟨e0, e1c, e2c, e3, e4, e5⟩, hK0⟩ := (KidsR.get _ _ _ hKi 0 _ rfl).cells; have hK0H := Lib.hid hK0; clear hKi hK0; simp only [Nat.zero_mul, Nat.add_zero, Nat.one_mul] at e0 e1c e2c e3 e4 e5; clear hb4)
  | (go_at_call_of 136 (Value.string (Nd.name e1)); refine (HX1e.out w4 HW4.out A0 c0 hK0H.out).mono ?_; rintro e w5 ⟨rfl, hb5⟩; have HW5 := Lib.hid (HW4.out.trans (hb5.mono HW4.out.size)); have HB5 := Lib.hid ((hb5.block _ (blkLt HB4.out)).trans HB4.out); have HV5 := Lib.hid ((hb5.block _ (blkLt HV4.out)).trans HV4.out); clear b0 b1 b2 b3 b4 b5; obtain ⟨⟨b0, b1, b2, b3, b4, b5⟩, -⟩ := cells6 HB5.out; have hx5 := blkLt HB5.out; clear l0; have l0 := cellI HV5.out; have hxl5 := blkLt HV5.out; clear e0 e1c e2c e3 e4 e5; have hKi := HK.out w5 HW5.out; obtain ⟨A1, c1, ⟨e0, e1c, e2c, e3, e4, e5⟩, hK1⟩ := (KidsR.get _ _ _ hKi 1 _ rfl).cells; have hK1H := Lib.hid hK1; clear hKi hK1; simp only [Nat.zero_mul, Nat.add_zero, Nat.one_mul] at e0 e1c e2c e3 e4 e5; clear hb5)
  | (go_at_call_of 136 (Value.string (Nd.name e2)); refine (HX2e.out w5 HW5.out A1 c1 hK1H.out).mono ?_; rintro e w6 ⟨rfl, hb6⟩; have HW6 := Lib.hid (HW5.out.trans (hb6.mono HW5.out.size)); have HB6 := Lib.hid ((hb6.block _ (blkLt HB5.out)).trans HB5.out); have HV6 := Lib.hid ((hb6.block _ (blkLt HV5.out)).trans HV5.out); clear b0 b1 b2 b3 b4 b5; obtain ⟨⟨b0, b1, b2, b3, b4, b5⟩, -⟩ := cells6 HB6.out; have hx6 := blkLt HB6.out; clear l0; have l0 := cellI HV6.out; have hxl6 := blkLt HV6.out; clear hb6)
  | (go_at_call 75; refine (HE.out w6 HW6.out (by have := blkLt HV6.out; omega) l0).mono ?_; rintro e w7 ⟨rfl, hb7⟩; have HW7 := Lib.hid (HW6.out.trans (hb7.mono HW6.out.size)); clear hb7))
 all_goals
  go_ret
  refine ⟨?_, by first | exact HW7.out | exact HW6.out | exact HW5.out | exact HW4.out | exact HW3.out | exact HW2.out⟩
  simp [*]
theorem if_4 (k : Int) (x : ByteArray) (n u a : Int) (e1 e2 f1 f2 : Nd) (hf1 : BlC f1) (hf2 : BlC f2) (w : World) (A : Option Addr) (c : Nat) (lv : Int) (h1 : 1 ≤ lv) (h2 : lv ≤ 12) (hL : LaidW w) (hw : 8 < w.heap.size) (hN1 : NmS e1) (hN2 : NmS e2) (hNf1 : NmS f1) (hNf2 : NmS f2) (hK : KidsR w (From 0) [e1, e2, f1, f2] A) :
  Calls Tryz.prog 137 #[aggN k x n u a A 4 c, .int .i64 lv] w (BB (btw n 1 6 && (plainB (.mk k x 0 u a [e1, e2, f1, f2]) 11 && (vExpr e1 1 && (vExpr e2 1 && vBlks [f1, f2] 0 (lv + 1))))) w) := by
 obtain ⟨g, o, rfl⟩ := hK.addr (by simp)
 have HW0 := Lib.hid (((Below.refl w.heap.size w).alloc (Nat.le_refl _) (.cells (arrN k x n u a (some ⟨g, o, none⟩) 4 c) 79)).alloc (by simp) (.cells #[.int .i64 lv] 3))
 have HB0 := Lib.hid ((Below.heap_alloc (w.alloc (.cells (arrN k x n u a (some ⟨g, o, none⟩) 4 c) 79)) (.cells #[.int .i64 lv] 3) _ (by simp)).trans (newBlk w (.cells (arrN k x n u a (some ⟨g, o, none⟩) 4 c) 79) w.heap.size rfl))
 have HT := Lib.hid (show ∀ wx, Calls Tryz.prog 106 #[aggN k x n u a (some ⟨g, o, none⟩) 4 c] wx (fun e w' => e = .returned (.tuple #[.int .i64 n, aggN k x 0 u a (some ⟨g, o, none⟩) 4 c]) ∧ Below wx.heap.size wx w') from fun wx => take_any (.mk k x n u a [e1, e2, f1, f2]) (some ⟨g, o, none⟩) c wx)
 have HV0 := Lib.hid (newBlk (w.alloc (.cells (arrN k x n u a (some ⟨g, o, none⟩) 4 c) 79)) (.cells #[.int .i64 lv] 3) (w.heap.size + 1) (by simp))
 have HX1e := Lib.hid (fun wx (hb : Below w.heap.size w wx) A2 c2 hk => vexpr_any e1 wx A2 c2 1 (by decide) (by decide) (hL.below hb hw) (Nat.lt_of_lt_of_le hw hb.size) hN1 hk)
 have HX2e := Lib.hid (fun wx (hb : Below w.heap.size w wx) A2 c2 hk => vexpr_any e2 wx A2 c2 1 (by decide) (by decide) (hL.below hb hw) (Nat.lt_of_lt_of_le hw hb.size) hN2 hk)
 have HK := Lib.hid (fun wx (hb : Below w.heap.size w wx) => hK.keep (w' := wx) (P' := From 0) (fun q h1 h2 => ⟨hb.block q h2, h1⟩))
 have HE : Hid (∀ wx (HX : Below w.heap.size w wx), w.heap.size + 2 ≤ wx.heap.size → wx.cell? ⟨w.heap.size + 1, 0, none⟩ = some (.int .i64 lv) → Calls Tryz.prog 75 #[.slice (some ⟨g, o + 12, none⟩) 2 (4 + c - 2), .func (.func 151) #[] #[.pointer (some ⟨w.heap.size + 1, 0, none⟩)]] wx (BB (vBlks [f1, f2] 0 (lv + 1)) wx)) := by
  intro wx HX hsz hcl
  have hLx := hL.below HX hw
  have hwx := Nat.lt_of_lt_of_le hw HX.size
  have hk0 := HK.out wx HX
  unfold KidsR at hk0
  obtain ⟨g1, o1, ee, _, _, hk0⟩ := hk0
  cases ee
  unfold KidsR at hk0
  obtain ⟨g2, o2, ee, _, _, hk0⟩ := hk0
  cases ee
  have hE := every_validIf1 (.pointer (some ⟨w.heap.size + 1, 0, none⟩)) (fun t => vBlk t (lv + 1)) [f1, f2] (some ⟨g, o + 12, none⟩) (4 + c - 2) wx hk0 (fun t ht wy A2 c2 hb hk => ?_) (by unfold maxLen; simp)
  ·rw [vBlks_all] at hE; exact hE
  ·simp only [List.mem_cons, List.mem_nil_iff, or_false] at ht
   rcases ht with ht | ht
   ·subst ht; exact hf1 wy A2 c2 lv (w.heap.size + 1) h1 h2 ((hb.cell (by show w.heap.size + 1 < wx.heap.size; omega)).trans hcl) (hLx.below hb hwx) (Nat.lt_of_lt_of_le hwx hb.size) hNf1 hk
   ·subst ht; exact hf2 wy A2 c2 lv (w.heap.size + 1) h1 h2 ((hb.cell (by show w.heap.size + 1 < wx.heap.size; omega)).trans hcl) (hLx.below hb hwx) (Nat.lt_of_lt_of_le hwx hb.size) hNf2 hk
 clear hL hK hf1 hf2
 generalize vBlks [f1, f2] 0 (lv + 1) = R3 at *
 go_enter Tryz.func137, Tryz.ntmps137
 go_wp2_with (first
  | (go_at_call 106; refine (HT.out _).mono ?_; rintro e w1 ⟨rfl, hb1⟩; have HW1 := Lib.hid (HW0.out.trans (hb1.mono HW0.out.size)); have HB1 := Lib.hid ((hb1.block _ (blkLt HB0.out)).trans HB0.out); have HV1 := Lib.hid ((hb1.block _ (blkLt HV0.out)).trans HV0.out); obtain ⟨⟨b0, b1, b2, b3, b4, b5⟩, d0, d1, d2, d3, d4, d5⟩ := cells6 HB1.out; have hx1 := blkLt HB1.out; have l0 := cellI HV1.out; have hxl1 := blkLt HV1.out; clear hb1)
  | (go_at_call_of 107 (Value.int IntKind.i64 n); refine (between_any n 1 6 _).mono ?_; rintro e w2 ⟨rfl, hb2⟩; have HB2 := Lib.hid ((hb2.block _ (by rw [size6]; exact hx1)).trans (set6A HB1.out)); have HV2 := Lib.hid ((hb2.block _ (by rw [size6]; exact hxl1)).trans ((set6O (by omega)).trans HV1.out)); clear b0 b1 b2 b3 b4 b5 d0 d1 d2 d3 d4 d5 l0; obtain ⟨⟨b0, b1, b2, b3, b4, b5⟩, -⟩ := cells6 HB2.out; have hx2 := blkLt HB2.out; have l0 := cellI HV2.out; have HW2 := Lib.hid ((below6 HW1.out (Nat.le_refl _)).trans (hb2.mono (by rw [size6]; exact HW1.out.size))); clear hb2)
  | (go_at_call 74; refine (plain_any (.mk k x 0 u a [e1, e2, f1, f2]) (some ⟨g, o, none⟩) c 11 _).mono ?_; rintro e w3 ⟨rfl, hb3⟩; have HW3 := Lib.hid (HW2.out.trans (hb3.mono HW2.out.size)); have HB3 := Lib.hid ((hb3.block _ (blkLt HB2.out)).trans HB2.out); have HV3 := Lib.hid ((hb3.block _ (blkLt HV2.out)).trans HV2.out); clear b0 b1 b2 b3 b4 b5; obtain ⟨⟨b0, b1, b2, b3, b4, b5⟩, -⟩ := cells6 HB3.out; have hx3 := blkLt HB3.out; clear l0; have l0 := cellI HV3.out; have hxl3 := blkLt HV3.out; clear hb3)
  | (go_at_call_of 107 (Value.int IntKind.i64 4); refine (between_any 4 3 4 _).mono ?_; rintro e w4 ⟨rfl, hb4⟩; have HW4 := Lib.hid (HW3.out.trans (hb4.mono HW3.out.size)); have HB4 := Lib.hid ((hb4.block _ (blkLt HB3.out)).trans HB3.out); have HV4 := Lib.hid ((hb4.block _ (blkLt HV3.out)).trans HV3.out); clear b0 b1 b2 b3 b4 b5; obtain ⟨⟨b0, b1, b2, b3, b4, b5⟩, -⟩ := cells6 HB4.out; have hx4 := blkLt HB4.out; clear l0; have l0 := cellI HV4.out; have hxl4 := blkLt HV4.out; have hKi := HK.out w4 HW4.out; obtain ⟨A0, c0, ⟨e0, e1c, e2c, e3, e4, e5⟩, hK0⟩ := (KidsR.get _ _ _ hKi 0 _ rfl).cells; have hK0H := Lib.hid hK0; clear hKi hK0; simp only [Nat.zero_mul, Nat.add_zero, Nat.one_mul] at e0 e1c e2c e3 e4 e5; clear hb4)
  | (go_at_call_of 136 (Value.string (Nd.name e1)); refine (HX1e.out w4 HW4.out A0 c0 hK0H.out).mono ?_; rintro e w5 ⟨rfl, hb5⟩; have HW5 := Lib.hid (HW4.out.trans (hb5.mono HW4.out.size)); have HB5 := Lib.hid ((hb5.block _ (blkLt HB4.out)).trans HB4.out); have HV5 := Lib.hid ((hb5.block _ (blkLt HV4.out)).trans HV4.out); clear b0 b1 b2 b3 b4 b5; obtain ⟨⟨b0, b1, b2, b3, b4, b5⟩, -⟩ := cells6 HB5.out; have hx5 := blkLt HB5.out; clear l0; have l0 := cellI HV5.out; have hxl5 := blkLt HV5.out; clear e0 e1c e2c e3 e4 e5; have hKi := HK.out w5 HW5.out; obtain ⟨A1, c1, ⟨e0, e1c, e2c, e3, e4, e5⟩, hK1⟩ := (KidsR.get _ _ _ hKi 1 _ rfl).cells; have hK1H := Lib.hid hK1; clear hKi hK1; simp only [Nat.zero_mul, Nat.add_zero, Nat.one_mul] at e0 e1c e2c e3 e4 e5; clear hb5)
  | (go_at_call_of 136 (Value.string (Nd.name e2)); refine (HX2e.out w5 HW5.out A1 c1 hK1H.out).mono ?_; rintro e w6 ⟨rfl, hb6⟩; have HW6 := Lib.hid (HW5.out.trans (hb6.mono HW5.out.size)); have HB6 := Lib.hid ((hb6.block _ (blkLt HB5.out)).trans HB5.out); have HV6 := Lib.hid ((hb6.block _ (blkLt HV5.out)).trans HV5.out); clear b0 b1 b2 b3 b4 b5; obtain ⟨⟨b0, b1, b2, b3, b4, b5⟩, -⟩ := cells6 HB6.out; have hx6 := blkLt HB6.out; clear l0; have l0 := cellI HV6.out; have hxl6 := blkLt HV6.out; clear hb6)
  | (go_at_call 75; refine (HE.out w6 HW6.out (by have := blkLt HV6.out; omega) l0).mono ?_; rintro e w7 ⟨rfl, hb7⟩; have HW7 := Lib.hid (HW6.out.trans (hb7.mono HW6.out.size)); clear hb7))
 all_goals
  go_ret
  refine ⟨?_, by first | exact HW7.out | exact HW6.out | exact HW5.out | exact HW4.out | exact HW3.out | exact HW2.out⟩
  simp [*]
theorem stmt_deep (t : Nd) (w : World) (A : Option Addr) (c : Nat) (lv : Int) (b : Nat) (hc : w.cell? ⟨b, 0, none⟩ = some (.int .i64 lv)) (h12 : 12 < lv) :
  Calls Tryz.prog 135 #[nv t A c, .pointer (some ⟨b, 0, none⟩)] w (BB false w) := by
 have hlt := World.block_lt_of_cell? w _ hc
 go_enter Tryz.func135, Tryz.ntmps135
 go_wp2_with fail
 go_ret
 exact ⟨rfl, (Below.refl w.heap.size w).alloc (Nat.le_refl _) _⟩
theorem stmt_other (t : Nd) (R : Bool) (w : World) (A : Option Addr) (c : Nat) (lv : Int) (b : Nat) (hc : w.cell? ⟨b, 0, none⟩ = some (.int .i64 lv)) (h12 : ¬ 12 < lv) (hk : t.kind ≠ 10)
  (hI : Calls Tryz.prog 137 #[nv t A c, .int .i64 lv] (w.alloc (.cells (ndArr t A c) 79)) (BB R (w.alloc (.cells (ndArr t A c) 79)))) :
  Calls Tryz.prog 135 #[nv t A c, .pointer (some ⟨b, 0, none⟩)] w (BB R w) := by
 have hlt := World.block_lt_of_cell? w _ hc
 have hb0 := (Below.refl w.heap.size w).alloc (Nat.le_refl _) (.cells (ndArr t A c) 79)
 have hlv : decide (12 < lv) = false := by simp; omega
 have hkb : (t.kind == 10) = false := by simp [hk]
 have HI := Lib.hid hI
 clear hI hk
 go_enter Tryz.func135, Tryz.ntmps135
 go_wp2_with (go_at_call 137; refine HI.out.mono ?_; rintro e w2 ⟨rfl, hb2⟩)
 go_ret
 exact ⟨rfl, hb0.trans (hb2.mono (by simp))⟩
theorem stmtX_asg (x : ByteArray) (n u a : Int) (ks : List Nd) (w : World) (A : Option Addr) (c : Nat) (lv : Int) (b : Nat) (hc : w.cell? ⟨b, 0, none⟩ = some (.int .i64 lv)) (h12 : ¬ 12 < lv) (hL : LaidW w) (hw : 8 < w.heap.size) (hm : x.size ≤ maxLen) (hl : ks.length ≠ 1) :
  Calls Tryz.prog 135 #[aggN 10 x n u a A ks.length c, .pointer (some ⟨b, 0, none⟩)] w (BB false w) := by
 have hlt := World.block_lt_of_cell? w _ hc
 have HW0 := Lib.hid ((Below.refl w.heap.size w).alloc (Nat.le_refl _) (.cells (arrN 10 x n u a A ks.length c) 79))
 have HB0 := Lib.hid (newBlk w (.cells (arrN 10 x n u a A ks.length c) 79) _ rfl)
 have hlv : decide (12 < lv) = false := by simp; omega
 have hlb : ((ks.length : Int) == 1) = false := by simp; omega
 have HN := Lib.hid (named_any (.mk 10 x n u a ks) A c 10 (w.alloc (.cells (arrN 10 x n u a A ks.length c) 79)) (hL.below HW0.out hw) (by simp; omega) hm)
 clear hL hl
 go_enter Tryz.func135, Tryz.ntmps135
 go_wp2_with (first
  | (go_at_call 89; refine (HN.out).mono ?_; rintro e w1 ⟨rfl, hb1⟩; have HW1 := Lib.hid (HW0.out.trans (hb1.mono HW0.out.size)); have HB1 := Lib.hid ((hb1.block _ (blkLt HB0.out)).trans HB0.out); obtain ⟨⟨b0, b1, b2, b3, b4, b5⟩, -⟩ := cells6 HB1.out; have hx1 := blkLt HB1.out; clear hb1))
 all_goals
  go_ret
  exact ⟨rfl, HW1.out⟩
theorem stmtX_asg1 (x : ByteArray) (n u a : Int) (e1 : Nd) (w : World) (A : Option Addr) (c : Nat) (lv : Int) (b : Nat) (hc : w.cell? ⟨b, 0, none⟩ = some (.int .i64 lv)) (h12 : ¬ 12 < lv) (hL : LaidW w) (hw : 8 < w.heap.size) (hm : x.size ≤ maxLen) (hN1 : NmS e1) (hK : KidsR w (From 0) [e1] A) :
  Calls Tryz.prog 135 #[aggN 10 x n u a A 1 c, .pointer (some ⟨b, 0, none⟩)] w (BB (namedB (.mk 10 x n u a [e1]) 10 && vExpr e1 1) w) := by
 have hlt := World.block_lt_of_cell? w _ hc
 obtain ⟨g, o, rfl⟩ := hK.addr (by simp)
 have HW0 := Lib.hid ((Below.refl w.heap.size w).alloc (Nat.le_refl _) (.cells (arrN 10 x n u a (some ⟨g, o, none⟩) 1 c) 79))
 have HB0 := Lib.hid (newBlk w (.cells (arrN 10 x n u a (some ⟨g, o, none⟩) 1 c) 79) _ rfl)
 have hlv : decide (12 < lv) = false := by simp; omega
 have HN := Lib.hid (named_any (.mk 10 x n u a [e1]) (some ⟨g, o, none⟩) c 10 (w.alloc (.cells (arrN 10 x n u a (some ⟨g, o, none⟩) 1 c) 79)) (hL.below HW0.out hw) (by simp; omega) hm)
 have HX1e := Lib.hid (fun wx (hb : Below w.heap.size w wx) A2 c2 hk => vexpr_any e1 wx A2 c2 1 (by decide) (by decide) (hL.below hb hw) (Nat.lt_of_lt_of_le hw hb.size) hN1 hk)
 have HK := Lib.hid (fun wx (hb : Below w.heap.size w wx) => hK.keep (w' := wx) (P' := From 0) (fun q h1 h2 => ⟨hb.block q h2, h1⟩))
 clear hL hK
 go_enter Tryz.func135, Tryz.ntmps135
 go_wp2_with (first
  | (go_at_call 89; refine (HN.out).mono ?_; rintro e w1 ⟨rfl, hb1⟩; have HW1 := Lib.hid (HW0.out.trans (hb1.mono HW0.out.size)); have HB1 := Lib.hid ((hb1.block _ (blkLt HB0.out)).trans HB0.out); obtain ⟨⟨b0, b1, b2, b3, b4, b5⟩, -⟩ := cells6 HB1.out; have hx1 := blkLt HB1.out; have hKi := HK.out w1 HW1.out; obtain ⟨A0, c0, ⟨e0, e1c, e2c, e3, e4, e5⟩, hK0⟩ := (KidsR.get _ _ _ hKi 0 _ rfl).cells; have hK0H := Lib.hid hK0; clear hKi hK0; simp only [Nat.zero_mul, Nat.add_zero] at e0 e1c e2c e3 e4 e5; clear hb1)
  | (go_at_call 136; refine (HX1e.out w1 HW1.out A0 c0 hK0H.out).mono ?_; rintro e w2 ⟨rfl, hb2⟩; have HW2 := Lib.hid (HW1.out.trans (hb2.mono HW1.out.size)); clear hb2))
 all_goals
  go_ret
  refine ⟨?_, by first | exact HW2.out | exact HW1.out⟩
  simp [*]
theorem if_any (t : Nd) (hB : ∀ u ∈ t.kids, BlC u) (w : World) (A : Option Addr) (c : Nat) (lv : Int) (h1 : 1 ≤ lv) (h2 : lv ≤ 12) (hL : LaidW w) (hw : 8 < w.heap.size) (hN : NmS t) (hK : KidsR w (From 0) t.kids A) :
  Calls Tryz.prog 137 #[nv t A c, .int .i64 lv] w (BB (btw t.n 1 6 && (plainB (zn t) 11 && (btw t.kids.length 3 4 && (vE t.kids 0 && (vE t.kids 1 && vBlks t.kids 2 (lv + 1)))))) w) := by
 obtain ⟨k, x, n, u, a, ks⟩ := t
 have hNk := hN.kids
 simp only [Nd.kids] at hB hNk hK
 cases hl : btw (ks.length : Int) 3 4 with
 | false =>
  have e : (btw (Nd.mk k x n u a ks).n 1 6 && (plainB (zn (.mk k x n u a ks)) 11 && (btw (Nd.mk k x n u a ks).kids.length 3 4 && (vE ks 0 && (vE ks 1 && vBlks ks 2 (lv + 1)))))) = false := by
   show (_ && (_ && (btw (ks.length : Int) 3 4 && _))) = false
   rw [hl]; simp
  show Calls _ _ _ _ (BB (btw (Nd.mk k x n u a ks).n 1 6 && (plainB (zn (.mk k x n u a ks)) 11 && (btw (Nd.mk k x n u a ks).kids.length 3 4 && (vE ks 0 && (vE ks 1 && vBlks ks 2 (lv + 1)))))) w)
  rw [e]
  exact if_len k x n u a ks w A c lv hl
 | true =>
  have hr := btw_range hl
  match ks, hr, hB, hNk, hK with
  | [], hr, _, _, _ => simp at hr
  | [_], hr, _, _, _ => simp at hr
  | [_, _], hr, _, _, _ => simp at hr
  | [e1, e2, f1], _, hB, hNk, hK =>
   have h := if_3 k x n u a e1 e2 f1 (hB f1 (by simp)) w A c lv h1 h2 hL hw (hNk.mem e1 (by simp)) (hNk.mem e2 (by simp)) (hNk.mem f1 (by simp)) hK
   exact h
  | [e1, e2, f1, f2], _, hB, hNk, hK =>
   have h := if_4 k x n u a e1 e2 f1 f2 (hB f1 (by simp)) (hB f2 (by simp)) w A c lv h1 h2 hL hw (hNk.mem e1 (by simp)) (hNk.mem e2 (by simp)) (hNk.mem f1 (by simp)) (hNk.mem f2 (by simp)) hK
   exact h
  | _ :: _ :: _ :: _ :: _ :: _, hr, _, _, _ => simp at hr; omega
theorem stmt_step (t : Nd) (hB : ∀ u ∈ t.kids, BlC u) : StC t := by
 intro w A c lv b h1 h2 hc hL hw hN hK
 have hb0 := (Below.refl w.heap.size w).alloc (Nat.le_refl _) (.cells (ndArr t A c) 79)
 by_cases h12 : 12 < lv
 ·have e : vStmt t lv = false := by cases t; rw [vStmt, if_pos h12]
  rw [e]; exact stmt_deep t w A c lv b hc h12
 ·by_cases hk : t.kind = 10
  ·obtain ⟨k, x, n, u, a, ks⟩ := t
   simp only [Nd.kind] at hk
   subst hk
   have e : vStmt (.mk 10 x n u a ks) lv = (namedB (.mk 10 x n u a ks) 10 && (decide (ks.length = 1) && vE ks 0)) := by rw [vStmt, if_neg h12, if_pos rfl]
   rw [e]
   by_cases hl : ks.length = 1
   ·obtain ⟨e1, rfl⟩ : ∃ e1, ks = [e1] := by
     match ks, hl with
     | [e1], _ => exact ⟨e1, rfl⟩
    have hNk := hN.kids
    exact stmtX_asg1 x n u a e1 w A c lv b hc h12 hL hw hN.name (hNk.mem e1 (by simp [Nd.kids])) hK
   ·have e2 : (namedB (.mk 10 x n u a ks) 10 && (decide (ks.length = 1) && vE ks 0)) = false := by simp [hl]
    rw [e2]
    exact stmtX_asg x n u a ks w A c lv b hc h12 hL hw hN.name hl
  ·have e : vStmt t lv = (btw t.n 1 6 && (plainB (zn t) 11 && (btw t.kids.length 3 4 && (vE t.kids 0 && (vE t.kids 1 && vBlks t.kids 2 (lv + 1)))))) := by
    cases t; simp only [Nd.kind] at hk; rw [vStmt, if_neg h12, if_neg hk]; rfl
   rw [e]
   exact stmt_other t _ w A c lv b hc h12 hk (if_any t hB _ A c lv h1 (by omega) (hL.below hb0 hw) (by simp; omega) hN (hK.keep (fun q h1 h2 => ⟨hb0.block q h2, h1⟩)))
mutual
theorem stmtP : ∀ t : Nd, StC t ∧ BlC t
 | .mk k x n u a kids => ⟨stmt_step (.mk k x n u a kids) (fun v hv => (stmtPs kids v hv).2), block_of (.mk k x n u a kids) (fun v hv => (stmtPs kids v hv).1)⟩
theorem stmtPs : ∀ (ts : List Nd), ∀ u ∈ ts, StC u ∧ BlC u
 | [], u, hu => by cases hu
 | t :: ts, u, hu => by
  rcases List.mem_cons.1 hu with h | h
  ·rw [h]; exact stmtP t
  ·exact stmtPs ts u h
end
theorem stmt_any2 (t : Nd) : StC t := (stmtP t).1
end Go.Proofs.YtljknappbnoikaaGreatDoor
namespace Go.Proofs.YtljknappbnoikaaGreatDoor
open Go.RowKit
def vHandler (t : Nd) : Bool := btw t.n 0 4 && plainB (zn t) 8 && vSts t.kids 1
theorem validHandler_any (t : Nd) (A : Option Addr) (c : Nat) (w : World) (hL : LaidW w) (hw : 8 < w.heap.size) (hN : NmS t) (hK : KidsR w (From 0) t.kids A) : Calls Tryz.prog 110 #[nv t A c] w (BB (vHandler t) w) := by
 have he := empty_len t.kids
 have HS := Lib.hid (fun wx (hb : Below w.heap.size w wx) => validStmts_of t.kids (fun u _ => stmt_any2 u) wx A (t.kids.length + c) 1 (by decide) (by decide) (hL.below hb hw) (Nat.lt_of_lt_of_le hw hb.size) hN.kids hN.len (hK.keep (fun q h1 h2 => ⟨hb.block q h2, h1⟩)))
 clear hL hw hK
 have hb0 := (Below.refl w.heap.size w).alloc (Nat.le_refl _) (.cells (ndArr t A c) 79)
 have HB := Lib.hid (newBlk w (.cells (ndArr t A c) 79) _ rfl)
 go_enter Tryz.func110, Tryz.ntmps110
 go_wp2_with (first
  | (go_at_call 106; refine (take_any t A c _).mono ?_; rintro e w1 ⟨rfl, hb1⟩; have HB1 := Lib.hid ((hb1.block _ (blkLt HB.out)).trans HB.out); obtain ⟨⟨b0, b1, b2, b3, b4, b5⟩, d0, d1, d2, d3, d4, d5⟩ := cells6 HB1.out; have hx1 := blkLt HB1.out; have HW1 := Lib.hid (hb0.trans (hb1.mono (by simp))); clear hb1)
  | (go_at_call 107; refine (between_any t.n 0 4 _).mono ?_; rintro e w2 ⟨rfl, hb2⟩; have HB2 := Lib.hid ((hb2.block _ (by rw [size6]; exact hx1)).trans (set6A HB1.out)); clear b0 b1 b2 b3 b4 b5 d0 d1 d2 d3 d4 d5; obtain ⟨⟨b0, b1, b2, b3, b4, b5⟩, -⟩ := cells6 HB2.out; have hx2 := blkLt HB2.out; have HW2 := Lib.hid ((below6 HW1.out (Nat.le_refl _)).trans (hb2.mono (by rw [size6]; exact HW1.out.size))); clear hb2)
  | (go_at_call 74; refine (plain_any (zn t) A c 8 _).mono ?_; rintro e w3 ⟨rfl, hb3⟩; have HB3 := Lib.hid ((hb3.block _ hx2).trans HB2.out); clear b0 b1 b2 b3 b4 b5; obtain ⟨⟨b0, b1, b2, b3, b4, b5⟩, -⟩ := cells6 HB3.out; have hx3 := blkLt HB3.out; have HW3 := Lib.hid (HW2.out.trans (hb3.mono HW2.out.size)); clear hb3)
  | (go_at_call 124; refine (HS.out _ HW3.out).mono ?_; rintro e w4 ⟨rfl, hb4⟩; have HW4 := Lib.hid (HW3.out.trans (hb4.mono HW3.out.size)); clear hb4))
 all_goals
  go_ret
  refine ⟨?_, by first | exact HW4.out | exact HW3.out | exact HW2.out⟩
  simp [vHandler, zn_kids, *]
end Go.Proofs.YtljknappbnoikaaGreatDoor
namespace Go.Proofs.YtljknappbnoikaaGreatDoor
open Go.RowKit
theorem KidsR.drop {w : World} {P : Nat → Prop} : ∀ (ts : List Nd) (g o k : Nat), k < ts.length → KidsR w P ts (some ⟨g, o, none⟩) → KidsR w P (ts.drop k) (some ⟨g, o + k * 6, none⟩)
 | [], g, o, k, hk, h => by simp at hk
 | t :: ts, g, o, 0, hk, h => by simpa using h
 | t :: ts, g, o, k + 1, hk, h => by
  unfold KidsR at h
  obtain ⟨g', o', hA, -, -, h2⟩ := h
  cases hA
  have h3 := KidsR.drop ts g (o + 6) k (by simpa using hk) h2
  rw [show o + (k + 1) * 6 = o + 6 + k * 6 by omega]
  exact h3
def vUses : List Nd → Int → Bool
 | [], _ => true
 | t :: ts, i => decide (t.n = i) && (namedB (zn t) 9 && (t.kids.isEmpty && vUses ts (i + 1)))
def vRest (ts : List Nd) : List Nd := (ts.drop (lead vVar ts)).drop (lead vHandler (ts.drop (lead vVar ts)))
def vProg (ts : List Nd) : Bool := vUses (vRest ts) 0 && btw (vRest ts).length 1 2
theorem does_var (ts : List Nd) (w : World) (hL : LaidW w) (hw : 8 < w.heap.size) (hN : NmSs ts) : Does 109 #[] vVar ts w :=
 fun t ht wx A c hb hK => validVar_any t A c wx (hL.below hb hw) (Nat.lt_of_lt_of_le hw hb.size) (hN.mem t ht).name hK (hN.mem t ht).len
theorem does_handler (ts : List Nd) (w : World) (hL : LaidW w) (hw : 8 < w.heap.size) (hN : NmSs ts) : Does 110 #[] vHandler ts w :=
 fun t ht wx A c hb hK => validHandler_any t A c wx (hL.below hb hw) (Nat.lt_of_lt_of_le hw hb.size) (hN.mem t ht) hK
theorem NmSs.drop : ∀ {ts : List Nd} (k : Nat), NmSs ts → NmSs (ts.drop k)
 | ts, 0, h => h
 | [], k + 1, h => h
 | t :: ts, k + 1, h => by unfold NmSs at h; exact NmSs.drop k h.2
theorem vUses_drop (ts : List Nd) (k : Nat) (hk : k < ts.length) (i : Int) : vUses (ts.drop k) i = (decide (ts[k].n = i) && (namedB (zn ts[k]) 9 && (ts[k].kids.isEmpty && vUses (ts.drop (k + 1)) (i + 1)))) := by
 rw [List.drop_eq_getElem_cons hk, vUses]
theorem prog_vars (ts : List Nd) (A : Option Addr) (m : Nat) (w : World) (hL : LaidW w) (hw : 8 < w.heap.size) (hN : NmSs ts) (hlen : ts.length ≤ maxLen) (hm : ts.length ≤ m) (hK : KidsR w (From 0) ts A) (ha : lead vVar ts = ts.length) :
  Calls Tryz.prog 93 #[.slice A ts.length m] w (BB false w) := by
 have H1 := lead_validVar vVar ts A m w hK (does_var ts w hL hw hN) hlen
 rw [ha] at H1
 have H2 : Hid (∀ wx (A2 : Option Addr) (c2 : Nat), Calls Tryz.prog 88 #[.slice A2 0 c2, .func (.func 110) #[] #[]] wx (NN 0 wx)) := Lib.hid (fun wx A2 c2 => lead_validHandler vHandler [] A2 c2 wx trivial (fun t ht => by cases ht) (by unfold maxLen; simp))
 clear hK hL hN ha
 unfold maxLen at hlen
 generalize ts.length = n at *
 by_cases hc : m = n
 ·subst hc
  have H1 := Lib.hid H1
  go_enter Tryz.func93, Tryz.ntmps93
  go_wp2_with (first
   | (go_at_call_of 88 (Value.slice A m m); refine H1.out.mono ?_; rintro e w1 ⟨rfl, hb1⟩)
   | (go_at_call 88; refine (H2.out _ _ _).mono ?_; rintro e w2 ⟨rfl, hb2⟩))
  go_loopg [17] 0 (fun gk i wr => i = .int .i64 0 ∧ Hid (Below w.heap.size w wr))
  case atStart => exact ⟨rfl, Lib.hid (hb1.trans (hb2.mono hb1.size))⟩
  case round =>
   obtain ⟨rfl, hW⟩ := hrel
   go_wp2_with (go_at_call 107; refine (between_any 0 1 2 _).mono ?_; rintro e w3 ⟨rfl, hb3⟩)
   go_ret
   exact ⟨rfl, hW.out.trans (hb3.mono hW.out.size)⟩
 ·have H1 := Lib.hid H1
  go_enter Tryz.func93, Tryz.ntmps93
  go_wp2_with (first
   | (go_at_call_of 88 (Value.slice A n m); refine H1.out.mono ?_; rintro e w1 ⟨rfl, hb1⟩)
   | (go_at_call 88; refine (H2.out _ _ _).mono ?_; rintro e w2 ⟨rfl, hb2⟩))
  go_loopg [17] 0 (fun gk i wr => i = .int .i64 0 ∧ Hid (Below w.heap.size w wr))
  case atStart => exact ⟨rfl, Lib.hid (hb1.trans (hb2.mono hb1.size))⟩
  case round =>
   obtain ⟨rfl, hW⟩ := hrel
   go_wp2_with (go_at_call 107; refine (between_any 0 1 2 _).mono ?_; rintro e w3 ⟨rfl, hb3⟩)
   go_ret
   exact ⟨rfl, hW.out.trans (hb3.mono hW.out.size)⟩
end Go.Proofs.YtljknappbnoikaaGreatDoor
