/- Texts of one proof: MxO. -/
import Derived.Test.YtdlebaiamdbneaaGreatDoorYl
set_option linter.unusedVariables false
set_option linter.unusedSimpArgs false
set_option maxRecDepth 100000
set_option maxHeartbeats 8000000
namespace Go.Proofs.YtdlebaiamdbneaaGreatDoor
open Go.RowKit
namespace M
open I
open U (Ex St StsR StR StAt btw btw_iff ev eArr KidsE newBlk blkLt Vr VarsR VrAt KpL sArr two_kids owns_below new_cells gbRefl gbAlloc gbTrans gbBelow)
open R (epanic bAllocX insR LeftP erOf cell1 limS WfL)
theorem one_st {w : World} {b : Nat} {x : St} {A B T E : Option Addr} {c d m n : Nat} {Ty : TypeId} (h : w.heap[b]? = some (.cells (sArr x A c B d T m E n) Ty (0, 0))) (hA : KidsE w x.a.kids A) (hB : KidsE w x.b.kids B) (hT : StsR w x.th T) (hE : StsR w x.el E)
  (hlt : x.th.length ≤ maxLen) (hle : x.el.length ≤ maxLen) : StsR w [x] (some ⟨b, 0, none⟩) := by
 obtain ⟨e0, e1, e2, e3, e4, e5, e6, e7, e8, e9, e10, e11, e12⟩ := U.cells13 h
 obtain ⟨k, v, r, a, bb, th, el⟩ := x
 unfold StsR
 refine ⟨b, 0, rfl, ?_, ?_⟩
 ·unfold StR
  exact ⟨A, c, B, d, T, m, E, n, ⟨e0, e1, e2, e3, e4, e5, e6, e7, e8, e9, e10, e11, e12⟩, hA, hB, hT, hE, hlt, hle⟩
 ·unfold StsR
  trivial
def KP (B : Nat) (w : World) (ts : List Ex) (A : Option Addr) : Prop := ∀ w' : World, (∀ k, B ≤ k → k < w.heap.size → w'.heap[k]? = w.heap[k]?) → KidsE w' ts A
def SP (B : Nat) (w : World) (l : List St) (A : Option Addr) : Prop := ∀ w' : World, (∀ k, B ≤ k → k < w.heap.size → w'.heap[k]? = w.heap[k]?) → StsR w' l A
theorem KP.here {B : Nat} {w : World} {ts : List Ex} {A : Option Addr} (h : KP B w ts A) : KidsE w ts A := h w (fun _ _ _ => rfl)
theorem SP.here {B : Nat} {w : World} {l : List St} {A : Option Addr} (h : SP B w l A) : StsR w l A := h w (fun _ _ _ => rfl)
theorem KP.kp {B : Nat} {w w2 : World} {ts : List Ex} {A : Option Addr} (h : KP B w ts A) (hs : w.heap.size ≤ w2.heap.size) (hb : ∀ k, B ≤ k → k < w.heap.size → w2.heap[k]? = w.heap[k]?) : KP B w2 ts A := fun w' hw => h w' (fun k h1 h2 => (hw k h1 (by omega)).trans (hb k h1 h2))
theorem SP.kp {B : Nat} {w w2 : World} {l : List St} {A : Option Addr} (h : SP B w l A) (hs : w.heap.size ≤ w2.heap.size) (hb : ∀ k, B ≤ k → k < w.heap.size → w2.heap[k]? = w.heap[k]?) : SP B w2 l A := fun w' hw => h w' (fun k h1 h2 => (hw k h1 (by omega)).trans (hb k h1 h2))
theorem KP.gr {B : Nat} {w w2 : World} {ts : List Ex} {A : Option Addr} (h : KP B w ts A) (hg : Gr w w2) : KP B w2 ts A := h.kp hg.size (fun k _ h2 => hg.block k h2)
theorem SP.gr {B : Nat} {w w2 : World} {l : List St} {A : Option Addr} (h : SP B w l A) (hg : Gr w w2) : SP B w2 l A := h.kp hg.size (fun k _ h2 => hg.block k h2)
theorem KP.set {B b i : Nat} {w : World} {ts : List Ex} {A : Option Addr} {u : Value} (h : KP B w ts A) (hb : b < B) : KP B (w.setCell ⟨b, i, none⟩ u) ts A := h.kp (by simp [World.setCell]) (fun k h1 _ => C.scO _ _ _ _ _ (by omega))
theorem SP.set {B b i : Nat} {w : World} {l : List St} {A : Option Addr} {u : Value} (h : SP B w l A) (hb : b < B) : SP B (w.setCell ⟨b, i, none⟩ u) l A := h.kp (by simp [World.setCell]) (fun k h1 _ => C.scO _ _ _ _ _ (by omega))
theorem KP.nil (B : Nat) (w : World) (A : Option Addr) : KP B w [] A := fun _ _ => trivial
theorem SP.one {B : Nat} {w : World} {b : Nat} {x : St} {A Bd T E : Option Addr} {c d m n : Nat} {Ty : TypeId} (h : w.heap[b]? = some (.cells (sArr x A c Bd d T m E n) Ty (0, 0))) (hB : B ≤ b) (hA : KP B w x.a.kids A) (hBk : KP B w x.b.kids Bd) (hT : SP B w x.th T) (hE : SP B w x.el E)
  (hlt : x.th.length ≤ maxLen) (hle : x.el.length ≤ maxLen) : SP B w [x] (some ⟨b, 0, none⟩) := fun w' hw =>
 one_st (w := w') ((hw b hB (blkLt h)).trans h) (hA w' hw) (hBk w' hw) (hT w' hw) (hE w' hw) hlt hle
theorem SP.nil (B : Nat) (w : World) (A : Option Addr) : SP B w [] A := fun _ _ => by unfold StsR; trivial
def ExP (B : Nat) (t : Ex) (w : World) (e : Ending) (w' : World) : Prop := (∃ A c, e = .returned (ev t A c) ∧ KP B w' t.kids A) ∧ Below w.heap.size w w'
abbrev nm (n : Int) : Ex := .mk 1 n 1 []
theorem number_any (n : Int) (w : World) : Calls Tryz.prog 18 #[.int .i64 n] w (VV (.agg #[.int .i64 1, .int .i64 n, .int .i64 1, .slice none 0 0]) w) := by
 have HB := Lib.hid (grAlloc w (.cells #[.int .i64 0, .int .i64 0, .int .i64 0, .slice none 0 0] 46))
 go_enter Tryz.func18, Tryz.ntmps18
 go_wp2
 exact bodyPost_ret (v := .agg #[.int .i64 1, .int .i64 n, .int .i64 1, .slice none 0 0]) (by simp [results, Tryz.results18, go_sem]) rfl ⟨rfl, grAlloc _ _⟩
theorem bAllocY {B : Nat} {w X : World} {o : Obj} (h : Below B w X) (hB : B ≤ X.heap.size) : Below B w (X.alloc o) := h.alloc hB o
theorem bAl4 {w : World} (a b c d : Obj) : Below w.heap.size w ((((w.alloc a).alloc b).alloc c).alloc d) := bAllocX (bAllocX (bAllocX (bAllocX (Below.refl _ _))))
theorem two_any (BB0 : Nat) (op : Int) (s t : Ex) (A B : Option Addr) (c d : Nat) (w : World) (hBB : BB0 ≤ w.heap.size) (hA : KP BB0 w s.kids A) (hB : KP BB0 w t.kids B) (hs : s.kids.length ≤ maxLen) (ht : t.kids.length ≤ maxLen) :
  Calls Tryz.prog 17 #[.int .i64 op, ev s A c, ev t B d] w (ExP BB0 (.mk op 0 0 [s, t]) w) := by
 go_enter Tryz.func17, Tryz.ntmps17
 go_wp2
 refine bodyPost_ret (v := U.aggE op 0 0 (some ⟨w.heap.size + 1 + 1 + 1, 0, none⟩) 2 2) (by simp [results, Tryz.results17, go_sem]) rfl ?_
 refine ⟨⟨_, 0, rfl, fun w' hw => ?_⟩, bAl4 _ _ _ _⟩
 have hag : ∀ k, BB0 ≤ k → k < w.heap.size → w'.heap[k]? = w.heap[k]? := fun k h1 h2 => (hw k h1 (by simp; omega)).trans ((bAl4 _ _ _ _).block k h2)
 exact two_kids ((hw _ (by omega) (by simp)).trans (newBlk _ _ _ (by simp))) hs ht (hA w' hag) (hB w' hag)
abbrev ew : Ex := .mk 2 0 0 []
abbrev ei : Ex := .mk 3 0 0 []
abbrev ez : Ex := .mk 0 0 0 []
abbrev e2 : Ex := .mk 1 2 0 []
abbrev t2 (op : Int) (a b : Ex) : Ex := .mk op 0 0 [a, b]
abbrev sAck : St := .mk 1 0 0 (t2 9 (t2 4 ew ei) (nm 9)) ez [] []
abbrev sHalf : St := .mk 1 0 0 (t2 7 ew e2) ez [] []
abbrev sLess : St := .mk 1 0 0 (t2 5 ew (nm 1)) ez [] []
abbrev sLoss : St := .mk 2 0 3 ew (nm 4) [sHalf] [sLess]
theorem StsR_nil (w : World) (A : Option Addr) : StsR w [] A := by unfold StsR; trivial
theorem KP.weak {B B2 : Nat} {w : World} {ts : List Ex} {A : Option Addr} (h : KP B2 w ts A) (hle : B ≤ B2) : KP B w ts A := fun w' hw => h w' (fun k h1 h2 => hw k (by omega) h2)
abbrev st13 (w : World) (b : Nat) (x0 x1 x2 x3 x4 x5 x6 x7 x8 x9 x10 x11 x12 : Value) : World := (((((((((((((w.setCell ⟨b, 0, none⟩ x0).setCell ⟨b, 1, none⟩ x1).setCell ⟨b, 2, none⟩ x2).setCell ⟨b, 3, none⟩ x3).setCell ⟨b, 4, none⟩ x4).setCell ⟨b, 5, none⟩ x5).setCell ⟨b, 6, none⟩ x6).setCell ⟨b, 7, none⟩ x7).setCell ⟨b, 8, none⟩ x8).setCell ⟨b, 9, none⟩ x9).setCell ⟨b, 10, none⟩ x10).setCell ⟨b, 11, none⟩ x11).setCell ⟨b, 12, none⟩ x12)
theorem set13 {w : World} {b : Nat} {v0 v1 v2 v3 v4 v5 v6 v7 v8 v9 v10 v11 v12 x0 x1 x2 x3 x4 x5 x6 x7 x8 x9 x10 x11 x12 : Value} {T : TypeId} (h : w.heap[b]? = some (.cells #[v0, v1, v2, v3, v4, v5, v6, v7, v8, v9, v10, v11, v12] T (0, 0))) : (st13 w b x0 x1 x2 x3 x4 x5 x6 x7 x8 x9 x10 x11 x12).heap[b]? = some (.cells #[x0, x1, x2, x3, x4, x5, x6, x7, x8, x9, x10, x11, x12] T (0, 0)) := by
 have g0 : (w.setCell ⟨b, 0, none⟩ x0).heap[b]? = some (.cells #[x0, v1, v2, v3, v4, v5, v6, v7, v8, v9, v10, v11, v12] T (0, 0)) := by rw [heap_setCell_same w b 0 _ _ _ h]; simp
 have g1 := by have := heap_setCell_same _ b 1 _ _ x1 g0; simpa using this
 have g2 := by have := heap_setCell_same _ b 2 _ _ x2 g1; simpa using this
 have g3 := by have := heap_setCell_same _ b 3 _ _ x3 g2; simpa using this
 have g4 := by have := heap_setCell_same _ b 4 _ _ x4 g3; simpa using this
 have g5 := by have := heap_setCell_same _ b 5 _ _ x5 g4; simpa using this
 have g6 := by have := heap_setCell_same _ b 6 _ _ x6 g5; simpa using this
 have g7 := by have := heap_setCell_same _ b 7 _ _ x7 g6; simpa using this
 have g8 := by have := heap_setCell_same _ b 8 _ _ x8 g7; simpa using this
 have g9 := by have := heap_setCell_same _ b 9 _ _ x9 g8; simpa using this
 have g10 := by have := heap_setCell_same _ b 10 _ _ x10 g9; simpa using this
 have g11 := by have := heap_setCell_same _ b 11 _ _ x11 g10; simpa using this
 have g12 := by have := heap_setCell_same _ b 12 _ _ x12 g11; simpa using this
 exact g12
theorem oth13 {w : World} {b k : Nat} {x0 x1 x2 x3 x4 x5 x6 x7 x8 x9 x10 x11 x12 : Value} (h : k ≠ b) : (st13 w b x0 x1 x2 x3 x4 x5 x6 x7 x8 x9 x10 x11 x12).heap[k]? = w.heap[k]? := (C.scO _ _ _ _ _ h).trans ((C.scO _ _ _ _ _ h).trans ((C.scO _ _ _ _ _ h).trans ((C.scO _ _ _ _ _ h).trans ((C.scO _ _ _ _ _ h).trans ((C.scO _ _ _ _ _ h).trans ((C.scO _ _ _ _ _ h).trans ((C.scO _ _ _ _ _ h).trans ((C.scO _ _ _ _ _ h).trans ((C.scO _ _ _ _ _ h).trans ((C.scO _ _ _ _ _ h).trans ((C.scO _ _ _ _ _ h).trans (C.scO _ _ _ _ _ h))))))))))))
theorem siz13 {w : World} {b : Nat} {x0 x1 x2 x3 x4 x5 x6 x7 x8 x9 x10 x11 x12 : Value} : (st13 w b x0 x1 x2 x3 x4 x5 x6 x7 x8 x9 x10 x11 x12).heap.size = w.heap.size := by simp [World.setCell]
theorem bel13 {B b : Nat} {a w : World} {x0 x1 x2 x3 x4 x5 x6 x7 x8 x9 x10 x11 x12 : Value} (h : Below B a w) (hb : B ≤ b) : Below B a (st13 w b x0 x1 x2 x3 x4 x5 x6 x7 x8 x9 x10 x11 x12) := C.belowSet (C.belowSet (C.belowSet (C.belowSet (C.belowSet (C.belowSet (C.belowSet (C.belowSet (C.belowSet (C.belowSet (C.belowSet (C.belowSet (C.belowSet (h) hb) hb) hb) hb) hb) hb) hb) hb) hb) hb) hb) hb) hb
theorem wpAnyX_two {P : Program} {ops : Array Oper} {Q : Exit → Act → World → Prop} {md : Region.Mode} {S : World → Prop} {X : List Nat} {i j : Nat} {oi oj : Oper} {fuel : Nat} {listed : Array Bool} {a : Act} {W : World} (hr : Region.ready md ops listed = [i, j]) (hi : ops[i]? = some oi) (hj : ops[j]? = some oj)
  (h1 : ∀ w, Gr W w → ∀ K' : Act → World → Prop, Shut (∀ a w, S w → (Hid (S w) → wpAnyX P md ops Q S X fuel (listed.setIfInBounds i true) a w) → K' a w) → if Region.wanted oi (yielded ops a.tmps) = true then Oper.wp P oi a w K' Q else K' (a.put oi.dst undef) w)
  (h2 : ∀ w, Gr W w → ∀ K' : Act → World → Prop, Shut (∀ a w, S w → (Hid (S w) → wpAnyX P md ops Q S X fuel (listed.setIfInBounds j true) a w) → K' a w) → if Region.wanted oj (yielded ops a.tmps) = true then Oper.wp P oj a w K' Q else K' (a.put oj.dst undef) w) :
  wpAnyX P md ops Q S X (fuel + 1) listed a W := by
 refine ⟨fun h0 => ?_, fun k hk w hw => ?_⟩
 ·rw [hr] at h0; cases h0
 ·rw [hr] at hk
  rcases List.mem_cons.1 hk with rfl | hk
  ·exact wpOp_step hi (fun K' hK => h1 w hw K' (fun a w hS hW => hK a w ⟨.inr hS, hW hS⟩))
  ·obtain rfl : k = j := by simpa using hk
   exact wpOp_step hj (fun K' hK => h2 w hw K' (fun a w hS hW => hK a w ⟨.inr hS, hW hS⟩))
def exOn : U.On := ⟨[sAck], [sLoss], [], [], []⟩
def exVs : List Vr := [⟨⟨#[119]⟩, 1, 1, 9, 2⟩]
def ExmP (w : World) (e : Ending) (w' : World) : Prop := (∃ VA vm a, e = .returned (U.pgv ⟨#[99]⟩ VA 1 vm exOn a 0 (-1)) ∧ VarsR w' exVs VA ∧ U.OnR w' exOn a) ∧ Below w.heap.size w w'
theorem example_any (w : World) : Calls Tryz.prog 15 #[] w (ExmP w) := by
 obtain ⟨W4, hW4⟩ : ∃ W4, W4 = (((w.alloc (.cells C.zPg 26)).alloc (.cells #[.int .i64 2, .int .i64 0, .int .i64 0, .slice none 0 0] 46)).alloc (.cells #[.string ⟨#[119]⟩, .int .i64 1, .int .i64 1, .int .i64 9, .int .i64 2] 54)).alloc (.cells #[.string ⟨#[99]⟩, .slice (some ⟨w.heap.size + 1 + 1, 0, none⟩) 1 1, .slice none 0 0, .slice none 0 0, .slice none 0 0, .slice none 0 0, .slice none 0 0, .int .i64 0, .int .i64 (-1)] 26) := ⟨_, rfl⟩
 have HB : Hid (Gr w W4) := Lib.hid (by rw [hW4]; exact bAl4 _ _ _ _)
 have HZ : Hid (W4.heap[w.heap.size]? = some (.cells C.zPg 26 (0, 0))) := Lib.hid (by rw [hW4]; exact (Below.heap_alloc _ _ _ (by simp <;> omega)).trans ((Below.heap_alloc _ _ _ (by simp <;> omega)).trans ((Below.heap_alloc _ _ _ (by simp)).trans (newBlk _ _ _ rfl))))
 have HX : Hid (W4.heap[w.heap.size + 1]? = some (.cells #[.int .i64 2, .int .i64 0, .int .i64 0, .slice none 0 0] 46 (0, 0))) := Lib.hid (by rw [hW4]; exact (Below.heap_alloc _ _ _ (by simp <;> omega)).trans ((Below.heap_alloc _ _ _ (by simp)).trans (newBlk _ _ _ (by simp))))
 have HV : Hid (W4.heap[w.heap.size + 1 + 1]? = some (.cells #[.string ⟨#[119]⟩, .int .i64 1, .int .i64 1, .int .i64 9, .int .i64 2] 54 (0, 0))) := Lib.hid (by rw [hW4]; exact (Below.heap_alloc _ _ _ (by simp)).trans (newBlk _ _ _ (by simp)))
 have HP : Hid (W4.heap[w.heap.size + 1 + 1 + 1]? = some (.cells #[.string ⟨#[99]⟩, .slice (some ⟨w.heap.size + 1 + 1, 0, none⟩) 1 1, .slice none 0 0, .slice none 0 0, .slice none 0 0, .slice none 0 0, .slice none 0 0, .int .i64 0, .int .i64 (-1)] 26 (0, 0))) := Lib.hid (by rw [hW4]; exact newBlk _ _ _ (by simp))
 have HG := Lib.hid (Below.refl W4.heap.size W4)
 have hs4 : W4.heap.size = w.heap.size + 1 + 1 + 1 + 1 := by rw [hW4]; simp
 have hs4 := Lib.hid hs4
 go_enter Tryz.func15, Tryz.ntmps15
 go_upto_region 3 with fail
 rw [← hW4]
 clear hW4
 obtain ⟨⟨x0, x1, x2, x3⟩, -⟩ := C.cells4C HX.out
 go_upto_region 4 with (first
  | (go_at_call_of 17 (Value.int .i64 4); refine (two_any W4.heap.size 4 ew ei none none 0 0 _ HG.out.size (KP.nil _ _ _) (KP.nil _ _ _) (Nat.zero_le _) (Nat.zero_le _)).mono ?_; rintro e w5 ⟨⟨A5, c5, rfl, hk⟩, hb⟩; have hk5 := Lib.hid hk; have HG := Lib.hid (Gr.tr HG.out hb); clear hk hb x0 x1 x2 x3)
  | (go_at_call 18; refine (number_any 9 _).mono ?_; rintro e w6 ⟨rfl, hb⟩; have hk5 := Lib.hid (hk5.out.gr hb); have HG := Lib.hid (Gr.tr HG.out hb); clear hb)
  | (go_at_call_of 17 (Value.int .i64 9); refine (two_any W4.heap.size 9 (t2 4 ew ei) (nm 9) A5 none c5 0 _ HG.out.size hk5.out (KP.nil _ _ _) (by decide) (Nat.zero_le _)).mono ?_; rintro e w7 ⟨⟨A7, c7, rfl, hk⟩, hb⟩; have hk7 := Lib.hid hk; have HG := Lib.hid (Gr.tr HG.out hb); clear hk hb hk5; have HP7 := Lib.hid (grBlk HG.out HP.out); obtain ⟨⟨p0, p1, p2, p3, p4, p5, p6, p7, p8⟩, hfz⟩ := C.cells9C HP7.out; have d2 := hfz 2 (by omega); have hz7 := blkLt HP7.out))
 obtain ⟨W8, hW8⟩ : ∃ W8, W8 = (w7.setCell ⟨w.heap.size + 1 + 1 + 1, 2, none⟩ (.slice (some ⟨w7.heap.size, 0, none⟩) 1 1)).alloc (.cells (sArr sAck A7 c7 none 0 none 0 none 0) 65) := ⟨_, rfl⟩
 show Code.wp _ _ _ _ ((w7.setCell ⟨w.heap.size + 1 + 1 + 1, 2, none⟩ (.slice (some ⟨w7.heap.size, 0, none⟩) 1 1)).alloc (.cells (sArr sAck A7 c7 none 0 none 0 none 0) 65))
 rw [← hW8]
 have hsz7 : (w7.setCell ⟨w.heap.size + 1 + 1 + 1, 2, none⟩ (.slice (some ⟨w7.heap.size, 0, none⟩) 1 1)).heap.size = w7.heap.size := by simp [World.setCell]
 have hb2 : w.heap.size + 1 + 1 + 1 < W4.heap.size := by rw [hs4.out]; omega
 have hOth : ∀ k, k < w7.heap.size → k ≠ w.heap.size + 1 + 1 + 1 → W8.heap[k]? = w7.heap[k]? := fun k h1 h2 => by rw [hW8]; exact (Below.heap_alloc _ _ _ (by omega)).trans (C.scO _ _ _ _ _ h2)
 have HP8 : Hid (W8.heap[w.heap.size + 1 + 1 + 1]? = some (.cells #[.string ⟨#[99]⟩, .slice (some ⟨w.heap.size + 1 + 1, 0, none⟩) 1 1, .slice (some ⟨w7.heap.size, 0, none⟩) 1 1, .slice none 0 0, .slice none 0 0, .slice none 0 0, .slice none 0 0, .int .i64 0, .int .i64 (-1)] 26 (0, 0))) := Lib.hid (by rw [hW8]; refine (Below.heap_alloc _ _ _ (by omega)).trans ?_; rw [heap_setCell_same _ _ 2 _ _ _ HP7.out]; simp)
 have l7 := HG.out.size
 have HX8 := Lib.hid ((hOth (w.heap.size + 1) (by omega) (by omega)).trans (grBlk HG.out HX.out))
 have HZ8 := Lib.hid ((hOth (w.heap.size) (by omega) (by omega)).trans (grBlk HG.out HZ.out))
 have HV8 := Lib.hid ((hOth (w.heap.size + 1 + 1) (by omega) (by omega)).trans (grBlk HG.out HV.out))
 have hS8 : W8.heap[w7.heap.size]? = some (.cells (sArr sAck A7 c7 none 0 none 0 none 0) 65 (0, 0)) := by rw [hW8]; exact newBlk _ _ _ hsz7.symm
 have hg8 : Gr (w7.setCell ⟨w.heap.size + 1 + 1 + 1, 2, none⟩ (.slice (some ⟨w7.heap.size, 0, none⟩) 1 1)) W8 := by rw [hW8]; exact grAlloc _ _
 have HA8 : Hid (SP W4.heap.size W8 [sAck] (some ⟨w7.heap.size, 0, none⟩)) := Lib.hid (SP.one hS8 (by omega) ((hk7.out.set hb2).gr hg8) (KP.nil _ _ _) (SP.nil _ _ _) (SP.nil _ _ _) (Nat.zero_le _) (Nat.zero_le _))
 have HB8 : Hid (Below w.heap.size w W8) := Lib.hid (by rw [hW8]; exact bAllocY (C.belowSet (HB.out.trans (HG.out.mono HB.out.size)) (by omega)) (by rw [hsz7]; omega))
 have hs8 : Hid (W4.heap.size ≤ W8.heap.size) := Lib.hid (by rw [hW8]; simp [World.setCell]; omega)
 obtain ⟨q8, hp8⟩ : ∃ q8, w7.heap.size = q8 := ⟨_, rfl⟩
 rw [hp8] at HP8 HA8
 have hb2H := Lib.hid hb2
 clear hW8 HG hk7 HX HZ HV HP HP7 hz7 p0 p1 p2 p3 p4 p5 p6 p7 p8 hfz d2 hsz7 hOth hS8 hg8 l7 hp8 hb2
 have HXW := HX8.out
 obtain ⟨⟨x0, x1, x2, x3⟩, -⟩ := C.cells4C HXW
 have HG := Lib.hid (Below.refl W8.heap.size W8)
 clear HXW
 go_upto_region 5 with (go_at_call 17; refine (two_any W8.heap.size 7 ew e2 none none 0 0 _ HG.out.size (KP.nil _ _ _) (KP.nil _ _ _) (Nat.zero_le _) (Nat.zero_le _)).mono ?_; rintro e w9 ⟨⟨A9, c9, rfl, hk⟩, hb⟩; have hk9 := Lib.hid hk; have HG := Lib.hid (Gr.tr HG.out hb); clear hk hb x0 x1 x2 x3)
 obtain ⟨WA, hWA⟩ : ∃ WA, WA = w9.alloc (.cells (sArr sHalf A9 c9 none 0 none 0 none 0) 65) := ⟨_, rfl⟩
 show Code.wp _ _ _ _ (w9.alloc (.cells (sArr sHalf A9 c9 none 0 none 0 none 0) 65))
 rw [← hWA]
 have hgA : Gr W8 WA := by rw [hWA]; exact Gr.tr HG.out (grAlloc _ _)
 have HPA := Lib.hid (grBlk hgA HP8.out)
 have HXA := Lib.hid (grBlk hgA HX8.out)
 have HZA := Lib.hid (grBlk hgA HZ8.out)
 have HVA := Lib.hid (grBlk hgA HV8.out)
 have HAA := Lib.hid (HA8.out.gr hgA)
 have HHA : Hid (WA.heap[w9.heap.size]? = some (.cells (sArr sHalf A9 c9 none 0 none 0 none 0) 65 (0, 0))) := Lib.hid (by rw [hWA]; exact newBlk _ _ _ rfl)
 have HKA : Hid (KP W8.heap.size WA sHalf.a.kids A9) := Lib.hid (by rw [hWA]; exact hk9.out.gr (grAlloc _ _))
 have HBA := Lib.hid (HB8.out.trans (hgA.mono HB8.out.size))
 have hsA : Hid (W8.heap.size ≤ WA.heap.size) := Lib.hid hgA.size
 have hq9l : Hid (W8.heap.size ≤ w9.heap.size) := Lib.hid HG.out.size
 clear hWA hgA HG hk9 HX8 HZ8 HV8 HP8 HA8 HB8
 obtain ⟨⟨x0, x1, x2, x3⟩, -⟩ := C.cells4C HXA.out
 go_cut [4] (fun v wx => ∃ b4 A c, v = .pointer (some ⟨b4, 0, none⟩) ∧ Hid (wx.heap[b4]? = some (.cells (sArr sLess A c none 0 none 0 none 0) 65 (0, 0))) ∧ Hid (KP W8.heap.size wx sLess.a.kids A) ∧ Hid (W8.heap.size ≤ b4) ∧ Hid (Gr WA wx))
 case first =>
  refine wp_region_G (S := fun wq => Gr WA wq) (by kernel_rfl) (grDrew _) (fun hHeld => ?_)
  have hSG : Hid (∀ wp wq : World, Gr WA wp → Gr wp wq → Gr WA wq) := Lib.hid (fun _ _ h k => h.tr k)
  have hmv := Lib.hid (fun (wq : World) (hq : Gr WA wq) => And.intro (grCell hq x0) (And.intro (grCell hq x1) (And.intro (grCell hq x2) (grCell hq x3))))
  first
   | (refine tk hSG 0 (v := ?_) rfl (by kernel_rfl) (fun _ _ _ h => h) (by rfl) ?_ hHeld ?_; rotate_left; focus (intro w' hSw; obtain ⟨x0, x1, x2, x3⟩ := hmv.out _ hSw; go_simp; (try with_reducible rfl)))
   | refine tn hSG 0 rfl (by kernel_rfl) (fun _ _ _ h => h) (by rfl) hHeld ?_
  (try simp only [zq1, zq2, zq3, Act.put, zq4, zq5, zq6])
  refine tc hSG 1 (v := .agg #[.int .i64 1, .int .i64 1, .int .i64 1, .slice none 0 0]) rfl (by kernel_rfl) (fun _ _ _ h => h) (by rfl) ?_ hHeld ?_
  focus (intro wz hSw K hK; obtain ⟨x0, x1, x2, x3⟩ := hmv.out _ hSw; go_simp; go_at_call 18; refine (number_any 1 _).mono ?_; rintro e w2 ⟨rfl, hb2⟩; exact hK.out _ hb2)
  (try simp only [zq1, zq2, zq3, Act.put, zq4, zq5, zq6])
  refine wpAnyG_ready (rs := [2, 4]) (by kernel_rfl) (by simp) (AllG.cons rfl (fun w4 hg K hK => ?_) (AllG.cons rfl (fun w4 hg K hK => ?_) AllG.nil))
  ·skip
   have hgS := hSG.out _ _ hHeld.out hg
   go_simp
   go_at_call 17
   refine (two_any w4.heap.size 5 ew (nm 1) none none 0 0 w4 (Nat.le_refl _) (KP.nil _ _ _) (KP.nil _ _ _) (Nat.zero_le _) (Nat.zero_le _)).mono ?_
   rintro e w5 ⟨⟨A5, c5, rfl, hk⟩, hb⟩
   have hk5 := Lib.hid (hk.weak (Nat.le_trans hsA.out hgS.size))
   refine hK.out _ _ (hgS.tr hb) (fun hHeld => ?_)
   clear hK K hg hgS hb hk
   first
    | (refine tk hSG 3 (v := ?_) rfl (by kernel_rfl) (fun _ _ _ h => h) (by rfl) ?_ hHeld ?_; rotate_left; focus (intro w' hSw; obtain ⟨x0, x1, x2, x3⟩ := hmv.out _ hSw; go_simp; (try with_reducible rfl)))
    | refine tn hSG 3 rfl (by kernel_rfl) (fun _ _ _ h => h) (by rfl) hHeld ?_
   (try simp only [zq1, zq2, zq3, Act.put, zq4, zq5, zq6])
   refine wpAnyG_ready (rs := [4]) (by kernel_rfl) (by simp) (AllG.cons rfl (fun w6 hg K hK => ?_) AllG.nil)
   have hgS := hSG.out _ _ hHeld.out hg
   go_simp
   refine hK.out _ _ (hgS.tr (grAlloc _ _)) (fun hHeld => ?_)
   have hs6 := hgS.size
   have hg56 := Lib.hid (Gr.tr hg (grAlloc w6 (.cells #[.int .i64 0, .int .i64 0, .int .i64 0, .int .i64 0, .int .i64 0, .int .i64 0, .slice none 0 0, .int .i64 0, .int .i64 0, .int .i64 0, .slice none 0 0, .slice none 0 0, .slice none 0 0] 65)))
   have hs56 := Lib.hid hg.size
   have HN := Lib.hid (newBlk w6 (.cells #[.int .i64 0, .int .i64 0, .int .i64 0, .int .i64 0, .int .i64 0, .int .i64 0, .slice none 0 0, .int .i64 0, .int .i64 0, .int .i64 0, .slice none 0 0, .slice none 0 0, .slice none 0 0] 65) _ rfl)
   clear hK K hg hgS
   refine wpAnyG_ready (rs := [5]) (by kernel_rfl) (by simp) (AllG.cons rfl (fun w7 hg K hK => ?_) AllG.nil)
   have hgS := hSG.out _ _ hHeld.out hg
   have HN7 := Lib.hid (grBlk hg HN.out)
   have hg57 := Lib.hid (Gr.tr hg56.out hg)
   obtain ⟨z0, z1, z2, z3, z4, z5, z6, z7, z8, z9, za, zb, zc⟩ := U.cells13 HN7.out
   have f0 : ∀ i : Nat, w7.frozen? ⟨w6.heap.size, i, none⟩ = false := fun i => by simp [World.frozen?, HN7.out]
   have hlt7 := blkLt HN7.out
   go_simp
   refine hK.out _ _ (bel13 hgS hs6) (fun hHeld => ?_)
   clear hK K hgS z0 z1 z2 z3 z4 z5 z6 z7 z8 z9 za zb zc f0
   have HN8 := Lib.hid (set13 (x0 := .int .i64 1) (x1 := .int .i64 0) (x2 := .int .i64 0) (x3 := .int .i64 5) (x4 := .int .i64 0) (x5 := .int .i64 0) (x6 := .slice A5 2 (2 + c5)) (x7 := .int .i64 0) (x8 := .int .i64 0) (x9 := .int .i64 0) (x10 := .slice none 0 0) (x11 := .slice none 0 0) (x12 := .slice none 0 0) HN7.out)
   have hk8 := Lib.hid (KP.kp (w2 := st13 w7 w6.heap.size (.int .i64 1) (.int .i64 0) (.int .i64 0) (.int .i64 5) (.int .i64 0) (.int .i64 0) (.slice A5 2 (2 + c5)) (.int .i64 0) (.int .i64 0) (.int .i64 0) (.slice none 0 0) (.slice none 0 0) (.slice none 0 0)) hk5.out (by rw [siz13]; exact hg57.out.size) (fun k h1 h2 => (oth13 (b := w6.heap.size) (by have := hs56.out; omega)).trans (hg57.out.block k h2)))
   refine wpAnyG_done (by kernel_rfl) (fun w9x hg => ?_) _
   have hg9 := Lib.hid (hSG.out _ _ hHeld.out hg)
   have HNx := Lib.hid (grBlk hg HN8.out)
   have hkx := Lib.hid (hk8.out.gr hg)
   have hsx := Lib.hid (Nat.le_trans hsA.out hs6)
   clear hg hHeld hSG HN8 hk8 HN7 hg57 hs56 hlt7 hs6 hg56 hk5 HN
   go_wp2
   go_meet
   exact ⟨_, A5, _, rfl, HNx, hkx, hsx, hg9⟩
  ·skip
   have hgS := hSG.out _ _ hHeld.out hg
   go_simp
   refine hK.out _ _ (hgS.tr (grAlloc _ _)) (fun hHeld => ?_)
   have hs4 := hgS.size
   have HN := Lib.hid (newBlk w4 (.cells #[.int .i64 0, .int .i64 0, .int .i64 0, .int .i64 0, .int .i64 0, .int .i64 0, .slice none 0 0, .int .i64 0, .int .i64 0, .int .i64 0, .slice none 0 0, .slice none 0 0, .slice none 0 0] 65) _ rfl)
   clear hK K hg hgS
   refine wpAnyG_ready (rs := [2]) (by kernel_rfl) (by simp) (AllG.cons rfl (fun w6 hg K hK => ?_) AllG.nil)
   have hgS := hSG.out _ _ hHeld.out hg
   have HN6 := Lib.hid (grBlk hg HN.out)
   go_simp
   go_at_call 17
   refine (two_any w6.heap.size 5 ew (nm 1) none none 0 0 w6 (Nat.le_refl _) (KP.nil _ _ _) (KP.nil _ _ _) (Nat.zero_le _) (Nat.zero_le _)).mono ?_
   rintro e w5 ⟨⟨A5, c5, rfl, hk⟩, hb⟩
   have hk5 := Lib.hid hk
   have HN5 := Lib.hid (grBlk hb HN6.out)
   have hlt6 := blkLt HN6.out
   have hs6 := hgS.size
   refine hK.out _ _ (hgS.tr hb) (fun hHeld => ?_)
   clear hK K hg hgS hb hk HN HN6
   first
    | (refine tk hSG 3 (v := ?_) rfl (by kernel_rfl) (fun _ _ _ h => h) (by rfl) ?_ hHeld ?_; rotate_left; focus (intro w' hSw; obtain ⟨x0, x1, x2, x3⟩ := hmv.out _ hSw; go_simp; (try with_reducible rfl)))
    | refine tn hSG 3 rfl (by kernel_rfl) (fun _ _ _ h => h) (by rfl) hHeld ?_
   (try simp only [zq1, zq2, zq3, Act.put, zq4, zq5, zq6])
   refine wpAnyG_ready (rs := [5]) (by kernel_rfl) (by simp) (AllG.cons rfl (fun w7 hg K hK => ?_) AllG.nil)
   have hgS := hSG.out _ _ hHeld.out hg
   have HN7 := Lib.hid (grBlk hg HN5.out)
   have hk7 := hk5.out.gr hg
   obtain ⟨z0, z1, z2, z3, z4, z5, z6, z7, z8, z9, za, zb, zc⟩ := U.cells13 HN7.out
   have f0 : ∀ i : Nat, w7.frozen? ⟨w4.heap.size, i, none⟩ = false := fun i => by simp [World.frozen?, HN7.out]
   have hlt7 := blkLt HN7.out
   have hk7 := Lib.hid hk7
   go_simp
   refine hK.out _ _ (bel13 hgS hs4) (fun hHeld => ?_)
   clear hK K hgS z0 z1 z2 z3 z4 z5 z6 z7 z8 z9 za zb zc f0
   have HN8 := Lib.hid (set13 (x0 := .int .i64 1) (x1 := .int .i64 0) (x2 := .int .i64 0) (x3 := .int .i64 5) (x4 := .int .i64 0) (x5 := .int .i64 0) (x6 := .slice A5 2 (2 + c5)) (x7 := .int .i64 0) (x8 := .int .i64 0) (x9 := .int .i64 0) (x10 := .slice none 0 0) (x11 := .slice none 0 0) (x12 := .slice none 0 0) HN7.out)
   have hk8 := Lib.hid (KP.weak (B := W8.heap.size) (KP.kp (w2 := st13 w7 w4.heap.size (.int .i64 1) (.int .i64 0) (.int .i64 0) (.int .i64 5) (.int .i64 0) (.int .i64 0) (.slice A5 2 (2 + c5)) (.int .i64 0) (.int .i64 0) (.int .i64 0) (.slice none 0 0) (.slice none 0 0) (.slice none 0 0)) hk7.out (by rw [siz13]; exact Nat.le_refl _) (fun k h1 h2 => oth13 (b := w4.heap.size) (by omega))) (Nat.le_trans hsA.out hs6))
   refine wpAnyG_done (by kernel_rfl) (fun w9x hg => ?_) _
   have hg9 := Lib.hid (hSG.out _ _ hHeld.out hg)
   have HNx := Lib.hid (grBlk hg HN8.out)
   have hkx := Lib.hid (hk8.out.gr hg)
   have hsx := Lib.hid (Nat.le_trans hsA.out hs4)
   clear hg hHeld hSG HN8 hk8 HN7 hlt7 hs6 hs4 hk5 hk7 HN5 hlt6
   go_wp2
   go_meet
   exact ⟨_, A5, _, rfl, HNx, hkx, hsx, hg9⟩
 case rest =>
  obtain ⟨b4, AL, cL, rfl, HL, HKL, hb4, HGx⟩ := hcut
  have HP := Lib.hid (grBlk HGx.out HPA.out)
  have HX := Lib.hid (grBlk HGx.out HXA.out)
  have HZ := Lib.hid (grBlk HGx.out HZA.out)
  have HV := Lib.hid (grBlk HGx.out HVA.out)
  have HH := Lib.hid (grBlk HGx.out HHA.out)
  have HA := Lib.hid (HAA.out.gr HGx.out)
  have HKH := Lib.hid (HKA.out.gr HGx.out)
  have HB := Lib.hid (HBA.out.trans (HGx.out.mono HBA.out.size))
  have hsC := Lib.hid (Nat.le_trans hsA.out HGx.out.size)
  clear HPA HXA HZA HVA HHA HAA HKA HBA HGx hsA x0 x1 x2 x3
  have hFin : Hid (∀ (wx wF : World) (u : Value), Gr wc wx → Gr (wx.setCell ⟨w.heap.size + 1 + 1 + 1, 3, none⟩ u) wF →
    Hid (wF.heap[w.heap.size + 1 + 1 + 1]? = some (.cells #[.string ⟨#[99]⟩, .slice (some ⟨w.heap.size + 1 + 1, 0, none⟩) 1 1, .slice (some ⟨q8, 0, none⟩) 1 1, u, .slice none 0 0, .slice none 0 0, .slice none 0 0, .int .i64 0, .int .i64 (-1)] 26 (0, 0))) ∧ Hid (wF.heap[w.heap.size]? = some (.cells C.zPg 26 (0, 0))) ∧ Hid (wF.heap[w.heap.size + 1 + 1]? = some (.cells #[.string ⟨#[119]⟩, .int .i64 1, .int .i64 1, .int .i64 9, .int .i64 2] 54 (0, 0))) ∧ Hid (SP W4.heap.size wF [sAck] (some ⟨q8, 0, none⟩)) ∧ Hid (Below w.heap.size w wF)) := Lib.hid (by
   intro wx wF u h1 h2
   have e1 := grBlk h1 HP.out
   refine ⟨Lib.hid (grBlk h2 ?_), Lib.hid (grBlk h2 ((C.scO _ _ _ _ _ (by omega)).trans (grBlk h1 HZ.out))), Lib.hid (grBlk h2 ((C.scO _ _ _ _ _ (by omega)).trans (grBlk h1 HV.out))), Lib.hid (((HA.out.gr h1).set hb2H.out).gr h2), Lib.hid ?_⟩
   ·rw [heap_setCell_same _ _ 3 _ _ _ e1]; simp
   ·have h3 := C.belowSet (u := u) (i := 3) (b := w.heap.size + 1 + 1 + 1) (HB.out.trans (h1.mono HB.out.size)) (by omega)
    exact h3.trans (h2.mono h3.size))
  obtain ⟨⟨x0, x1, x2, x3⟩, -⟩ := C.cells4C HX.out
  obtain ⟨y0, y1, y2, y3, y4, y5, y6, y7, y8, y9, ya, yb, yc⟩ := U.cells13 HH.out
  obtain ⟨z0, z1, z2, z3, z4, z5, z6, z7, z8, z9, za, zb, zc⟩ := U.cells13 HL.out
  go_upto_region 6 with fail
  go_cut [4] (fun v wx => ∃ g3, Hid (SP W8.heap.size wx [sLoss] (some ⟨g3, 0, none⟩)) ∧ Hid (wx.heap[w.heap.size + 1 + 1 + 1]? = some (.cells #[.string ⟨#[99]⟩, .slice (some ⟨w.heap.size + 1 + 1, 0, none⟩) 1 1, .slice (some ⟨q8, 0, none⟩) 1 1, .slice (some ⟨g3, 0, none⟩) 1 1, .slice none 0 0, .slice none 0 0, .slice none 0 0, .int .i64 0, .int .i64 (-1)] 26 (0, 0))) ∧ Hid (wx.heap[w.heap.size]? = some (.cells C.zPg 26 (0, 0))) ∧ Hid (wx.heap[w.heap.size + 1 + 1]? = some (.cells #[.string ⟨#[119]⟩, .int .i64 1, .int .i64 1, .int .i64 9, .int .i64 2] 54 (0, 0))) ∧ Hid (SP W4.heap.size wx [sAck] (some ⟨q8, 0, none⟩)) ∧ Hid (Below w.heap.size w wx))
  case first =>
   refine wp_region_X (S := fun wq => Gr wc wq) [10] (by kernel_rfl) (grDrew _) (fun hHeld => ?_)
   have hSG : Hid (∀ wp wq : World, Gr wc wp → Gr wp wq → Gr wc wq) := Lib.hid (fun _ _ h k => h.tr k)
   have hmv := Lib.hid (fun (wq : World) (hq : Gr wc wq) => And.intro (grCell hq x0) (And.intro (grCell hq x1) (And.intro (grCell hq x2) (And.intro (grCell hq x3) (And.intro (grCell hq y0) (And.intro (grCell hq y1) (And.intro (grCell hq y2) (And.intro (grCell hq y3) (And.intro (grCell hq y4) (And.intro (grCell hq y5) (And.intro (grCell hq y6) (And.intro (grCell hq y7) (And.intro (grCell hq y8) (And.intro (grCell hq y9) (And.intro (grCell hq ya) (And.intro (grCell hq yb) (And.intro (grCell hq yc) (And.intro (grCell hq z0) (And.intro (grCell hq z1) (And.intro (grCell hq z2) (And.intro (grCell hq z3) (And.intro (grCell hq z4) (And.intro (grCell hq z5) (And.intro (grCell hq z6) (And.intro (grCell hq z7) (And.intro (grCell hq z8) (And.intro (grCell hq z9) (And.intro (grCell hq za) (And.intro (grCell hq zb) (grCell hq zc))))))))))))))))))))))))))))))
   first
    | (refine xk hSG 0 [6, 7, 9, 10] (v := ?_) rfl (by kernel_rfl) (fun _ _ _ h => h) (by rfl) ?_ hHeld ?_; rotate_left; focus (intro w' hSw; obtain ⟨x0, x1, x2, x3, y0, y1, y2, y3, y4, y5, y6, y7, y8, y9, ya, yb, yc, z0, z1, z2, z3, z4, z5, z6, z7, z8, z9, za, zb, zc⟩ := hmv.out _ hSw; go_simp; (try with_reducible rfl)))
    | refine xn hSG 0 [6, 7, 9, 10] rfl (by kernel_rfl) (fun _ _ _ h => h) (by rfl) hHeld ?_
   (try simp only [zq1, zq2, zq3, Act.put, zq4, zq5, zq6])
   refine xc hSG 1 [6, 7, 9, 10] (v := .agg #[.int .i64 1, .int .i64 4, .int .i64 1, .slice none 0 0]) rfl (by kernel_rfl) (fun _ _ _ h => h) (by rfl) ?_ hHeld ?_
   focus (intro wz hSw K hK; obtain ⟨x0, x1, x2, x3, y0, y1, y2, y3, y4, y5, y6, y7, y8, y9, ya, yb, yc, z0, z1, z2, z3, z4, z5, z6, z7, z8, z9, za, zb, zc⟩ := hmv.out _ hSw; go_simp; go_at_call 18; refine (number_any 4 _).mono ?_; rintro e w2 ⟨rfl, hb2⟩; exact hK.out _ hb2)
   (try simp only [zq1, zq2, zq3, Act.put, zq4, zq5, zq6])
   first
    | (refine xk hSG 2 [3, 6, 7, 9, 10] (v := ?_) rfl (by kernel_rfl) (fun _ _ _ h => h) (by rfl) ?_ hHeld ?_; rotate_left; focus (intro w' hSw; obtain ⟨x0, x1, x2, x3, y0, y1, y2, y3, y4, y5, y6, y7, y8, y9, ya, yb, yc, z0, z1, z2, z3, z4, z5, z6, z7, z8, z9, za, zb, zc⟩ := hmv.out _ hSw; go_simp; (try with_reducible rfl)))
    | refine xn hSG 2 [3, 6, 7, 9, 10] rfl (by kernel_rfl) (fun _ _ _ h => h) (by rfl) hHeld ?_
   (try simp only [zq1, zq2, zq3, Act.put, zq4, zq5, zq6])
   first
    | (refine xk hSG 4 [5, 6, 7, 9, 10] (v := ?_) rfl (by kernel_rfl) (fun _ _ _ h => h) (by rfl) ?_ hHeld ?_; rotate_left; focus (intro w' hSw; obtain ⟨x0, x1, x2, x3, y0, y1, y2, y3, y4, y5, y6, y7, y8, y9, ya, yb, yc, z0, z1, z2, z3, z4, z5, z6, z7, z8, z9, za, zb, zc⟩ := hmv.out _ hSw; go_simp; (try with_reducible rfl)))
    | refine xn hSG 4 [5, 6, 7, 9, 10] rfl (by kernel_rfl) (fun _ _ _ h => h) (by rfl) hHeld ?_
   (try simp only [zq1, zq2, zq3, Act.put, zq4, zq5, zq6])
   first
    | (refine xk hSG 8 [9, 10] (v := ?_) rfl (by kernel_rfl) (fun _ _ _ h => h) (by rfl) ?_ hHeld ?_; rotate_left; focus (intro w' hSw; obtain ⟨x0, x1, x2, x3, y0, y1, y2, y3, y4, y5, y6, y7, y8, y9, ya, yb, yc, z0, z1, z2, z3, z4, z5, z6, z7, z8, z9, za, zb, zc⟩ := hmv.out _ hSw; go_simp; (try with_reducible rfl)))
    | refine xn hSG 8 [9, 10] rfl (by kernel_rfl) (fun _ _ _ h => h) (by rfl) hHeld ?_
   (try simp only [zq1, zq2, zq3, Act.put, zq4, zq5, zq6])
   refine wpAnyX_two (i := 3) (j := 5) (by kernel_rfl) rfl rfl (fun w4 hg K hK => ?_) (fun w4 hg K hK => ?_)
   ·skip
    have hgS := hSG.out _ _ hHeld.out hg
    go_simp
    refine hK.out _ _ (hgS.tr (grAlloc _ _)) (fun hHeld => ?_)
    have hN1 := newBlk w4 (.cells (sArr sHalf A9 c9 none 0 none 0 none 0) 65) _ rfl
    have HS1 := Lib.hid (SP.one (B := W8.heap.size) (x := sHalf) hN1 (Nat.le_trans hsC.out hgS.size) (HKH.out.gr (hgS.tr (grAlloc w4 (.cells (sArr sHalf A9 c9 none 0 none 0 none 0) 65)))) (KP.nil _ _ _) (SP.nil _ _ _) (SP.nil _ _ _) (Nat.zero_le _) (Nat.zero_le _))
    clear hK K hg hgS hN1
    refine wpAnyX_one (i := 5) (by kernel_rfl) rfl (fun w5 hg K hK => ?_)
    have hgS := hSG.out _ _ hHeld.out hg
    go_simp
    refine hK.out _ _ (hgS.tr (grAlloc _ _)) (fun hHeld => ?_)
    have hN2 := newBlk w5 (.cells (sArr sLess AL cL none 0 none 0 none 0) 65) _ rfl
    have HS2 := Lib.hid (SP.one (B := W8.heap.size) (x := sLess) hN2 (Nat.le_trans hsC.out hgS.size) (HKL.out.gr (hgS.tr (grAlloc w5 (.cells (sArr sLess AL cL none 0 none 0 none 0) 65)))) (KP.nil _ _ _) (SP.nil _ _ _) (SP.nil _ _ _) (Nat.zero_le _) (Nat.zero_le _))
    have HS1 := Lib.hid ((HS1.out.gr hg).gr (grAlloc w5 (.cells (sArr sLess AL cL none 0 none 0 none 0) 65)))
    clear hK K hg hgS hN2
    first
     | (refine xk hSG 6 [7, 9, 10] (v := ?_) rfl (by kernel_rfl) (fun _ _ _ h => h) (by rfl) ?_ hHeld ?_; rotate_left; focus (intro w' hSw; obtain ⟨x0, x1, x2, x3, y0, y1, y2, y3, y4, y5, y6, y7, y8, y9, ya, yb, yc, z0, z1, z2, z3, z4, z5, z6, z7, z8, z9, za, zb, zc⟩ := hmv.out _ hSw; go_simp; (try with_reducible rfl)))
     | refine xn hSG 6 [7, 9, 10] rfl (by kernel_rfl) (fun _ _ _ h => h) (by rfl) hHeld ?_
    (try simp only [zq1, zq2, zq3, Act.put, zq4, zq5, zq6])
    refine wpAnyX_one (i := 7) (by kernel_rfl) rfl (fun w6 hg K hK => ?_)
    have hgS := hSG.out _ _ hHeld.out hg
    go_simp
    refine hK.out _ _ (hgS.tr (grAlloc _ _)) (fun hHeld => ?_)
    have hN3 := newBlk w6 (.cells (sArr sLoss none 0 none 0 (some ⟨w4.heap.size, 0, none⟩) 1 (some ⟨w5.heap.size, 0, none⟩) 1) 65) _ rfl
    have HS3 := Lib.hid (SP.one (B := W8.heap.size) (x := sLoss) hN3 (Nat.le_trans hsC.out hgS.size) (KP.nil _ _ _) (KP.nil _ _ _) ((HS1.out.gr hg).gr (grAlloc w6 _)) ((HS2.out.gr hg).gr (grAlloc w6 _)) (by decide) (by decide))
    clear hK K hg hgS hN3 HS1 HS2
    first
     | (refine xk hSG 9 [10] (v := ?_) rfl (by kernel_rfl) (fun _ _ _ h => h) (by rfl) ?_ hHeld ?_; rotate_left; focus (intro w' hSw; obtain ⟨x0, x1, x2, x3, y0, y1, y2, y3, y4, y5, y6, y7, y8, y9, ya, yb, yc, z0, z1, z2, z3, z4, z5, z6, z7, z8, z9, za, zb, zc⟩ := hmv.out _ hSw; go_simp; (try with_reducible rfl)))
     | refine xn hSG 9 [10] rfl (by kernel_rfl) (fun _ _ _ h => h) (by rfl) hHeld ?_
    (try simp only [zq1, zq2, zq3, Act.put, zq4, zq5, zq6])
    refine wpAnyX_oneX (i := 10) (by kernel_rfl) (by kernel_rfl) rfl (fun w7 hg K hK => ?_)
    have hgS := hSG.out _ _ hHeld.out hg
    have HS7 := Lib.hid (HS3.out.gr hg)
    have HP7 := Lib.hid (grBlk hgS HP.out)
    obtain ⟨⟨p0, p1, p2, p3, p4, p5, p6, p7, p8⟩, hfz⟩ := C.cells9C HP7.out
    have d3 := hfz 3 (by omega)
    have hz7 := blkLt HP7.out
    clear hfz hg
    have hgSH := Lib.hid hgS
    clear hgS
    go_simp
    refine hK.out _ _ ?_
    clear hK K p0 p1 p2 p3 p4 p5 p6 p7 p8 d3 hz7 HP7
    refine wpAnyX_done (by kernel_rfl) (fun w8 hg => ?_) _
    obtain ⟨f1, f2, f3, f4, f5⟩ := hFin.out w7 w8 _ hgSH.out hg
    have HS8 : Hid (SP W8.heap.size w8 [sLoss] (some ⟨w6.heap.size, 0, none⟩)) := Lib.hid ((HS7.out.set (by have := hb2H.out; have := hs8.out; omega)).gr hg)
    clear hg hHeld hSG HS3 HS7
    go_wp2
    go_meet
    exact ⟨_, HS8, f1, f2, f3, f4, f5⟩
   ·skip
    have hgS := hSG.out _ _ hHeld.out hg
    go_simp
    refine hK.out _ _ (hgS.tr (grAlloc _ _)) (fun hHeld => ?_)
    have hN1 := newBlk w4 (.cells (sArr sLess AL cL none 0 none 0 none 0) 65) _ rfl
    have HS1 := Lib.hid (SP.one (B := W8.heap.size) (x := sLess) hN1 (Nat.le_trans hsC.out hgS.size) (HKL.out.gr (hgS.tr (grAlloc w4 (.cells (sArr sLess AL cL none 0 none 0 none 0) 65)))) (KP.nil _ _ _) (SP.nil _ _ _) (SP.nil _ _ _) (Nat.zero_le _) (Nat.zero_le _))
    clear hK K hg hgS hN1
    refine wpAnyX_one (i := 3) (by kernel_rfl) rfl (fun w5 hg K hK => ?_)
    have hgS := hSG.out _ _ hHeld.out hg
    go_simp
    refine hK.out _ _ (hgS.tr (grAlloc _ _)) (fun hHeld => ?_)
    have hN2 := newBlk w5 (.cells (sArr sHalf A9 c9 none 0 none 0 none 0) 65) _ rfl
    have HS2 := Lib.hid (SP.one (B := W8.heap.size) (x := sHalf) hN2 (Nat.le_trans hsC.out hgS.size) (HKH.out.gr (hgS.tr (grAlloc w5 (.cells (sArr sHalf A9 c9 none 0 none 0 none 0) 65)))) (KP.nil _ _ _) (SP.nil _ _ _) (SP.nil _ _ _) (Nat.zero_le _) (Nat.zero_le _))
    have HS1 := Lib.hid ((HS1.out.gr hg).gr (grAlloc w5 (.cells (sArr sHalf A9 c9 none 0 none 0 none 0) 65)))
    clear hK K hg hgS hN2
    first
     | (refine xk hSG 6 [7, 9, 10] (v := ?_) rfl (by kernel_rfl) (fun _ _ _ h => h) (by rfl) ?_ hHeld ?_; rotate_left; focus (intro w' hSw; obtain ⟨x0, x1, x2, x3, y0, y1, y2, y3, y4, y5, y6, y7, y8, y9, ya, yb, yc, z0, z1, z2, z3, z4, z5, z6, z7, z8, z9, za, zb, zc⟩ := hmv.out _ hSw; go_simp; (try with_reducible rfl)))
     | refine xn hSG 6 [7, 9, 10] rfl (by kernel_rfl) (fun _ _ _ h => h) (by rfl) hHeld ?_
    (try simp only [zq1, zq2, zq3, Act.put, zq4, zq5, zq6])
    refine wpAnyX_one (i := 7) (by kernel_rfl) rfl (fun w6 hg K hK => ?_)
    have hgS := hSG.out _ _ hHeld.out hg
    go_simp
    refine hK.out _ _ (hgS.tr (grAlloc _ _)) (fun hHeld => ?_)
    have hN3 := newBlk w6 (.cells (sArr sLoss none 0 none 0 (some ⟨w5.heap.size, 0, none⟩) 1 (some ⟨w4.heap.size, 0, none⟩) 1) 65) _ rfl
    have HS3 := Lib.hid (SP.one (B := W8.heap.size) (x := sLoss) hN3 (Nat.le_trans hsC.out hgS.size) (KP.nil _ _ _) (KP.nil _ _ _) ((HS2.out.gr hg).gr (grAlloc w6 _)) ((HS1.out.gr hg).gr (grAlloc w6 _)) (by decide) (by decide))
    clear hK K hg hgS hN3 HS1 HS2
    first
     | (refine xk hSG 9 [10] (v := ?_) rfl (by kernel_rfl) (fun _ _ _ h => h) (by rfl) ?_ hHeld ?_; rotate_left; focus (intro w' hSw; obtain ⟨x0, x1, x2, x3, y0, y1, y2, y3, y4, y5, y6, y7, y8, y9, ya, yb, yc, z0, z1, z2, z3, z4, z5, z6, z7, z8, z9, za, zb, zc⟩ := hmv.out _ hSw; go_simp; (try with_reducible rfl)))
     | refine xn hSG 9 [10] rfl (by kernel_rfl) (fun _ _ _ h => h) (by rfl) hHeld ?_
    (try simp only [zq1, zq2, zq3, Act.put, zq4, zq5, zq6])
    refine wpAnyX_oneX (i := 10) (by kernel_rfl) (by kernel_rfl) rfl (fun w7 hg K hK => ?_)
    have hgS := hSG.out _ _ hHeld.out hg
    have HS7 := Lib.hid (HS3.out.gr hg)
    have HP7 := Lib.hid (grBlk hgS HP.out)
    obtain ⟨⟨p0, p1, p2, p3, p4, p5, p6, p7, p8⟩, hfz⟩ := C.cells9C HP7.out
    have d3 := hfz 3 (by omega)
    have hz7 := blkLt HP7.out
    clear hfz hg
    have hgSH := Lib.hid hgS
    clear hgS
    go_simp
    refine hK.out _ _ ?_
    clear hK K p0 p1 p2 p3 p4 p5 p6 p7 p8 d3 hz7 HP7
    refine wpAnyX_done (by kernel_rfl) (fun w8 hg => ?_) _
    obtain ⟨f1, f2, f3, f4, f5⟩ := hFin.out w7 w8 _ hgSH.out hg
    have HS8 : Hid (SP W8.heap.size w8 [sLoss] (some ⟨w6.heap.size, 0, none⟩)) := Lib.hid ((HS7.out.set (by have := hb2H.out; have := hs8.out; omega)).gr hg)
    clear hg hHeld hSG HS3 HS7
    go_wp2
    go_meet
    exact ⟨_, HS8, f1, f2, f3, f4, f5⟩
  case rest =>
   obtain ⟨g3, HS3, HP3, HZ3, HV3, HA3, HB3⟩ := hcut
   obtain ⟨⟨p0, p1, p2, p3, p4, p5, p6, p7, p8⟩, -⟩ := C.cells9C HP3.out
   obtain ⟨⟨r0, r1, r2, r3, r4, r5, r6, r7, r8⟩, hfz⟩ := C.cells9C HZ3.out
   have d0 := hfz 0 (by omega)
   have d1 := hfz 1 (by omega)
   have d2 := hfz 2 (by omega)
   have d3 := hfz 3 (by omega)
   have d4 := hfz 4 (by omega)
   have d5 := hfz 5 (by omega)
   have d6 := hfz 6 (by omega)
   have d7 := hfz 7 (by omega)
   have d8 := hfz 8 (by omega)
   have hz := blkLt HZ3.out
   clear hfz HX HZ HV HH HA HKH HB hsC hFin HP HL HKL hb4 x0 x1 x2 x3 y0 y1 y2 y3 y4 y5 y6 y7 y8 y9 ya yb yc z0 z1 z2 z3 z4 z5 z6 z7 z8 z9 za zb zc
   go_wp2
   have HZF := C.res9C (x0 := .string ⟨#[99]⟩) (x1 := .slice (some ⟨w.heap.size + 1 + 1, 0, none⟩) 1 1) (x2 := .slice (some ⟨q8, 0, none⟩) 1 1) (x3 := .slice (some ⟨g3, 0, none⟩) 1 1) (x4 := .slice none 0 0) (x5 := .slice none 0 0) (x6 := .slice none 0 0) (x7 := .int .i64 0) (x8 := .int .i64 (-1)) HZ3.out
   have hoF : ∀ k, k ≠ w.heap.size → (((((((((wc.setCell ⟨w.heap.size, 0, none⟩ (.string ⟨#[99]⟩)).setCell ⟨w.heap.size, 1, none⟩ (.slice (some ⟨w.heap.size + 1 + 1, 0, none⟩) 1 1)).setCell ⟨w.heap.size, 2, none⟩ (.slice (some ⟨q8, 0, none⟩) 1 1)).setCell ⟨w.heap.size, 3, none⟩ (.slice (some ⟨g3, 0, none⟩) 1 1)).setCell ⟨w.heap.size, 4, none⟩ (.slice none 0 0)).setCell ⟨w.heap.size, 5, none⟩ (.slice none 0 0)).setCell ⟨w.heap.size, 6, none⟩ (.slice none 0 0)).setCell ⟨w.heap.size, 7, none⟩ (.int .i64 0)).setCell ⟨w.heap.size, 8, none⟩ (.int .i64 (-1))).heap[k]? = wc.heap[k]? := fun k h => (C.scO _ _ _ _ _ h).trans ((C.scO _ _ _ _ _ h).trans ((C.scO _ _ _ _ _ h).trans ((C.scO _ _ _ _ _ h).trans ((C.scO _ _ _ _ _ h).trans ((C.scO _ _ _ _ _ h).trans ((C.scO _ _ _ _ _ h).trans ((C.scO _ _ _ _ _ h).trans (C.scO _ _ _ _ _ h))))))))
   have hBF : Below w.heap.size w (((((((((wc.setCell ⟨w.heap.size, 0, none⟩ (.string ⟨#[99]⟩)).setCell ⟨w.heap.size, 1, none⟩ (.slice (some ⟨w.heap.size + 1 + 1, 0, none⟩) 1 1)).setCell ⟨w.heap.size, 2, none⟩ (.slice (some ⟨q8, 0, none⟩) 1 1)).setCell ⟨w.heap.size, 3, none⟩ (.slice (some ⟨g3, 0, none⟩) 1 1)).setCell ⟨w.heap.size, 4, none⟩ (.slice none 0 0)).setCell ⟨w.heap.size, 5, none⟩ (.slice none 0 0)).setCell ⟨w.heap.size, 6, none⟩ (.slice none 0 0)).setCell ⟨w.heap.size, 7, none⟩ (.int .i64 0)).setCell ⟨w.heap.size, 8, none⟩ (.int .i64 (-1))) := C.belowSet (C.belowSet (C.belowSet (C.belowSet (C.belowSet (C.belowSet (C.belowSet (C.belowSet (C.belowSet (HB3.out) (Nat.le_refl _)) (Nat.le_refl _)) (Nat.le_refl _)) (Nat.le_refl _)) (Nat.le_refl _)) (Nat.le_refl _)) (Nat.le_refl _)) (Nat.le_refl _)) (Nat.le_refl _)
   have hsF : (((((((((wc.setCell ⟨w.heap.size, 0, none⟩ (.string ⟨#[99]⟩)).setCell ⟨w.heap.size, 1, none⟩ (.slice (some ⟨w.heap.size + 1 + 1, 0, none⟩) 1 1)).setCell ⟨w.heap.size, 2, none⟩ (.slice (some ⟨q8, 0, none⟩) 1 1)).setCell ⟨w.heap.size, 3, none⟩ (.slice (some ⟨g3, 0, none⟩) 1 1)).setCell ⟨w.heap.size, 4, none⟩ (.slice none 0 0)).setCell ⟨w.heap.size, 5, none⟩ (.slice none 0 0)).setCell ⟨w.heap.size, 6, none⟩ (.slice none 0 0)).setCell ⟨w.heap.size, 7, none⟩ (.int .i64 0)).setCell ⟨w.heap.size, 8, none⟩ (.int .i64 (-1))).heap.size = wc.heap.size := by simp [World.setCell]
   generalize hWF : ((((((((wc.setCell ⟨w.heap.size, 0, none⟩ (.string ⟨#[99]⟩)).setCell ⟨w.heap.size, 1, none⟩ (.slice (some ⟨w.heap.size + 1 + 1, 0, none⟩) 1 1)).setCell ⟨w.heap.size, 2, none⟩ (.slice (some ⟨q8, 0, none⟩) 1 1)).setCell ⟨w.heap.size, 3, none⟩ (.slice (some ⟨g3, 0, none⟩) 1 1)).setCell ⟨w.heap.size, 4, none⟩ (.slice none 0 0)).setCell ⟨w.heap.size, 5, none⟩ (.slice none 0 0)).setCell ⟨w.heap.size, 6, none⟩ (.slice none 0 0)).setCell ⟨w.heap.size, 7, none⟩ (.int .i64 0)).setCell ⟨w.heap.size, 8, none⟩ (.int .i64 (-1)) = WF at HZF hoF hBF hsF ⊢
   have hb3 : w.heap.size < W4.heap.size := by have := hb2H.out; omega
   obtain ⟨⟨c0, c1, c2, c3, c4, c5, c6, c7, c8⟩, -⟩ := C.cells9C HZF
   refine bodyPost_ret (v := U.pgv ⟨#[99]⟩ (some ⟨w.heap.size + 1 + 1, 0, none⟩) 1 1 exOn ⟨some ⟨q8, 0, none⟩, some ⟨g3, 0, none⟩, none, none, none, 1, 1, 0, 0, 0⟩ 0 (-1)) (by simp [results, Tryz.results15, go_sem, exOn, c0, c1, c2, c3, c4, c5, c6, c7, c8]) rfl ?_
   have hV := (hoF (w.heap.size + 1 + 1) (by omega)).trans HV3.out
   refine ⟨⟨_, _, _, rfl, .inr ⟨w.heap.size + 1 + 1, 0, rfl, fun i v hv => ?_⟩, ⟨?_, ?_, ?_, ?_, ?_, by decide, by decide, by decide, by decide, by decide⟩⟩, hBF⟩
   ·rcases i with _ | i
    ·have e : exVs[0]? = some ⟨⟨#[119]⟩, 1, 1, 9, 2⟩ := rfl
     rw [e] at hv
     cases hv
     obtain ⟨⟨e0, e1, e2, e3, e4⟩, -⟩ := C.cells5C hV
     exact ⟨e0, e1, e2, e3, e4⟩
    ·simp [exVs] at hv
   ·exact (HA3.out.kp (w2 := WF) (by omega) (fun k h1 _ => hoF k (by omega))).here
   ·exact (HS3.out.kp (w2 := WF) (by omega) (fun k h1 _ => hoF k (by have := hs8.out; omega))).here
   ·exact StsR_nil _ _
   ·exact StsR_nil _ _
   ·exact StsR_nil _ _
end M
end Go.Proofs.YtdlebaiamdbneaaGreatDoor
