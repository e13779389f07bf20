/- Texts of one proof: KzJ. -/
import Derived.Test.YtljknappbnoikaaGreatDoorZz
set_option linter.unusedVariables false
set_option linter.unusedSimpArgs false
set_option maxRecDepth 100000
set_option maxHeartbeats 8000000
namespace Go.Proofs.YtljknappbnoikaaGreatDoor
open Go.RowKit
namespace K
open U (Ex St StsR StR StAt ev eArr KidsE newBlk Vr VarsR VrAt KpL sArr two_kids)
theorem one_st {w : World} {b : Nat} {x : St} {A B T E : Option Addr} {c d m n : Nat} {Ty : TypeId} (h : w.heap[b]? = some (.cells (sArr x A c B d T m E n) Ty (0, 0))) (hA : KidsE w x.a.kids A) (hB : KidsE w x.b.kids B) (hT : StsR w x.th T) (hE : StsR w x.el E)
  (hlt : x.th.length ≤ maxLen) (hle : x.el.length ≤ maxLen) : StsR w [x] (some ⟨b, 0, none⟩) := by
 obtain ⟨e0, e1, e2, e3, e4, e5, e6, e7, e8, e9, e10, e11, e12⟩ := U.cells13 h
 obtain ⟨k, v, r, a, bb, th, el⟩ := x
 unfold StsR
 refine ⟨b, 0, rfl, ?_, ?_⟩
 ·unfold StR
  exact ⟨A, c, B, d, T, m, E, n, ⟨e0, e1, e2, e3, e4, e5, e6, e7, e8, e9, e10, e11, e12⟩, hA, hB, hT, hE, hlt, hle⟩
 ·unfold StsR
  trivial
def KP (B : Nat) (w : World) (ts : List Ex) (A : Option Addr) : Prop := ∀ w' : World, (∀ k, B ≤ k → k < w.heap.size → w'.heap[k]? = w.heap[k]?) → KidsE w' ts A
def SP (B : Nat) (w : World) (l : List St) (A : Option Addr) : Prop := ∀ w' : World, (∀ k, B ≤ k → k < w.heap.size → w'.heap[k]? = w.heap[k]?) → StsR w' l A
theorem SP.here {B : Nat} {w : World} {l : List St} {A : Option Addr} (h : SP B w l A) : StsR w l A := h w (fun _ _ _ => rfl)
theorem KP.kp {B : Nat} {w w2 : World} {ts : List Ex} {A : Option Addr} (h : KP B w ts A) (hs : w.heap.size ≤ w2.heap.size) (hb : ∀ k, B ≤ k → k < w.heap.size → w2.heap[k]? = w.heap[k]?) : KP B w2 ts A := fun w' hw => h w' (fun k h1 h2 => (hw k h1 (by omega)).trans (hb k h1 h2))
theorem SP.kp {B : Nat} {w w2 : World} {l : List St} {A : Option Addr} (h : SP B w l A) (hs : w.heap.size ≤ w2.heap.size) (hb : ∀ k, B ≤ k → k < w.heap.size → w2.heap[k]? = w.heap[k]?) : SP B w2 l A := fun w' hw => h w' (fun k h1 h2 => (hw k h1 (by omega)).trans (hb k h1 h2))
theorem KP.gr {B : Nat} {w w2 : World} {ts : List Ex} {A : Option Addr} (h : KP B w ts A) (hg : Gr w w2) : KP B w2 ts A := h.kp hg.size (fun k _ h2 => hg.block k h2)
theorem SP.gr {B : Nat} {w w2 : World} {l : List St} {A : Option Addr} (h : SP B w l A) (hg : Gr w w2) : SP B w2 l A := h.kp hg.size (fun k _ h2 => hg.block k h2)
theorem KP.set {B b i : Nat} {w : World} {ts : List Ex} {A : Option Addr} {u : Value} (h : KP B w ts A) (hb : b < B) : KP B (w.setCell ⟨b, i, none⟩ u) ts A := h.kp (by simp [World.setCell]) (fun k h1 _ => C.scO _ _ _ _ _ (by omega))
theorem SP.set {B b i : Nat} {w : World} {l : List St} {A : Option Addr} {u : Value} (h : SP B w l A) (hb : b < B) : SP B (w.setCell ⟨b, i, none⟩ u) l A := h.kp (by simp [World.setCell]) (fun k h1 _ => C.scO _ _ _ _ _ (by omega))
theorem KP.nil (B : Nat) (w : World) (A : Option Addr) : KP B w [] A := fun _ _ => trivial
theorem SP.one {B : Nat} {w : World} {b : Nat} {x : St} {A Bd T E : Option Addr} {c d m n : Nat} {Ty : TypeId} (h : w.heap[b]? = some (.cells (sArr x A c Bd d T m E n) Ty (0, 0))) (hB : B ≤ b) (hA : KP B w x.a.kids A) (hBk : KP B w x.b.kids Bd) (hT : SP B w x.th T) (hE : SP B w x.el E)
  (hlt : x.th.length ≤ maxLen) (hle : x.el.length ≤ maxLen) : SP B w [x] (some ⟨b, 0, none⟩) := fun w' hw =>
 one_st (w := w') ((hw b hB (blkLt h)).trans h) (hA w' hw) (hBk w' hw) (hT w' hw) (hE w' hw) hlt hle
theorem SP.nil (B : Nat) (w : World) (A : Option Addr) : SP B w [] A := fun _ _ => by unfold StsR; trivial
theorem wpAnyX_two {P : Program} {ops : Array Oper} {Q : Exit → Act → World → Prop} {md : Region.Mode} {S : World → Prop} {X : List Nat} {i j : Nat} {oi oj : Oper} {fuel : Nat} {listed : Array Bool} {a : Act} {W : World} (hr : Region.ready md ops listed = [i, j]) (hi : ops[i]? = some oi) (hj : ops[j]? = some oj)
  (h1 : ∀ w, Gr W w → ∀ K' : Act → World → Prop, Shut (∀ a w, S w → (Hid (S w) → wpAnyX P md ops Q S X fuel (listed.setIfInBounds i true) a w) → K' a w) → if Region.wanted oi (yielded ops a.tmps) = true then Oper.wp P oi a w K' Q else K' (a.put oi.dst undef) w)
  (h2 : ∀ w, Gr W w → ∀ K' : Act → World → Prop, Shut (∀ a w, S w → (Hid (S w) → wpAnyX P md ops Q S X fuel (listed.setIfInBounds j true) a w) → K' a w) → if Region.wanted oj (yielded ops a.tmps) = true then Oper.wp P oj a w K' Q else K' (a.put oj.dst undef) w) :
  wpAnyX P md ops Q S X (fuel + 1) listed a W := by
 refine ⟨fun h0 => ?_, fun k hk w hw => ?_⟩
 ·rw [hr] at h0; cases h0
 ·rw [hr] at hk
  rcases List.mem_cons.1 hk with rfl | hk
  ·exact wpOp_step hi (fun K' hK => h1 w hw K' (fun a w hS hW => hK a w ⟨.inr hS, hW hS⟩))
  ·obtain rfl : k = j := by simpa using hk
   exact wpOp_step hj (fun K' hK => h2 w hw K' (fun a w hS hW => hK a w ⟨.inr hS, hW hS⟩))
theorem num_any (n : Int) (w : World) : Calls Tryz.prog 31 #[.int .i64 n] w (GG (.agg #[.int .i64 1, .int .i64 n, .int .i64 1, .slice none 0 0]) w) := by
 go_enter Tryz.func31, Tryz.ntmps31
 go_wp2
 exact bodyPost_ret (v := .agg #[.int .i64 1, .int .i64 n, .int .i64 1, .slice none 0 0]) (by simp [results, Tryz.results31, go_sem]) rfl ⟨rfl, grAlloc _ _⟩
theorem in_any (n : Int) (w : World) : Calls Tryz.prog 30 #[.int .i64 n] w (GG (.agg #[.int .i64 3, .int .i64 n, .int .i64 0, .slice none 0 0]) w) := by
 go_enter Tryz.func30, Tryz.ntmps30
 go_wp2
 exact bodyPost_ret (v := .agg #[.int .i64 3, .int .i64 n, .int .i64 0, .slice none 0 0]) (by simp [results, Tryz.results30, go_sem]) rfl ⟨rfl, grAlloc _ _⟩
abbrev xW : Ex := .mk 2 0 0 []
abbrev xI : Ex := .mk 3 0 0 []
abbrev xZ : Ex := .mk 0 0 0 []
abbrev xN (n : Int) : Ex := .mk 1 n 1 []
abbrev sTh : St := .mk 1 0 0 (.mk 4 0 0 [xW, xI]) xZ [] []
abbrev sEl : St := .mk 1 0 0 (xN 1) xZ [] []
abbrev sIf : St := .mk 2 0 1 xI (xN 2) [sTh] [sEl]
def exOn : U.On := ⟨[sIf], [], [], [], []⟩
def exVs : List Vr := [⟨⟨#[119]⟩, 1, 1, 9, 1⟩]
def ExmP (w : World) (e : Ending) (w' : World) : Prop := (∃ VA vm a, e = .returned (U.pgv ⟨#[112]⟩ VA 1 vm exOn a 0 (-1)) ∧ VarsR w' exVs VA ∧ U.OnR w' exOn a) ∧ Gr w w'
abbrev pgC (V O : Value) : Array Value := #[.string ⟨#[112]⟩, V, O, .slice none 0 0, .slice none 0 0, .slice none 0 0, .slice none 0 0, .int .i64 0, .int .i64 (-1)]
abbrev eC (op n u : Int) (s : Value) : Array Value := #[.int .i64 op, .int .i64 n, .int .i64 u, s]
abbrev st9 (w : World) (b : Nat) (x0 x1 x2 x3 x4 x5 x6 x7 x8 : Value) : World := (((((((((w.setCell ⟨b, 0, none⟩ x0).setCell ⟨b, 1, none⟩ x1).setCell ⟨b, 2, none⟩ x2).setCell ⟨b, 3, none⟩ x3).setCell ⟨b, 4, none⟩ x4).setCell ⟨b, 5, none⟩ x5).setCell ⟨b, 6, none⟩ x6).setCell ⟨b, 7, none⟩ x7).setCell ⟨b, 8, none⟩ x8)
theorem oth9 {w : World} {b k : Nat} {x0 x1 x2 x3 x4 x5 x6 x7 x8 : Value} (h : k ≠ b) : (st9 w b x0 x1 x2 x3 x4 x5 x6 x7 x8).heap[k]? = w.heap[k]? := (C.scO _ _ _ _ _ h).trans ((C.scO _ _ _ _ _ h).trans ((C.scO _ _ _ _ _ h).trans ((C.scO _ _ _ _ _ h).trans ((C.scO _ _ _ _ _ h).trans ((C.scO _ _ _ _ _ h).trans ((C.scO _ _ _ _ _ h).trans ((C.scO _ _ _ _ _ h).trans (C.scO _ _ _ _ _ h))))))))
theorem siz9 {w : World} {b : Nat} {x0 x1 x2 x3 x4 x5 x6 x7 x8 : Value} : (st9 w b x0 x1 x2 x3 x4 x5 x6 x7 x8).heap.size = w.heap.size := by simp [World.setCell]
theorem bel9 {B b : Nat} {a w : World} {x0 x1 x2 x3 x4 x5 x6 x7 x8 : Value} (h : Below B a w) (hb : B ≤ b) : Below B a (st9 w b x0 x1 x2 x3 x4 x5 x6 x7 x8) := C.belowSet (C.belowSet (C.belowSet (C.belowSet (C.belowSet (C.belowSet (C.belowSet (C.belowSet (C.belowSet (h) hb) hb) hb) hb) hb) hb) hb) hb) hb
theorem fin_ex {w W4 wz w9 : World} {u : Value} {Z : Array Value} {Vc : Array Value} {T1 T2 T3 : TypeId} {V O : Value} (hs : W4.heap.size = w.heap.size + 1 + 1 + 1 + 1) (hB : Gr w W4) (hZ : W4.heap[w.heap.size]? = some (.cells Z T1 (0, 0))) (hV : W4.heap[w.heap.size + 1 + 1]? = some (.cells Vc T2 (0, 0)))
  (hP : W4.heap[w.heap.size + 1 + 1 + 1]? = some (.cells (pgC V O) T3 (0, 0))) (hgz : Gr W4 wz) (hg9 : Gr (wz.setCell ⟨w.heap.size + 1 + 1 + 1, 2, none⟩ u) w9) :
  w9.heap[w.heap.size + 1 + 1 + 1]? = some (.cells (pgC V u) T3 (0, 0)) ∧ w9.heap[w.heap.size]? = some (.cells Z T1 (0, 0)) ∧ w9.heap[w.heap.size + 1 + 1]? = some (.cells Vc T2 (0, 0)) ∧ Gr w w9 := by
 have hPz := heap_setCell_same wz (w.heap.size + 1 + 1 + 1) 2 _ _ u (grBlk hgz hP)
 have hb : w.heap.size ≤ w.heap.size + 1 + 1 + 1 := by omega
 have n1 : w.heap.size ≠ w.heap.size + 1 + 1 + 1 := by omega
 have n2 : w.heap.size + 1 + 1 ≠ w.heap.size + 1 + 1 + 1 := by omega
 exact ⟨grBlk hg9 hPz, grBlk hg9 ((heap_setCell_other wz _ _ u n1).trans (grBlk hgz hZ)), grBlk hg9 ((heap_setCell_other wz _ _ u n2).trans (grBlk hgz hV)), Below.trans (belK (i := 2) (u := u) (hB.tr hgz) hb) ⟨hg9.os, hg9.tape, hg9.output, hg9.size, fun k hk => hg9.block k (by have := hgz.size; simp [World.setCell]; omega)⟩⟩
theorem example_any (w : World) : Calls Tryz.prog 16 #[] w (ExmP w) := by
 obtain ⟨W4, hW4⟩ : ∃ W4, W4 = ((((w.alloc (.cells C.zPg 26)).alloc (.cells (eC 2 0 0 (.slice none 0 0)) 66)).alloc (.cells #[.string ⟨#[119]⟩, .int .i64 1, .int .i64 1, .int .i64 9, .int .i64 1] 46)).alloc (.cells (pgC (.slice (some ⟨w.heap.size + 1 + 1, 0, none⟩) 1 1) (.slice none 0 0)) 26)) := ⟨_, rfl⟩
 have HB : Hid (Gr w W4) := Lib.hid (by rw [hW4]; exact (((grAlloc _ _).tr (grAlloc _ _)).tr (grAlloc _ _)).tr (grAlloc _ _))
 have HZ : Hid (W4.heap[w.heap.size]? = some (.cells C.zPg 26 (0, 0))) := Lib.hid (by rw [hW4]; exact grBlk (grAlloc _ _) (grBlk (grAlloc _ _) (grBlk (grAlloc _ _) (nBlk _ _ _ rfl))))
 have HX : Hid (W4.heap[w.heap.size + 1]? = some (.cells (eC 2 0 0 (.slice none 0 0)) 66 (0, 0))) := Lib.hid (by rw [hW4]; exact grBlk (grAlloc _ _) (grBlk (grAlloc _ _) (nBlk _ _ _ (by simp))))
 have HV : Hid (W4.heap[w.heap.size + 1 + 1]? = some (.cells #[.string ⟨#[119]⟩, .int .i64 1, .int .i64 1, .int .i64 9, .int .i64 1] 46 (0, 0))) := Lib.hid (by rw [hW4]; exact grBlk (grAlloc _ _) (nBlk _ _ _ (by simp)))
 have HP : Hid (W4.heap[w.heap.size + 1 + 1 + 1]? = some (.cells (pgC (.slice (some ⟨w.heap.size + 1 + 1, 0, none⟩) 1 1) (.slice none 0 0)) 26 (0, 0))) := Lib.hid (by rw [hW4]; exact nBlk _ _ _ (by simp))
 have hs4 : Hid (W4.heap.size = w.heap.size + 1 + 1 + 1 + 1) := Lib.hid (by rw [hW4]; simp)
 go_enter Tryz.func16, Tryz.ntmps16
 go_upto_region 3 with fail
 rw [← hW4]
 clear hW4
 obtain ⟨x0, x1, x2, x3⟩ := cells4k HX.out
 have hFin := Lib.hid (fun (wz w9 : World) (u : Value) (hgz : Gr W4 wz) (hg9 : Gr (wz.setCell ⟨w.heap.size + 1 + 1 + 1, 2, none⟩ u) w9) => fin_ex hs4.out HB.out HZ.out HV.out HP.out hgz hg9)
 go_cut [] (fun wx => ∃ q : Nat, Hid (wx.heap[w.heap.size + 1 + 1 + 1]? = some (.cells (pgC (.slice (some ⟨w.heap.size + 1 + 1, 0, none⟩) 1 1) (.slice (some ⟨q, 0, none⟩) 1 1)) 26 (0, 0))) ∧ Hid (SP W4.heap.size wx [sIf] (some ⟨q, 0, none⟩)) ∧ Hid (wx.heap[w.heap.size]? = some (.cells C.zPg 26 (0, 0))) ∧ Hid (wx.heap[w.heap.size + 1 + 1]? = some (.cells #[.string ⟨#[119]⟩, .int .i64 1, .int .i64 1, .int .i64 9, .int .i64 1] 46 (0, 0))) ∧ Hid (Gr w wx))
 case first =>
  refine wp_region_X (S := fun wq => Gr W4 wq) [15] (by kernel_rfl) (grDrew _) (fun hHeld => ?_)
  have hSG : Hid (∀ wp wq : World, Gr W4 wp → Gr wp wq → Gr W4 wq) := Lib.hid (fun _ _ h k => h.tr k)
  have hmv := Lib.hid (fun (wq : World) (hq : Gr W4 wq) => And.intro (grCell hq x0) (And.intro (grCell hq x1) (And.intro (grCell hq x2) (grCell hq x3))))
  refine xc hSG 0 [1, 3, 4, 5, 6, 7, 8, 9, 10, 11, 12, 14, 15] (v := .agg #[.int .i64 3, .int .i64 0, .int .i64 0, .slice none 0 0]) rfl (by kernel_rfl) (fun _ _ _ h => h) (by rfl) ?_ hHeld ?_
  focus (intro wz hSw K hK; obtain ⟨x0, x1, x2, x3⟩ := hmv.out _ hSw; go_simp; go_at_call 30; refine (in_any 0 _).mono ?_; rintro e w2 ⟨rfl, hb2⟩; first | exact hK.out _ hb2 | (have h9 := hK.out _ hb2; (try simp only [zq1, zq2, zq3, Act.put, zq4, zq5, zq6] at h9 ⊢); exact h9) | (have h9 := hK.out _ hb2; go_simp; exact h9))
  (try simp only [zq1, zq2, zq3, Act.put, zq4, zq5, zq6])
  refine xc hSG 1 [3, 4, 5, 6, 7, 8, 9, 10, 11, 12, 14, 15] (v := .agg #[.int .i64 1, .int .i64 2, .int .i64 1, .slice none 0 0]) rfl (by kernel_rfl) (fun _ _ _ h => h) (by rfl) ?_ hHeld ?_
  focus (intro wz hSw K hK; obtain ⟨x0, x1, x2, x3⟩ := hmv.out _ hSw; go_simp; go_at_call 31; refine (num_any 2 _).mono ?_; rintro e w2 ⟨rfl, hb2⟩; first | exact hK.out _ hb2 | (have h9 := hK.out _ hb2; (try simp only [zq1, zq2, zq3, Act.put, zq4, zq5, zq6] at h9 ⊢); exact h9) | (have h9 := hK.out _ hb2; go_simp; exact h9))
  (try simp only [zq1, zq2, zq3, Act.put, zq4, zq5, zq6])
  first
   | (refine xk hSG 2 [4, 5, 6, 7, 11, 12, 14, 15] (v := ?_) rfl (by kernel_rfl) (fun _ _ _ h => h) (by rfl) ?_ hHeld ?_; rotate_left; focus (intro w' hSw; obtain ⟨x0, x1, x2, x3⟩ := hmv.out _ hSw; go_simp; (try with_reducible rfl)))
   | refine xn hSG 2 [4, 5, 6, 7, 11, 12, 14, 15] rfl (by kernel_rfl) (fun _ _ _ h => h) (by rfl) hHeld ?_
  (try simp only [zq1, zq2, zq3, Act.put, zq4, zq5, zq6])
  refine xc hSG 3 [4, 5, 6, 7, 8, 9, 10, 11, 12, 14, 15] (v := .agg #[.int .i64 3, .int .i64 0, .int .i64 0, .slice none 0 0]) rfl (by kernel_rfl) (fun _ _ _ h => h) (by rfl) ?_ hHeld ?_
  focus (intro wz hSw K hK; obtain ⟨x0, x1, x2, x3⟩ := hmv.out _ hSw; go_simp; go_at_call 30; refine (in_any 0 _).mono ?_; rintro e w2 ⟨rfl, hb2⟩; first | exact hK.out _ hb2 | (have h9 := hK.out _ hb2; (try simp only [zq1, zq2, zq3, Act.put, zq4, zq5, zq6] at h9 ⊢); exact h9) | (have h9 := hK.out _ hb2; go_simp; exact h9))
  (try simp only [zq1, zq2, zq3, Act.put, zq4, zq5, zq6])
  refine xc hSG 8 [9, 10, 11, 12, 14, 15] (v := .agg #[.int .i64 1, .int .i64 1, .int .i64 1, .slice none 0 0]) rfl (by kernel_rfl) (fun _ _ _ h => h) (by rfl) ?_ hHeld ?_
  focus (intro wz hSw K hK; obtain ⟨x0, x1, x2, x3⟩ := hmv.out _ hSw; go_simp; go_at_call 31; refine (num_any 1 _).mono ?_; rintro e w2 ⟨rfl, hb2⟩; first | exact hK.out _ hb2 | (have h9 := hK.out _ hb2; (try simp only [zq1, zq2, zq3, Act.put, zq4, zq5, zq6] at h9 ⊢); exact h9) | (have h9 := hK.out _ hb2; go_simp; exact h9))
  (try simp only [zq1, zq2, zq3, Act.put, zq4, zq5, zq6])
  first
   | (refine xk hSG 9 [10, 11, 12, 14, 15] (v := ?_) rfl (by kernel_rfl) (fun _ _ _ h => h) (by rfl) ?_ hHeld ?_; rotate_left; focus (intro w' hSw; obtain ⟨x0, x1, x2, x3⟩ := hmv.out _ hSw; go_simp; (try with_reducible rfl)))
   | refine xn hSG 9 [10, 11, 12, 14, 15] rfl (by kernel_rfl) (fun _ _ _ h => h) (by rfl) hHeld ?_
  (try simp only [zq1, zq2, zq3, Act.put, zq4, zq5, zq6])
  first
   | (refine xk hSG 13 [14, 15] (v := ?_) rfl (by kernel_rfl) (fun _ _ _ h => h) (by rfl) ?_ hHeld ?_; rotate_left; focus (intro w' hSw; obtain ⟨x0, x1, x2, x3⟩ := hmv.out _ hSw; go_simp; (try with_reducible rfl)))
   | refine xn hSG 13 [14, 15] rfl (by kernel_rfl) (fun _ _ _ h => h) (by rfl) hHeld ?_
  (try simp only [zq1, zq2, zq3, Act.put, zq4, zq5, zq6])
  refine wpAnyX_two (i := 4) (j := 10) (by kernel_rfl) rfl rfl (fun v4 hg K hK => ?_) (fun v10 hg K hK => ?_)
  ·skip
   have hgS := hSG.out _ _ hHeld.out hg
   go_simp
   have hN := newBlk v4 (.cells #[.int .i64 2, .int .i64 0, .int .i64 0, .slice none 0 0, .int .i64 3, .int .i64 0, .int .i64 0, .slice none 0 0] 66) _ rfl
   have F4 : Hid (KP W4.heap.size (v4.alloc (.cells #[.int .i64 2, .int .i64 0, .int .i64 0, .slice none 0 0, .int .i64 3, .int .i64 0, .int .i64 0, .slice none 0 0] 66)) [xW, xI] (some ⟨v4.heap.size, 0, none⟩)) := Lib.hid (fun w' hw => two_kids (s := xW) (t := xI) (A := none) (B := none) (c := 0) (d := 0) ((hw _ hgS.size (blkLt hN)).trans hN) (Nat.zero_le _) (Nat.zero_le _) trivial trivial)
   refine hK.out _ _ (hgS.tr (grAlloc _ _)) (fun hHeld => ?_)
   clear hK K hg hgS hN
   first
    | (refine xk hSG 5 [6, 7, 11, 12, 14, 15] (v := ?_) rfl (by kernel_rfl) (fun _ _ _ h => h) (by rfl) ?_ hHeld ?_; rotate_left; focus (intro w' hSw; obtain ⟨x0, x1, x2, x3⟩ := hmv.out _ hSw; go_simp; (try with_reducible rfl)))
    | refine xn hSG 5 [6, 7, 11, 12, 14, 15] rfl (by kernel_rfl) (fun _ _ _ h => h) (by rfl) hHeld ?_
   (try simp only [zq1, zq2, zq3, Act.put, zq4, zq5, zq6])
   first
    | (refine xk hSG 6 [7, 11, 12, 14, 15] (v := ?_) rfl (by kernel_rfl) (fun _ _ _ h => h) (by rfl) ?_ hHeld ?_; rotate_left; focus (intro w' hSw; obtain ⟨x0, x1, x2, x3⟩ := hmv.out _ hSw; go_simp; (try with_reducible rfl)))
    | refine xn hSG 6 [7, 11, 12, 14, 15] rfl (by kernel_rfl) (fun _ _ _ h => h) (by rfl) hHeld ?_
   (try simp only [zq1, zq2, zq3, Act.put, zq4, zq5, zq6])
   refine wpAnyX_two (i := 7) (j := 10) (by kernel_rfl) rfl rfl (fun v7 hg K hK => ?_) (fun v10 hg K hK => ?_)
   ·skip
    have hgS := hSG.out _ _ hHeld.out hg
    go_simp
    have hN := newBlk v7 (.cells (sArr sTh (some ⟨v4.heap.size, 0, none⟩) 0 none 0 none 0 none 0) 69) _ rfl
    have F7 := Lib.hid (SP.one (B := W4.heap.size) (x := sTh) hN hgS.size ((F4.out.gr hg).gr (grAlloc v7 (.cells (sArr sTh (some ⟨v4.heap.size, 0, none⟩) 0 none 0 none 0 none 0) 69))) (KP.nil _ _ _) (SP.nil _ _ _) (SP.nil _ _ _) (Nat.zero_le _) (Nat.zero_le _))
    have F4 := Lib.hid ((F4.out.gr hg).gr (grAlloc v7 (.cells (sArr sTh (some ⟨v4.heap.size, 0, none⟩) 0 none 0 none 0 none 0) 69)))
    refine hK.out _ _ (hgS.tr (grAlloc _ _)) (fun hHeld => ?_)
    clear hK K hg hgS hN
    refine wpAnyX_one (i := 10) (by kernel_rfl) rfl (fun v10 hg K hK => ?_)
    have hgS := hSG.out _ _ hHeld.out hg
    go_simp
    have hN := newBlk v10 (.cells (sArr sEl none 0 none 0 none 0 none 0) 69) _ rfl
    have F10 := Lib.hid (SP.one (B := W4.heap.size) (x := sEl) hN hgS.size (KP.nil _ _ _) (KP.nil _ _ _) (SP.nil _ _ _) (SP.nil _ _ _) (Nat.zero_le _) (Nat.zero_le _))
    have F4 := Lib.hid ((F4.out.gr hg).gr (grAlloc v10 (.cells (sArr sEl none 0 none 0 none 0 none 0) 69)))
    have F7 := Lib.hid ((F7.out.gr hg).gr (grAlloc v10 (.cells (sArr sEl none 0 none 0 none 0 none 0) 69)))
    refine hK.out _ _ (hgS.tr (grAlloc _ _)) (fun hHeld => ?_)
    clear hK K hg hgS hN
    first
     | (refine xk hSG 11 [12, 14, 15] (v := ?_) rfl (by kernel_rfl) (fun _ _ _ h => h) (by rfl) ?_ hHeld ?_; rotate_left; focus (intro w' hSw; obtain ⟨x0, x1, x2, x3⟩ := hmv.out _ hSw; go_simp; (try with_reducible rfl)))
     | refine xn hSG 11 [12, 14, 15] rfl (by kernel_rfl) (fun _ _ _ h => h) (by rfl) hHeld ?_
    (try simp only [zq1, zq2, zq3, Act.put, zq4, zq5, zq6])
    refine wpAnyX_one (i := 12) (by kernel_rfl) rfl (fun v12 hg K hK => ?_)
    have hgS := hSG.out _ _ hHeld.out hg
    go_simp
    have hN := newBlk v12 (.cells (sArr sIf none 0 none 0 (some ⟨v7.heap.size, 0, none⟩) 1 (some ⟨v10.heap.size, 0, none⟩) 1) 69) _ rfl
    have F12 := Lib.hid (SP.one (B := W4.heap.size) (x := sIf) hN hgS.size (KP.nil _ _ _) (KP.nil _ _ _) ((F7.out.gr hg).gr (grAlloc v12 (.cells (sArr sIf none 0 none 0 (some ⟨v7.heap.size, 0, none⟩) 1 (some ⟨v10.heap.size, 0, none⟩) 1) 69))) ((F10.out.gr hg).gr (grAlloc v12 (.cells (sArr sIf none 0 none 0 (some ⟨v7.heap.size, 0, none⟩) 1 (some ⟨v10.heap.size, 0, none⟩) 1) 69))) (by decide) (by decide))
    have F4 := Lib.hid ((F4.out.gr hg).gr (grAlloc v12 (.cells (sArr sIf none 0 none 0 (some ⟨v7.heap.size, 0, none⟩) 1 (some ⟨v10.heap.size, 0, none⟩) 1) 69)))
    have F7 := Lib.hid ((F7.out.gr hg).gr (grAlloc v12 (.cells (sArr sIf none 0 none 0 (some ⟨v7.heap.size, 0, none⟩) 1 (some ⟨v10.heap.size, 0, none⟩) 1) 69)))
    have F10 := Lib.hid ((F10.out.gr hg).gr (grAlloc v12 (.cells (sArr sIf none 0 none 0 (some ⟨v7.heap.size, 0, none⟩) 1 (some ⟨v10.heap.size, 0, none⟩) 1) 69)))
    refine hK.out _ _ (hgS.tr (grAlloc _ _)) (fun hHeld => ?_)
    clear hK K hg hgS hN
    first
     | (refine xk hSG 14 [15] (v := ?_) rfl (by kernel_rfl) (fun _ _ _ h => h) (by rfl) ?_ hHeld ?_; rotate_left; focus (intro w' hSw; obtain ⟨x0, x1, x2, x3⟩ := hmv.out _ hSw; go_simp; (try with_reducible rfl)))
     | refine xn hSG 14 [15] rfl (by kernel_rfl) (fun _ _ _ h => h) (by rfl) hHeld ?_
    (try simp only [zq1, zq2, zq3, Act.put, zq4, zq5, zq6])
    refine wpAnyX_oneX (i := 15) (by kernel_rfl) (by kernel_rfl) rfl (fun v15 hg K hK => ?_)
    have hgS := hSG.out _ _ hHeld.out hg
    have F12 := Lib.hid (F12.out.gr hg)
    have HP7 := Lib.hid (grBlk hgS HP.out)
    obtain ⟨p0, p1, p2, p3, p4, p5, p6, p7, p8⟩ := U.cells9 HP7.out
    have d2 := frz HP7.out 2
    have hz7 := blkLt HP7.out
    have hgSH := Lib.hid hgS
    clear hg hgS
    go_simp
    refine hK.out _ _ ?_
    clear hK K p0 p1 p2 p3 p4 p5 p6 p7 p8 d2 hz7 HP7
    refine wpAnyX_done (by kernel_rfl) (fun v16 hg => ?_) _
    obtain ⟨f1, f2, f3, f4⟩ := hFin.out v15 v16 _ hgSH.out hg
    have F12 : Hid (SP W4.heap.size v16 [sIf] (some ⟨v12.heap.size, 0, none⟩)) := Lib.hid ((F12.out.set (by have := hs4.out; omega)).gr hg)
    clear hg hHeld hSG
    go_wp2
    go_meet
    exact ⟨_, f1, F12, f2, f3, f4⟩
   ·skip
    have hgS := hSG.out _ _ hHeld.out hg
    go_simp
    have hN := newBlk v10 (.cells (sArr sEl none 0 none 0 none 0 none 0) 69) _ rfl
    have F10 := Lib.hid (SP.one (B := W4.heap.size) (x := sEl) hN hgS.size (KP.nil _ _ _) (KP.nil _ _ _) (SP.nil _ _ _) (SP.nil _ _ _) (Nat.zero_le _) (Nat.zero_le _))
    have F4 := Lib.hid ((F4.out.gr hg).gr (grAlloc v10 (.cells (sArr sEl none 0 none 0 none 0 none 0) 69)))
    refine hK.out _ _ (hgS.tr (grAlloc _ _)) (fun hHeld => ?_)
    clear hK K hg hgS hN
    refine wpAnyX_one (i := 7) (by kernel_rfl) rfl (fun v7 hg K hK => ?_)
    have hgS := hSG.out _ _ hHeld.out hg
    go_simp
    have hN := newBlk v7 (.cells (sArr sTh (some ⟨v4.heap.size, 0, none⟩) 0 none 0 none 0 none 0) 69) _ rfl
    have F7 := Lib.hid (SP.one (B := W4.heap.size) (x := sTh) hN hgS.size ((F4.out.gr hg).gr (grAlloc v7 (.cells (sArr sTh (some ⟨v4.heap.size, 0, none⟩) 0 none 0 none 0 none 0) 69))) (KP.nil _ _ _) (SP.nil _ _ _) (SP.nil _ _ _) (Nat.zero_le _) (Nat.zero_le _))
    have F4 := Lib.hid ((F4.out.gr hg).gr (grAlloc v7 (.cells (sArr sTh (some ⟨v4.heap.size, 0, none⟩) 0 none 0 none 0 none 0) 69)))
    have F10 := Lib.hid ((F10.out.gr hg).gr (grAlloc v7 (.cells (sArr sTh (some ⟨v4.heap.size, 0, none⟩) 0 none 0 none 0 none 0) 69)))
    refine hK.out _ _ (hgS.tr (grAlloc _ _)) (fun hHeld => ?_)
    clear hK K hg hgS hN
    first
     | (refine xk hSG 11 [12, 14, 15] (v := ?_) rfl (by kernel_rfl) (fun _ _ _ h => h) (by rfl) ?_ hHeld ?_; rotate_left; focus (intro w' hSw; obtain ⟨x0, x1, x2, x3⟩ := hmv.out _ hSw; go_simp; (try with_reducible rfl)))
     | refine xn hSG 11 [12, 14, 15] rfl (by kernel_rfl) (fun _ _ _ h => h) (by rfl) hHeld ?_
    (try simp only [zq1, zq2, zq3, Act.put, zq4, zq5, zq6])
    refine wpAnyX_one (i := 12) (by kernel_rfl) rfl (fun v12 hg K hK => ?_)
    have hgS := hSG.out _ _ hHeld.out hg
    go_simp
    have hN := newBlk v12 (.cells (sArr sIf none 0 none 0 (some ⟨v7.heap.size, 0, none⟩) 1 (some ⟨v10.heap.size, 0, none⟩) 1) 69) _ rfl
    have F12 := Lib.hid (SP.one (B := W4.heap.size) (x := sIf) hN hgS.size (KP.nil _ _ _) (KP.nil _ _ _) ((F7.out.gr hg).gr (grAlloc v12 (.cells (sArr sIf none 0 none 0 (some ⟨v7.heap.size, 0, none⟩) 1 (some ⟨v10.heap.size, 0, none⟩) 1) 69))) ((F10.out.gr hg).gr (grAlloc v12 (.cells (sArr sIf none 0 none 0 (some ⟨v7.heap.size, 0, none⟩) 1 (some ⟨v10.heap.size, 0, none⟩) 1) 69))) (by decide) (by decide))
    have F4 := Lib.hid ((F4.out.gr hg).gr (grAlloc v12 (.cells (sArr sIf none 0 none 0 (some ⟨v7.heap.size, 0, none⟩) 1 (some ⟨v10.heap.size, 0, none⟩) 1) 69)))
    have F10 := Lib.hid ((F10.out.gr hg).gr (grAlloc v12 (.cells (sArr sIf none 0 none 0 (some ⟨v7.heap.size, 0, none⟩) 1 (some ⟨v10.heap.size, 0, none⟩) 1) 69)))
    have F7 := Lib.hid ((F7.out.gr hg).gr (grAlloc v12 (.cells (sArr sIf none 0 none 0 (some ⟨v7.heap.size, 0, none⟩) 1 (some ⟨v10.heap.size, 0, none⟩) 1) 69)))
    refine hK.out _ _ (hgS.tr (grAlloc _ _)) (fun hHeld => ?_)
    clear hK K hg hgS hN
    first
     | (refine xk hSG 14 [15] (v := ?_) rfl (by kernel_rfl) (fun _ _ _ h => h) (by rfl) ?_ hHeld ?_; rotate_left; focus (intro w' hSw; obtain ⟨x0, x1, x2, x3⟩ := hmv.out _ hSw; go_simp; (try with_reducible rfl)))
     | refine xn hSG 14 [15] rfl (by kernel_rfl) (fun _ _ _ h => h) (by rfl) hHeld ?_
    (try simp only [zq1, zq2, zq3, Act.put, zq4, zq5, zq6])
    refine wpAnyX_oneX (i := 15) (by kernel_rfl) (by kernel_rfl) rfl (fun v15 hg K hK => ?_)
    have hgS := hSG.out _ _ hHeld.out hg
    have F12 := Lib.hid (F12.out.gr hg)
    have HP7 := Lib.hid (grBlk hgS HP.out)
    obtain ⟨p0, p1, p2, p3, p4, p5, p6, p7, p8⟩ := U.cells9 HP7.out
    have d2 := frz HP7.out 2
    have hz7 := blkLt HP7.out
    have hgSH := Lib.hid hgS
    clear hg hgS
    go_simp
    refine hK.out _ _ ?_
    clear hK K p0 p1 p2 p3 p4 p5 p6 p7 p8 d2 hz7 HP7
    refine wpAnyX_done (by kernel_rfl) (fun v16 hg => ?_) _
    obtain ⟨f1, f2, f3, f4⟩ := hFin.out v15 v16 _ hgSH.out hg
    have F12 : Hid (SP W4.heap.size v16 [sIf] (some ⟨v12.heap.size, 0, none⟩)) := Lib.hid ((F12.out.set (by have := hs4.out; omega)).gr hg)
    clear hg hHeld hSG
    go_wp2
    go_meet
    exact ⟨_, f1, F12, f2, f3, f4⟩
  ·skip
   have hgS := hSG.out _ _ hHeld.out hg
   go_simp
   have hN := newBlk v10 (.cells (sArr sEl none 0 none 0 none 0 none 0) 69) _ rfl
   have F10 := Lib.hid (SP.one (B := W4.heap.size) (x := sEl) hN hgS.size (KP.nil _ _ _) (KP.nil _ _ _) (SP.nil _ _ _) (SP.nil _ _ _) (Nat.zero_le _) (Nat.zero_le _))
   refine hK.out _ _ (hgS.tr (grAlloc _ _)) (fun hHeld => ?_)
   clear hK K hg hgS hN
   refine wpAnyX_one (i := 4) (by kernel_rfl) rfl (fun v4 hg K hK => ?_)
   have hgS := hSG.out _ _ hHeld.out hg
   go_simp
   have hN := newBlk v4 (.cells #[.int .i64 2, .int .i64 0, .int .i64 0, .slice none 0 0, .int .i64 3, .int .i64 0, .int .i64 0, .slice none 0 0] 66) _ rfl
   have F4 : Hid (KP W4.heap.size (v4.alloc (.cells #[.int .i64 2, .int .i64 0, .int .i64 0, .slice none 0 0, .int .i64 3, .int .i64 0, .int .i64 0, .slice none 0 0] 66)) [xW, xI] (some ⟨v4.heap.size, 0, none⟩)) := Lib.hid (fun w' hw => two_kids (s := xW) (t := xI) (A := none) (B := none) (c := 0) (d := 0) ((hw _ hgS.size (blkLt hN)).trans hN) (Nat.zero_le _) (Nat.zero_le _) trivial trivial)
   have F10 := Lib.hid ((F10.out.gr hg).gr (grAlloc v4 (.cells #[.int .i64 2, .int .i64 0, .int .i64 0, .slice none 0 0, .int .i64 3, .int .i64 0, .int .i64 0, .slice none 0 0] 66)))
   refine hK.out _ _ (hgS.tr (grAlloc _ _)) (fun hHeld => ?_)
   clear hK K hg hgS hN
   first
    | (refine xk hSG 5 [6, 7, 11, 12, 14, 15] (v := ?_) rfl (by kernel_rfl) (fun _ _ _ h => h) (by rfl) ?_ hHeld ?_; rotate_left; focus (intro w' hSw; obtain ⟨x0, x1, x2, x3⟩ := hmv.out _ hSw; go_simp; (try with_reducible rfl)))
    | refine xn hSG 5 [6, 7, 11, 12, 14, 15] rfl (by kernel_rfl) (fun _ _ _ h => h) (by rfl) hHeld ?_
   (try simp only [zq1, zq2, zq3, Act.put, zq4, zq5, zq6])
   first
    | (refine xk hSG 6 [7, 11, 12, 14, 15] (v := ?_) rfl (by kernel_rfl) (fun _ _ _ h => h) (by rfl) ?_ hHeld ?_; rotate_left; focus (intro w' hSw; obtain ⟨x0, x1, x2, x3⟩ := hmv.out _ hSw; go_simp; (try with_reducible rfl)))
    | refine xn hSG 6 [7, 11, 12, 14, 15] rfl (by kernel_rfl) (fun _ _ _ h => h) (by rfl) hHeld ?_
   (try simp only [zq1, zq2, zq3, Act.put, zq4, zq5, zq6])
   refine wpAnyX_one (i := 7) (by kernel_rfl) rfl (fun v7 hg K hK => ?_)
   have hgS := hSG.out _ _ hHeld.out hg
   go_simp
   have hN := newBlk v7 (.cells (sArr sTh (some ⟨v4.heap.size, 0, none⟩) 0 none 0 none 0 none 0) 69) _ rfl
   have F7 := Lib.hid (SP.one (B := W4.heap.size) (x := sTh) hN hgS.size ((F4.out.gr hg).gr (grAlloc v7 (.cells (sArr sTh (some ⟨v4.heap.size, 0, none⟩) 0 none 0 none 0 none 0) 69))) (KP.nil _ _ _) (SP.nil _ _ _) (SP.nil _ _ _) (Nat.zero_le _) (Nat.zero_le _))
   have F10 := Lib.hid ((F10.out.gr hg).gr (grAlloc v7 (.cells (sArr sTh (some ⟨v4.heap.size, 0, none⟩) 0 none 0 none 0 none 0) 69)))
   have F4 := Lib.hid ((F4.out.gr hg).gr (grAlloc v7 (.cells (sArr sTh (some ⟨v4.heap.size, 0, none⟩) 0 none 0 none 0 none 0) 69)))
   refine hK.out _ _ (hgS.tr (grAlloc _ _)) (fun hHeld => ?_)
   clear hK K hg hgS hN
   first
    | (refine xk hSG 11 [12, 14, 15] (v := ?_) rfl (by kernel_rfl) (fun _ _ _ h => h) (by rfl) ?_ hHeld ?_; rotate_left; focus (intro w' hSw; obtain ⟨x0, x1, x2, x3⟩ := hmv.out _ hSw; go_simp; (try with_reducible rfl)))
    | refine xn hSG 11 [12, 14, 15] rfl (by kernel_rfl) (fun _ _ _ h => h) (by rfl) hHeld ?_
   (try simp only [zq1, zq2, zq3, Act.put, zq4, zq5, zq6])
   refine wpAnyX_one (i := 12) (by kernel_rfl) rfl (fun v12 hg K hK => ?_)
   have hgS := hSG.out _ _ hHeld.out hg
   go_simp
   have hN := newBlk v12 (.cells (sArr sIf none 0 none 0 (some ⟨v7.heap.size, 0, none⟩) 1 (some ⟨v10.heap.size, 0, none⟩) 1) 69) _ rfl
   have F12 := Lib.hid (SP.one (B := W4.heap.size) (x := sIf) hN hgS.size (KP.nil _ _ _) (KP.nil _ _ _) ((F7.out.gr hg).gr (grAlloc v12 (.cells (sArr sIf none 0 none 0 (some ⟨v7.heap.size, 0, none⟩) 1 (some ⟨v10.heap.size, 0, none⟩) 1) 69))) ((F10.out.gr hg).gr (grAlloc v12 (.cells (sArr sIf none 0 none 0 (some ⟨v7.heap.size, 0, none⟩) 1 (some ⟨v10.heap.size, 0, none⟩) 1) 69))) (by decide) (by decide))
   have F10 := Lib.hid ((F10.out.gr hg).gr (grAlloc v12 (.cells (sArr sIf none 0 none 0 (some ⟨v7.heap.size, 0, none⟩) 1 (some ⟨v10.heap.size, 0, none⟩) 1) 69)))
   have F4 := Lib.hid ((F4.out.gr hg).gr (grAlloc v12 (.cells (sArr sIf none 0 none 0 (some ⟨v7.heap.size, 0, none⟩) 1 (some ⟨v10.heap.size, 0, none⟩) 1) 69)))
   have F7 := Lib.hid ((F7.out.gr hg).gr (grAlloc v12 (.cells (sArr sIf none 0 none 0 (some ⟨v7.heap.size, 0, none⟩) 1 (some ⟨v10.heap.size, 0, none⟩) 1) 69)))
   refine hK.out _ _ (hgS.tr (grAlloc _ _)) (fun hHeld => ?_)
   clear hK K hg hgS hN
   first
    | (refine xk hSG 14 [15] (v := ?_) rfl (by kernel_rfl) (fun _ _ _ h => h) (by rfl) ?_ hHeld ?_; rotate_left; focus (intro w' hSw; obtain ⟨x0, x1, x2, x3⟩ := hmv.out _ hSw; go_simp; (try with_reducible rfl)))
    | refine xn hSG 14 [15] rfl (by kernel_rfl) (fun _ _ _ h => h) (by rfl) hHeld ?_
   (try simp only [zq1, zq2, zq3, Act.put, zq4, zq5, zq6])
   refine wpAnyX_oneX (i := 15) (by kernel_rfl) (by kernel_rfl) rfl (fun v15 hg K hK => ?_)
   have hgS := hSG.out _ _ hHeld.out hg
   have F12 := Lib.hid (F12.out.gr hg)
   have HP7 := Lib.hid (grBlk hgS HP.out)
   obtain ⟨p0, p1, p2, p3, p4, p5, p6, p7, p8⟩ := U.cells9 HP7.out
   have d2 := frz HP7.out 2
   have hz7 := blkLt HP7.out
   have hgSH := Lib.hid hgS
   clear hg hgS
   go_simp
   refine hK.out _ _ ?_
   clear hK K p0 p1 p2 p3 p4 p5 p6 p7 p8 d2 hz7 HP7
   refine wpAnyX_done (by kernel_rfl) (fun v16 hg => ?_) _
   obtain ⟨f1, f2, f3, f4⟩ := hFin.out v15 v16 _ hgSH.out hg
   have F12 : Hid (SP W4.heap.size v16 [sIf] (some ⟨v12.heap.size, 0, none⟩)) := Lib.hid ((F12.out.set (by have := hs4.out; omega)).gr hg)
   clear hg hHeld hSG
   go_wp2
   go_meet
   exact ⟨_, f1, F12, f2, f3, f4⟩
 case rest =>
  obtain ⟨q, HPc, HSc, HZc, HVc, HBc⟩ := hcut
  obtain ⟨p0, p1, p2, p3, p4, p5, p6, p7, p8⟩ := U.cells9 HPc.out
  obtain ⟨r0, r1, r2, r3, r4, r5, r6, r7, r8⟩ := U.cells9 HZc.out
  have d0 := frz HZc.out 0
  have d1 := frz HZc.out 1
  have d2 := frz HZc.out 2
  have d3 := frz HZc.out 3
  have d4 := frz HZc.out 4
  have d5 := frz HZc.out 5
  have d6 := frz HZc.out 6
  have d7 := frz HZc.out 7
  have d8 := frz HZc.out 8
  have hz := blkLt HZc.out
  clear hFin HX HZ HV HP HB x0 x1 x2 x3
  go_wp2
  have HZF := C.res9C (x0 := .string ⟨#[112]⟩) (x1 := .slice (some ⟨w.heap.size + 1 + 1, 0, none⟩) 1 1) (x2 := .slice (some ⟨q, 0, none⟩) 1 1) (x3 := .slice none 0 0) (x4 := .slice none 0 0) (x5 := .slice none 0 0) (x6 := .slice none 0 0) (x7 := .int .i64 0) (x8 := .int .i64 (-1)) HZc.out
  have hoF : ∀ k, k ≠ w.heap.size → (((((((((wc.setCell ⟨w.heap.size, 0, none⟩ (.string ⟨#[112]⟩)).setCell ⟨w.heap.size, 1, none⟩ (.slice (some ⟨w.heap.size + 1 + 1, 0, none⟩) 1 1)).setCell ⟨w.heap.size, 2, none⟩ (.slice (some ⟨q, 0, none⟩) 1 1)).setCell ⟨w.heap.size, 3, none⟩ (.slice none 0 0)).setCell ⟨w.heap.size, 4, none⟩ (.slice none 0 0)).setCell ⟨w.heap.size, 5, none⟩ (.slice none 0 0)).setCell ⟨w.heap.size, 6, none⟩ (.slice none 0 0)).setCell ⟨w.heap.size, 7, none⟩ (.int .i64 0)).setCell ⟨w.heap.size, 8, none⟩ (.int .i64 (-1))).heap[k]? = wc.heap[k]? := fun k h => oth9 h
  have hBF : Below w.heap.size w (((((((((wc.setCell ⟨w.heap.size, 0, none⟩ (.string ⟨#[112]⟩)).setCell ⟨w.heap.size, 1, none⟩ (.slice (some ⟨w.heap.size + 1 + 1, 0, none⟩) 1 1)).setCell ⟨w.heap.size, 2, none⟩ (.slice (some ⟨q, 0, none⟩) 1 1)).setCell ⟨w.heap.size, 3, none⟩ (.slice none 0 0)).setCell ⟨w.heap.size, 4, none⟩ (.slice none 0 0)).setCell ⟨w.heap.size, 5, none⟩ (.slice none 0 0)).setCell ⟨w.heap.size, 6, none⟩ (.slice none 0 0)).setCell ⟨w.heap.size, 7, none⟩ (.int .i64 0)).setCell ⟨w.heap.size, 8, none⟩ (.int .i64 (-1))) := bel9 HBc.out (Nat.le_refl _)
  have hsF : (((((((((wc.setCell ⟨w.heap.size, 0, none⟩ (.string ⟨#[112]⟩)).setCell ⟨w.heap.size, 1, none⟩ (.slice (some ⟨w.heap.size + 1 + 1, 0, none⟩) 1 1)).setCell ⟨w.heap.size, 2, none⟩ (.slice (some ⟨q, 0, none⟩) 1 1)).setCell ⟨w.heap.size, 3, none⟩ (.slice none 0 0)).setCell ⟨w.heap.size, 4, none⟩ (.slice none 0 0)).setCell ⟨w.heap.size, 5, none⟩ (.slice none 0 0)).setCell ⟨w.heap.size, 6, none⟩ (.slice none 0 0)).setCell ⟨w.heap.size, 7, none⟩ (.int .i64 0)).setCell ⟨w.heap.size, 8, none⟩ (.int .i64 (-1))).heap.size = wc.heap.size := siz9
  generalize hWF : (((((((((wc.setCell ⟨w.heap.size, 0, none⟩ (.string ⟨#[112]⟩)).setCell ⟨w.heap.size, 1, none⟩ (.slice (some ⟨w.heap.size + 1 + 1, 0, none⟩) 1 1)).setCell ⟨w.heap.size, 2, none⟩ (.slice (some ⟨q, 0, none⟩) 1 1)).setCell ⟨w.heap.size, 3, none⟩ (.slice none 0 0)).setCell ⟨w.heap.size, 4, none⟩ (.slice none 0 0)).setCell ⟨w.heap.size, 5, none⟩ (.slice none 0 0)).setCell ⟨w.heap.size, 6, none⟩ (.slice none 0 0)).setCell ⟨w.heap.size, 7, none⟩ (.int .i64 0)).setCell ⟨w.heap.size, 8, none⟩ (.int .i64 (-1))) = WF at HZF hoF hBF hsF ⊢
  have hb3 : w.heap.size < W4.heap.size := by have := hs4.out; omega
  obtain ⟨c0, c1, c2, c3, c4, c5, c6, c7, c8⟩ := U.cells9 HZF
  refine bodyPost_ret (v := U.pgv ⟨#[112]⟩ (some ⟨w.heap.size + 1 + 1, 0, none⟩) 1 1 exOn ⟨some ⟨q, 0, none⟩, none, none, none, none, 1, 0, 0, 0, 0⟩ 0 (-1)) (by simp [results, Tryz.results16, go_sem, exOn, c0, c1, c2, c3, c4, c5, c6, c7, c8]) rfl ?_
  have hV := (hoF (w.heap.size + 1 + 1) (by omega)).trans HVc.out
  refine ⟨⟨_, _, _, rfl, .inr ⟨w.heap.size + 1 + 1, 0, rfl, fun i v hv => ?_⟩, ⟨?_, ?_, ?_, ?_, ?_, by decide, by decide, by decide, by decide, by decide⟩⟩, hBF⟩
  ·rcases i with _ | i
   ·have e : exVs[0]? = some ⟨⟨#[119]⟩, 1, 1, 9, 1⟩ := rfl
    rw [e] at hv
    cases hv
    obtain ⟨e0, e1, e2, e3, e4⟩ := cells5k hV
    exact ⟨e0, e1, e2, e3, e4⟩
   ·simp [exVs] at hv
  ·exact (HSc.out.kp (w2 := WF) (by omega) (fun k h1 _ => hoF k (by omega))).here
  ·unfold StsR; trivial
  ·unfold StsR; trivial
  ·unfold StsR; trivial
  ·unfold StsR; trivial
end K
end Go.Proofs.YtljknappbnoikaaGreatDoor
