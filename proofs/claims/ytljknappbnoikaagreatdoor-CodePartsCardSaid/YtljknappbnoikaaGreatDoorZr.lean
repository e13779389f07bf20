/- Texts of one proof: CxM. -/
import Derived.Test.YtljknappbnoikaaGreatDoorZq
set_option linter.unusedVariables false
set_option linter.unusedSimpArgs false
set_option maxRecDepth 100000
set_option maxHeartbeats 8000000
namespace Go.Proofs.YtljknappbnoikaaGreatDoor
open Go.RowKit
namespace C
abbrev onNil : U.On := ⟨[], [], [], [], []⟩
abbrev onA : U.OnA := ⟨none, none, none, none, none, 0, 0, 0, 0, 0⟩
abbrev pgN (x : ByteArray) (VA : Option Addr) (vn vm : Nat) (wi pa : Int) : Array Value := #[.string x, .slice VA vn vm, .slice none 0 0, .slice none 0 0, .slice none 0 0, .slice none 0 0, .slice none 0 0, .int .i64 wi, .int .i64 pa]
def paM (vs : List U.Vr) : List Nd → Except (Int × Int) Int
 | [] => .ok (-1)
 | t :: _ => useM vs t 4
def progM (bef : List Nd) (n u0 : Nd) (us vk : List Nd) : Except (Int × Int) (List U.Vr × Int × Int) :=
 if bef.any (isNm n.name) = true then .error (5, n.at0) else if bef.length < 8 then
  match vsM [] vk [] with
  | .error d => .error d
  | .ok vs => match useM vs u0 1 with
   | .error d => .error d
   | .ok wi => match paM vs us with
    | .error d => .error d
    | .ok pa => .ok (vs, wi, pa)
 else .error (2, n.at0)
def ProgP (x : ByteArray) (r : Except (Int × Int) (List U.Vr × Int × Int)) (w : World) (e : Ending) (w' : World) : Prop :=
 (match r with
  | .ok (vs, wi, pa) => ∃ VA c, e = .returned (.agg (pgN x VA vs.length (vs.length + c) wi pa)) ∧ U.VarsR w' vs VA
  | .error d => e = dpanic d.1 d.2) ∧ Below w.heap.size w w'
theorem cells9C {w : World} {b : Nat} {v0 v1 v2 v3 v4 v5 v6 v7 v8 : Value} {T : TypeId} (h : w.heap[b]? = some (.cells #[v0, v1, v2, v3, v4, v5, v6, v7, v8] T (0, 0))) :
  (w.cell? ⟨b, 0, none⟩ = some v0 ∧ w.cell? ⟨b, 1, none⟩ = some v1 ∧ w.cell? ⟨b, 2, none⟩ = some v2 ∧ w.cell? ⟨b, 3, none⟩ = some v3 ∧ w.cell? ⟨b, 4, none⟩ = some v4 ∧ w.cell? ⟨b, 5, none⟩ = some v5 ∧ w.cell? ⟨b, 6, none⟩ = some v6 ∧ w.cell? ⟨b, 7, none⟩ = some v7 ∧ w.cell? ⟨b, 8, none⟩ = some v8) ∧ ∀ i : Nat, i < 9 → w.frozen? ⟨b, i, none⟩ = false := by
 have e : ∀ j, w.cell? ⟨b, j, none⟩ = (#[v0, v1, v2, v3, v4, v5, v6, v7, v8] : Array Value)[j]? := fun j => cell_of_row _ _ j _ _ (0, 0) h
 refine ⟨⟨e 0, e 1, e 2, e 3, e 4, e 5, e 6, e 7, e 8⟩, fun i hi => ?_⟩
 simp [World.frozen?, h]
theorem res9C {w : World} {b : Nat} {v0 v1 v2 v3 v4 v5 v6 v7 v8 x0 x1 x2 x3 x4 x5 x6 x7 x8 : Value} {T : TypeId} (h : w.heap[b]? = some (.cells #[v0, v1, v2, v3, v4, v5, v6, v7, v8] T (0, 0))) :
  ((((((((((w).setCell ⟨b, 0, none⟩ x0).setCell ⟨b, 1, none⟩ x1).setCell ⟨b, 2, none⟩ x2).setCell ⟨b, 3, none⟩ x3).setCell ⟨b, 4, none⟩ x4).setCell ⟨b, 5, none⟩ x5).setCell ⟨b, 6, none⟩ x6).setCell ⟨b, 7, none⟩ x7).setCell ⟨b, 8, none⟩ x8).heap[b]? = some (.cells #[x0, x1, x2, x3, x4, x5, x6, x7, x8] T (0, 0)) := by
 have g0 : ((w).setCell ⟨b, 0, none⟩ x0).heap[b]? = some (.cells #[x0, v1, v2, v3, v4, v5, v6, v7, v8] T (0, 0)) := by rw [heap_setCell_same _ b 0 _ _ _ h]; simp
 have g1 : (((w).setCell ⟨b, 0, none⟩ x0).setCell ⟨b, 1, none⟩ x1).heap[b]? = some (.cells #[x0, x1, v2, v3, v4, v5, v6, v7, v8] T (0, 0)) := by rw [heap_setCell_same _ b 1 _ _ _ g0]; simp
 have g2 : ((((w).setCell ⟨b, 0, none⟩ x0).setCell ⟨b, 1, none⟩ x1).setCell ⟨b, 2, none⟩ x2).heap[b]? = some (.cells #[x0, x1, x2, v3, v4, v5, v6, v7, v8] T (0, 0)) := by rw [heap_setCell_same _ b 2 _ _ _ g1]; simp
 have g3 : (((((w).setCell ⟨b, 0, none⟩ x0).setCell ⟨b, 1, none⟩ x1).setCell ⟨b, 2, none⟩ x2).setCell ⟨b, 3, none⟩ x3).heap[b]? = some (.cells #[x0, x1, x2, x3, v4, v5, v6, v7, v8] T (0, 0)) := by rw [heap_setCell_same _ b 3 _ _ _ g2]; simp
 have g4 : ((((((w).setCell ⟨b, 0, none⟩ x0).setCell ⟨b, 1, none⟩ x1).setCell ⟨b, 2, none⟩ x2).setCell ⟨b, 3, none⟩ x3).setCell ⟨b, 4, none⟩ x4).heap[b]? = some (.cells #[x0, x1, x2, x3, x4, v5, v6, v7, v8] T (0, 0)) := by rw [heap_setCell_same _ b 4 _ _ _ g3]; simp
 have g5 : (((((((w).setCell ⟨b, 0, none⟩ x0).setCell ⟨b, 1, none⟩ x1).setCell ⟨b, 2, none⟩ x2).setCell ⟨b, 3, none⟩ x3).setCell ⟨b, 4, none⟩ x4).setCell ⟨b, 5, none⟩ x5).heap[b]? = some (.cells #[x0, x1, x2, x3, x4, x5, v6, v7, v8] T (0, 0)) := by rw [heap_setCell_same _ b 5 _ _ _ g4]; simp
 have g6 : ((((((((w).setCell ⟨b, 0, none⟩ x0).setCell ⟨b, 1, none⟩ x1).setCell ⟨b, 2, none⟩ x2).setCell ⟨b, 3, none⟩ x3).setCell ⟨b, 4, none⟩ x4).setCell ⟨b, 5, none⟩ x5).setCell ⟨b, 6, none⟩ x6).heap[b]? = some (.cells #[x0, x1, x2, x3, x4, x5, x6, v7, v8] T (0, 0)) := by rw [heap_setCell_same _ b 6 _ _ _ g5]; simp
 have g7 : (((((((((w).setCell ⟨b, 0, none⟩ x0).setCell ⟨b, 1, none⟩ x1).setCell ⟨b, 2, none⟩ x2).setCell ⟨b, 3, none⟩ x3).setCell ⟨b, 4, none⟩ x4).setCell ⟨b, 5, none⟩ x5).setCell ⟨b, 6, none⟩ x6).setCell ⟨b, 7, none⟩ x7).heap[b]? = some (.cells #[x0, x1, x2, x3, x4, x5, x6, x7, v8] T (0, 0)) := by rw [heap_setCell_same _ b 7 _ _ _ g6]; simp
 have g8 : ((((((((((w).setCell ⟨b, 0, none⟩ x0).setCell ⟨b, 1, none⟩ x1).setCell ⟨b, 2, none⟩ x2).setCell ⟨b, 3, none⟩ x3).setCell ⟨b, 4, none⟩ x4).setCell ⟨b, 5, none⟩ x5).setCell ⟨b, 6, none⟩ x6).setCell ⟨b, 7, none⟩ x7).setCell ⟨b, 8, none⟩ x8).heap[b]? = some (.cells #[x0, x1, x2, x3, x4, x5, x6, x7, x8] T (0, 0)) := by rw [heap_setCell_same _ b 8 _ _ _ g7]; simp
 exact g8
theorem below9C {B b : Nat} {a w : World} {x0 x1 x2 x3 x4 x5 x6 x7 x8 : Value} (h : Below B a w) (hb : B ≤ b) : Below B a ((((((((((w).setCell ⟨b, 0, none⟩ x0).setCell ⟨b, 1, none⟩ x1).setCell ⟨b, 2, none⟩ x2).setCell ⟨b, 3, none⟩ x3).setCell ⟨b, 4, none⟩ x4).setCell ⟨b, 5, none⟩ x5).setCell ⟨b, 6, none⟩ x6).setCell ⟨b, 7, none⟩ x7).setCell ⟨b, 8, none⟩ x8) :=
 ((((((((h.setCell hb _).setCell hb _).setCell hb _).setCell hb _).setCell hb _).setCell hb _).setCell hb _).setCell hb _).setCell hb _
theorem below9k {b k : Nat} {w : World} {x0 x1 x2 x3 x4 x5 x6 x7 x8 : Value} (h : k ≠ b) : ((((((((((w).setCell ⟨b, 0, none⟩ x0).setCell ⟨b, 1, none⟩ x1).setCell ⟨b, 2, none⟩ x2).setCell ⟨b, 3, none⟩ x3).setCell ⟨b, 4, none⟩ x4).setCell ⟨b, 5, none⟩ x5).setCell ⟨b, 6, none⟩ x6).setCell ⟨b, 7, none⟩ x7).setCell ⟨b, 8, none⟩ x8).heap[k]? = w.heap[k]? :=
 (scO _ _ _ _ _ h).trans ((scO _ _ _ _ _ h).trans ((scO _ _ _ _ _ h).trans ((scO _ _ _ _ _ h).trans ((scO _ _ _ _ _ h).trans ((scO _ _ _ _ _ h).trans ((scO _ _ _ _ _ h).trans ((scO _ _ _ _ _ h).trans (scO _ _ _ _ _ h))))))))
theorem vsM_len : ∀ (bef ts : List Nd) (acc vs : List U.Vr), acc.length = bef.length → bef.length ≤ 12 → vsM bef ts acc = .ok vs → vs.length ≤ 12
 | bef, [], acc, vs, h1, h2, h => by
  rw [vsM] at h
  cases h
  omega
 | bef, t :: ts, acc, vs, h1, h2, h => by
  rw [vsM] at h
  split at h
  ·split at h
   ·cases h
   ·split at h
    ·exact vsM_len (bef ++ [t]) ts (acc ++ [vrOf t]) vs (by simp [h1]) (by simp; omega) h
    ·cases h
  ·cases h
abbrev zPg : Array Value := #[.string ⟨#[]⟩, .slice none 0 0, .slice none 0 0, .slice none 0 0, .slice none 0 0, .slice none 0 0, .slice none 0 0, .int .i64 0, .int .i64 0]
theorem VarsR.keepR {w w' : World} {vs : List U.Vr} {VA : Option Addr} {r : Nat} (hV : U.VarsR w vs VA) (hR : w.heap[r]? = some (.cells zPg 26 (0, 0))) (hb : ∀ k, k < w.heap.size → k ≠ r → w'.heap[k]? = w.heap[k]?) : U.VarsR w' vs VA := by
 rcases hV with h | ⟨g, o, rfl, hat⟩
 ·exact .inl h
 ·rcases vs with _ | ⟨v0, vs⟩
  ·exact .inl rfl
  have hne : g ≠ r := by
   rintro rfl
   have h0 := hat 0 v0 rfl
   have e0 := h0.1
   have e1 := h0.2.1
   rw [cell_of_row _ _ _ _ _ (0, 0) hR] at e0 e1
   simp only [Nat.zero_mul, Nat.add_zero] at e0 e1
   match o, e0, e1 with
   | 0, _, e1 => cases e1
   | 1, e0, _ => cases e0
   | 2, e0, _ => cases e0
   | 3, e0, _ => cases e0
   | 4, e0, _ => cases e0
   | 5, e0, _ => cases e0
   | 6, e0, _ => cases e0
   | 7, e0, _ => cases e0
   | 8, e0, _ => cases e0
   | o + 9, e0, _ => simp at e0
  refine .inr ⟨g, o, rfl, fun i v hv => ?_⟩
  have h1 := hat i v hv
  have hlt := World.block_lt_of_cell? w _ h1.1
  have hc : ∀ j, w'.cell? ⟨g, j, none⟩ = w.cell? ⟨g, j, none⟩ := fun j => World.cell?_of_block (a := ⟨g, j, none⟩) (hb g hlt hne)
  obtain ⟨a0, a1, a2, a3, a4⟩ := h1
  exact ⟨(hc _).trans a0, (hc _).trans a1, (hc _).trans a2, (hc _).trans a3, (hc _).trans a4⟩
theorem program_any (n : Nd) (A BA : Option Addr) (c bc : Nat) (bef : List Nd) (u0 : Nd) (us : List Nd) (w : World) (hL : U.LaidW w) (hK : KidsR w (From 0) n.kids A) (hE : KidsR w (From 0) bef BA) (hn : n.kids.length ≤ 100000) (hb : bef.length ≤ 100000)
  (h8 : n.kids.filter (fun t => decide (t.kind = 8)) = []) (h9 : n.kids.filter (fun t => decide (t.kind = 9)) = u0 :: us) (h7 : ∀ t ∈ n.kids.filter (fun t => decide (t.kind = 7)), 3 ≤ t.kids.length) :
  Calls Tryz.prog 78 #[nv n A c, .slice BA bef.length (bef.length + bc)] w (ProgP n.name (progM bef n u0 us (n.kids.filter (fun t => decide (t.kind = 7)))) w) := by
 obtain ⟨W2, hW2⟩ : ∃ W2, W2 = (w.alloc (.cells (ndA n A c) 79)).alloc (.cells zPg 26) := ⟨_, rfl⟩
 have HB : Hid (Below w.heap.size w W2) := Lib.hid (by rw [hW2]; exact bAllocC (bAllocC (Below.refl _ _)))
 have HX : Hid (W2.heap[w.heap.size]? = some (.cells (ndA n A c) 79 (0, 0))) := Lib.hid (by rw [hW2]; exact (Below.heap_alloc _ _ _ (by simp)).trans (newBlkC _ _ _ rfl))
 have HR : Hid (W2.heap[w.heap.size + 1]? = some (.cells zPg 26 (0, 0))) := Lib.hid (by rw [hW2]; exact newBlkC _ _ _ (by simp))
 obtain ⟨⟨c0, c1, c2, c3, c4, c5⟩, -⟩ := cells6 HX.out
 have hx := blkLtC HX.out
 have hr := blkLtC HR.out
 have HK := Lib.hid hK
 have HE := Lib.hid hE
 have HL := Lib.hid hL
 have H7 := Lib.hid h7
 have H8 := Lib.hid h8
 have H9 := Lib.hid h9
 obtain ⟨r, hrr⟩ : ∃ r, progM bef n u0 us (n.kids.filter (fun t => decide (t.kind = 7))) = r := ⟨_, rfl⟩
 rw [hrr]
 unfold progM at hrr
 have HH : Hid (∀ wx, Below w.heap.size w wx → Calls Tryz.prog 95 #[.slice BA bef.length (bef.length + bc), .string n.name] wx (V1 (.bool (bef.any (isNm n.name))) wx)) := Lib.hid (fun wx hg => hasName_any bef BA (bef.length + bc) n.name wx (KidsR.bel hE hg) (by omega))
 generalize bef.any (isNm n.name) = bb at *
 clear hL hK hE h7 h8 h9
 go_enter Tryz.func78, Tryz.ntmps78
 go_upto_region 1 with fail
 rw [← hW2]
 clear hW2
 cases bb
 case true =>
  rw [if_pos rfl] at hrr
  subst hrr
  have HN := Lib.hid (fun wx => need_any false 5 n A c wx)
  refine wp_region_G (S := fun wq => Gr W2 wq) (by kernel_rfl) (grDrew _) (fun hHeld => ?_)
  have hSG : Hid (∀ wp wq : World, Gr W2 wp → Gr wp wq → Gr W2 wq) := Lib.hid (fun _ _ h k => h.tr k)
  have hmv := Lib.hid (fun (wq : World) (hq : Gr W2 wq) => And.intro (grCell hq c0) (And.intro (grCell hq c1) (And.intro (grCell hq c2) (And.intro (grCell hq c3) (And.intro (grCell hq c4) (grCell hq c5))))))
  first
   | (refine tk hSG 0 (v := ?_) rfl (by kernel_rfl) (fun _ _ _ h => h) (by rfl) ?_ hHeld ?_; rotate_left; focus (intro w' hSw; obtain ⟨c0, c1, c2, c3, c4, c5⟩ := hmv.out _ hSw; go_simp; (try with_reducible rfl)))
   | refine tn hSG 0 rfl (by kernel_rfl) (fun _ _ _ h => h) (by rfl) hHeld ?_
  (try simp only [zq1, zq2, zq3, Act.put, zq4, zq5, zq6])
  first
   | (refine tk hSG 1 (v := ?_) rfl (by kernel_rfl) (fun _ _ _ h => h) (by rfl) ?_ hHeld ?_; rotate_left; focus (intro w' hSw; obtain ⟨c0, c1, c2, c3, c4, c5⟩ := hmv.out _ hSw; go_simp; (try with_reducible rfl)))
   | refine tn hSG 1 rfl (by kernel_rfl) (fun _ _ _ h => h) (by rfl) hHeld ?_
  (try simp only [zq1, zq2, zq3, Act.put, zq4, zq5, zq6])
  first
   | (refine tk hSG 2 (v := ?_) rfl (by kernel_rfl) (fun _ _ _ h => h) (by rfl) ?_ hHeld ?_; rotate_left; focus (intro w' hSw; obtain ⟨c0, c1, c2, c3, c4, c5⟩ := hmv.out _ hSw; go_simp; (try with_reducible rfl)))
   | refine tn hSG 2 rfl (by kernel_rfl) (fun _ _ _ h => h) (by rfl) hHeld ?_
  (try simp only [zq1, zq2, zq3, Act.put, zq4, zq5, zq6])
  refine tc hSG 3 (v := .bool true) rfl (by kernel_rfl) (fun _ _ _ h => h) (by rfl) ?_ hHeld ?_
  focus (intro wz hSw K hK; obtain ⟨c0, c1, c2, c3, c4, c5⟩ := hmv.out _ hSw; go_simp; go_at_call 95; refine (HH.out _ (HB.out.trans (hSw.mono HB.out.size))).mono ?_; rintro e w2 ⟨rfl, hb2⟩; first | exact hK.out _ hb2 | (have h9 := hK.out _ hb2; (try simp only [zq1, zq2, zq3, Act.put, zq4, zq5, zq6] at h9 ⊢); exact h9) | (have h9 := hK.out _ hb2; go_simp; exact h9))
  (try simp only [zq1, zq2, zq3, Act.put, zq4, zq5, zq6])
  first
   | (refine tk hSG 4 (v := ?_) rfl (by kernel_rfl) (fun _ _ _ h => h) (by rfl) ?_ hHeld ?_; rotate_left; focus (intro w' hSw; obtain ⟨c0, c1, c2, c3, c4, c5⟩ := hmv.out _ hSw; go_simp; (try with_reducible rfl)))
   | refine tn hSG 4 rfl (by kernel_rfl) (fun _ _ _ h => h) (by rfl) hHeld ?_
  (try simp only [zq1, zq2, zq3, Act.put, zq4, zq5, zq6])
  first
   | (refine tk hSG 5 (v := ?_) rfl (by kernel_rfl) (fun _ _ _ h => h) (by rfl) ?_ hHeld ?_; rotate_left; focus (intro w' hSw; obtain ⟨c0, c1, c2, c3, c4, c5⟩ := hmv.out _ hSw; go_simp; (try with_reducible rfl)))
   | refine tn hSG 5 rfl (by kernel_rfl) (fun _ _ _ h => h) (by rfl) hHeld ?_
  (try simp only [zq1, zq2, zq3, Act.put, zq4, zq5, zq6])
  refine wpAnyG_ready (rs := [6]) (by kernel_rfl) (by simp) (AllG.cons rfl (fun w5 hgL K hK => ?_) AllG.nil)
  have hgL := (grDrew W2).tr hgL
  have c0 := grCell hgL c0
  have c1 := grCell hgL c1
  have c2 := grCell hgL c2
  have c3 := grCell hgL c3
  have c4 := grCell hgL c4
  have c5 := grCell hgL c5
  go_simp
  go_at_call 94; refine (HN.out _).mono ?_; rintro e w6 ⟨he, hb3⟩; simp only [Bool.false_eq_true, if_neg, not_false_eq_true] at he; subst he
  exact ⟨rfl, rfl, HB.out.trans ((hgL.tr hb3).mono HB.out.size)⟩
 case false =>
  rw [if_neg (by decide)] at hrr
  have HN := Lib.hid (fun wx => need_any true 5 n A c wx)
  refine wp_region_G (S := fun wq => Gr W2 wq) (by kernel_rfl) (grDrew _) (fun hHeld => ?_)
  have hSG : Hid (∀ wp wq : World, Gr W2 wp → Gr wp wq → Gr W2 wq) := Lib.hid (fun _ _ h k => h.tr k)
  have hmv := Lib.hid (fun (wq : World) (hq : Gr W2 wq) => And.intro (grCell hq c0) (And.intro (grCell hq c1) (And.intro (grCell hq c2) (And.intro (grCell hq c3) (And.intro (grCell hq c4) (grCell hq c5))))))
  first
   | (refine tk hSG 0 (v := ?_) rfl (by kernel_rfl) (fun _ _ _ h => h) (by rfl) ?_ hHeld ?_; rotate_left; focus (intro w' hSw; obtain ⟨c0, c1, c2, c3, c4, c5⟩ := hmv.out _ hSw; go_simp; (try with_reducible rfl)))
   | refine tn hSG 0 rfl (by kernel_rfl) (fun _ _ _ h => h) (by rfl) hHeld ?_
  (try simp only [zq1, zq2, zq3, Act.put, zq4, zq5, zq6])
  first
   | (refine tk hSG 1 (v := ?_) rfl (by kernel_rfl) (fun _ _ _ h => h) (by rfl) ?_ hHeld ?_; rotate_left; focus (intro w' hSw; obtain ⟨c0, c1, c2, c3, c4, c5⟩ := hmv.out _ hSw; go_simp; (try with_reducible rfl)))
   | refine tn hSG 1 rfl (by kernel_rfl) (fun _ _ _ h => h) (by rfl) hHeld ?_
  (try simp only [zq1, zq2, zq3, Act.put, zq4, zq5, zq6])
  first
   | (refine tk hSG 2 (v := ?_) rfl (by kernel_rfl) (fun _ _ _ h => h) (by rfl) ?_ hHeld ?_; rotate_left; focus (intro w' hSw; obtain ⟨c0, c1, c2, c3, c4, c5⟩ := hmv.out _ hSw; go_simp; (try with_reducible rfl)))
   | refine tn hSG 2 rfl (by kernel_rfl) (fun _ _ _ h => h) (by rfl) hHeld ?_
  (try simp only [zq1, zq2, zq3, Act.put, zq4, zq5, zq6])
  refine tc hSG 3 (v := .bool false) rfl (by kernel_rfl) (fun _ _ _ h => h) (by rfl) ?_ hHeld ?_
  focus (intro wz hSw K hK; obtain ⟨c0, c1, c2, c3, c4, c5⟩ := hmv.out _ hSw; go_simp; go_at_call 95; refine (HH.out _ (HB.out.trans (hSw.mono HB.out.size))).mono ?_; rintro e w2 ⟨rfl, hb2⟩; first | exact hK.out _ hb2 | (have h9 := hK.out _ hb2; (try simp only [zq1, zq2, zq3, Act.put, zq4, zq5, zq6] at h9 ⊢); exact h9) | (have h9 := hK.out _ hb2; go_simp; exact h9))
  (try simp only [zq1, zq2, zq3, Act.put, zq4, zq5, zq6])
  first
   | (refine tk hSG 4 (v := ?_) rfl (by kernel_rfl) (fun _ _ _ h => h) (by rfl) ?_ hHeld ?_; rotate_left; focus (intro w' hSw; obtain ⟨c0, c1, c2, c3, c4, c5⟩ := hmv.out _ hSw; go_simp; (try with_reducible rfl)))
   | refine tn hSG 4 rfl (by kernel_rfl) (fun _ _ _ h => h) (by rfl) hHeld ?_
  (try simp only [zq1, zq2, zq3, Act.put, zq4, zq5, zq6])
  first
   | (refine tk hSG 5 (v := ?_) rfl (by kernel_rfl) (fun _ _ _ h => h) (by rfl) ?_ hHeld ?_; rotate_left; focus (intro w' hSw; obtain ⟨c0, c1, c2, c3, c4, c5⟩ := hmv.out _ hSw; go_simp; (try with_reducible rfl)))
   | refine tn hSG 5 rfl (by kernel_rfl) (fun _ _ _ h => h) (by rfl) hHeld ?_
  (try simp only [zq1, zq2, zq3, Act.put, zq4, zq5, zq6])
  refine tc hSG 6 (v := .tuple #[]) rfl (by kernel_rfl) (fun _ _ _ h => h) (by rfl) ?_ hHeld ?_
  focus (intro wz hSw K hK; obtain ⟨c0, c1, c2, c3, c4, c5⟩ := hmv.out _ hSw; go_simp; go_at_call 94; refine (HN.out _).mono ?_; rintro e w2 ⟨he, hb2⟩; simp only [if_pos] at he; subst he; first | exact hK.out _ hb2 | (have h9 := hK.out _ hb2; (try simp only [zq1, zq2, zq3, Act.put, zq4, zq5, zq6] at h9 ⊢); exact h9) | (have h9 := hK.out _ hb2; go_simp; exact h9))
  (try simp only [zq1, zq2, zq3, Act.put, zq4, zq5, zq6])
  refine wpAnyG_done (by kernel_rfl) (fun w3 hgD => ?_) _
  have hg3 : Gr W2 w3 := (grDrew W2).tr hgD
  clear hgD hSG hHeld
  have HX := Lib.hid (grBlk hg3 HX.out)
  have HR := Lib.hid (grBlk hg3 HR.out)
  have HB := Lib.hid (HB.out.trans (hg3.mono HB.out.size))
  clear c0 c1 c2 c3 c4 c5 hx hr hg3 HN
  obtain ⟨⟨c0, c1, c2, c3, c4, c5⟩, -⟩ := cells6 HX.out
  have hx := blkLtC HX.out
  have hr := blkLtC HR.out
  by_cases h8b : bef.length < 8
  case neg =>
   rw [if_neg h8b] at hrr
   subst hrr
   have hd : decide ((bef.length : Int) < 8) = false := by simp; omega
   have HN := Lib.hid (fun wx => need_any false 2 n A c wx)
   go_wp2_with (go_at_call 94; refine (HN.out _).mono ?_; rintro e w4 ⟨he, hb3⟩; simp only [Bool.false_eq_true, if_neg, not_false_eq_true] at he; subst he)
   exact ⟨rfl, rfl, bCallC HB.out hb3⟩
  case pos =>
   rw [if_pos h8b] at hrr
   have hd : decide ((bef.length : Int) < 8) = true := by simp; omega
   have HN := Lib.hid (fun wx => need_any true 2 n A c wx)
   go_upto_region 3 with (go_at_call 94; refine (HN.out _).mono ?_; rintro e w4 ⟨he, hb3⟩; simp only [if_pos] at he; subst he; have HX := Lib.hid ((hb3.block _ hx).trans HX.out); have HR := Lib.hid ((hb3.block _ hr).trans HR.out); have HB := Lib.hid (bCallC HB.out hb3); clear c0 c1 c2 c3 c4 c5 hx hr hb3; obtain ⟨⟨c0, c1, c2, c3, c4, c5⟩, -⟩ := cells6 HX.out; have hx := blkLtC HX.out; have hr := blkLtC HR.out)
   clear HN hd
   refine wp_region_X (S := fun wq => Gr w4 wq) [] (by kernel_rfl) (grDrew _) (fun hHeld => ?_)
   have hSG : Hid (∀ wp wq : World, Gr w4 wp → Gr wp wq → Gr w4 wq) := Lib.hid (fun _ _ h k => h.tr k)
   first
    | (refine xk hSG 0 [1, 2, 5, 6, 7] (v := ?_) rfl (by kernel_rfl) (fun _ _ _ h => h) (by rfl) ?_ hHeld ?_; rotate_left; focus (intro w' hSw; have c5 := grCell hSw c5; go_simp; (try with_reducible rfl)))
    | refine xn hSG 0 [1, 2, 5, 6, 7] rfl (by kernel_rfl) (fun _ _ _ h => h) (by rfl) hHeld ?_
   (try simp only [zq1, zq2, zq3, Act.put, zq4, zq5, zq6])
   first
    | (refine xk hSG 1 [2, 5, 6, 7] (v := ?_) rfl (by kernel_rfl) (fun _ _ _ h => h) (by rfl) ?_ hHeld ?_; rotate_left; focus (intro w' hSw; have c5 := grCell hSw c5; go_simp; (try with_reducible rfl)))
    | refine xn hSG 1 [2, 5, 6, 7] rfl (by kernel_rfl) (fun _ _ _ h => h) (by rfl) hHeld ?_
   (try simp only [zq1, zq2, zq3, Act.put, zq4, zq5, zq6])
   first
    | (refine xk hSG 3 [4, 5, 6, 7] (v := ?_) rfl (by kernel_rfl) (fun _ _ _ h => h) (by rfl) ?_ hHeld ?_; rotate_left; focus (intro w' hSw; have c5 := grCell hSw c5; go_simp; (try with_reducible rfl)))
    | refine xn hSG 3 [4, 5, 6, 7] rfl (by kernel_rfl) (fun _ _ _ h => h) (by rfl) hHeld ?_
   (try simp only [zq1, zq2, zq3, Act.put, zq4, zq5, zq6])
   first
    | (refine xk hSG 4 [5, 6, 7] (v := ?_) rfl (by kernel_rfl) (fun _ _ _ h => h) (by rfl) ?_ hHeld ?_; rotate_left; focus (intro w' hSw; have c5 := grCell hSw c5; go_simp; (try with_reducible rfl)))
    | refine xn hSG 4 [5, 6, 7] rfl (by kernel_rfl) (fun _ _ _ h => h) (by rfl) hHeld ?_
   (try simp only [zq1, zq2, zq3, Act.put, zq4, zq5, zq6])
   refine wpAnyX_one (i := 2) (by kernel_rfl) rfl (fun w5 hg K hK => ?_)
   have hgS := hSG.out _ _ hHeld.out hg
   go_simp
   go_at_call 58
   refine (ofKind_any n.kids A (n.kids.length + c) 8 w5 (KidsR.bel HK.out (HB.out.trans (hgS.mono HB.out.size))) hn).mono ?_
   rintro e w6 ⟨⟨A1, a1, he, hk1⟩, hb6⟩
   rw [H8.out] at he hk1
   subst he
   refine hK.out _ _ (hgS.tr hb6) (fun hHeld => ?_)
   clear hK K hg hgS hb6 hk1
   refine wpAnyX_one (i := 5) (by kernel_rfl) rfl (fun w7 hg K hK => ?_)
   have hgS := hSG.out _ _ hHeld.out hg
   go_simp
   go_at_call 58
   refine (ofKind_any n.kids A (n.kids.length + c) 9 w7 (KidsR.bel HK.out (HB.out.trans (hgS.mono HB.out.size))) hn).mono ?_
   rintro e w8 ⟨⟨A2, a2, he, hk2⟩, hb8⟩
   rw [H9.out] at he hk2
   subst he
   refine hK.out _ _ (hgS.tr hb8) (fun hHeld => ?_)
   clear hK K hg hgS hb8
   first
    | (refine xk hSG 6 [7] (v := ?_) rfl (by kernel_rfl) (fun _ _ _ h => h) (by rfl) ?_ hHeld ?_; rotate_left; focus (intro w' hSw; have c5 := grCell hSw c5; go_simp; (try with_reducible rfl)))
    | refine xn hSG 6 [7] rfl (by kernel_rfl) (fun _ _ _ h => h) (by rfl) hHeld ?_
   (try simp only [zq1, zq2, zq3, Act.put, zq4, zq5, zq6])
   first
    | (refine xk hSG 7 [] (v := ?_) rfl (by kernel_rfl) (fun _ _ _ h => h) (by rfl) ?_ hHeld ?_; rotate_left; focus (intro w' hSw; have c5 := grCell hSw c5; go_simp; (try with_reducible rfl)))
    | refine xn hSG 7 [] rfl (by kernel_rfl) (fun _ _ _ h => h) (by rfl) hHeld ?_
   (try simp only [zq1, zq2, zq3, Act.put, zq4, zq5, zq6])
   refine wpAnyX_done (by kernel_rfl) (fun w9 hg => ?_) _
   have hg9 := hSG.out _ _ hHeld.out hg
   have hk2 := KidsR.bel hk2 hg
   have HX := Lib.hid (grBlk hg9 HX.out)
   have HR := Lib.hid (grBlk hg9 HR.out)
   have HB := Lib.hid (HB.out.trans (hg9.mono HB.out.size))
   clear c0 c1 c2 c3 c4 c5 hx hr hg9 hg hHeld hSG
   obtain ⟨⟨c0, c1, c2, c3, c4, c5⟩, -⟩ := cells6 HX.out
   have hx := blkLtC HX.out
   have hr := blkLtC HR.out
   obtain ⟨gu, ou, rfl⟩ := kids_addr hk2 (by simp)
   have hk2 := Lib.hid hk2
   have hvl : (n.kids.filter (fun t => decide (t.kind = 7))).length ≤ 100000 := Nat.le_trans (List.length_filter_le _ _) hn
   generalize hvk0 : n.kids.filter (fun t => decide (t.kind = 7)) = vk at *
   have hvk := Lib.hid hvk0
   clear hvk0
   rcases hv : vsM [] vk [] with d | vs
   ·rw [hv] at hrr
    simp only at hrr
    subst hrr
    have hv := Lib.hid hv
    go_wp2_with (first
     | (go_at_call 58; refine (ofKind_any n.kids A (n.kids.length + c) 7 _ (KidsR.bel HK.out HB.out) hn).mono ?_; rintro e w10 ⟨⟨A3, a3, he, hk3⟩, hb10⟩; rw [hvk.out] at he hk3; subst he; have HX := Lib.hid ((hb10.block _ hx).trans HX.out); have HR := Lib.hid ((hb10.block _ hr).trans HR.out); have HB := Lib.hid (bCallC HB.out hb10); have hk2 := Lib.hid (KidsR.bel hk2.out hb10); clear c0 c1 c2 c3 c4 c5 hx hr; obtain ⟨⟨c0, c1, c2, c3, c4, c5⟩, -⟩ := cells6 HX.out; have hx := blkLtC HX.out; have hr := blkLtC HR.out; clear hb10)
     | (go_at_call 96; refine (variables_any vk A3 a3 _ hk3 hvl H7.out).mono ?_; rintro e w11 ⟨he, hb11⟩; rw [hv.out] at he; simp only at he; subst he))
    exact ⟨rfl, rfl, bCallC HB.out hb11⟩
   have hvs : vs.length ≤ 12 := vsM_len [] vk [] vs rfl (by simp) hv
   rw [hv] at hrr
   simp only at hrr
   have hv := Lib.hid hv
   have hrr := Lib.hid hrr
   go_upto_region 5 with (first
    | (go_at_call 58; refine (ofKind_any n.kids A (n.kids.length + c) 7 _ (KidsR.bel HK.out HB.out) hn).mono ?_; rintro e w10 ⟨⟨A3, a3, he, hk3⟩, hb10⟩; rw [hvk.out] at he hk3; subst he; have HX := Lib.hid ((hb10.block _ hx).trans HX.out); have HR := Lib.hid ((hb10.block _ hr).trans HR.out); have HB := Lib.hid (bCallC HB.out hb10); have hk2 := Lib.hid (KidsR.bel hk2.out hb10); clear c0 c1 c2 c3 c4 c5 hx hr; obtain ⟨⟨c0, c1, c2, c3, c4, c5⟩, -⟩ := cells6 HX.out; have hx := blkLtC HX.out; have hr := blkLtC HR.out; clear hb10)
    | (go_at_call 96; refine (variables_any vk A3 a3 _ hk3 hvl H7.out).mono ?_; rintro e w11 ⟨he, hb11⟩; rw [hv.out] at he; obtain ⟨VA, cv, he, hV⟩ := he; subst he; have HX := Lib.hid ((hb11.block _ hx).trans HX.out); have HR := Lib.hid ((hb11.block _ hr).trans HR.out); have HB := Lib.hid (bCallC HB.out hb11); have hk2 := Lib.hid (KidsR.bel hk2.out hb11); have hV := Lib.hid hV; clear c0 c1 c2 c3 c4 c5 hx hr hk3 hb11; obtain ⟨⟨c0, c1, c2, c3, c4, c5⟩, -⟩ := cells6 HX.out; have hx := blkLtC HX.out; have hr := blkLtC HR.out))
   clear hv H7 HE
   refine wp_region_X (S := fun wq => Gr w11 wq) [] (by kernel_rfl) (grDrew _) (fun hHeld => ?_)
   have hSG : Hid (∀ wp wq : World, Gr w11 wp → Gr wp wq → Gr w11 wq) := Lib.hid (fun _ _ h k => h.tr k)
   first
    | (refine xk hSG 0 [1, 6, 8] (v := ?_) rfl (by kernel_rfl) (fun _ _ _ h => h) (by rfl) ?_ hHeld ?_; rotate_left; focus (intro w' hSw; have c1 := grCell hSw c1; go_simp; (try with_reducible rfl)))
    | refine xn hSG 0 [1, 6, 8] rfl (by kernel_rfl) (fun _ _ _ h => h) (by rfl) hHeld ?_
   (try simp only [zq1, zq2, zq3, Act.put, zq4, zq5, zq6])
   first
    | (refine xk hSG 1 [6, 8] (v := ?_) rfl (by kernel_rfl) (fun _ _ _ h => h) (by rfl) ?_ hHeld ?_; rotate_left; focus (intro w' hSw; have c1 := grCell hSw c1; go_simp; (try with_reducible rfl)))
    | refine xn hSG 1 [6, 8] rfl (by kernel_rfl) (fun _ _ _ h => h) (by rfl) hHeld ?_
   (try simp only [zq1, zq2, zq3, Act.put, zq4, zq5, zq6])
   first
    | (refine xk hSG 2 [6, 8] (v := ?_) rfl (by kernel_rfl) (fun _ _ _ h => h) (by rfl) ?_ hHeld ?_; rotate_left; focus (intro w' hSw; have c1 := grCell hSw c1; go_simp; (try with_reducible rfl)))
    | refine xn hSG 2 [6, 8] rfl (by kernel_rfl) (fun _ _ _ h => h) (by rfl) hHeld ?_
   (try simp only [zq1, zq2, zq3, Act.put, zq4, zq5, zq6])
   first
    | (refine xk hSG 3 [5, 6, 8] (v := ?_) rfl (by kernel_rfl) (fun _ _ _ h => h) (by rfl) ?_ hHeld ?_; rotate_left; focus (intro w' hSw; have c1 := grCell hSw c1; go_simp; (try with_reducible rfl)))
    | refine xn hSG 3 [5, 6, 8] rfl (by kernel_rfl) (fun _ _ _ h => h) (by rfl) hHeld ?_
   (try simp only [zq1, zq2, zq3, Act.put, zq4, zq5, zq6])
   first
    | (refine xk hSG 4 [5, 6, 8] (v := ?_) rfl (by kernel_rfl) (fun _ _ _ h => h) (by rfl) ?_ hHeld ?_; rotate_left; focus (intro w' hSw; have c1 := grCell hSw c1; go_simp; (try with_reducible rfl)))
    | refine xn hSG 4 [5, 6, 8] rfl (by kernel_rfl) (fun _ _ _ h => h) (by rfl) hHeld ?_
   (try simp only [zq1, zq2, zq3, Act.put, zq4, zq5, zq6])
   refine xc hSG 5 [6, 8] (v := .agg zOn) rfl (by kernel_rfl) (fun _ _ _ h => h) (by rfl) ?_ hHeld ?_
   focus (intro wz hSw K hK; have c1 := grCell hSw c1; go_simp; go_at_call 97; refine (handlers_nil VA A1 vs.length (vs.length + cv) a1 _).mono ?_; rintro e w2 ⟨rfl, hb2⟩; first | exact hK.out _ hb2 | (have h9 := hK.out _ hb2; (try simp only [zq1, zq2, zq3, Act.put, zq4, zq5, zq6] at h9 ⊢); exact h9) | (have h9 := hK.out _ hb2; go_simp; exact h9))
   (try simp only [zq1, zq2, zq3, Act.put, zq4, zq5, zq6])
   first
    | (refine xk hSG 6 [8] (v := ?_) rfl (by kernel_rfl) (fun _ _ _ h => h) (by rfl) ?_ hHeld ?_; rotate_left; focus (intro w' hSw; have c1 := grCell hSw c1; go_simp; (try with_reducible rfl)))
    | refine xn hSG 6 [8] rfl (by kernel_rfl) (fun _ _ _ h => h) (by rfl) hHeld ?_
   (try simp only [zq1, zq2, zq3, Act.put, zq4, zq5, zq6])
   refine wpAnyX_one (i := 7) (by kernel_rfl) rfl (fun w12 hg K hK => ?_)
   have hgS := hSG.out _ _ hHeld.out hg
   go_simp
   refine hK.out _ _ (hgS.tr (grAlloc _ _)) (fun hHeld => ?_)
   have hs12 := hgS.size
   clear hK K hg hgS
   have HP := Lib.hid (newBlkC w12 (.cells zPg 26) _ rfl)
   refine wpAnyX_one (i := 8) (by kernel_rfl) rfl (fun w13 hg K hK => ?_)
   have hgS := hSG.out _ _ hHeld.out hg
   have HP := Lib.hid (grBlk hg HP.out)
   obtain ⟨⟨p0, p1, p2, p3, p4, p5, p6, p7, p8⟩, hfz⟩ := cells9C HP.out
   have d0 := hfz 0 (by omega)
   have d1 := hfz 1 (by omega)
   have d2 := hfz 2 (by omega)
   have d3 := hfz 3 (by omega)
   have d4 := hfz 4 (by omega)
   have d5 := hfz 5 (by omega)
   have d6 := hfz 6 (by omega)
   have d7 := hfz 7 (by omega)
   have d8 := hfz 8 (by omega)
   go_simp
   refine hK.out _ _ (below9C hgS hs12) (fun hHeld => ?_)
   have HP := Lib.hid (res9C (x0 := .string n.name) (x1 := .slice VA vs.length (vs.length + cv)) (x2 := .slice none 0 0) (x3 := .slice none 0 0) (x4 := .slice none 0 0) (x5 := .slice none 0 0) (x6 := .slice none 0 0) (x7 := .int .i64 0) (x8 := .int .i64 (-1)) HP.out)
   clear hK K p0 p1 p2 p3 p4 p5 p6 p7 p8 hfz d0 d1 d2 d3 d4 d5 d6 d7 d8 hg hgS
   refine wpAnyX_done (by kernel_rfl) (fun w14 hg => ?_) _
   have hg14 := hSG.out _ _ hHeld.out hg
   have HP := Lib.hid (grBlk hg HP.out)
   have hp : w12.heap.size < w14.heap.size := blkLtC HP.out
   have hpr : w.heap.size + 1 < w12.heap.size := Nat.lt_of_lt_of_le hr hs12
   have HR := Lib.hid (grBlk hg14 HR.out)
   have HB := Lib.hid (HB.out.trans (hg14.mono HB.out.size))
   have GP : Hid (∀ k, k < w11.heap.size → w14.heap[k]? = w11.heap[k]?) := Lib.hid hg14.block
   have hs14 := hg14.size
   have hr := blkLtC HR.out
   have hV11 := hV
   have hk11 := Lib.hid (KidsR.old hk2.out)
   clear c0 c1 c2 c3 c4 c5 hx hg hg14 hHeld hSG HX hV hk2
   generalize w12.heap.size = pb at *
   have hrr := hrr.out
   have hV := Lib.hid (U.VarsR.keep GP.out hV11.out)
   have hk2 : Hid (KidsR w14 (From 0) _ (some ⟨gu, ou, none⟩)) := Lib.hid (KidsR.keep (P' := From 0) (fun k h1 h2 => ⟨GP.out k h1, Nat.zero_le _⟩) _ _ hk11.out)
   obtain ⟨Au, au, ⟨k0, k1, k2, k3, k4, k5⟩, -⟩ := one_cells (kids_get _ _ _ hk2.out 0 u0 rfl)
   simp only [Nat.zero_mul, Nat.one_mul, Nat.add_zero] at k0 k1 k2 k3 k4 k5
   clear hk2
   have hr := blkLtC HR.out
   have hp := blkLtC HP.out
   rcases hu : useM vs u0 1 with d | wi
   ·rw [hu] at hrr
    simp only at hrr
    subst hrr
    have hu := Lib.hid hu
    go_wp2_with (go_at_call 98; refine (use_any vs VA (vs.length + cv) u0 Au au 1 _ hV.out (by omega)).mono ?_; rintro e w15 ⟨he, hb14⟩; rw [hu.out] at he; simp only at he; subst he)
    exact ⟨rfl, rfl, bCallC HB.out hb14⟩
   rw [hu] at hrr
   simp only at hrr
   have hu := Lib.hid hu
   obtain ⟨⟨p0, p1, p2, p3, p4, p5, p6, p7, p8⟩, hfz⟩ := cells9C HP.out
   go_upto_region 7 with (go_at_call 98; refine (use_any vs VA (vs.length + cv) u0 Au au 1 _ hV.out (by omega)).mono ?_; rintro e w15 ⟨he, hb14⟩; rw [hu.out] at he; simp only at he; subst he; have HR := Lib.hid ((hb14.block _ hr).trans HR.out); have HP := Lib.hid ((hb14.block _ hp).trans HP.out); have HB := Lib.hid (bCallC HB.out hb14); have GP1 : Hid (∀ k, k < w11.heap.size → w15.heap[k]? = w11.heap[k]?) := Lib.hid (fun k hk => (hb14.block k (by omega)).trans (GP.out k hk)); have hs15 := hb14.size; clear hr hp k0 k1 k2 k3 k4 k5 p0 p1 p2 p3 p4 p5 p6 p7 p8 hfz hb14; obtain ⟨⟨p0, p1, p2, p3, p4, p5, p6, p7, p8⟩, hfz⟩ := cells9C HP.out; have d7 := hfz 7 (by omega); have hr := blkLtC HR.out; have hp := blkLtC HP.out)
   obtain ⟨w16, hw2⟩ : ∃ w16, w16 = w15.setCell ⟨pb, 7, none⟩ (.int .i64 wi) := ⟨_, rfl⟩
   rw [← hw2]
   have HP : Hid (w16.heap[pb]? = some (.cells (pgN n.name VA vs.length (vs.length + cv) wi (-1)) 26 (0, 0))) := Lib.hid (by rw [hw2, heap_setCell_same _ pb 7 _ _ _ HP.out]; simp)
   have HR : Hid (w16.heap[w.heap.size + 1]? = some (.cells zPg 26 (0, 0))) := Lib.hid (by rw [hw2]; exact (scO _ _ _ _ _ (by omega)).trans HR.out)
   have HB : Hid (Below w.heap.size w w16) := Lib.hid (by rw [hw2]; exact belowSet HB.out (by omega))
   have GP : Hid (∀ k, k < w11.heap.size → w16.heap[k]? = w11.heap[k]?) := Lib.hid (fun k hk => by rw [hw2]; exact (scO _ _ _ _ _ (by omega)).trans (GP1.out k hk))
   have hs16 : w11.heap.size ≤ w16.heap.size := by rw [hw2]; simp [World.setCell]; omega
   clear hw2 hr hp p0 p1 p2 p3 p4 p5 p6 p7 p8 hfz d7 hV GP1
   cases us with
   | nil =>
    have hrr2 : r = .ok (vs, wi, -1) := by rw [← hrr]; rfl
    subst hrr2
    have hul : decide (((([] : List Nd).length : Int) + 1) > 1) = false := by simp
    have hV := Lib.hid (U.VarsR.keep GP.out hV11.out)
    have hr := blkLtC HR.out
    have hp := blkLtC HP.out
    obtain ⟨⟨p0, p1, p2, p3, p4, p5, p6, p7, p8⟩, hfz⟩ := cells9C HP.out
    have HC := Lib.hid (fun wx (hg : Below w.heap.size w wx) (hv : U.VarsR wx vs VA) => U.Check_any n.name vs VA (vs.length + cv) onNil onA wi (-1) wx (HL.out.below hg) hv ⟨trivial, trivial, trivial, trivial, trivial, Nat.zero_le _, Nat.zero_le _, Nat.zero_le _, Nat.zero_le _, Nat.zero_le _⟩)
    go_upto_region 10 with (go_at_call 34; refine (HC.out _ HB.out hV.out).mono ?_; rintro e w20 ⟨rfl, hb20⟩; have HR := Lib.hid ((hb20.block _ hr).trans HR.out); have HP := Lib.hid ((hb20.block _ hp).trans HP.out); have HB := Lib.hid (bCallC HB.out hb20); have hV := Lib.hid (U.VarsR.below hV.out hb20); clear p0 p1 p2 p3 p4 p5 p6 p7 p8 hfz hr hp hb20; obtain ⟨⟨p0, p1, p2, p3, p4, p5, p6, p7, p8⟩, -⟩ := cells9C HP.out; obtain ⟨⟨r0, r1, r2, r3, r4, r5, r6, r7, r8⟩, hfr⟩ := cells9C HR.out; have hr := blkLtC HR.out; have hp := blkLtC HP.out)
    go_wp2_with fail
    go_loopg [64] 0 (fun gk i wr => i = .int .i64 0 ∧ gk = 0 ∧ wr = w20)
    case atStart => exact ⟨rfl, rfl, rfl⟩
    case round =>
     obtain ⟨rfl, rfl, rfl⟩ := hrel
     have d0 := hfr 0 (by omega)
     have d1 := hfr 1 (by omega)
     have d2 := hfr 2 (by omega)
     have d3 := hfr 3 (by omega)
     have d4 := hfr 4 (by omega)
     have d5 := hfr 5 (by omega)
     have d6 := hfr 6 (by omega)
     have d7 := hfr 7 (by omega)
     have d8 := hfr 8 (by omega)
     go_wp2_with fail
     obtain ⟨⟨f0, f1, f2, f3, f4, f5, f6, f7, f8⟩, -⟩ := cells9C (res9C (x0 := .string n.name) (x1 := .slice VA vs.length (vs.length + cv)) (x2 := .slice none 0 0) (x3 := .slice none 0 0) (x4 := .slice none 0 0) (x5 := .slice none 0 0) (x6 := .slice none 0 0) (x7 := .int .i64 wi) (x8 := .int .i64 (-1)) HR.out)
     exact bodyPost_ret (v := .agg (pgN n.name VA vs.length (vs.length + cv) wi (-1))) (by simp [results, Tryz.results78, go_sem, f0, f1, f2, f3, f4, f5, f6, f7, f8]) rfl ⟨⟨VA, cv, rfl, VarsR.keepR hV.out HR.out (fun k hk hne => below9k hne)⟩, below9C HB.out (by omega)⟩
   | cons u1 us =>
    rw [show paM vs (u1 :: us) = useM vs u1 4 from rfl] at hrr
    have hg1 : decide ((1 : Int) < (us.length : Int) + 1 + 1) = true := by simp <;> omega
    have hg2 : (1 : Int) < (us.length : Int) + 1 + 1 := by omega
    have hg4 : decide ((1 : Int) < ((us.length + 1 + 1 : Nat) : Int)) = true := by simp <;> omega
    have hg5 : decide ((0 : Int) < (us.length : Int) + 1) = true := by simp <;> omega
    go_upto_region 8 with fail
    have hV := Lib.hid (U.VarsR.keep GP.out hV11.out)
    have hk2 : Hid (KidsR w16 (From 0) _ (some ⟨gu, ou, none⟩)) := Lib.hid (KidsR.keep (P' := From 0) (fun k h1 h2 => ⟨GP.out k h1, Nat.zero_le _⟩) _ _ hk11.out)
    obtain ⟨Au, au, ⟨k0, k1, k2, k3, k4, k5⟩, -⟩ := one_cells (kids_get _ _ _ hk2.out 1 u1 rfl)
    simp only [Nat.zero_mul, Nat.one_mul, Nat.add_zero] at k0 k1 k2 k3 k4 k5
    clear hk2
    have hr := blkLtC HR.out
    have hp := blkLtC HP.out
    rcases hu : useM vs u1 4 with d | pa
    ·rw [hu] at hrr
     simp only at hrr
     subst hrr
     have hu := Lib.hid hu
     go_wp2_with (go_at_call 98; refine (use_any vs VA (vs.length + cv) u1 Au au 4 _ hV.out (by omega)).mono ?_; rintro e w17 ⟨he, hb14⟩; rw [hu.out] at he; simp only at he; subst he)
     exact ⟨rfl, rfl, bCallC HB.out hb14⟩
    rw [hu] at hrr
    simp only at hrr
    have hu := Lib.hid hu
    obtain ⟨⟨p0, p1, p2, p3, p4, p5, p6, p7, p8⟩, hfz⟩ := cells9C HP.out
    go_upto_region 9 with (go_at_call 98; refine (use_any vs VA (vs.length + cv) u1 Au au 4 _ hV.out (by omega)).mono ?_; rintro e w17 ⟨he, hb14⟩; rw [hu.out] at he; simp only at he; subst he; have HR := Lib.hid ((hb14.block _ hr).trans HR.out); have HP := Lib.hid ((hb14.block _ hp).trans HP.out); have HB := Lib.hid (bCallC HB.out hb14); have GP1 : Hid (∀ k, k < w11.heap.size → w17.heap[k]? = w11.heap[k]?) := Lib.hid (fun k hk => (hb14.block k (by omega)).trans (GP.out k hk)); have hs15 := hb14.size; clear hr hp k0 k1 k2 k3 k4 k5 p0 p1 p2 p3 p4 p5 p6 p7 p8 hfz hb14; obtain ⟨⟨p0, p1, p2, p3, p4, p5, p6, p7, p8⟩, hfz⟩ := cells9C HP.out; have d7 := hfz 8 (by omega); have hr := blkLtC HR.out; have hp := blkLtC HP.out)
    obtain ⟨w18, hw2⟩ : ∃ w18, w18 = w17.setCell ⟨pb, 8, none⟩ (.int .i64 pa) := ⟨_, rfl⟩
    rw [← hw2]
    have HP : Hid (w18.heap[pb]? = some (.cells (pgN n.name VA vs.length (vs.length + cv) wi pa) 26 (0, 0))) := Lib.hid (by rw [hw2, heap_setCell_same _ pb 8 _ _ _ HP.out]; simp)
    have HR : Hid (w18.heap[w.heap.size + 1]? = some (.cells zPg 26 (0, 0))) := Lib.hid (by rw [hw2]; exact (scO _ _ _ _ _ (by omega)).trans HR.out)
    have HB : Hid (Below w.heap.size w w18) := Lib.hid (by rw [hw2]; exact belowSet HB.out (by omega))
    have GP : Hid (∀ k, k < w11.heap.size → w18.heap[k]? = w11.heap[k]?) := Lib.hid (fun k hk => by rw [hw2]; exact (scO _ _ _ _ _ (by omega)).trans (GP1.out k hk))
    have hs16 : w11.heap.size ≤ w18.heap.size := by rw [hw2]; simp [World.setCell]; omega
    clear hw2 hr hp p0 p1 p2 p3 p4 p5 p6 p7 p8 hfz d7 hV GP1
    subst hrr
    have hV := Lib.hid (U.VarsR.keep GP.out hV11.out)
    have hr := blkLtC HR.out
    have hp := blkLtC HP.out
    obtain ⟨⟨p0, p1, p2, p3, p4, p5, p6, p7, p8⟩, hfz⟩ := cells9C HP.out
    have HC := Lib.hid (fun wx (hg : Below w.heap.size w wx) (hv : U.VarsR wx vs VA) => U.Check_any n.name vs VA (vs.length + cv) onNil onA wi (pa) wx (HL.out.below hg) hv ⟨trivial, trivial, trivial, trivial, trivial, Nat.zero_le _, Nat.zero_le _, Nat.zero_le _, Nat.zero_le _, Nat.zero_le _⟩)
    go_upto_region 10 with (go_at_call 34; refine (HC.out _ HB.out hV.out).mono ?_; rintro e w20 ⟨rfl, hb20⟩; have HR := Lib.hid ((hb20.block _ hr).trans HR.out); have HP := Lib.hid ((hb20.block _ hp).trans HP.out); have HB := Lib.hid (bCallC HB.out hb20); have hV := Lib.hid (U.VarsR.below hV.out hb20); clear p0 p1 p2 p3 p4 p5 p6 p7 p8 hfz hr hp hb20; obtain ⟨⟨p0, p1, p2, p3, p4, p5, p6, p7, p8⟩, -⟩ := cells9C HP.out; obtain ⟨⟨r0, r1, r2, r3, r4, r5, r6, r7, r8⟩, hfr⟩ := cells9C HR.out; have hr := blkLtC HR.out; have hp := blkLtC HP.out)
    go_wp2_with fail
    go_loopg [64] 0 (fun gk i wr => i = .int .i64 0 ∧ gk = 0 ∧ wr = w20)
    case atStart => exact ⟨rfl, rfl, rfl⟩
    case round =>
     obtain ⟨rfl, rfl, rfl⟩ := hrel
     have d0 := hfr 0 (by omega)
     have d1 := hfr 1 (by omega)
     have d2 := hfr 2 (by omega)
     have d3 := hfr 3 (by omega)
     have d4 := hfr 4 (by omega)
     have d5 := hfr 5 (by omega)
     have d6 := hfr 6 (by omega)
     have d7 := hfr 7 (by omega)
     have d8 := hfr 8 (by omega)
     go_wp2_with fail
     obtain ⟨⟨f0, f1, f2, f3, f4, f5, f6, f7, f8⟩, -⟩ := cells9C (res9C (x0 := .string n.name) (x1 := .slice VA vs.length (vs.length + cv)) (x2 := .slice none 0 0) (x3 := .slice none 0 0) (x4 := .slice none 0 0) (x5 := .slice none 0 0) (x6 := .slice none 0 0) (x7 := .int .i64 wi) (x8 := .int .i64 (pa)) HR.out)
     exact bodyPost_ret (v := .agg (pgN n.name VA vs.length (vs.length + cv) wi (pa))) (by simp [results, Tryz.results78, go_sem, f0, f1, f2, f3, f4, f5, f6, f7, f8]) rfl ⟨⟨VA, cv, rfl, VarsR.keepR hV.out HR.out (fun k hk hne => below9k hne)⟩, below9C HB.out (by omega)⟩
end C
end Go.Proofs.YtljknappbnoikaaGreatDoor
