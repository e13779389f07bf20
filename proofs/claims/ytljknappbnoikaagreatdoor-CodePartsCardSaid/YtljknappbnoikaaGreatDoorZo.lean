/- Texts of one proof: CxK. -/
import Derived.Test.YtljknappbnoikaaGreatDoorZn
import Derived.Test.YtljknappbnoikaaGreatDoorZe
import Derived.BigRegion
set_option linter.unusedVariables false
set_option linter.unusedSimpArgs false
set_option maxRecDepth 100000
set_option maxHeartbeats 8000000
namespace Go.Proofs.YtljknappbnoikaaGreatDoor
open Go.RowKit
namespace C
theorem KidsR.take {w : World} {P : Nat → Prop} : ∀ (ts : List Nd) (A : Option Addr) (k : Nat), KidsR w P ts A → KidsR w P (ts.take k) A
 | [], A, k, h => by cases k <;> exact trivial
 | t :: ts, A, 0, h => trivial
 | t :: ts, A, k + 1, h => by
  unfold KidsR at h
  obtain ⟨g, o, rfl, h1, h2, h3⟩ := h
  show KidsR w P (t :: ts.take k) _
  unfold KidsR
  exact ⟨g, o, rfl, h1, h2, KidsR.take ts _ k h3⟩
theorem kid_n {w : World} {t : Nd} {A : Option Addr} (hK : KidsR w (From 0) t.kids A) (h3 : 3 ≤ t.kids.length) : ∃ g o, A = some ⟨g, o, none⟩ ∧ w.cell? ⟨g, o + 2, none⟩ = some (.int .i64 (kidN t 0)) ∧ w.cell? ⟨g, o + 6 + 2, none⟩ = some (.int .i64 (kidN t 1)) ∧ w.cell? ⟨g, o + 12 + 2, none⟩ = some (.int .i64 (kidN t 2)) := by
 obtain ⟨g, o, rfl⟩ := kids_addr hK (by omega)
 refine ⟨g, o, rfl, ?_, ?_, ?_⟩
 ·obtain ⟨A1, a1, ⟨k0, k1, k2, k3, k4, k5⟩, hK1⟩ := one_cells (kids_get _ _ _ hK 0 _ (List.getElem?_eq_getElem (by omega)))
  unfold kidN
  rw [List.getElem?_eq_getElem (by omega)]
  simpa using k2
 ·obtain ⟨A1, a1, ⟨k0, k1, k2, k3, k4, k5⟩, hK1⟩ := one_cells (kids_get _ _ _ hK 1 _ (List.getElem?_eq_getElem (by omega)))
  unfold kidN
  rw [List.getElem?_eq_getElem (by omega)]
  simpa using k2
 ·obtain ⟨A1, a1, ⟨k0, k1, k2, k3, k4, k5⟩, hK1⟩ := one_cells (kids_get _ _ _ hK 2 _ (List.getElem?_eq_getElem (by omega)))
  unfold kidN
  rw [List.getElem?_eq_getElem (by omega)]
  simpa using k2
abbrev zVr : Array Value := #[.string ⟨#[]⟩, .int .i64 0, .int .i64 0, .int .i64 0, .int .i64 0]
theorem cells5C {w : World} {b : Nat} {v0 v1 v2 v3 v4 : Value} {T : TypeId} (h : w.heap[b]? = some (.cells #[v0, v1, v2, v3, v4] T (0, 0))) :
  (w.cell? ⟨b, 0, none⟩ = some v0 ∧ w.cell? ⟨b, 1, none⟩ = some v1 ∧ w.cell? ⟨b, 2, none⟩ = some v2 ∧ w.cell? ⟨b, 3, none⟩ = some v3 ∧ w.cell? ⟨b, 4, none⟩ = some v4) ∧ w.frozen? ⟨b, 0, none⟩ = false ∧ w.frozen? ⟨b, 1, none⟩ = false ∧ w.frozen? ⟨b, 2, none⟩ = false ∧ w.frozen? ⟨b, 3, none⟩ = false ∧ w.frozen? ⟨b, 4, none⟩ = false := by
 have e : ∀ j, w.cell? ⟨b, j, none⟩ = (#[v0, v1, v2, v3, v4] : Array Value)[j]? := fun j => cell_of_row _ _ j _ _ (0, 0) h
 refine ⟨⟨e 0, e 1, e 2, e 3, e 4⟩, ?_, ?_, ?_, ?_, ?_⟩
 all_goals simp [World.frozen?, h]
theorem res5C {w : World} {b : Nat} {v0 v1 v2 v3 v4 x0 x1 x2 x3 x4 : Value} {T : TypeId} (h : w.heap[b]? = some (.cells #[v0, v1, v2, v3, v4] T (0, 0))) :
  (((((w.setCell ⟨b, 0, none⟩ x0).setCell ⟨b, 1, none⟩ x1).setCell ⟨b, 2, none⟩ x2).setCell ⟨b, 3, none⟩ x3).setCell ⟨b, 4, none⟩ x4).heap[b]? = some (.cells #[x0, x1, x2, x3, x4] T (0, 0)) := by
 have g0 : (w.setCell ⟨b, 0, none⟩ x0).heap[b]? = some (.cells #[x0, v1, v2, v3, v4] T (0, 0)) := by rw [heap_setCell_same w b 0 _ _ _ h]; simp
 have g1 : ((w.setCell ⟨b, 0, none⟩ x0).setCell ⟨b, 1, none⟩ x1).heap[b]? = some (.cells #[x0, x1, v2, v3, v4] T (0, 0)) := by rw [heap_setCell_same _ b 1 _ _ _ g0]; simp
 have g2 : (((w.setCell ⟨b, 0, none⟩ x0).setCell ⟨b, 1, none⟩ x1).setCell ⟨b, 2, none⟩ x2).heap[b]? = some (.cells #[x0, x1, x2, v3, v4] T (0, 0)) := by rw [heap_setCell_same _ b 2 _ _ _ g1]; simp
 have g3 : ((((w.setCell ⟨b, 0, none⟩ x0).setCell ⟨b, 1, none⟩ x1).setCell ⟨b, 2, none⟩ x2).setCell ⟨b, 3, none⟩ x3).heap[b]? = some (.cells #[x0, x1, x2, x3, v4] T (0, 0)) := by rw [heap_setCell_same _ b 3 _ _ _ g2]; simp
 rw [heap_setCell_same _ b 4 _ _ _ g3]; simp
theorem below5C {B b : Nat} {a w : World} {x0 x1 x2 x3 x4 : Value} (h : Below B a w) (hb : B ≤ b) : Below B a (((((w.setCell ⟨b, 0, none⟩ x0).setCell ⟨b, 1, none⟩ x1).setCell ⟨b, 2, none⟩ x2).setCell ⟨b, 3, none⟩ x3).setCell ⟨b, 4, none⟩ x4) :=
 ((((h.setCell hb _).setCell hb _).setCell hb _).setCell hb _).setCell hb _
def OwnV (B : Nat) (w : World) (v : Value) (l : List U.Vr) : Prop := w.ownsRow B 46 5 v l.length (vrsCells l)
theorem OwnV.keep {B : Nat} {w w2 : World} {v : Value} {l : List U.Vr} (h : OwnV B w v l) (h2 : Below w.heap.size w w2) : OwnV B w2 v l :=
 World.ownsRow.kept h (row := none) ⟨h2.os, h2.tape, h2.output, h2.size, fun k hk _ => h2.block k hk⟩ (Classical.em _)
theorem variables_any (ts : List Nd) (A : Option Addr) (c : Nat) (w : World) (hK : KidsR w (From 0) ts A) (hlen : ts.length ≤ 100000) (h3 : ∀ t ∈ ts, 3 ≤ t.kids.length) : Calls Tryz.prog 96 #[.slice A ts.length (ts.length + c)] w (VarsP (vsM [] ts []) w) := by
 have HK := Lib.hid hK
 have H3 := Lib.hid h3
 obtain ⟨i0, hi, hz0, hz1, hz2⟩ := info_parts vrInfo
 obtain ⟨r, hr⟩ : ∃ r, vsM [] ts [] = r := ⟨_, rfl⟩
 rw [hr]
 have HR : Hid (vsM (ts.take 0) (ts.drop 0) [] = r) := Lib.hid hr
 clear hK hr h3
 go_enter Tryz.func96, Tryz.ntmps96
 go_wp2
 go_loopg [3, 9] (ts.length) (fun gk v i wr => ∃ (k : Nat) (acc : List U.Vr), k + gk = ts.length ∧ i = .int .i64 k ∧ acc.length = k ∧ Hid (vsM (ts.take k) (ts.drop k) acc = r) ∧ Hid (OwnV w.heap.size wr v acc) ∧ Hid (Below w.heap.size w wr))
 case atStart => exact ⟨0, [], by omega, rfl, rfl, HR, Lib.hid (World.ownsRow_nil _ _ _ _), Lib.hid (Below.refl _ _)⟩
 case round =>
  obtain ⟨k, acc, hk, rfl, hacc, hM, hO, hW⟩ := hrel
  by_cases hlt : k < ts.length
  ·obtain ⟨gk2, rfl⟩ : ∃ g2, gk = g2 + 1 := ⟨gk - 1, by omega⟩
   have hKw : KidsR wr (From 0) ts A := KidsR.bel HK.out hW.out
   have hmem := List.getElem_mem hlt
   have hu3 := H3.out _ hmem
   obtain ⟨ga, oa, rfl⟩ := kids_addr hKw (by omega)
   obtain ⟨A1, a1, ⟨k0, k1, k2, k3, k4, k5⟩, hK1⟩ := one_cells (kids_get _ _ _ hKw k _ (List.getElem?_eq_getElem hlt))
   have hM1 := hM.out
   rw [List.drop_eq_getElem_cons hlt, vsM] at hM1
   have htk : (ts.take k).length = k := by simp; omega
   have hts : Hid (ts.take (k + 1) = ts.take k ++ [ts[k]]) := Lib.hid (by rw [List.take_add_one, List.getElem?_eq_getElem hlt]; rfl)
   have HT := Lib.hid (KidsR.take ts _ k HK.out)
   rw [htk] at hM1
   clear hKw hmem hM
   generalize ts[k] = u at *
   obtain ⟨g1, o1, rfl, n0, n1, n2⟩ := kid_n hK1 hu3
   have HX := Lib.hid (newBlkC wr (.cells (ndA u (some ⟨g1, o1, none⟩) a1) 79) _ rfl)
   obtain ⟨⟨c0, c1, c2, c3, c4, c5⟩, -⟩ := cells6 HX.out
   have hx := blkLtC HX.out
   have HB := Lib.hid (bAllocC (o := .cells (ndA u (some ⟨g1, o1, none⟩) a1) 79) (Below.refl wr.heap.size wr))
   clear hK1
   by_cases h12 : k < 12
   ·rw [if_pos h12] at hM1
    have hd : decide ((k : Int) < 12) = true := by simp; omega
    have HN := Lib.hid (fun wx => need_any true 2 u (some ⟨g1, o1, none⟩) a1 wx)
    go_upto_region 6 with (go_at_call 94; refine (HN.out _).mono ?_; rintro e w3 ⟨he, hb3⟩; simp only [if_pos] at he; subst he; have HX := Lib.hid ((hb3.block _ hx).trans HX.out); have HB := Lib.hid (bCallC HB.out hb3); clear c0 c1 c2 c3 c4 c5 hx hb3; obtain ⟨⟨c0, c1, c2, c3, c4, c5⟩, -⟩ := cells6 HX.out; have hx := blkLtC HX.out)
    have HH : Hid (∀ wx, Gr w3 wx → Calls Tryz.prog 95 #[.slice (some ⟨ga, oa, none⟩) k (ts.length + c), .string u.name] wx (V1 (.bool ((ts.take k).any (isNm u.name))) wx)) := Lib.hid (fun wx hg => by
     have := hasName_any (ts.take k) (some ⟨ga, oa, none⟩) (ts.length + c) u.name wx (KidsR.bel HT.out ((hW.out.trans (HB.out.mono hW.out.size)).trans (hg.mono (Nat.le_trans hW.out.size HB.out.size)))) (by rw [htk]; omega)
     rw [htk] at this
     exact this)
    generalize hbb : (ts.take k).any (isNm u.name) = bb at *
    have hkc : k ≤ ts.length + c := by omega
    cases bb
    ·rw [if_neg (by decide)] at hM1
     have HN := Lib.hid (fun wx => need_any true 5 u (some ⟨g1, o1, none⟩) a1 wx)
     refine wp_region_G (S := fun wq => Gr w3 wq) (by kernel_rfl) (grDrew _) (fun hHeld => ?_)
     have hSG : Hid (∀ wp wq : World, Gr w3 wp → Gr wp wq → Gr w3 wq) := Lib.hid (fun _ _ h k => h.tr k)
     have hmv := Lib.hid (fun (wq : World) (hq : Gr w3 wq) => And.intro (grCell hq c0) (And.intro (grCell hq c1) (And.intro (grCell hq c2) (And.intro (grCell hq c3) (And.intro (grCell hq c4) (grCell hq c5))))))
     first
      | (refine tk hSG 0 (v := ?_) rfl (by kernel_rfl) (fun _ _ _ h => h) (by rfl) ?_ hHeld ?_; rotate_left; focus (intro w' hSw; obtain ⟨c0, c1, c2, c3, c4, c5⟩ := hmv.out _ hSw; go_simp; (try with_reducible rfl)))
      | refine tn hSG 0 rfl (by kernel_rfl) (fun _ _ _ h => h) (by rfl) hHeld ?_
     (try simp only [zq1, zq2, zq3, Act.put, zq4, zq5, zq6])
     first
      | (refine tk hSG 1 (v := ?_) rfl (by kernel_rfl) (fun _ _ _ h => h) (by rfl) ?_ hHeld ?_; rotate_left; focus (intro w' hSw; obtain ⟨c0, c1, c2, c3, c4, c5⟩ := hmv.out _ hSw; go_simp; (try with_reducible rfl)))
      | refine tn hSG 1 rfl (by kernel_rfl) (fun _ _ _ h => h) (by rfl) hHeld ?_
     (try simp only [zq1, zq2, zq3, Act.put, zq4, zq5, zq6])
     refine tk hSG 2 (v := .slice (some ⟨ga, oa, none⟩) k (ts.length + c)) rfl (by kernel_rfl) (fun _ _ _ h => h) (by rfl) ?_ hHeld ?_
     focus (intro w' hSw; obtain ⟨c0, c1, c2, c3, c4, c5⟩ := hmv.out _ hSw; go_simp; intro hq; omega)
     (try simp only [zq1, zq2, zq3, Act.put, zq4, zq5, zq6])
     first
      | (refine tk hSG 3 (v := ?_) rfl (by kernel_rfl) (fun _ _ _ h => h) (by rfl) ?_ hHeld ?_; rotate_left; focus (intro w' hSw; obtain ⟨c0, c1, c2, c3, c4, c5⟩ := hmv.out _ hSw; go_simp; (try with_reducible rfl)))
      | refine tn hSG 3 rfl (by kernel_rfl) (fun _ _ _ h => h) (by rfl) hHeld ?_
     (try simp only [zq1, zq2, zq3, Act.put, zq4, zq5, zq6])
     first
      | (refine tk hSG 4 (v := ?_) rfl (by kernel_rfl) (fun _ _ _ h => h) (by rfl) ?_ hHeld ?_; rotate_left; focus (intro w' hSw; obtain ⟨c0, c1, c2, c3, c4, c5⟩ := hmv.out _ hSw; go_simp; (try with_reducible rfl)))
      | refine tn hSG 4 rfl (by kernel_rfl) (fun _ _ _ h => h) (by rfl) hHeld ?_
     (try simp only [zq1, zq2, zq3, Act.put, zq4, zq5, zq6])
     refine tc hSG 5 (v := .bool false) rfl (by kernel_rfl) (fun _ _ _ h => h) (by rfl) ?_ hHeld ?_
     focus (intro wz hSw K hK; obtain ⟨c0, c1, c2, c3, c4, c5⟩ := hmv.out _ hSw; go_simp; go_at_call 95; refine (HH.out _ hSw).mono ?_; rintro e w2 ⟨rfl, hb2⟩; first | exact hK.out _ hb2 | (have h9 := hK.out _ hb2; (try simp only [zq1, zq2, zq3, Act.put, zq4, zq5, zq6] at h9 ⊢); exact h9) | (have h9 := hK.out _ hb2; go_simp; exact h9))
     (try simp only [zq1, zq2, zq3, Act.put, zq4, zq5, zq6])
     first
      | (refine tk hSG 6 (v := ?_) rfl (by kernel_rfl) (fun _ _ _ h => h) (by rfl) ?_ hHeld ?_; rotate_left; focus (intro w' hSw; obtain ⟨c0, c1, c2, c3, c4, c5⟩ := hmv.out _ hSw; go_simp; (try with_reducible rfl)))
      | refine tn hSG 6 rfl (by kernel_rfl) (fun _ _ _ h => h) (by rfl) hHeld ?_
     (try simp only [zq1, zq2, zq3, Act.put, zq4, zq5, zq6])
     first
      | (refine tk hSG 7 (v := ?_) rfl (by kernel_rfl) (fun _ _ _ h => h) (by rfl) ?_ hHeld ?_; rotate_left; focus (intro w' hSw; obtain ⟨c0, c1, c2, c3, c4, c5⟩ := hmv.out _ hSw; go_simp; (try with_reducible rfl)))
      | refine tn hSG 7 rfl (by kernel_rfl) (fun _ _ _ h => h) (by rfl) hHeld ?_
     (try simp only [zq1, zq2, zq3, Act.put, zq4, zq5, zq6])
     refine tc hSG 8 (v := .tuple #[]) rfl (by kernel_rfl) (fun _ _ _ h => h) (by rfl) ?_ hHeld ?_
     focus (intro wz hSw K hK; obtain ⟨c0, c1, c2, c3, c4, c5⟩ := hmv.out _ hSw; go_simp; go_at_call 94; refine (HN.out _).mono ?_; rintro e w2 ⟨he, hb2⟩; simp only [if_pos] at he; subst he; first | exact hK.out _ hb2 | (have h9 := hK.out _ hb2; (try simp only [zq1, zq2, zq3, Act.put, zq4, zq5, zq6] at h9 ⊢); exact h9) | (have h9 := hK.out _ hb2; go_simp; exact h9))
     (try simp only [zq1, zq2, zq3, Act.put, zq4, zq5, zq6])
     refine wpAnyG_done (by kernel_rfl) (fun w5 hgD => ?_) _
     have hg5 : Gr w3 w5 := (grDrew w3).tr hgD
     clear hgD hSG hHeld
     have HX := Lib.hid (grBlk hg5 HX.out)
     have HB := Lib.hid (HB.out.trans (hg5.mono HB.out.size))
     clear c0 c1 c2 c3 c4 c5 hx hg5 HN HH
     obtain ⟨⟨c0, c1, c2, c3, c4, c5⟩, -⟩ := cells6 HX.out
     have hx := blkLtC HX.out
     have n0 := grCell HB.out n0
     have n1 := grCell HB.out n1
     have n2 := grCell HB.out n2
     have hg6s := HB.out.size
     go_upto_region 7 with fail
     refine wp_region_G (S := fun wq => Gr w5 wq) (by kernel_rfl) (grDrew _) (fun hHeld => ?_)
     have hSG : Hid (∀ wp wq : World, Gr w5 wp → Gr wp wq → Gr w5 wq) := Lib.hid (fun _ _ h k => h.tr k)
     have hmv := Lib.hid (fun (wq : World) (hq : Gr w5 wq) => And.intro (grCell hq c1) (And.intro (grCell hq c2) (And.intro (grCell hq c5) (And.intro (grCell hq n0) (And.intro (grCell hq n1) (grCell hq n2))))))
     first
      | (refine tk hSG 0 (v := ?_) rfl (by kernel_rfl) (fun _ _ _ h => h) (by rfl) ?_ hHeld ?_; rotate_left; focus (intro w' hSw; obtain ⟨c1, c2, c5, n0, n1, n2⟩ := hmv.out _ hSw; go_simp; (try with_reducible rfl)))
      | refine tn hSG 0 rfl (by kernel_rfl) (fun _ _ _ h => h) (by rfl) hHeld ?_
     (try simp only [zq1, zq2, zq3, Act.put, zq4, zq5, zq6])
     first
      | (refine tk hSG 1 (v := ?_) rfl (by kernel_rfl) (fun _ _ _ h => h) (by rfl) ?_ hHeld ?_; rotate_left; focus (intro w' hSw; obtain ⟨c1, c2, c5, n0, n1, n2⟩ := hmv.out _ hSw; go_simp; (try with_reducible rfl)))
      | refine tn hSG 1 rfl (by kernel_rfl) (fun _ _ _ h => h) (by rfl) hHeld ?_
     (try simp only [zq1, zq2, zq3, Act.put, zq4, zq5, zq6])
     first
      | (refine tk hSG 2 (v := ?_) rfl (by kernel_rfl) (fun _ _ _ h => h) (by rfl) ?_ hHeld ?_; rotate_left; focus (intro w' hSw; obtain ⟨c1, c2, c5, n0, n1, n2⟩ := hmv.out _ hSw; go_simp; (try with_reducible rfl)))
      | refine tn hSG 2 rfl (by kernel_rfl) (fun _ _ _ h => h) (by rfl) hHeld ?_
     (try simp only [zq1, zq2, zq3, Act.put, zq4, zq5, zq6])
     first
      | (refine tk hSG 3 (v := ?_) rfl (by kernel_rfl) (fun _ _ _ h => h) (by rfl) ?_ hHeld ?_; rotate_left; focus (intro w' hSw; obtain ⟨c1, c2, c5, n0, n1, n2⟩ := hmv.out _ hSw; go_simp; (try with_reducible rfl)))
      | refine tn hSG 3 rfl (by kernel_rfl) (fun _ _ _ h => h) (by rfl) hHeld ?_
     (try simp only [zq1, zq2, zq3, Act.put, zq4, zq5, zq6])
     first
      | (refine tk hSG 4 (v := ?_) rfl (by kernel_rfl) (fun _ _ _ h => h) (by rfl) ?_ hHeld ?_; rotate_left; focus (intro w' hSw; obtain ⟨c1, c2, c5, n0, n1, n2⟩ := hmv.out _ hSw; go_simp; (try with_reducible rfl)))
      | refine tn hSG 4 rfl (by kernel_rfl) (fun _ _ _ h => h) (by rfl) hHeld ?_
     (try simp only [zq1, zq2, zq3, Act.put, zq4, zq5, zq6])
     first
      | (refine tk hSG 5 (v := ?_) rfl (by kernel_rfl) (fun _ _ _ h => h) (by rfl) ?_ hHeld ?_; rotate_left; focus (intro w' hSw; obtain ⟨c1, c2, c5, n0, n1, n2⟩ := hmv.out _ hSw; go_simp; (try with_reducible rfl)))
      | refine tn hSG 5 rfl (by kernel_rfl) (fun _ _ _ h => h) (by rfl) hHeld ?_
     (try simp only [zq1, zq2, zq3, Act.put, zq4, zq5, zq6])
     refine tk hSG 6 (v := .pointer (some ⟨g1, o1, none⟩)) rfl (by kernel_rfl) (fun _ _ _ h => h) (by rfl) ?_ hHeld ?_
     focus (intro w' hSw; obtain ⟨c1, c2, c5, n0, n1, n2⟩ := hmv.out _ hSw; go_simp; intro hq; rw [hq] at hu3; simp at hu3)
     (try simp only [zq1, zq2, zq3, Act.put, zq4, zq5, zq6])
     first
      | (refine tk hSG 7 (v := ?_) rfl (by kernel_rfl) (fun _ _ _ h => h) (by rfl) ?_ hHeld ?_; rotate_left; focus (intro w' hSw; obtain ⟨c1, c2, c5, n0, n1, n2⟩ := hmv.out _ hSw; go_simp; (try with_reducible rfl)))
      | refine tn hSG 7 rfl (by kernel_rfl) (fun _ _ _ h => h) (by rfl) hHeld ?_
     (try simp only [zq1, zq2, zq3, Act.put, zq4, zq5, zq6])
     first
      | (refine tk hSG 8 (v := ?_) rfl (by kernel_rfl) (fun _ _ _ h => h) (by rfl) ?_ hHeld ?_; rotate_left; focus (intro w' hSw; obtain ⟨c1, c2, c5, n0, n1, n2⟩ := hmv.out _ hSw; go_simp; (try with_reducible rfl)))
      | refine tn hSG 8 rfl (by kernel_rfl) (fun _ _ _ h => h) (by rfl) hHeld ?_
     (try simp only [zq1, zq2, zq3, Act.put, zq4, zq5, zq6])
     first
      | (refine tk hSG 9 (v := ?_) rfl (by kernel_rfl) (fun _ _ _ h => h) (by rfl) ?_ hHeld ?_; rotate_left; focus (intro w' hSw; obtain ⟨c1, c2, c5, n0, n1, n2⟩ := hmv.out _ hSw; go_simp; (try with_reducible rfl)))
      | refine tn hSG 9 rfl (by kernel_rfl) (fun _ _ _ h => h) (by rfl) hHeld ?_
     (try simp only [zq1, zq2, zq3, Act.put, zq4, zq5, zq6])
     first
      | (refine tk hSG 10 (v := ?_) rfl (by kernel_rfl) (fun _ _ _ h => h) (by rfl) ?_ hHeld ?_; rotate_left; focus (intro w' hSw; obtain ⟨c1, c2, c5, n0, n1, n2⟩ := hmv.out _ hSw; go_simp; (try with_reducible rfl)))
      | refine tn hSG 10 rfl (by kernel_rfl) (fun _ _ _ h => h) (by rfl) hHeld ?_
     (try simp only [zq1, zq2, zq3, Act.put, zq4, zq5, zq6])
     refine tk hSG 11 (v := .pointer (some ⟨g1, o1 + 6, none⟩)) rfl (by kernel_rfl) (fun _ _ _ h => h) (by rfl) ?_ hHeld ?_
     focus (intro w' hSw; obtain ⟨c1, c2, c5, n0, n1, n2⟩ := hmv.out _ hSw; go_simp; intro hq; omega)
     (try simp only [zq1, zq2, zq3, Act.put, zq4, zq5, zq6])
     first
      | (refine tk hSG 12 (v := ?_) rfl (by kernel_rfl) (fun _ _ _ h => h) (by rfl) ?_ hHeld ?_; rotate_left; focus (intro w' hSw; obtain ⟨c1, c2, c5, n0, n1, n2⟩ := hmv.out _ hSw; go_simp; (try with_reducible rfl)))
      | refine tn hSG 12 rfl (by kernel_rfl) (fun _ _ _ h => h) (by rfl) hHeld ?_
     (try simp only [zq1, zq2, zq3, Act.put, zq4, zq5, zq6])
     first
      | (refine tk hSG 13 (v := ?_) rfl (by kernel_rfl) (fun _ _ _ h => h) (by rfl) ?_ hHeld ?_; rotate_left; focus (intro w' hSw; obtain ⟨c1, c2, c5, n0, n1, n2⟩ := hmv.out _ hSw; go_simp; (try with_reducible rfl)))
      | refine tn hSG 13 rfl (by kernel_rfl) (fun _ _ _ h => h) (by rfl) hHeld ?_
     (try simp only [zq1, zq2, zq3, Act.put, zq4, zq5, zq6])
     first
      | (refine tk hSG 14 (v := ?_) rfl (by kernel_rfl) (fun _ _ _ h => h) (by rfl) ?_ hHeld ?_; rotate_left; focus (intro w' hSw; obtain ⟨c1, c2, c5, n0, n1, n2⟩ := hmv.out _ hSw; go_simp; (try with_reducible rfl)))
      | refine tn hSG 14 rfl (by kernel_rfl) (fun _ _ _ h => h) (by rfl) hHeld ?_
     (try simp only [zq1, zq2, zq3, Act.put, zq4, zq5, zq6])
     first
      | (refine tk hSG 15 (v := ?_) rfl (by kernel_rfl) (fun _ _ _ h => h) (by rfl) ?_ hHeld ?_; rotate_left; focus (intro w' hSw; obtain ⟨c1, c2, c5, n0, n1, n2⟩ := hmv.out _ hSw; go_simp; (try with_reducible rfl)))
      | refine tn hSG 15 rfl (by kernel_rfl) (fun _ _ _ h => h) (by rfl) hHeld ?_
     (try simp only [zq1, zq2, zq3, Act.put, zq4, zq5, zq6])
     refine tk hSG 16 (v := .pointer (some ⟨g1, o1 + 12, none⟩)) rfl (by kernel_rfl) (fun _ _ _ h => h) (by rfl) ?_ hHeld ?_
     focus (intro w' hSw; obtain ⟨c1, c2, c5, n0, n1, n2⟩ := hmv.out _ hSw; go_simp; intro hq; omega)
     (try simp only [zq1, zq2, zq3, Act.put, zq4, zq5, zq6])
     first
      | (refine tk hSG 17 (v := ?_) rfl (by kernel_rfl) (fun _ _ _ h => h) (by rfl) ?_ hHeld ?_; rotate_left; focus (intro w' hSw; obtain ⟨c1, c2, c5, n0, n1, n2⟩ := hmv.out _ hSw; go_simp; (try with_reducible rfl)))
      | refine tn hSG 17 rfl (by kernel_rfl) (fun _ _ _ h => h) (by rfl) hHeld ?_
     (try simp only [zq1, zq2, zq3, Act.put, zq4, zq5, zq6])
     first
      | (refine tk hSG 18 (v := ?_) rfl (by kernel_rfl) (fun _ _ _ h => h) (by rfl) ?_ hHeld ?_; rotate_left; focus (intro w' hSw; obtain ⟨c1, c2, c5, n0, n1, n2⟩ := hmv.out _ hSw; go_simp; (try with_reducible rfl)))
      | refine tn hSG 18 rfl (by kernel_rfl) (fun _ _ _ h => h) (by rfl) hHeld ?_
     (try simp only [zq1, zq2, zq3, Act.put, zq4, zq5, zq6])
     first
      | (refine tk hSG 19 (v := ?_) rfl (by kernel_rfl) (fun _ _ _ h => h) (by rfl) ?_ hHeld ?_; rotate_left; focus (intro w' hSw; obtain ⟨c1, c2, c5, n0, n1, n2⟩ := hmv.out _ hSw; go_simp; (try with_reducible rfl)))
      | refine tn hSG 19 rfl (by kernel_rfl) (fun _ _ _ h => h) (by rfl) hHeld ?_
     (try simp only [zq1, zq2, zq3, Act.put, zq4, zq5, zq6])
     refine wpAnyG_ready (rs := [20]) (by kernel_rfl) (by simp) (AllG.cons rfl (fun w6 hg6 K hK => ?_) AllG.nil)
     have hg6 := (grDrew w5).tr hg6
     have HB6 := Lib.hid (HB.out.trans (hg6.mono HB.out.size))
     go_simp
     refine hK.out _ _ (hg6.tr (grAlloc _ _)) (fun hHeld => ?_)
     clear hK K
     have HV := Lib.hid (newBlkC w6 (.cells zVr 46) _ rfl)
     have hb6 := HB6.out.size
     refine wpAnyG_ready (rs := [21]) (by kernel_rfl) (by simp) (AllG.cons rfl (fun w7 hg7 K hK => ?_) AllG.nil)
     have HV := Lib.hid (grBlk hg7 HV.out)
     have HB7 := Lib.hid ((bAllocC HB6.out).trans (hg7.mono (by simp; omega)))
     have hG7 := hSG.out _ _ hHeld.out hg7
     obtain ⟨⟨q0, q1, q2, q3, q4⟩, s0, s1, s2, s3, s4⟩ := cells5C HV.out
     go_simp
     refine hK.out _ _ (below5C hG7 hg6.size) (fun hHeld => ?_)
     clear hK K
     have HV := Lib.hid (res5C (x0 := .string u.name) (x1 := .int .i64 u.n) (x2 := .int .i64 (kidN u 0)) (x3 := .int .i64 (kidN u 1)) (x4 := .int .i64 (kidN u 2)) HV.out)
     have HB8 := Lib.hid (below5C (b := w6.heap.size) (x0 := .string u.name) (x1 := .int .i64 u.n) (x2 := .int .i64 (kidN u 0)) (x3 := .int .i64 (kidN u 1)) (x4 := .int .i64 (kidN u 2)) HB7.out hb6)
     have HX8 := Lib.hid (((below5C (b := w6.heap.size) (x0 := .string u.name) (x1 := .int .i64 u.n) (x2 := .int .i64 (kidN u 0)) (x3 := .int .i64 (kidN u 1)) (x4 := .int .i64 (kidN u 2)) hG7 hg6.size).block _ hx).trans HX.out)
     refine wpAnyG_done (by kernel_rfl) (fun w9 hg9 => ?_) _
     have HV := Lib.hid (grBlk hg9 HV.out)
     have HX := Lib.hid (grBlk hg9 HX8.out)
     have HB := Lib.hid (HB8.out.trans (hg9.mono HB8.out.size))
     clear HB8 HX8 HB7 HB6 hG7 hg9 hg7 hg6 hHeld hSG c0 c1 c2 c3 c4 c5 n0 n1 n2 q0 q1 q2 q3 q4 s0 s1 s2 s3 s4 hx
     obtain ⟨⟨c0, c1, c2, c3, c4, c5⟩, -⟩ := cells6 HX.out
     obtain ⟨⟨q0, q1, q2, q3, q4⟩, s0, s1, s2, s3, s4⟩ := cells5C HV.out
     have hv := blkLtC HV.out
     by_cases hok : kidN u 0 ≤ kidN u 2 ∧ kidN u 2 ≤ kidN u 1
     ·have d1 : decide (kidN u 0 ≤ kidN u 2) = true := by simp [hok.1]
      have d2 : decide (kidN u 2 ≤ kidN u 1) = true := by simp [hok.2]
      rw [if_pos (by rw [d1, d2]; rfl)] at hM1
      have hM2 : Hid (vsM (ts.take (k + 1)) (ts.drop (k + 1)) (acc ++ [vrOf u]) = r) := Lib.hid (by rw [hts.out]; exact hM1)
      clear hM1
      have HN := Lib.hid (fun wx => need_any true 3 u (some ⟨g1, o1, none⟩) a1 wx)
      have HO5 := Lib.hid (OwnV.keep hO.out HB.out)
      have hol := HO5.out.lt
      have hwsz := hW.out.size
      go_upto_region 9 with (go_at_call 94; refine (HN.out _).mono ?_; rintro e w3 ⟨he, hb3⟩; simp only [if_pos] at he; subst he; have HV := Lib.hid ((hb3.block _ hv).trans HV.out); have HB := Lib.hid (bCallC HB.out hb3); have HO := Lib.hid (OwnV.keep HO5.out hb3); clear q0 q1 q2 q3 q4 s0 s1 s2 s3 s4 hv hb3; obtain ⟨⟨q0, q1, q2, q3, q4⟩, s0, s1, s2, s3, s4⟩ := cells5C HV.out; have hv := blkLtC HV.out)
      have HO : Hid (w3.ownsRow w.heap.size 46 5 u3 acc.length (vrsCells acc)) := Lib.hid HO.out
      clear hO HO5 HK HT HX HR H3 hts htk
      go_wp2_with (at_builtin; refine wpList_append_lies _ rfl _ _ 149 rfl w.heap.size 46 i0 (.agg zVr) 5 48 Tryz.underlying149 hi hz0 hz1 hz2 rfl (by decide) _ acc.length (vrsCells acc) rfl (HO.out.alloc _) ⟨w3.heap.size, 0, none⟩ 1 1 (vrCells (vrOf u)) rfl rfl ?c1 (vr_one _) (by decide) ?c3 ?c4 ?c5 (w3.heap.size + 1) ?c6 ?_)
      case c1 => exact World.news_of_block (cs := vrArr (vrOf u)) (t := 46) (fr := (0, 0)) (newBlkC _ _ _ rfl)
      case c3 => unfold maxLen; omega
      case c4 => omega
      case c5 => simp; omega
      case c6 => simp
      intro gb cap w4 hown4 hgrow hat hlt4
      have hB4 : Below w.heap.size w w4 := (hW.out.trans (HB.out.mono hwsz)).trans (gbBelowC (gbTrans (gbAlloc (gbRefl _ _)) hgrow) (Nat.le_trans hwsz HB.out.size) (fun k e => (hol k e).1))
      have hO4 : Hid (OwnV w.heap.size w4 (.slice (some ⟨gb, 0, none⟩) (k + 1) cap) (acc ++ [vrOf u])) := Lib.hid (by unfold OwnV; rw [vrsCells_snoc, List.length_append, hacc]; exact hown4)
      have hW4 := Lib.hid hB4
      clear hown4 hgrow hat hB4 HO hol
      go_wp2
      go_roundg gk2
      case measure => omega
      case rel => exact ⟨k + 1, acc ++ [vrOf u], by omega, by go_num, by simp [hacc], hM2, hO4, hW4⟩
     ·have hM2 : (decide (kidN u 0 ≤ kidN u 2) && decide (kidN u 2 ≤ kidN u 1)) = false := by simp; intro h; simp [h] at hok; omega
      rw [if_neg (by rw [hM2]; decide)] at hM1
      subst hM1
      have HN := Lib.hid (fun wx => need_any false 3 u (some ⟨g1, o1, none⟩) a1 wx)
      by_cases x1 : kidN u 0 ≤ kidN u 2
      ·have d1 : decide (kidN u 0 ≤ kidN u 2) = true := by simp [x1]
       have d2 : decide (kidN u 2 ≤ kidN u 1) = false := by simp; omega
       clear hO HK HT HX HR H3 hts htk hok hM2
       go_wp2_with (go_at_call 94; refine (HN.out _).mono ?_; rintro e w3 ⟨he, hb3⟩; simp only [Bool.false_eq_true, if_neg, not_false_eq_true] at he; subst he)
       exact ⟨rfl, rfl, hW.out.trans ((bCallC HB.out hb3).mono hW.out.size)⟩
      ·have d1 : decide (kidN u 0 ≤ kidN u 2) = false := by simp; omega
       clear hO HK HT HX HR H3 hts htk hok hM2
       go_wp2_with (go_at_call 94; refine (HN.out _).mono ?_; rintro e w3 ⟨he, hb3⟩; simp only [Bool.false_eq_true, if_neg, not_false_eq_true] at he; subst he)
       exact ⟨rfl, rfl, hW.out.trans ((bCallC HB.out hb3).mono hW.out.size)⟩
    ·rw [if_pos rfl] at hM1
     subst hM1
     have HN := Lib.hid (fun wx => need_any false 5 u (some ⟨g1, o1, none⟩) a1 wx)
     refine wp_region_G (S := fun wq => Gr w3 wq) (by kernel_rfl) (grDrew _) (fun hHeld => ?_)
     have hSG : Hid (∀ wp wq : World, Gr w3 wp → Gr wp wq → Gr w3 wq) := Lib.hid (fun _ _ h k => h.tr k)
     have hmv := Lib.hid (fun (wq : World) (hq : Gr w3 wq) => And.intro (grCell hq c0) (And.intro (grCell hq c1) (And.intro (grCell hq c2) (And.intro (grCell hq c3) (And.intro (grCell hq c4) (grCell hq c5))))))
     first
      | (refine tk hSG 0 (v := ?_) rfl (by kernel_rfl) (fun _ _ _ h => h) (by rfl) ?_ hHeld ?_; rotate_left; focus (intro w' hSw; obtain ⟨c0, c1, c2, c3, c4, c5⟩ := hmv.out _ hSw; go_simp; (try with_reducible rfl)))
      | refine tn hSG 0 rfl (by kernel_rfl) (fun _ _ _ h => h) (by rfl) hHeld ?_
     (try simp only [zq1, zq2, zq3, Act.put, zq4, zq5, zq6])
     first
      | (refine tk hSG 1 (v := ?_) rfl (by kernel_rfl) (fun _ _ _ h => h) (by rfl) ?_ hHeld ?_; rotate_left; focus (intro w' hSw; obtain ⟨c0, c1, c2, c3, c4, c5⟩ := hmv.out _ hSw; go_simp; (try with_reducible rfl)))
      | refine tn hSG 1 rfl (by kernel_rfl) (fun _ _ _ h => h) (by rfl) hHeld ?_
     (try simp only [zq1, zq2, zq3, Act.put, zq4, zq5, zq6])
     refine tk hSG 2 (v := .slice (some ⟨ga, oa, none⟩) k (ts.length + c)) rfl (by kernel_rfl) (fun _ _ _ h => h) (by rfl) ?_ hHeld ?_
     focus (intro w' hSw; obtain ⟨c0, c1, c2, c3, c4, c5⟩ := hmv.out _ hSw; go_simp; intro hq; omega)
     (try simp only [zq1, zq2, zq3, Act.put, zq4, zq5, zq6])
     first
      | (refine tk hSG 3 (v := ?_) rfl (by kernel_rfl) (fun _ _ _ h => h) (by rfl) ?_ hHeld ?_; rotate_left; focus (intro w' hSw; obtain ⟨c0, c1, c2, c3, c4, c5⟩ := hmv.out _ hSw; go_simp; (try with_reducible rfl)))
      | refine tn hSG 3 rfl (by kernel_rfl) (fun _ _ _ h => h) (by rfl) hHeld ?_
     (try simp only [zq1, zq2, zq3, Act.put, zq4, zq5, zq6])
     first
      | (refine tk hSG 4 (v := ?_) rfl (by kernel_rfl) (fun _ _ _ h => h) (by rfl) ?_ hHeld ?_; rotate_left; focus (intro w' hSw; obtain ⟨c0, c1, c2, c3, c4, c5⟩ := hmv.out _ hSw; go_simp; (try with_reducible rfl)))
      | refine tn hSG 4 rfl (by kernel_rfl) (fun _ _ _ h => h) (by rfl) hHeld ?_
     (try simp only [zq1, zq2, zq3, Act.put, zq4, zq5, zq6])
     refine tc hSG 5 (v := .bool true) rfl (by kernel_rfl) (fun _ _ _ h => h) (by rfl) ?_ hHeld ?_
     focus (intro wz hSw K hK; obtain ⟨c0, c1, c2, c3, c4, c5⟩ := hmv.out _ hSw; go_simp; go_at_call 95; refine (HH.out _ hSw).mono ?_; rintro e w2 ⟨rfl, hb2⟩; first | exact hK.out _ hb2 | (have h9 := hK.out _ hb2; (try simp only [zq1, zq2, zq3, Act.put, zq4, zq5, zq6] at h9 ⊢); exact h9) | (have h9 := hK.out _ hb2; go_simp; exact h9))
     (try simp only [zq1, zq2, zq3, Act.put, zq4, zq5, zq6])
     first
      | (refine tk hSG 6 (v := ?_) rfl (by kernel_rfl) (fun _ _ _ h => h) (by rfl) ?_ hHeld ?_; rotate_left; focus (intro w' hSw; obtain ⟨c0, c1, c2, c3, c4, c5⟩ := hmv.out _ hSw; go_simp; (try with_reducible rfl)))
      | refine tn hSG 6 rfl (by kernel_rfl) (fun _ _ _ h => h) (by rfl) hHeld ?_
     (try simp only [zq1, zq2, zq3, Act.put, zq4, zq5, zq6])
     first
      | (refine tk hSG 7 (v := ?_) rfl (by kernel_rfl) (fun _ _ _ h => h) (by rfl) ?_ hHeld ?_; rotate_left; focus (intro w' hSw; obtain ⟨c0, c1, c2, c3, c4, c5⟩ := hmv.out _ hSw; go_simp; (try with_reducible rfl)))
      | refine tn hSG 7 rfl (by kernel_rfl) (fun _ _ _ h => h) (by rfl) hHeld ?_
     (try simp only [zq1, zq2, zq3, Act.put, zq4, zq5, zq6])
     refine wpAnyG_ready (rs := [8]) (by kernel_rfl) (by simp) (AllG.cons rfl (fun w5 hgL K hK => ?_) AllG.nil)
     have hgL := (grDrew w3).tr hgL
     have c0 := grCell hgL c0
     have c1 := grCell hgL c1
     have c2 := grCell hgL c2
     have c3 := grCell hgL c3
     have c4 := grCell hgL c4
     have c5 := grCell hgL c5
     go_simp
     go_at_call 94; refine (HN.out _).mono ?_; rintro e w6 ⟨he, hb3⟩; simp only [Bool.false_eq_true, if_neg, not_false_eq_true] at he; subst he
     exact ⟨rfl, rfl, hW.out.trans ((HB.out.trans ((hgL.tr hb3).mono HB.out.size)).mono hW.out.size)⟩
   ·rw [if_neg h12] at hM1
    subst hM1
    have hd : decide ((k : Int) < 12) = false := by simp; omega
    have HN := Lib.hid (fun wx => need_any false 2 u (some ⟨g1, o1, none⟩) a1 wx)
    clear hO HK HT HX HR H3 hts htk
    go_wp2_with (go_at_call 94; refine (HN.out _).mono ?_; rintro e w3 ⟨he, hb3⟩; simp only [Bool.false_eq_true, if_neg, not_false_eq_true] at he; subst he)
    exact ⟨rfl, rfl, hW.out.trans ((bCallC HB.out hb3).mono hW.out.size)⟩
  ·have hM1 := hM.out
   rw [List.drop_eq_nil_of_le (by omega), vsM] at hM1
   subst hM1
   have hkl : decide ((k : Int) < (ts.length : Int)) = false := by simp; omega
   obtain ⟨A9, c9, rfl, hV9⟩ := own_vrs hO.out
   have hV9 := Lib.hid hV9
   clear hM hO HR
   go_wp2_with fail
   go_ret
   exact ⟨⟨A9, c9, rfl, hV9.out⟩, hW.out⟩
end C
end Go.Proofs.YtljknappbnoikaaGreatDoor
