/- Texts of one proof: MxI. -/
import Derived.Test.YtdlebaiamdbneaaGreatDoorYh
import Derived.Test.YtdlebaiamdbneaaGreatDoorZi
set_option linter.unusedVariables false
set_option linter.unusedSimpArgs false
set_option maxRecDepth 100000
set_option maxHeartbeats 8000000
namespace Go.Proofs.YtdlebaiamdbneaaGreatDoor
open Go.RowKit
namespace M
open I
open U (Ex St btw btw_iff ev eArr KidsE newBlk blkLt Vr VarsR VrAt owns_below ownsRow_low sArr KpL)
open R (epanic bAllocX limS)
theorem cells7 {w : World} {b : Nat} {v0 v1 v2 v3 v4 v5 v6 : Value} {T : TypeId} (h : w.heap[b]? = some (.cells #[v0, v1, v2, v3, v4, v5, v6] T (0, 0))) :
  w.cell? ⟨b, 0, none⟩ = some v0 ∧ w.cell? ⟨b, 1, none⟩ = some v1 ∧ w.cell? ⟨b, 2, none⟩ = some v2 ∧ w.cell? ⟨b, 3, none⟩ = some v3 ∧ w.cell? ⟨b, 4, none⟩ = some v4 ∧ w.cell? ⟨b, 5, none⟩ = some v5 ∧ w.cell? ⟨b, 6, none⟩ = some v6 := by
 have e : ∀ j, w.cell? ⟨b, j, none⟩ = (#[v0, v1, v2, v3, v4, v5, v6] : Array Value)[j]? := fun j => cell_of_row _ _ j _ _ (0, 0) h
 exact ⟨e 0, e 1, e 2, e 3, e 4, e 5, e 6⟩
def IntsO (B : Nat) (w : World) (st : List Int) (g cap : Nat) : Prop := w.ownsRow B 3 1 (.slice (some ⟨g, 0, none⟩) st.length cap) st.length (iCells st)
theorem IntsO.at {B : Nat} {w : World} {st : List Int} {g cap : Nat} (h : IntsO B w st g cap) (k : Nat) (n : Int) (hk : st[k]? = some n) : w.cell? ⟨g, k, none⟩ = some (.int .i64 n) ∧ w.frozen? ⟨g, k, none⟩ = false := by
 have hlt : k < st.length := (List.getElem?_eq_some_iff.1 hk).1
 exact ⟨(World.ownsRow.cellAt h k (by omega)).trans (by simp [iCells, hk]), World.ownsRow.frozenAt h _⟩
theorem IntsO.intsR {B : Nat} {w : World} {st : List Int} {g cap : Nat} (h : IntsO B w st g cap) : IntsR w st (some ⟨g, 0, none⟩) :=
 .inr ⟨g, 0, rfl, fun i n hi => by simpa using (h.at i n hi).1⟩
theorem IntsO.gr {B : Nat} {w w' : World} {st : List Int} {g cap : Nat} (h : IntsO B w st g cap) (hg : Gr w w') : IntsO B w' st g cap := owns_below h hg.block
theorem IntsO.mono {B B' : Nat} {w : World} {st : List Int} {g cap : Nat} (h : IntsO B w st g cap) (hb : B' ≤ B) : IntsO B' w st g cap := ownsRow_low hb h
theorem IntsO.lt {B : Nat} {w : World} {st : List Int} {g cap : Nat} (h : IntsO B w st g cap) : B ≤ g ∧ g < w.heap.size := World.ownsRow.lt h g rfl
theorem IntsO.set {B : Nat} {w : World} {st : List Int} {g cap : Nat} (h : IntsO B w st g cap) (k : Nat) (n : Int) : IntsO B (w.setCell ⟨g, k, none⟩ (.int .i64 n)) (st.set k n) g cap := by
 have h1 := (World.ownsRow.stored h k (.int .i64 n)).1
 unfold IntsO
 have e : iCells (st.set k n) = (iCells st).set k (.int .i64 n) := by simp [iCells, List.map_set]
 rw [e, List.length_set]
 exact h1
theorem OpsR.kp {B : Nat} {w w' : World} {mb g cap : Nat} {st : List Int} (h : OpsR w mb) (hO : IntsO B w st g cap) (hk : KpL g w w') : OpsR w' mb := by
 refine (hk.block mb (blkLt h) ?_).trans h
 rintro rfl
 rcases hO.2 with ⟨h', _⟩ | ⟨g', cap', cur, h', _, hg, _⟩
 ·simp at h'
 ·simp only [Value.slice.injEq, Option.some.injEq, Addr.mk.injEq, and_true, true_and] at h'
  obtain ⟨rfl, rfl⟩ := h'
  unfold OpsR at h
  rw [hg] at h
  cases h
def RunP (W0 w : World) (g cap : Nat) (r : Except Int (List Int)) (e : Ending) (w' : World) : Prop :=
 (match r with
  | .ok st' => e = .returned (.tuple #[]) ∧ IntsO W0.heap.size w' st' g cap
  | .error er => e = epanic er) ∧ KpL g w w'
abbrev ruA (VA : Option Addr) (vn vm g sn cap : Nat) (i0 i1 i2 i3 : Int) (mb : Nat) : Array Value := #[.slice VA vn vm, .slice (some ⟨g, 0, none⟩) sn cap, .int .i64 i0, .int .i64 i1, .int .i64 i2, .int .i64 i3, .map (some mb)]
def asgE (ins : List Int) (lim : List Sp) (st : List Int) (x : St) : Except Int (List Int) := match mvE st ins x.a with
 | .error e => .error e
 | .ok n => if ((lim[x.var.toNat]?).getD ⟨0, 0⟩).lo ≤ n ∧ n ≤ ((lim[x.var.toNat]?).getD ⟨0, 0⟩).hi then .ok (st.set x.var.toNat n) else .error 15
abbrev vrC (v : Vr) : Array Value := #[.string v.x, .int .i64 v.u, .int .i64 v.lo, .int .i64 v.hi, .int .i64 v.i]
theorem assign_any (W0 w : World) (hg : Gr W0 w) (st : List Int) (g cap : Nat) (hO : IntsO W0.heap.size w st g cap) (vs : List Vr) (VA : Option Addr) (vm : Nat) (hV : VarsR W0 vs VA) (i0 i1 i2 i3 : Int) (mb : Nat) (hM : OpsR w mb) (x : St) (A : Option Addr) (c : Nat) (B : Option Addr) (d : Nat) (T : Option Addr) (m : Nat) (E : Option Addr) (n : Nat)
  (hKa : KidsE W0 x.a.kids A) (hk0 : 0 ≤ x.var) (hk1 : x.var < vs.length) (hsz : x.a.size ≤ 60) (hsl : st.length = vs.length) (hvl : vs.length ≤ 12) :
  Calls Tryz.prog 55 #[.agg (ruA VA vs.length vm g st.length cap i0 i1 i2 i3 mb), U.sv x A c B d T m E n] w (RunP W0 w g cap (asgE [i0, i1, i2, i3] (limS vs) st x)) := by
 obtain ⟨k, hk⟩ : ∃ k : Nat, x.var = k := ⟨x.var.toNat, by omega⟩
 have hkl : k < vs.length := by omega
 have hlim : ((limS vs)[x.var.toNat]?).getD ⟨0, 0⟩ = ⟨vs[k].lo, vs[k].hi⟩ := by rw [hk, Int.toNat_natCast]; unfold limS; rw [List.getElem?_map, List.getElem?_eq_getElem hkl]; rfl
 obtain ⟨ga, oa, rfl, hat⟩ := hV.addr (by omega)
 obtain ⟨v0, v1, v2, v3, v4⟩ := hat k _ (List.getElem?_eq_getElem hkl)
 obtain ⟨sk, hst⟩ : ∃ sk, st[k]? = some sk := ⟨_, List.getElem?_eq_getElem (by omega)⟩
 obtain ⟨R, hRR⟩ : ∃ R, asgE [i0, i1, i2, i3] (limS vs) st x = R := ⟨_, rfl⟩
 rw [hRR]
 unfold asgE at hRR
 rw [hlim] at hRR
 generalize vs[k] = u at *
 obtain ⟨W2, hW2⟩ : ∃ W2, W2 = (w.alloc (.cells (ruA (some ⟨ga, oa, none⟩) vs.length vm g st.length cap i0 i1 i2 i3 mb) 61)).alloc (.cells (sArr x A c B d T m E n) 65) := ⟨_, rfl⟩
 have hg2 : Gr w W2 := by rw [hW2]; exact bAl2 _ _
 have HR : Hid (W2.heap[w.heap.size]? = some (.cells (ruA (some ⟨ga, oa, none⟩) vs.length vm g st.length cap i0 i1 i2 i3 mb) 61 (0, 0))) := Lib.hid (by rw [hW2]; exact (Below.heap_alloc _ _ _ (by simp)).trans (newBlk _ _ _ rfl))
 have HX : Hid (W2.heap[w.heap.size + 1]? = some (.cells (sArr x A c B d T m E n) 65 (0, 0))) := Lib.hid (by rw [hW2]; exact newBlk _ _ _ (by simp))
 have HO := Lib.hid (hO.gr hg2)
 have HB := Lib.hid (hg.tr hg2)
 have HW := Lib.hid hg2
 obtain ⟨r0, r1, r2, r3, r4, r5, r6⟩ := cells7 HR.out
 obtain ⟨y0, y1, y2, y3, y4, y5, y6, y7, y8, y9, ya, yb, yc⟩ := U.cells13 HX.out
 have v0 := grCell HB.out v0
 have v1 := grCell HB.out v1
 have v2 := grCell HB.out v2
 have v3 := grCell HB.out v3
 have v4 := grCell HB.out v4
 have HV := Lib.hid (fun wx (hgx : Gr W2 wx) => value_any st i0 i1 i2 i3 (by omega) x.a wx A (some ⟨g, 0, none⟩) c cap mb ((HO.out.intsR).gr hgx) (hM.gr (HW.out.tr hgx)) (hKa.below (HB.out.tr hgx)) hsz)
 have hkH := Lib.hid hkl
 have hstH := Lib.hid hst
 rw [hk] at y1
 have hxk : x.var.toNat = k := by omega
 rw [hxk] at hRR
 generalize mvE st [i0, i1, i2, i3] x.a = r at *
 have hRH := Lib.hid hRR
 clear hRR
 have hslH := Lib.hid hsl
 have hkH2 := Lib.hid hk
 clear hO hV hM hKa hk0 hk1 hsz hat hlim hg hg2 hst hxk hk hsl
 go_enter Tryz.func55, Tryz.ntmps55
 go_upto_region 1 with fail
 rw [← hW2]
 clear hW2
 rcases r with er | q
 ·skip
  refine wp_region_G (S := fun wq => Gr W2 wq) (by kernel_rfl) (grDrew _) (fun hHeld => ?_)
  have hSG : Hid (∀ wp wq : World, Gr W2 wp → Gr wp wq → Gr W2 wq) := Lib.hid (fun _ _ h k => h.tr k)
  have hmv := Lib.hid (fun (wq : World) (hq : Gr W2 wq) => And.intro (grCell hq r0) (And.intro (grCell hq r1) (And.intro (grCell hq r2) (And.intro (grCell hq r3) (And.intro (grCell hq r4) (And.intro (grCell hq r5) (And.intro (grCell hq r6) (And.intro (grCell hq y1) (And.intro (grCell hq y3) (And.intro (grCell hq y4) (And.intro (grCell hq y5) (And.intro (grCell hq y6) (And.intro (grCell hq v0) (And.intro (grCell hq v1) (And.intro (grCell hq v2) (And.intro (grCell hq v3) (grCell hq v4)))))))))))))))))
  first
   | (refine tk hSG 0 (v := ?_) rfl (by kernel_rfl) (fun _ _ _ h => h) (by rfl) ?_ hHeld ?_; rotate_left; focus (intro w' hSw; obtain ⟨r0, r1, r2, r3, r4, r5, r6, y1, y3, y4, y5, y6, v0, v1, v2, v3, v4⟩ := hmv.out _ hSw; go_simp; (try with_reducible rfl)))
   | refine tn hSG 0 rfl (by kernel_rfl) (fun _ _ _ h => h) (by rfl) hHeld ?_
  (try simp only [zq1, zq2, zq3, Act.put, zq4, zq5, zq6])
  first
   | (refine tk hSG 1 (v := ?_) rfl (by kernel_rfl) (fun _ _ _ h => h) (by rfl) ?_ hHeld ?_; rotate_left; focus (intro w' hSw; obtain ⟨r0, r1, r2, r3, r4, r5, r6, y1, y3, y4, y5, y6, v0, v1, v2, v3, v4⟩ := hmv.out _ hSw; go_simp; (try with_reducible rfl)))
   | refine tn hSG 1 rfl (by kernel_rfl) (fun _ _ _ h => h) (by rfl) hHeld ?_
  (try simp only [zq1, zq2, zq3, Act.put, zq4, zq5, zq6])
  first
   | (refine tk hSG 2 (v := ?_) rfl (by kernel_rfl) (fun _ _ _ h => h) (by rfl) ?_ hHeld ?_; rotate_left; focus (intro w' hSw; obtain ⟨r0, r1, r2, r3, r4, r5, r6, y1, y3, y4, y5, y6, v0, v1, v2, v3, v4⟩ := hmv.out _ hSw; go_simp; (try with_reducible rfl)))
   | refine tn hSG 2 rfl (by kernel_rfl) (fun _ _ _ h => h) (by rfl) hHeld ?_
  (try simp only [zq1, zq2, zq3, Act.put, zq4, zq5, zq6])
  first
   | (refine tk hSG 3 (v := ?_) rfl (by kernel_rfl) (fun _ _ _ h => h) (by rfl) ?_ hHeld ?_; rotate_left; focus (intro w' hSw; obtain ⟨r0, r1, r2, r3, r4, r5, r6, y1, y3, y4, y5, y6, v0, v1, v2, v3, v4⟩ := hmv.out _ hSw; go_simp; (try with_reducible rfl)))
   | refine tn hSG 3 rfl (by kernel_rfl) (fun _ _ _ h => h) (by rfl) hHeld ?_
  (try simp only [zq1, zq2, zq3, Act.put, zq4, zq5, zq6])
  first
   | (refine tk hSG 5 (v := ?_) rfl (by kernel_rfl) (fun _ _ _ h => h) (by rfl) ?_ hHeld ?_; rotate_left; focus (intro w' hSw; obtain ⟨r0, r1, r2, r3, r4, r5, r6, y1, y3, y4, y5, y6, v0, v1, v2, v3, v4⟩ := hmv.out _ hSw; go_simp; (try with_reducible rfl)))
   | refine tn hSG 5 rfl (by kernel_rfl) (fun _ _ _ h => h) (by rfl) hHeld ?_
  (try simp only [zq1, zq2, zq3, Act.put, zq4, zq5, zq6])
  first
   | (refine tk hSG 6 (v := ?_) rfl (by kernel_rfl) (fun _ _ _ h => h) (by rfl) ?_ hHeld ?_; rotate_left; focus (intro w' hSw; obtain ⟨r0, r1, r2, r3, r4, r5, r6, y1, y3, y4, y5, y6, v0, v1, v2, v3, v4⟩ := hmv.out _ hSw; go_simp; (try with_reducible rfl)))
   | refine tn hSG 6 rfl (by kernel_rfl) (fun _ _ _ h => h) (by rfl) hHeld ?_
  (try simp only [zq1, zq2, zq3, Act.put, zq4, zq5, zq6])
  first
   | (refine tk hSG 7 (v := ?_) rfl (by kernel_rfl) (fun _ _ _ h => h) (by rfl) ?_ hHeld ?_; rotate_left; focus (intro w' hSw; obtain ⟨r0, r1, r2, r3, r4, r5, r6, y1, y3, y4, y5, y6, v0, v1, v2, v3, v4⟩ := hmv.out _ hSw; go_simp; (try with_reducible rfl)))
   | refine tn hSG 7 rfl (by kernel_rfl) (fun _ _ _ h => h) (by rfl) hHeld ?_
  (try simp only [zq1, zq2, zq3, Act.put, zq4, zq5, zq6])
  first
   | (refine tk hSG 8 (v := ?_) rfl (by kernel_rfl) (fun _ _ _ h => h) (by rfl) ?_ hHeld ?_; rotate_left; focus (intro w' hSw; obtain ⟨r0, r1, r2, r3, r4, r5, r6, y1, y3, y4, y5, y6, v0, v1, v2, v3, v4⟩ := hmv.out _ hSw; go_simp; (try with_reducible rfl)))
   | refine tn hSG 8 rfl (by kernel_rfl) (fun _ _ _ h => h) (by rfl) hHeld ?_
  (try simp only [zq1, zq2, zq3, Act.put, zq4, zq5, zq6])
  refine tk hSG 9 (v := .pointer (some ⟨ga, oa + k * 5, none⟩)) rfl (by kernel_rfl) (fun _ _ _ h => h) (by rfl) ?_ hHeld ?_
  focus (intro w' hSw; obtain ⟨r0, r1, r2, r3, r4, r5, r6, y1, y3, y4, y5, y6, v0, v1, v2, v3, v4⟩ := hmv.out _ hSw; go_simp; (try (intro hq; omega)))
  (try simp only [zq1, zq2, zq3, Act.put, zq4, zq5, zq6])
  first
   | (refine tk hSG 10 (v := ?_) rfl (by kernel_rfl) (fun _ _ _ h => h) (by rfl) ?_ hHeld ?_; rotate_left; focus (intro w' hSw; obtain ⟨r0, r1, r2, r3, r4, r5, r6, y1, y3, y4, y5, y6, v0, v1, v2, v3, v4⟩ := hmv.out _ hSw; go_simp; (try with_reducible rfl)))
   | refine tn hSG 10 rfl (by kernel_rfl) (fun _ _ _ h => h) (by rfl) hHeld ?_
  (try simp only [zq1, zq2, zq3, Act.put, zq4, zq5, zq6])
  refine wpAnyG_ready (rs := [4, 11]) (by kernel_rfl) (by simp) (AllG.cons rfl (fun w4 hg K hK => ?_) (AllG.cons rfl (fun w4 hg K hK => ?_) AllG.nil))
  ·skip
   have hgS := hSG.out _ _ hHeld.out hg
   go_simp
   go_at_call 34
   refine (HV.out _ hgS).mono ?_
   rintro e w7 ⟨he, hb7⟩
   simp only at he
   subst he
   have hB7 := Lib.hid (U.Below.kpl (L := g) ((HW.out.tr hgS).tr hb7))
   go_wp2
   exact ⟨rfl, by rw [← hRH.out]; exact ⟨rfl, hB7.out⟩⟩
  ·skip
   have hgS := hSG.out _ _ hHeld.out hg
   go_simp
   refine hK.out _ _ (hgS.tr (grAlloc _ _)) (fun hHeld => ?_)
   clear hK K hg hgS
   refine wpAnyG_ready (rs := [4]) (by kernel_rfl) (by simp) (AllG.cons rfl (fun w5 hg K hK => ?_) AllG.nil)
   have hgS := hSG.out _ _ hHeld.out hg
   go_simp
   go_at_call 34
   refine (HV.out _ hgS).mono ?_
   rintro e w7 ⟨he, hb7⟩
   simp only at he
   subst he
   have hB7 := Lib.hid (U.Below.kpl (L := g) ((HW.out.tr hgS).tr hb7))
   go_wp2
   exact ⟨rfl, by rw [← hRH.out]; exact ⟨rfl, hB7.out⟩⟩
 ·skip
  refine wp_region_G (S := fun wq => Gr W2 wq) (by kernel_rfl) (grDrew _) (fun hHeld => ?_)
  have hSG : Hid (∀ wp wq : World, Gr W2 wp → Gr wp wq → Gr W2 wq) := Lib.hid (fun _ _ h k => h.tr k)
  have hmv := Lib.hid (fun (wq : World) (hq : Gr W2 wq) => And.intro (grCell hq r0) (And.intro (grCell hq r1) (And.intro (grCell hq r2) (And.intro (grCell hq r3) (And.intro (grCell hq r4) (And.intro (grCell hq r5) (And.intro (grCell hq r6) (And.intro (grCell hq y1) (And.intro (grCell hq y3) (And.intro (grCell hq y4) (And.intro (grCell hq y5) (And.intro (grCell hq y6) (And.intro (grCell hq v0) (And.intro (grCell hq v1) (And.intro (grCell hq v2) (And.intro (grCell hq v3) (grCell hq v4)))))))))))))))))
  first
   | (refine tk hSG 0 (v := ?_) rfl (by kernel_rfl) (fun _ _ _ h => h) (by rfl) ?_ hHeld ?_; rotate_left; focus (intro w' hSw; obtain ⟨r0, r1, r2, r3, r4, r5, r6, y1, y3, y4, y5, y6, v0, v1, v2, v3, v4⟩ := hmv.out _ hSw; go_simp; (try with_reducible rfl)))
   | refine tn hSG 0 rfl (by kernel_rfl) (fun _ _ _ h => h) (by rfl) hHeld ?_
  (try simp only [zq1, zq2, zq3, Act.put, zq4, zq5, zq6])
  first
   | (refine tk hSG 1 (v := ?_) rfl (by kernel_rfl) (fun _ _ _ h => h) (by rfl) ?_ hHeld ?_; rotate_left; focus (intro w' hSw; obtain ⟨r0, r1, r2, r3, r4, r5, r6, y1, y3, y4, y5, y6, v0, v1, v2, v3, v4⟩ := hmv.out _ hSw; go_simp; (try with_reducible rfl)))
   | refine tn hSG 1 rfl (by kernel_rfl) (fun _ _ _ h => h) (by rfl) hHeld ?_
  (try simp only [zq1, zq2, zq3, Act.put, zq4, zq5, zq6])
  first
   | (refine tk hSG 2 (v := ?_) rfl (by kernel_rfl) (fun _ _ _ h => h) (by rfl) ?_ hHeld ?_; rotate_left; focus (intro w' hSw; obtain ⟨r0, r1, r2, r3, r4, r5, r6, y1, y3, y4, y5, y6, v0, v1, v2, v3, v4⟩ := hmv.out _ hSw; go_simp; (try with_reducible rfl)))
   | refine tn hSG 2 rfl (by kernel_rfl) (fun _ _ _ h => h) (by rfl) hHeld ?_
  (try simp only [zq1, zq2, zq3, Act.put, zq4, zq5, zq6])
  first
   | (refine tk hSG 3 (v := ?_) rfl (by kernel_rfl) (fun _ _ _ h => h) (by rfl) ?_ hHeld ?_; rotate_left; focus (intro w' hSw; obtain ⟨r0, r1, r2, r3, r4, r5, r6, y1, y3, y4, y5, y6, v0, v1, v2, v3, v4⟩ := hmv.out _ hSw; go_simp; (try with_reducible rfl)))
   | refine tn hSG 3 rfl (by kernel_rfl) (fun _ _ _ h => h) (by rfl) hHeld ?_
  (try simp only [zq1, zq2, zq3, Act.put, zq4, zq5, zq6])
  refine tc hSG 4 (v := .int .i64 q) rfl (by kernel_rfl) (fun _ _ _ h => h) (by rfl) ?_ hHeld ?_
  focus (intro wz hSw K hK; obtain ⟨r0, r1, r2, r3, r4, r5, r6, y1, y3, y4, y5, y6, v0, v1, v2, v3, v4⟩ := hmv.out _ hSw; go_simp; go_at_call 34; refine (HV.out _ hSw).mono ?_; rintro e w2 ⟨he, hb2⟩; simp only at he; subst he; exact hK.out _ hb2)
  (try simp only [zq1, zq2, zq3, Act.put, zq4, zq5, zq6])
  first
   | (refine tk hSG 5 (v := ?_) rfl (by kernel_rfl) (fun _ _ _ h => h) (by rfl) ?_ hHeld ?_; rotate_left; focus (intro w' hSw; obtain ⟨r0, r1, r2, r3, r4, r5, r6, y1, y3, y4, y5, y6, v0, v1, v2, v3, v4⟩ := hmv.out _ hSw; go_simp; (try with_reducible rfl)))
   | refine tn hSG 5 rfl (by kernel_rfl) (fun _ _ _ h => h) (by rfl) hHeld ?_
  (try simp only [zq1, zq2, zq3, Act.put, zq4, zq5, zq6])
  first
   | (refine tk hSG 6 (v := ?_) rfl (by kernel_rfl) (fun _ _ _ h => h) (by rfl) ?_ hHeld ?_; rotate_left; focus (intro w' hSw; obtain ⟨r0, r1, r2, r3, r4, r5, r6, y1, y3, y4, y5, y6, v0, v1, v2, v3, v4⟩ := hmv.out _ hSw; go_simp; (try with_reducible rfl)))
   | refine tn hSG 6 rfl (by kernel_rfl) (fun _ _ _ h => h) (by rfl) hHeld ?_
  (try simp only [zq1, zq2, zq3, Act.put, zq4, zq5, zq6])
  first
   | (refine tk hSG 7 (v := ?_) rfl (by kernel_rfl) (fun _ _ _ h => h) (by rfl) ?_ hHeld ?_; rotate_left; focus (intro w' hSw; obtain ⟨r0, r1, r2, r3, r4, r5, r6, y1, y3, y4, y5, y6, v0, v1, v2, v3, v4⟩ := hmv.out _ hSw; go_simp; (try with_reducible rfl)))
   | refine tn hSG 7 rfl (by kernel_rfl) (fun _ _ _ h => h) (by rfl) hHeld ?_
  (try simp only [zq1, zq2, zq3, Act.put, zq4, zq5, zq6])
  first
   | (refine tk hSG 8 (v := ?_) rfl (by kernel_rfl) (fun _ _ _ h => h) (by rfl) ?_ hHeld ?_; rotate_left; focus (intro w' hSw; obtain ⟨r0, r1, r2, r3, r4, r5, r6, y1, y3, y4, y5, y6, v0, v1, v2, v3, v4⟩ := hmv.out _ hSw; go_simp; (try with_reducible rfl)))
   | refine tn hSG 8 rfl (by kernel_rfl) (fun _ _ _ h => h) (by rfl) hHeld ?_
  (try simp only [zq1, zq2, zq3, Act.put, zq4, zq5, zq6])
  refine tk hSG 9 (v := .pointer (some ⟨ga, oa + k * 5, none⟩)) rfl (by kernel_rfl) (fun _ _ _ h => h) (by rfl) ?_ hHeld ?_
  focus (intro w' hSw; obtain ⟨r0, r1, r2, r3, r4, r5, r6, y1, y3, y4, y5, y6, v0, v1, v2, v3, v4⟩ := hmv.out _ hSw; go_simp; (try (intro hq; omega)))
  (try simp only [zq1, zq2, zq3, Act.put, zq4, zq5, zq6])
  first
   | (refine tk hSG 10 (v := ?_) rfl (by kernel_rfl) (fun _ _ _ h => h) (by rfl) ?_ hHeld ?_; rotate_left; focus (intro w' hSw; obtain ⟨r0, r1, r2, r3, r4, r5, r6, y1, y3, y4, y5, y6, v0, v1, v2, v3, v4⟩ := hmv.out _ hSw; go_simp; (try with_reducible rfl)))
   | refine tn hSG 10 rfl (by kernel_rfl) (fun _ _ _ h => h) (by rfl) hHeld ?_
  (try simp only [zq1, zq2, zq3, Act.put, zq4, zq5, zq6])
  refine wpAnyG_ready (rs := [11]) (by kernel_rfl) (by simp) (AllG.cons rfl (fun w4 hg K hK => ?_) AllG.nil)
  have hgS := hSG.out _ _ hHeld.out hg
  go_simp
  refine hK.out _ _ (hgS.tr (grAlloc _ _)) (fun hHeld => ?_)
  have hs4 := hgS.size
  have HN := Lib.hid (newBlk w4 (.cells #[.string ⟨#[]⟩, .int .i64 0, .int .i64 0, .int .i64 0, .int .i64 0] 54) _ rfl)
  clear hK K hg hgS
  first
   | (refine tk hSG 12 (v := ?_) rfl (by kernel_rfl) (fun _ _ _ h => h) (by rfl) ?_ hHeld ?_; rotate_left; focus (intro w' hSw; obtain ⟨r0, r1, r2, r3, r4, r5, r6, y1, y3, y4, y5, y6, v0, v1, v2, v3, v4⟩ := hmv.out _ hSw; go_simp; (try with_reducible rfl)))
   | refine tn hSG 12 rfl (by kernel_rfl) (fun _ _ _ h => h) (by rfl) hHeld ?_
  (try simp only [zq1, zq2, zq3, Act.put, zq4, zq5, zq6])
  refine wpAnyG_ready (rs := [13]) (by kernel_rfl) (by simp) (AllG.cons rfl (fun w5 hg K hK => ?_) AllG.nil)
  have hgS := hSG.out _ _ hHeld.out hg
  have HN5 := Lib.hid (grBlk hg HN.out)
  obtain ⟨⟨z0, z1, z2, z3, z4⟩, f0, f1, f2, f3, f4⟩ := C.cells5C HN5.out
  go_simp
  refine hK.out _ _ (C.belowSet (C.belowSet (C.belowSet (C.belowSet (C.belowSet hgS hs4) hs4) hs4) hs4) hs4) (fun hHeld => ?_)
  clear hK K hg hgS
  have HN6 := Lib.hid (C.res5C (x0 := .string u.x) (x1 := .int .i64 u.u) (x2 := .int .i64 u.lo) (x3 := .int .i64 u.hi) (x4 := .int .i64 u.i) HN5.out)
  clear z0 z1 z2 z3 z4 f0 f1 f2 f3 f4 HN HN5
  refine wpAnyG_done (by kernel_rfl) (fun w8 hg => ?_) _
  have hg8 := hSG.out _ _ hHeld.out hg
  have HN8 := Lib.hid (grBlk hg HN6.out)
  obtain ⟨⟨z0, z1, z2, z3, z4⟩, -⟩ := C.cells5C HN8.out
  have HR8 := Lib.hid (grBlk hg8 HR.out)
  have HX8 := Lib.hid (grBlk hg8 HX.out)
  have HO8 := Lib.hid (HO.out.gr hg8)
  have HB8 := Lib.hid (U.Below.kpl (L := g) (HW.out.tr hg8))
  clear hg hg8 hHeld hSG HN6 r0 r1 r2 r3 r4 r5 r6 y0 y1 y2 y3 y4 y5 y6 y7 y8 y9 ya yb yc v0 v1 v2 v3 v4 HV
  obtain ⟨r0, r1, r2, r3, r4, r5, r6⟩ := cells7 HR8.out
  obtain ⟨y0, y1, y2, y3, y4, y5, y6, y7, y8, y9, ya, yb, yc⟩ := U.cells13 HX8.out
  rw [hkH2.out] at y1
  have HBt := Lib.hid (fun wx => between_any q u.lo u.hi wx)
  by_cases hin : u.lo ≤ q ∧ q ≤ u.hi
  ·have hb : btw q u.lo u.hi = true := btw_iff.2 hin
   rw [hb] at HBt
   obtain ⟨c0, c1⟩ := HO8.out.at k _ hstH.out
   have hP := Lib.hid (show RunP W0 w g cap R (.returned (.tuple #[])) (w8.setCell ⟨g, k, none⟩ (.int .i64 q)) from by
    rw [← hRH.out]
    simp only
    rw [if_pos hin]
    show (_ ∧ _) ∧ _
    exact ⟨⟨rfl, HO8.out.set k q⟩, U.KpL.set HB8.out _⟩)
   have hls := hslH.out
   have hks := hkH.out
   have hgl := HO8.out.lt
   clear hb hin
   have hsl2 : k < st.length := by omega
   clear hls
   go_wp2_with (first
    | (go_at_call 45; refine (HBt.out _).mono ?_; rintro e w5 ⟨he, hw⟩; rw [hw]; clear hw; subst he)
    | (go_at_call 58; refine (need_any true _ _).mono ?_; rintro e w5 ⟨he, hw⟩; rw [hw]; clear hw; simp only [if_pos] at he; subst he))
   exact ⟨rfl, .tuple #[], by simp [results, Tryz.results55, go_sem], hP.out⟩
  ·have hb : btw q u.lo u.hi = false := by
    rcases h : btw q u.lo u.hi with _ | _
    ·rfl
    ·exact absurd (btw_iff.1 h) hin
   rw [hb] at HBt
   have hP := Lib.hid (show RunP W0 w g cap R (epanic 15) w8 from by
    rw [← hRH.out]
    simp only
    rw [if_neg hin]
    show _ ∧ _
    exact ⟨rfl, HB8.out⟩)
   clear hb hin
   go_wp2_with (first
    | (go_at_call 45; refine (HBt.out _).mono ?_; rintro e w5 ⟨he, hw⟩; rw [hw]; clear hw; subst he)
    | (go_at_call 58; refine (need_any false _ _).mono ?_; rintro e w5 ⟨he, hw⟩; rw [hw]; clear hw; simp only [Bool.false_eq_true, if_neg, not_false_eq_true] at he; subst he))
   exact ⟨rfl, hP.out⟩
def ChP (r : Except Int Bool) (th el : Value) (w : World) (e : Ending) (w' : World) : Prop :=
 (match r with
  | .ok b => e = .returned (if b = true then th else el)
  | .error er => e = epanic er) ∧ Below w.heap.size w w'
def chE (ins st : List Int) (x : St) : Except Int Bool := match mvE st ins x.a with
 | .error e => .error e
 | .ok a => match mvE st ins x.b with
  | .error e => .error e
  | .ok b => .ok (rlB a x.rel b)
theorem chosen_any (w : World) (st : List Int) (g cap : Nat) (hS : IntsR w st (some ⟨g, 0, none⟩)) (VA : Option Addr) (vn vm : Nat) (i0 i1 i2 i3 : Int) (mb : Nat) (hM : OpsR w mb) (x : St) (A : Option Addr) (c : Nat) (B : Option Addr) (d : Nat) (T : Option Addr) (m : Nat) (E : Option Addr) (n : Nat)
  (hKa : KidsE w x.a.kids A) (hKb : KidsE w x.b.kids B) (hza : x.a.size ≤ 60) (hzb : x.b.size ≤ 60) (hsl : st.length ≤ 1000) :
  Calls Tryz.prog 56 #[.agg (ruA VA vn vm g st.length cap i0 i1 i2 i3 mb), U.sv x A c B d T m E n] w (ChP (chE [i0, i1, i2, i3] st x) (.slice T x.th.length m) (.slice E x.el.length n) w) := by
 obtain ⟨W2, hW2⟩ : ∃ W2, W2 = (w.alloc (.cells (ruA VA vn vm g st.length cap i0 i1 i2 i3 mb) 61)).alloc (.cells (sArr x A c B d T m E n) 65) := ⟨_, rfl⟩
 have hg2 : Gr w W2 := by rw [hW2]; exact bAl2 _ _
 have HR : Hid (W2.heap[w.heap.size]? = some (.cells (ruA VA vn vm g st.length cap i0 i1 i2 i3 mb) 61 (0, 0))) := Lib.hid (by rw [hW2]; exact (Below.heap_alloc _ _ _ (by simp)).trans (newBlk _ _ _ rfl))
 have HX : Hid (W2.heap[w.heap.size + 1]? = some (.cells (sArr x A c B d T m E n) 65 (0, 0))) := Lib.hid (by rw [hW2]; exact newBlk _ _ _ (by simp))
 have HB := Lib.hid hg2
 obtain ⟨r0, r1, r2, r3, r4, r5, r6⟩ := cells7 HR.out
 obtain ⟨y0, y1, y2, y3, y4, y5, y6, y7, y8, y9, ya, yb, yc⟩ := U.cells13 HX.out
 have HVa := Lib.hid (fun wx (hgx : Gr w wx) => value_any st i0 i1 i2 i3 (by omega) x.a wx A (some ⟨g, 0, none⟩) c cap mb (hS.gr hgx) (hM.gr hgx) (hKa.below hgx) hza)
 have HVb := Lib.hid (fun wx (hgx : Gr w wx) => value_any st i0 i1 i2 i3 (by omega) x.b wx B (some ⟨g, 0, none⟩) d cap mb (hS.gr hgx) (hM.gr hgx) (hKb.below hgx) hzb)
 obtain ⟨R, hRR⟩ : ∃ R, chE [i0, i1, i2, i3] st x = R := ⟨_, rfl⟩
 rw [hRR]
 unfold chE at hRR
 generalize mvE st [i0, i1, i2, i3] x.a = ra at *
 generalize mvE st [i0, i1, i2, i3] x.b = rb at *
 have hRH := Lib.hid hRR
 clear hRR hS hM hKa hKb hza hzb hsl hg2
 go_enter Tryz.func56, Tryz.ntmps56
 go_upto_region 1 with fail
 rw [← hW2]
 clear hW2
 rcases ra with er | qa
 ·go_wp2_with (go_at_call 34; refine (HVa.out _ HB.out).mono ?_; rintro e w7 ⟨he, hb7⟩; simp only at he; subst he; have HB := Lib.hid (HB.out.tr hb7))
  exact ⟨rfl, by rw [← hRH.out]; exact ⟨rfl, HB.out⟩⟩
 ·go_upto_region 2 with (go_at_call 34; refine (HVa.out _ HB.out).mono ?_; rintro e w7 ⟨he, hb7⟩; simp only at he; subst he; have HR := Lib.hid ((hb7.block _ (blkLt HR.out)).trans HR.out); have HX := Lib.hid ((hb7.block _ (blkLt HX.out)).trans HX.out); have HB := Lib.hid (HB.out.tr hb7); clear hb7 r0 r1 r2 r3 r4 r5 r6 y0 y1 y2 y3 y4 y5 y6 y7 y8 y9 ya yb yc; obtain ⟨r0, r1, r2, r3, r4, r5, r6⟩ := cells7 HR.out; obtain ⟨y0, y1, y2, y3, y4, y5, y6, y7, y8, y9, ya, yb, yc⟩ := U.cells13 HX.out)
  rcases rb with er | qb
  ·go_wp2_with (go_at_call 34; refine (HVb.out _ HB.out).mono ?_; rintro e w8 ⟨he, hb8⟩; simp only at he; subst he; have HB := Lib.hid (HB.out.tr hb8))
   exact ⟨rfl, by rw [← hRH.out]; exact ⟨rfl, HB.out⟩⟩
  ·go_upto_region 3 with (go_at_call 34; refine (HVb.out _ HB.out).mono ?_; rintro e w8 ⟨he, hb8⟩; simp only at he; subst he; have HR := Lib.hid ((hb8.block _ (blkLt HR.out)).trans HR.out); have HX := Lib.hid ((hb8.block _ (blkLt HX.out)).trans HX.out); have HB := Lib.hid (HB.out.tr hb8); clear hb8 r0 r1 r2 r3 r4 r5 r6 y0 y1 y2 y3 y4 y5 y6 y7 y8 y9 ya yb yc; obtain ⟨r0, r1, r2, r3, r4, r5, r6⟩ := cells7 HR.out; obtain ⟨y0, y1, y2, y3, y4, y5, y6, y7, y8, y9, ya, yb, yc⟩ := U.cells13 HX.out)
   have HRl := Lib.hid (fun wx => areRelated_any qa x.rel qb wx)
   rcases hrl : rlB qa x.rel qb with _ | _
   ·rw [hrl] at HRl
    have hP := Lib.hid (show ChP R (.slice T x.th.length m) (.slice E x.el.length n) w (.returned (.slice E x.el.length n)) w8 from by
     rw [← hRH.out]
     simp only [hrl]
     exact ⟨rfl, HB.out⟩)
    clear hrl
    go_wp2_with (go_at_call 75; refine (HRl.out _).mono ?_; rintro e w5 ⟨he, hw⟩; rw [hw]; clear hw; subst he)
    exact bodyPost_ret (v := .slice E x.el.length n) (by simp [results, Tryz.results56, go_sem]) rfl hP.out
   ·rw [hrl] at HRl
    have hP := Lib.hid (show ChP R (.slice T x.th.length m) (.slice E x.el.length n) w (.returned (.slice T x.th.length m)) w8 from by
     rw [← hRH.out]
     simp only [hrl]
     exact ⟨rfl, HB.out⟩)
    clear hrl
    go_wp2_with (go_at_call 75; refine (HRl.out _).mono ?_; rintro e w5 ⟨he, hw⟩; rw [hw]; clear hw; subst he)
    exact bodyPost_ret (v := .slice T x.th.length m) (by simp [results, Tryz.results56, go_sem]) rfl hP.out
end M
end Go.Proofs.YtdlebaiamdbneaaGreatDoor
