/- Package maxmin: whether no flow on a link has a greater rate; whether a link is full. -/
import Derived.Test.YtbjhdfakocfapaaMsQ
namespace Go.Proofs.Ytbjhdfakocfapaa
open Go.RowKit
set_option linter.unusedVariables false
set_option linter.unusedSimpArgs false
attribute [local go_sem] Oper.semAt_some
def grM (n : Net) (xs : List Q) (i : Nat) (l : Int) : Bool := (onL n.f l).all (fun j => !decide (0 < (cmpM (rat xs j) (rat xs i)).1))
theorem gr_false {n : Net} {xs : List Q} {i : Nat} {l : Int} {k : Nat} (hk : k < (onL n.f l).length) (h : decide (0 < (cmpM (rat xs (onL n.f l)[k]) (rat xs i)).1) = true) : grM n xs i l = false := by
  unfold grM
  rw [List.all_eq_false]
  exact ⟨_, List.getElem_mem hk, by rw [h]; decide⟩
def grK (n : Net) (xs : List Q) (i : Nat) (l : Int) (k : Nat) : Bool := ((onL n.f l).take k).all (fun j => !decide (0 < (cmpM (rat xs j) (rat xs i)).1))
theorem grK_succ {n : Net} {xs : List Q} {i : Nat} {l : Int} {k : Nat} (hk : k < (onL n.f l).length) (h0 : grK n xs i l k = true) (h : decide (0 < (cmpM (rat xs (onL n.f l)[k]) (rat xs i)).1) = false) : grK n xs i l (k + 1) = true := by
  unfold grK at *
  rw [List.take_add_one, List.getElem?_eq_getElem hk, List.all_append, h0]
  simp [h]
set_option maxHeartbeats 8000000 in
set_option maxRecDepth 100000 in
theorem isGreatest_any (n : Net) (a : NetA) (xs : List Q) (XA : Option Addr) (xm : Nat) (i : Nat) (l : Int) (hi : i < n.f.length) (w : World) (hA : Alc w n a xs XA) :
    Calls Try.prog 87 #[alv n a xs XA xm, .int .i64 (i : Int), .int .i64 l] w (VV (.bool (grM n xs i l)) w) := by
  obtain ⟨W1, hW1⟩ : ∃ W1, W1 = ((w.alloc (alB n a xs XA xm)).alloc (intB (i : Int))).alloc (tBo false) := ⟨_, rfl⟩
  have G1 : Gr w W1 := by rw [hW1]; exact ((grAlloc _ _).tr (grAlloc _ _)).tr (grAlloc _ _)
  have A1 : W1.heap[w.heap.size]? = some (alB n a xs XA xm) := by rw [hW1]; exact mvAlloc (mvAlloc (newBlk _ _ _ rfl))
  have B1 : W1.heap[w.heap.size + 1]? = some (intB (i : Int)) := by rw [hW1]; exact mvAlloc (newBlk _ _ _ (by simp))
  have C1 : W1.heap[w.heap.size + 2]? = some (tBo false) := by rw [hW1]; exact newBlk _ _ _ (by simp)
  have z1 : W1.heap.size = w.heap.size + 3 := by rw [hW1]; simp
  obtain ⟨L, hL⟩ : ∃ L, onL n.f l = L := ⟨_, rfl⟩
  obtain ⟨S, hS⟩ : ∃ S : Nat → Bool, (fun k => grK n xs i l k) = S := ⟨_, rfl⟩
  have hS0 : S 0 = true := by rw [← hS]; rfl
  have hSs : ∀ k (h : k < L.length), S k = true → decide (0 < (cmpM (rat xs L[k]) (rat xs i)).1) = false → S (k + 1) = true := by
    subst hL; rw [← hS]; intro k h h0 h1; exact grK_succ h h0 h1
  have hSf : ∀ k (h : k < L.length), decide (0 < (cmpM (rat xs L[k]) (rat xs i)).1) = true → grM n xs i l = false := by
    subst hL; intro k h h1; exact gr_false h h1
  have hSl : S L.length = grM n xs i l := by rw [← hS, ← hL]; show grK n xs i l (onL n.f l).length = _; unfold grK grM; rw [List.take_length]
  have hlt : ∀ j ∈ L, j < xs.length := fun i hi => by rw [← hL] at hi; rw [hA.lx]; exact (sel_mem.1 hi).1
  generalize grM n xs i l = G at *
  have hix : i < xs.length := by rw [hA.lx]; exact hi
  have HT := Lib.hid (fun bn => thr_iter n a l bn (bn + 1) hA.hN hA.hrow)
  rw [hL] at HT
  have HA := Lib.hid hA
  have HB := Lib.hid (And.intro A1 (And.intro B1 C1))
  have HG := Lib.hid G1
  have HS := Lib.hid (And.intro hS0 (And.intro hSs (And.intro hSf (And.intro hSl hlt))))
  have Z1 := Lib.hid z1
  obtain ⟨a0, a1, a2, a3⟩ := cells4 A1
  clear hA A1 B1 C1 G1 hS0 hSs hSf hSl hlt hS hL z1 hi
  refine (callsIn_wide (n := 0)).1 ?_
  refine callsIn_of_wp_marks Try.func87 rfl trivial ?_ rfl
  simp only [Try.ntmps87, List.size_toArray, List.length_cons, List.length_nil, Nat.reduceAdd, Nat.reduceSub, Array.replicate_succ, Array.replicate_zero, List.push_toArray, List.append_toArray, List.nil_append, List.cons_append]
  refine wpIn_wide.2 (np ?_)
  go_upto_region 1 with fail
  have e1 : w.heap.size + 1 = (w.alloc (alB n a xs XA xm)).heap.size := by simp
  rw [← hW1]
  clear hW1 e1
  go_wp2_with (go_at_call 84; refine (through_any n a _ _).mono ?_; rintro e w3 ⟨rfl, hw⟩; rw [hw]; clear hw)
  obtain ⟨p6, hp6⟩ : ∃ p6, W1.heap.size = p6 := ⟨_, rfl⟩
  obtain ⟨W, hW⟩ : ∃ W, (W1.alloc (netB n a)).alloc (intB l) = W := ⟨_, rfl⟩
  have gW : Gr W1 W := by rw [← hW]; exact (grAlloc _ _).tr (grAlloc _ _)
  have N6 : W.heap[p6]? = some (netB n a) := by rw [← hW, ← hp6]; exact mvAlloc (newBlk _ _ _ rfl)
  have L6 : W.heap[p6 + 1]? = some (intB l) := by rw [← hW, ← hp6]; exact newBlk _ _ _ (by simp)
  have z6 : W1.heap.size ≤ p6 ∧ p6 + 2 ≤ W.heap.size := by rw [← hW, ← hp6]; exact ⟨Nat.le_refl _, by simp⟩
  (try simp only [World.size_alloc, hp6])
  rw [hW]
  clear hW a0 a1 a2 a3
  have HW := Lib.hid (And.intro gW (And.intro N6 (And.intro L6 z6)))
  have HTb := Lib.hid (HT.out p6)
  clear gW N6 L6 z6 hp6 HT
  refine' range_law (gf := 102) (lb := #[ptr p6, ptr (p6 + 1)]) rfl (enters_of Try.func102 (by kernel_rfl) rfl) HTb.out (fun _ => rfl)
    (fun k V => Below w.heap.size w V ∧ V.heap[w.heap.size]? = some (alB n a xs XA xm) ∧ V.heap[w.heap.size + 1]? = some (intB (i : Int)) ∧ V.heap[w.heap.size + 2]? = some (tBo false) ∧ V.heap[p6]? = some (netB n a) ∧ V.heap[p6 + 1]? = some (intB l) ∧ S k = true ∧ W.heap.size ≤ V.heap.size)
    (fun c V => c = .ret ∧ G = false ∧ Below w.heap.size w V ∧ V.heap[w.heap.size + 2]? = some (tBo false)) ?hJ ?hJx ?hRd ?h0 _ ?assign ?body ?done ?stop
  case hJ =>
    rintro k A B ⟨h1, h2, h3, h4, h5, h6, h7, h9⟩ hb
    have := HW.out.2.2.2
    have := Z1.out
    exact ⟨h1.trans (hb.mono (by omega)), (hb.block _ (by omega)).trans h2, (hb.block _ (by omega)).trans h3, (hb.block _ (by omega)).trans h4, (hb.block _ (by omega)).trans h5, (hb.block _ (by omega)).trans h6, h7, Nat.le_trans h9 hb.size⟩
  case hJx =>
    rintro c A B ⟨h0, h1, h2, h4⟩ hb
    have := HW.out.2.2.2
    have := Z1.out
    exact ⟨h0, h1, h2.trans (hb.mono (by omega)), (hb.block _ (by omega)).trans h4⟩
  case hRd =>
    rintro k A hk ⟨h1, h2, h3, h4, h5, h6, h7, h9⟩
    exact ⟨h5, h6, (HA.out.gr h1).net.2.1⟩
  case h0 =>
    obtain ⟨g1, g3, g4, g5⟩ := HW.out
    exact ⟨HG.out.tr g1, grBlk g1 HB.out.1, grBlk g1 HB.out.2.1, grBlk g1 HB.out.2.2, g3, g4, HS.out.1, Nat.le_refl _⟩
  case assign =>
    intro lx x V K hK
    gi_wp2
    exact hK
  case body =>
    rintro l1 k hk V hsz ⟨h1, h2, h3, h4, h5, h6, h7, h9⟩
    have hin := HS.out.2.2.2.2 _ (List.getElem_mem hk)
    have hs1 := HS.out.2.1 k hk h7
    have hs2 := HS.out.2.2.1 k hk
    generalize L[k] = j at *
    have hAV := HA.out.gr h1
    obtain ⟨a0, a1, a2, a3⟩ := cells4 h2
    obtain ⟨b0, b1⟩ := cells1 h3
    obtain ⟨g, o, hXA, hcs⟩ := hAV.qs.addr (by omega)
    obtain ⟨q0, q1⟩ := hcs j _ (rat_get hin)
    obtain ⟨q2, q3⟩ := hcs i _ (rat_get hix)
    rw [hXA] at a3
    generalize rat xs j = rj at *
    generalize rat xs i = ri at *
    have HM := Lib.hid (fun wx => isMore_any rj ri wx)
    have HV := Lib.hid (And.intro h1 (And.intro h2 (And.intro h3 (And.intro h4 (And.intro h5 (And.intro h6 (And.intro h9 hsz)))))))
    generalize decide (0 < (cmpM rj ri).1) = b at *
    have HE := Lib.hid (And.intro hs1 hs2)
    clear h1 h2 h3 h5 h6 h7 h9 hAV hcs hXA a0 a1 a2 hsz hs1 hs2
    obtain ⟨t0, t1⟩ := cells1 h4
    clear h4
    gi_wp2_with fail
    refine wpIn_region_G (S := fun wq => Gr V wq) (by kernel_rfl) (by kernel_rfl) (by rintro ⟨_, _, h⟩; exact h) (grDrew _) (fun hHeld => ?_)
    have hSG : Hid (∀ wp wq : World, Gr V wp → Gr wp wq → Gr V wq) := Lib.hid (fun _ _ h k => h.tr k)
    have hmv := Lib.hid (fun (wq : World) (hq : Gr V wq) => And.intro (grCell hq a3) (And.intro (grCell hq b0) (And.intro (grCell hq q0) (And.intro (grCell hq q1) (And.intro (grCell hq q2) (grCell hq q3))))))
    first
     | (refine tk hSG 0 (v := ?_) rfl (by kernel_rfl) (fun _ _ _ h => h) (by rfl) ?_ hHeld ?_; rotate_left; focus (intro w' hSw; obtain ⟨a3, b0, q0, q1, q2, q3⟩ := hmv.out _ hSw; go_simp; (try with_reducible rfl)))
     | refine tn hSG 0 rfl (by kernel_rfl) (fun _ _ _ h => h) (by rfl) hHeld ?_
    (try simp only [zq1, zq2, zq3, Act.put, zq4, zq5, zq6])
    first
     | (refine tk hSG 1 (v := ?_) rfl (by kernel_rfl) (fun _ _ _ h => h) (by rfl) ?_ hHeld ?_; rotate_left; focus (intro w' hSw; obtain ⟨a3, b0, q0, q1, q2, q3⟩ := hmv.out _ hSw; go_simp; (try with_reducible rfl)))
     | refine tn hSG 1 rfl (by kernel_rfl) (fun _ _ _ h => h) (by rfl) hHeld ?_
    (try simp only [zq1, zq2, zq3, Act.put, zq4, zq5, zq6])
    first
     | (refine tk hSG 2 (v := ?_) rfl (by kernel_rfl) (fun _ _ _ h => h) (by rfl) ?_ hHeld ?_; rotate_left; focus (intro w' hSw; obtain ⟨a3, b0, q0, q1, q2, q3⟩ := hmv.out _ hSw; go_simp; (try with_reducible rfl)))
     | refine tn hSG 2 rfl (by kernel_rfl) (fun _ _ _ h => h) (by rfl) hHeld ?_
    (try simp only [zq1, zq2, zq3, Act.put, zq4, zq5, zq6])
    refine tk hSG 3 (v := .pointer (some ⟨g, o + j * 2, none⟩)) rfl (by kernel_rfl) (fun _ _ _ h => h) (by rfl) ?_ hHeld ?_
    focus (intro w' hSw; obtain ⟨a3, b0, q0, q1, q2, q3⟩ := hmv.out _ hSw; go_simp; (try (intro hq; omega)))
    (try simp only [zq1, zq2, zq3, Act.put, zq4, zq5, zq6])
    first
     | (refine tk hSG 4 (v := ?_) rfl (by kernel_rfl) (fun _ _ _ h => h) (by rfl) ?_ hHeld ?_; rotate_left; focus (intro w' hSw; obtain ⟨a3, b0, q0, q1, q2, q3⟩ := hmv.out _ hSw; go_simp; (try with_reducible rfl)))
     | refine tn hSG 4 rfl (by kernel_rfl) (fun _ _ _ h => h) (by rfl) hHeld ?_
    (try simp only [zq1, zq2, zq3, Act.put, zq4, zq5, zq6])
    first
     | (refine tk hSG 5 (v := ?_) rfl (by kernel_rfl) (fun _ _ _ h => h) (by rfl) ?_ hHeld ?_; rotate_left; focus (intro w' hSw; obtain ⟨a3, b0, q0, q1, q2, q3⟩ := hmv.out _ hSw; go_simp; (try with_reducible rfl)))
     | refine tn hSG 5 rfl (by kernel_rfl) (fun _ _ _ h => h) (by rfl) hHeld ?_
    (try simp only [zq1, zq2, zq3, Act.put, zq4, zq5, zq6])
    first
     | (refine tk hSG 6 (v := ?_) rfl (by kernel_rfl) (fun _ _ _ h => h) (by rfl) ?_ hHeld ?_; rotate_left; focus (intro w' hSw; obtain ⟨a3, b0, q0, q1, q2, q3⟩ := hmv.out _ hSw; go_simp; (try with_reducible rfl)))
     | refine tn hSG 6 rfl (by kernel_rfl) (fun _ _ _ h => h) (by rfl) hHeld ?_
    (try simp only [zq1, zq2, zq3, Act.put, zq4, zq5, zq6])
    first
     | (refine tk hSG 7 (v := ?_) rfl (by kernel_rfl) (fun _ _ _ h => h) (by rfl) ?_ hHeld ?_; rotate_left; focus (intro w' hSw; obtain ⟨a3, b0, q0, q1, q2, q3⟩ := hmv.out _ hSw; go_simp; (try with_reducible rfl)))
     | refine tn hSG 7 rfl (by kernel_rfl) (fun _ _ _ h => h) (by rfl) hHeld ?_
    (try simp only [zq1, zq2, zq3, Act.put, zq4, zq5, zq6])
    refine tk hSG 8 (v := .pointer (some ⟨g, o + i * 2, none⟩)) rfl (by kernel_rfl) (fun _ _ _ h => h) (by rfl) ?_ hHeld ?_
    focus (intro w' hSw; obtain ⟨a3, b0, q0, q1, q2, q3⟩ := hmv.out _ hSw; go_simp; (try (intro hq; omega)))
    (try simp only [zq1, zq2, zq3, Act.put, zq4, zq5, zq6])
    first
     | (refine tk hSG 9 (v := ?_) rfl (by kernel_rfl) (fun _ _ _ h => h) (by rfl) ?_ hHeld ?_; rotate_left; focus (intro w' hSw; obtain ⟨a3, b0, q0, q1, q2, q3⟩ := hmv.out _ hSw; go_simp; (try with_reducible rfl)))
     | refine tn hSG 9 rfl (by kernel_rfl) (fun _ _ _ h => h) (by rfl) hHeld ?_
    (try simp only [zq1, zq2, zq3, Act.put, zq4, zq5, zq6])
    refine tc hSG 10 (v := .bool b) rfl (by kernel_rfl) (fun _ _ _ h => h) (by rfl) ?_ hHeld ?_
    focus (intro wz hSw K hK; obtain ⟨a3, b0, q0, q1, q2, q3⟩ := hmv.out _ hSw; go_simp; go_at_call 51; refine (HM.out _).mono ?_; rintro e w2 ⟨rfl, hb2⟩; first | exact hK.out _ hb2 | (have h9 := hK.out _ hb2; (try simp only [zq1, zq2, zq3, Act.put, zq4, zq5, zq6] at h9 ⊢); exact h9) | (have h9 := hK.out _ hb2; go_simp; exact h9))
    (try simp only [zq1, zq2, zq3, Act.put, zq4, zq5, zq6])
    refine wpAnyG_done (by kernel_rfl) (fun w9 hgD => ?_) _
    have hg9 : Gr V w9 := (grDrew V).tr hgD
    clear hgD hSG hHeld
    have hg9 := Lib.hid hg9
    have R9 := grBlk hg9.out HV.out.2.2.2.1
    obtain ⟨d0, d1⟩ := cells1 R9
    clear HM hmv a3 b0 q0 q1 q2 q3
    cases b with
    | false =>
      gi_wp2
      obtain ⟨h1, h2, h3, h4, h5, h6, h9, hsz⟩ := HV.out
      have hs9 := hg9.out.size
      exact ⟨belUp hg9.out _, h1.trans (hg9.out.mono h1.size), grBlk hg9.out h2, grBlk hg9.out h3, grBlk hg9.out h4, grBlk hg9.out h5, grBlk hg9.out h6, HE.out.1 trivial, by omega⟩
    | true =>
      gi_wp2
      obtain ⟨h1, h2, h3, h4, h5, h6, h9, hsz⟩ := HV.out
      have := HW.out.2.2.2
      have := Z1.out
      have hs9 := hg9.out.size
      exact ⟨up1 (belUp hg9.out _) (by omega), rfl, HE.out.2 trivial, bel1 (h1.trans (hg9.out.mono h1.size)) (by omega), inSet R9⟩
  case done =>
    rintro V hsz ⟨h1, h2, h3, h4, h5, h6, h7, h9⟩ hD
    have hG : G = true := by rw [← HS.out.2.2.2.1]; exact h7
    subst hG
    obtain ⟨t0, t1⟩ := cells1 h4
    have HV := Lib.hid (And.intro h1 (And.intro h4 hD))
    have H9 := Lib.hid (And.intro h9 hsz)
    clear h1 h2 h3 h4 h5 h6 h7 h9 hD hsz
    go_wp2
    obtain ⟨h1, h4, hD⟩ := HV.out
    have := HW.out.2.2.2
    have := Z1.out
    have := H9.out
    have D9 := (Below.heap_setCell _ ⟨w.heap.size + 2, 0, none⟩ (.bool true) W.heap.size (by show W.heap.size ≠ w.heap.size + 2; omega)).trans hD
    have T9 : ((V.setCell ⟨w.heap.size + 2, 0, none⟩ (.bool true)).putObj W.heap.size (.deferred none)).heap[w.heap.size + 2]? = some (tBo true) := by
      rw [World.putObj_heap_other (by omega)]; exact inSet h4
    exact ret_ofc' (v := .bool true) D9 (by simp [results, Try.results87, go_sem, (cells1 T9).1]) ⟨rfl, (bel1 h1 (by omega)).trans (belPut _ (by omega))⟩
  case stop =>
    rintro c V hsz ⟨rfl, hG, h2, h4⟩ hD
    refine wpIn_ret ?_
    subst hG
    have := HW.out.2.2.2
    have := Z1.out
    have T9 : (V.putObj W.heap.size (.deferred none)).heap[w.heap.size + 2]? = some (tBo false) := by rw [World.putObj_heap_other (by omega)]; exact h4
    exact ret_ofc' (v := .bool false) hD (by simp [results, Try.results87, go_sem, (cells1 T9).1]) ⟨rfl, h2.trans (belPut _ (by omega))⟩
end Go.Proofs.Ytbjhdfakocfapaa
