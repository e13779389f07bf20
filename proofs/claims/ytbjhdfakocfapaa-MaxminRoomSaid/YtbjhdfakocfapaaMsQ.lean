/- Package maxmin: the load of a link; whether no flow has a greater rate. -/
import Derived.Test.YtbjhdfakocfapaaMsF
import Derived.Test.YtbjhdfakocfapaaMsL
namespace Go.Proofs.Ytbjhdfakocfapaa
open Go.RowKit
set_option linter.unusedVariables false
set_option linter.unusedSimpArgs false
attribute [local go_sem] Oper.semAt_some
/-- a network with rates, in memory -/
structure Alc (w : World) (n : Net) (a : NetA) (xs : List Q) (XA : Option Addr) : Prop where
  net : NetR w n a
  qs : QsR w xs XA
  lx : xs.length = n.f.length
  hN : n.f.length ≤ 1000000
  hC : n.c.length ≤ 1000000
  hNL : n.l.length = n.f.length
  hrow : ∀ r ∈ n.f, r.length ≤ 1000000
theorem Alc.gr {w w' : World} {n : Net} {a : NetA} {xs : List Q} {XA : Option Addr} (h : Alc w n a xs XA) (hg : Gr w w') : Alc w' n a xs XA := ⟨h.net.gr hg, h.qs.gr hg, h.lx, h.hN, h.hC, h.hNL, h.hrow⟩
abbrev alv (n : Net) (a : NetA) (xs : List Q) (XA : Option Addr) (xm : Nat) : Value := .agg #[.slice a.ca n.c.length a.cm, .slice a.fa n.f.length a.fm, .slice a.la n.l.length a.lm, .slice XA xs.length xm]
abbrev alB (n : Net) (a : NetA) (xs : List Q) (XA : Option Addr) (xm : Nat) : Obj := .cells #[.slice a.ca n.c.length a.cm, .slice a.fa n.f.length a.fm, .slice a.la n.l.length a.lm, .slice XA xs.length xm] 59 (0, 0)
abbrev tBo (b : Bool) : Obj := .cells #[.bool b] 4 (0, 0)
theorem cells4 {w : World} {b : Nat} {v0 v1 v2 v3 : Value} {T : TypeId} (h : w.heap[b]? = some (.cells #[v0, v1, v2, v3] T (0, 0))) :
    w.cell? ⟨b, 0, none⟩ = some v0 ∧ w.cell? ⟨b, 1, none⟩ = some v1 ∧ w.cell? ⟨b, 2, none⟩ = some v2 ∧ w.cell? ⟨b, 3, none⟩ = some v3 := by
  refine ⟨?_, ?_, ?_, ?_⟩
  · rw [cell_of_row _ _ 0 _ _ (0, 0) h]; rfl
  · rw [cell_of_row _ _ 1 _ _ (0, 0) h]; rfl
  · rw [cell_of_row _ _ 2 _ _ (0, 0) h]; rfl
  · rw [cell_of_row _ _ 3 _ _ (0, 0) h]; rfl
theorem rat_get {xs : List Q} {i : Nat} (h : i < xs.length) : xs[i]? = some (rat xs i) := by simp [rat, h]
def ldStep (xs : List Q) (s : Option Q) (i : Nat) : Option Q :=
  match s with
  | none => none
  | some q => if (addM q (rat xs i)).2 = 0 then some (addM q (rat xs i)).1 else none
def ldK (n : Net) (xs : List Q) (l : Int) (k : Nat) : Option Q := ((onL n.f l).take k).foldl (ldStep xs) (some ⟨0, 1⟩)
def loadM (n : Net) (xs : List Q) (l : Int) : Option Q := (onL n.f l).foldl (ldStep xs) (some ⟨0, 1⟩)
theorem ld_none (xs : List Q) (L : List Nat) : L.foldl (ldStep xs) none = none := by
  induction L with
  | nil => rfl
  | cons i L ih => rw [List.foldl_cons]; exact ih
theorem ldK_none {n : Net} {xs : List Q} {l : Int} {k : Nat} (h : ldK n xs l k = none) : loadM n xs l = none := by
  unfold loadM
  unfold ldK at h
  have e : (onL n.f l).foldl (ldStep xs) (some ⟨0, 1⟩) = ((onL n.f l).drop k).foldl (ldStep xs) (((onL n.f l).take k).foldl (ldStep xs) (some ⟨0, 1⟩)) := by rw [← List.foldl_append, List.take_append_drop]
  rw [e, h, ld_none]
theorem ldK_all (n : Net) (xs : List Q) (l : Int) : ldK n xs l (onL n.f l).length = loadM n xs l := by unfold ldK loadM; rw [List.take_length]
abbrev ldV (r : Option Q) : Value := .tuple #[qv (r.getD ⟨0, 0⟩), .bool r.isSome]
set_option maxHeartbeats 8000000 in
set_option maxRecDepth 100000 in
theorem load_any (n : Net) (a : NetA) (xs : List Q) (XA : Option Addr) (xm : Nat) (l : Int) (w : World) (hA : Alc w n a xs XA) :
    Calls Try.prog 50 #[alv n a xs XA xm, .int .i64 l] w (VV (ldV (loadM n xs l)) w) := by
  obtain ⟨W1, hW1⟩ : ∃ W1, W1 = ((w.alloc (alB n a xs XA xm)).alloc (qb ⟨0, 0⟩)).alloc (tBo false) := ⟨_, rfl⟩
  have G1 : Gr w W1 := by rw [hW1]; exact ((grAlloc _ _).tr (grAlloc _ _)).tr (grAlloc _ _)
  have A1 : W1.heap[w.heap.size]? = some (alB n a xs XA xm) := by rw [hW1]; exact mvAlloc (mvAlloc (newBlk _ _ _ rfl))
  have B1 : W1.heap[w.heap.size + 1]? = some (qb ⟨0, 0⟩) := by rw [hW1]; exact mvAlloc (newBlk _ _ _ (by simp))
  have C1 : W1.heap[w.heap.size + 2]? = some (tBo false) := by rw [hW1]; exact newBlk _ _ _ (by simp)
  have z1 : W1.heap.size = w.heap.size + 3 := by rw [hW1]; simp
  obtain ⟨L, hL⟩ : ∃ L, onL n.f l = L := ⟨_, rfl⟩
  obtain ⟨S, hS⟩ : ∃ S : Nat → Option Q, (fun k => ldK n xs l k) = S := ⟨_, rfl⟩
  have hS0 : S 0 = some ⟨0, 1⟩ := by rw [← hS]; show ldK n xs l 0 = _; unfold ldK; simp
  have hSs : ∀ k (h : k < L.length), S (k + 1) = ldStep xs (S k) L[k] := by
    intro k h; rw [← hS]; show ldK n xs l (k + 1) = ldStep xs (ldK n xs l k) L[k]; unfold ldK; rw [hL]; exact foldl_take _ _ _ h
  have hSl : S L.length = loadM n xs l := by rw [← hS, ← hL]; exact ldK_all n xs l
  have hSn : ∀ k, S k = none → loadM n xs l = none := fun k h => ldK_none (by rw [← hS] at h; exact h)
  have hlt : ∀ i ∈ L, i < xs.length := fun i hi => by rw [← hL] at hi; rw [hA.lx]; exact (sel_mem.1 hi).1
  generalize loadM n xs l = G at *
  have HT := Lib.hid (fun bn => thr_iter n a l bn (bn + 1) hA.hN hA.hrow)
  rw [hL] at HT
  have HA := Lib.hid hA
  have HB := Lib.hid (And.intro A1 (And.intro B1 C1))
  have HG := Lib.hid G1
  have HS := Lib.hid (And.intro hS0 (And.intro hSs (And.intro hSl (And.intro hSn hlt))))
  have Z1 := Lib.hid z1
  obtain ⟨a0, a1, a2, a3⟩ := cells4 A1
  have HWh := Lib.hid (fun wx => whole_any 0 wx)
  clear hA A1 B1 C1 G1 hS0 hSs hSl hSn hlt hS hL z1
  refine (callsIn_wide (n := 0)).1 ?_
  refine callsIn_of_wp_marks Try.func50 rfl trivial ?_ rfl
  simp only [Try.ntmps50, List.size_toArray, List.length_cons, List.length_nil, Nat.reduceAdd, Nat.reduceSub, Array.replicate_succ, Array.replicate_zero, List.push_toArray, List.append_toArray, List.nil_append, List.cons_append]
  refine wpIn_wide.2 (np ?_)
  go_upto_region 1 with fail
  have e1 : w.heap.size + 1 = (w.alloc (alB n a xs XA xm)).heap.size := by simp
  rw [← hW1]
  clear hW1 e1
  go_wp2_with (first
    | (go_at_call 52; refine (HWh.out _).mono ?_; rintro e w2 ⟨rfl, hb2⟩; have hb2 := Lib.hid hb2; have a0 := grCell hb2.out a0; have a1 := grCell hb2.out a1; have a2 := grCell hb2.out a2; have a3 := grCell hb2.out a3; have hl0 := blkLt (grBlk hb2.out HB.out.1))
    | (go_at_call 84; refine (through_any n a _ _).mono ?_; rintro e w3 ⟨rfl, hw⟩; rw [hw]; clear hw))
  obtain ⟨p6, hp6⟩ : ∃ p6, w2.heap.size = p6 := ⟨_, rfl⟩
  obtain ⟨W, hW⟩ : ∃ W, ((w2.alloc (qb ⟨0, 1⟩)).alloc (netB n a)).alloc (intB l) = W := ⟨_, rfl⟩
  have gW : Gr W1 W := by rw [← hW]; exact Gr.tr hb2.out (((grAlloc _ _).tr (grAlloc _ _)).tr (grAlloc _ _))
  have P6 : W.heap[p6]? = some (qb ⟨0, 1⟩) := by rw [← hW, ← hp6]; exact mvAlloc (mvAlloc (newBlk _ _ _ rfl))
  have N6 : W.heap[p6 + 1]? = some (netB n a) := by rw [← hW, ← hp6]; exact mvAlloc (newBlk _ _ _ (by simp))
  have L6 : W.heap[p6 + 2]? = some (intB l) := by rw [← hW, ← hp6]; exact newBlk _ _ _ (by simp)
  have z6 : W1.heap.size ≤ p6 ∧ p6 + 3 ≤ W.heap.size := by rw [← hW, ← hp6]; exact ⟨hb2.out.size, by simp⟩
  (try simp only [World.size_alloc, hp6])
  rw [hW]
  clear hW hb2 a0 a1 a2 a3 hl0
  have HW := Lib.hid (And.intro gW (And.intro P6 (And.intro N6 (And.intro L6 z6))))
  have HTb := Lib.hid (HT.out (p6 + 1))
  clear gW P6 N6 L6 z6 hp6 HT
  clear a0 a1 a2 a3
  refine' range_law (gf := 102) (lb := #[ptr (p6 + 1), ptr (p6 + 1 + 1)]) rfl (enters_of Try.func102 (by kernel_rfl) rfl) HTb.out (fun _ => rfl)
    (fun k V => Below w.heap.size w V ∧ V.heap[w.heap.size]? = some (alB n a xs XA xm) ∧ V.heap[w.heap.size + 1]? = some (qb ⟨0, 0⟩) ∧ V.heap[w.heap.size + 2]? = some (tBo false) ∧ V.heap[p6 + 1]? = some (netB n a) ∧ V.heap[p6 + 2]? = some (intB l) ∧ (∃ q, S k = some q ∧ V.heap[p6]? = some (qb q)) ∧ W.heap.size ≤ V.heap.size)
    (fun c V => c = .ret ∧ G = none ∧ Below w.heap.size w V ∧ V.heap[w.heap.size + 1]? = some (qb ⟨0, 0⟩) ∧ V.heap[w.heap.size + 2]? = some (tBo false)) ?hJ ?hJx ?hRd ?h0 _ ?assign ?body ?done ?stop
  case hJ =>
    rintro k A B ⟨h1, h2, h3, h4, h5, h6, ⟨q, h7, h8⟩, h9⟩ hb
    have := HW.out.2.2.2.2
    have := Z1.out
    exact ⟨h1.trans (hb.mono (by omega)), (hb.block _ (by omega)).trans h2, (hb.block _ (by omega)).trans h3, (hb.block _ (by omega)).trans h4, (hb.block _ (by omega)).trans h5, (hb.block _ (by omega)).trans h6, ⟨q, h7, (hb.block _ (by omega)).trans h8⟩, Nat.le_trans h9 hb.size⟩
  case hJx =>
    rintro c A B ⟨h0, h1, h2, h3, h4⟩ hb
    have := HW.out.2.2.2.2
    have := Z1.out
    exact ⟨h0, h1, h2.trans (hb.mono (by omega)), (hb.block _ (by omega)).trans h3, (hb.block _ (by omega)).trans h4⟩
  case hRd =>
    rintro k A hk ⟨h1, h2, h3, h4, h5, h6, h7, h9⟩
    exact ⟨h5, h6, (HA.out.gr h1).net.2.1⟩
  case h0 =>
    obtain ⟨g1, g2, g3, g4, g5⟩ := HW.out
    exact ⟨HG.out.tr g1, grBlk g1 HB.out.1, grBlk g1 HB.out.2.1, grBlk g1 HB.out.2.2, g3, g4, ⟨_, HS.out.1, g2⟩, Nat.le_refl _⟩
  case assign =>
    intro lx x V K hK
    gi_wp2
    exact hK
  case body =>
    rintro l1 k hk V hsz ⟨h1, h2, h3, h4, h5, h6, ⟨q, h7, h8⟩, h9⟩
    have hin := HS.out.2.2.2.2 _ (List.getElem_mem hk)
    have hst := HS.out.2.1 k hk
    rw [h7] at hst
    generalize L[k] = i at *
    have hAV := HA.out.gr h1
    obtain ⟨a0, a1, a2, a3⟩ := cells4 h2
    obtain ⟨g, o, hXA, hcs⟩ := hAV.qs.addr (by omega)
    obtain ⟨q0, q1⟩ := hcs i _ (rat_get hin)
    rw [hXA] at a3
    obtain ⟨⟨r0, r1⟩, -⟩ := cells2 h8
    have hst2 : S (k + 1) = if (addM q (rat xs i)).2 = 0 then some (addM q (rat xs i)).1 else none := hst
    generalize rat xs i = rq at *
    obtain ⟨sr, hsr⟩ : ∃ sr, addM q rq = sr := ⟨_, rfl⟩
    have HAdd := Lib.hid (fun wx => Add_any q rq wx)
    rw [hsr] at HAdd hst2
    obtain ⟨sq, se⟩ := sr
    have HV := Lib.hid (And.intro h1 (And.intro h2 (And.intro h3 (And.intro h4 (And.intro h5 (And.intro h6 (And.intro h8 (And.intro h9 hsz))))))))
    have HE := Lib.hid hst2
    have Hno := Lib.hid HS.out.2.2.2.1
    have hinx := hin
    clear h1 h2 h3 h4 h5 h6 h7 h8 h9 hAV hcs hXA hst hst2 hsr a0 a1 a2 hsz
    gi_wp2_with fail
    refine wpIn_region_G (S := fun wq => Gr V wq) (by kernel_rfl) (by kernel_rfl) (by rintro ⟨_, _, h⟩; exact h) (grDrew _) (fun hHeld => ?_)
    have hSG : Hid (∀ wp wq : World, Gr V wp → Gr wp wq → Gr V wq) := Lib.hid (fun _ _ h k => h.tr k)
    have hmv := Lib.hid (fun (wq : World) (hq : Gr V wq) => And.intro (grCell hq r0) (And.intro (grCell hq r1) (And.intro (grCell hq a3) (And.intro (grCell hq q0) (grCell hq q1)))))
    first
     | (refine tk hSG 0 (v := ?_) rfl (by kernel_rfl) (fun _ _ _ h => h) (by rfl) ?_ hHeld ?_; rotate_left; focus (intro w' hSw; obtain ⟨r0, r1, a3, q0, q1⟩ := hmv.out _ hSw; go_simp; (try with_reducible rfl)))
     | refine tn hSG 0 rfl (by kernel_rfl) (fun _ _ _ h => h) (by rfl) hHeld ?_
    (try simp only [zq1, zq2, zq3, Act.put, zq4, zq5, zq6])
    first
     | (refine tk hSG 1 (v := ?_) rfl (by kernel_rfl) (fun _ _ _ h => h) (by rfl) ?_ hHeld ?_; rotate_left; focus (intro w' hSw; obtain ⟨r0, r1, a3, q0, q1⟩ := hmv.out _ hSw; go_simp; (try with_reducible rfl)))
     | refine tn hSG 1 rfl (by kernel_rfl) (fun _ _ _ h => h) (by rfl) hHeld ?_
    (try simp only [zq1, zq2, zq3, Act.put, zq4, zq5, zq6])
    first
     | (refine tk hSG 2 (v := ?_) rfl (by kernel_rfl) (fun _ _ _ h => h) (by rfl) ?_ hHeld ?_; rotate_left; focus (intro w' hSw; obtain ⟨r0, r1, a3, q0, q1⟩ := hmv.out _ hSw; go_simp; (try with_reducible rfl)))
     | refine tn hSG 2 rfl (by kernel_rfl) (fun _ _ _ h => h) (by rfl) hHeld ?_
    (try simp only [zq1, zq2, zq3, Act.put, zq4, zq5, zq6])
    first
     | (refine tk hSG 3 (v := ?_) rfl (by kernel_rfl) (fun _ _ _ h => h) (by rfl) ?_ hHeld ?_; rotate_left; focus (intro w' hSw; obtain ⟨r0, r1, a3, q0, q1⟩ := hmv.out _ hSw; go_simp; (try with_reducible rfl)))
     | refine tn hSG 3 rfl (by kernel_rfl) (fun _ _ _ h => h) (by rfl) hHeld ?_
    (try simp only [zq1, zq2, zq3, Act.put, zq4, zq5, zq6])
    refine tk hSG 4 (v := .pointer (some ⟨g, o + i * 2, none⟩)) rfl (by kernel_rfl) (fun _ _ _ h => h) (by rfl) ?_ hHeld ?_
    focus (intro w' hSw; obtain ⟨r0, r1, a3, q0, q1⟩ := hmv.out _ hSw; go_simp; (try (intro hq; omega)))
    (try simp only [zq1, zq2, zq3, Act.put, zq4, zq5, zq6])
    first
     | (refine tk hSG 5 (v := ?_) rfl (by kernel_rfl) (fun _ _ _ h => h) (by rfl) ?_ hHeld ?_; rotate_left; focus (intro w' hSw; obtain ⟨r0, r1, a3, q0, q1⟩ := hmv.out _ hSw; go_simp; (try with_reducible rfl)))
     | refine tn hSG 5 rfl (by kernel_rfl) (fun _ _ _ h => h) (by rfl) hHeld ?_
    (try simp only [zq1, zq2, zq3, Act.put, zq4, zq5, zq6])
    refine tc hSG 6 (v := qr (sq, se)) rfl (by kernel_rfl) (fun _ _ _ h => h) (by rfl) ?_ hHeld ?_
    focus (intro wz hSw K hK; obtain ⟨r0, r1, a3, q0, q1⟩ := hmv.out _ hSw; go_simp; go_at_call 85; refine (HAdd.out _).mono ?_; rintro e w2 ⟨rfl, hb2⟩; first | exact hK.out _ hb2 | (have h9 := hK.out _ hb2; (try simp only [zq1, zq2, zq3, Act.put, zq4, zq5, zq6] at h9 ⊢); exact h9) | (have h9 := hK.out _ hb2; go_simp; exact h9))
    (try simp only [zq1, zq2, zq3, Act.put, zq4, zq5, zq6])
    first
     | (refine tk hSG 7 (v := ?_) rfl (by kernel_rfl) (fun _ _ _ h => h) (by rfl) ?_ hHeld ?_; rotate_left; focus (intro w' hSw; obtain ⟨r0, r1, a3, q0, q1⟩ := hmv.out _ hSw; go_simp; (try with_reducible rfl)))
     | refine tn hSG 7 rfl (by kernel_rfl) (fun _ _ _ h => h) (by rfl) hHeld ?_
    (try simp only [zq1, zq2, zq3, Act.put, zq4, zq5, zq6])
    first
     | (refine tk hSG 8 (v := ?_) rfl (by kernel_rfl) (fun _ _ _ h => h) (by rfl) ?_ hHeld ?_; rotate_left; focus (intro w' hSw; obtain ⟨r0, r1, a3, q0, q1⟩ := hmv.out _ hSw; go_simp; (try with_reducible rfl)))
     | refine tn hSG 8 rfl (by kernel_rfl) (fun _ _ _ h => h) (by rfl) hHeld ?_
    (try simp only [zq1, zq2, zq3, Act.put, zq4, zq5, zq6])
    first
     | (refine tk hSG 9 (v := ?_) rfl (by kernel_rfl) (fun _ _ _ h => h) (by rfl) ?_ hHeld ?_; rotate_left; focus (intro w' hSw; obtain ⟨r0, r1, a3, q0, q1⟩ := hmv.out _ hSw; go_simp; (try with_reducible rfl)))
     | refine tn hSG 9 rfl (by kernel_rfl) (fun _ _ _ h => h) (by rfl) hHeld ?_
    (try simp only [zq1, zq2, zq3, Act.put, zq4, zq5, zq6])
    clear HAdd
    refine wpAnyG_ready (rs := [10]) (by kernel_rfl) (by simp) (AllG.cons rfl (fun w4 hg K hK => ?_) AllG.nil)
    have hgS := hSG.out _ _ hHeld.out hg
    go_simp
    refine hK.out _ _ (hgS.tr (grAlloc _ _)) (fun hHeld => ?_)
    have A4 := newBlk w4 (qb ⟨0, 0⟩) _ rfl
    have z4 : V.heap.size ≤ w4.heap.size := hgS.size
    clear hK K hg hgS
    (try simp only [zq1, zq2, zq3, Act.put, zq4, zq5, zq6])
    refine wpAnyG_ready (rs := [11]) (by kernel_rfl) (by simp) (AllG.cons rfl (fun w5 hg K hK => ?_) AllG.nil)
    have hgS := hSG.out _ _ hHeld.out hg
    have A5 := grBlk hg A4
    obtain ⟨⟨d0, d1⟩, d2, d3⟩ := cells2 A5
    go_simp
    refine hK.out _ _ (below2 hgS z4) (fun hHeld => ?_)
    have A6 := qbSet (x := .int .i64 sq.n) (y := .int .i64 sq.d) A5
    clear hK K hg hgS A4 A5 d0 d1 d2 d3
    (try simp only [zq1, zq2, zq3, Act.put, zq4, zq5, zq6])
    first
     | (refine tk hSG 12 (v := ?_) rfl (by kernel_rfl) (fun _ _ _ h => h) (by rfl) ?_ hHeld ?_; rotate_left; focus (intro w' hSw; obtain ⟨r0, r1, a3, q0, q1⟩ := hmv.out _ hSw; go_simp; (try with_reducible rfl)))
     | refine tn hSG 12 rfl (by kernel_rfl) (fun _ _ _ h => h) (by rfl) hHeld ?_
    (try simp only [zq1, zq2, zq3, Act.put, zq4, zq5, zq6])
    clear hmv
    refine wpAnyG_done (by kernel_rfl) (fun w9 hg => ?_) _
    have hg9 := Lib.hid (hSG.out _ _ hHeld.out hg)
    have A9 := grBlk hg A6
    have z9 := blkLt A9
    generalize w4.heap.size = p8 at *
    clear hg hHeld hSG A6 r0 r1 a3 q0 q1
    have P9 := grBlk hg9.out HV.out.2.2.2.2.2.2.1
    obtain ⟨⟨r0, r1⟩, r2, r3⟩ := cells2 P9
    obtain ⟨⟨s0, s1⟩, -⟩ := cells2 A9
    have R9 := grBlk hg9.out HV.out.2.2.1
    have T9 := grBlk hg9.out HV.out.2.2.2.1
    obtain ⟨⟨d0, d1⟩, d2, d3⟩ := cells2 R9
    obtain ⟨t0, t1⟩ := cells1 T9
    have HR := Lib.hid (And.intro P9 (And.intro R9 T9))
    clear P9 R9 T9 A9
    by_cases h0 : se = 0
    · subst h0
      have he := HE.out
      rw [if_pos rfl] at he
      have HE2 := Lib.hid he
      clear he HE
      gi_wp2
      obtain ⟨h1, h2, h3, h4, h5, h6, h8, h9, hsz⟩ := HV.out
      obtain ⟨P9, R9, T9⟩ := HR.out
      have := HW.out.2.2.2.2
      have := Z1.out
      have hs9 := hg9.out.size
      have fr : ∀ {b : Nat} {ob : Obj}, b ≠ p6 → V.heap[b]? = some ob → ((w9.setCell ⟨p6, 0, none⟩ (.int .i64 sq.n)).setCell ⟨p6, 1, none⟩ (.int .i64 sq.d)).heap[b]? = some ob := fun hne hb => far2' hne (grBlk hg9.out hb)
      exact ⟨up2 (belUp hg9.out _) (by omega), below2 (h1.trans (hg9.out.mono h1.size)) (by omega), fr (by omega) h2, fr (by omega) h3, fr (by omega) h4, fr (by omega) h5, fr (by omega) h6, ⟨sq, HE2.out, qbSet P9⟩, by simp only [World.size_setCell]; omega⟩
    · have td : decide (se = 0) = false := decide_eq_false h0
      have he := HE.out
      rw [if_neg h0] at he
      have hG := Lib.hid (Hno.out _ he)
      clear he HE
      gi_wp2
      obtain ⟨h1, h2, h3, h4, h5, h6, h8, h9, hsz⟩ := HV.out
      obtain ⟨P9, R9, T9⟩ := HR.out
      have := HW.out.2.2.2.2
      have := Z1.out
      have hs9 := hg9.out.size
      exact ⟨up1 (up2 (belUp hg9.out _) (by omega)) (by omega), rfl, hG.out, bel1 (below2 (h1.trans (hg9.out.mono h1.size)) (by omega)) (by omega), far1 (by omega) (qbSet R9), inSet (far2' (by omega) T9)⟩
  case done =>
    rintro V hsz ⟨h1, h2, h3, h4, h5, h6, ⟨q, h7, h8⟩, h9⟩ hD
    have hG : G = some q := by rw [← HS.out.2.2.1]; exact h7
    subst hG
    obtain ⟨⟨r0, r1⟩, r2, r3⟩ := cells2 h8
    obtain ⟨⟨d0, d1⟩, d2, d3⟩ := cells2 h3
    obtain ⟨t0, t1⟩ := cells1 h4
    have HV := Lib.hid (And.intro h1 (And.intro h3 (And.intro h4 hD)))
    have H9 := Lib.hid (And.intro h9 hsz)
    clear h1 h2 h3 h4 h5 h6 h7 h8 h9 hD hsz
    go_wp2
    obtain ⟨h1, h3, h4, hD⟩ := HV.out
    have := HW.out.2.2.2.2
    have := Z1.out
    have := H9.out
    have D9 := (Below.heap_setCell _ ⟨w.heap.size + 2, 0, none⟩ (.bool true) W.heap.size (by show W.heap.size ≠ w.heap.size + 2; omega)).trans (far2' (b := w.heap.size + 1) (x := .int .i64 q.n) (y := .int .i64 q.d) (by omega) hD)
    have R9 : ((((V.setCell ⟨w.heap.size + 1, 0, none⟩ (.int .i64 q.n)).setCell ⟨w.heap.size + 1, 1, none⟩ (.int .i64 q.d)).setCell ⟨w.heap.size + 2, 0, none⟩ (.bool true)).putObj W.heap.size (.deferred none)).heap[w.heap.size + 1]? = some (qb q) := by
      rw [World.putObj_heap_other (by omega)]; exact far1 (by omega) (qbSet h3)
    have T9 : ((((V.setCell ⟨w.heap.size + 1, 0, none⟩ (.int .i64 q.n)).setCell ⟨w.heap.size + 1, 1, none⟩ (.int .i64 q.d)).setCell ⟨w.heap.size + 2, 0, none⟩ (.bool true)).putObj W.heap.size (.deferred none)).heap[w.heap.size + 2]? = some (tBo true) := by
      rw [World.putObj_heap_other (by omega)]; exact inSet (far2' (by omega) h4)
    exact ret_ofc' (v := ldV (some q)) D9 (by simp [results, Try.results50, go_sem, (cells2 R9).1.1, (cells2 R9).1.2, (cells1 T9).1]) ⟨rfl, (bel1 (below2 h1 (by omega)) (by omega)).trans (belPut _ (by omega))⟩
  case stop =>
    rintro c V hsz ⟨rfl, hG, h2, h3, h4⟩ hD
    refine wpIn_ret ?_
    subst hG
    have := HW.out.2.2.2.2
    have := Z1.out
    have R9 : (V.putObj W.heap.size (.deferred none)).heap[w.heap.size + 1]? = some (qb ⟨0, 0⟩) := by rw [World.putObj_heap_other (by omega)]; exact h3
    have T9 : (V.putObj W.heap.size (.deferred none)).heap[w.heap.size + 2]? = some (tBo false) := by rw [World.putObj_heap_other (by omega)]; exact h4
    exact ret_ofc' (v := ldV none) hD (by simp [results, Try.results50, go_sem, (cells2 R9).1.1, (cells2 R9).1.2, (cells1 T9).1]) ⟨rfl, h2.trans (belPut _ (by omega))⟩
end Go.Proofs.Ytbjhdfakocfapaa
