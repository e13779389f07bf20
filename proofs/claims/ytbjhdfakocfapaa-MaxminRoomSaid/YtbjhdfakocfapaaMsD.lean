/- Package maxmin: the iterator of a link's flows that are not fixed. -/
import Derived.Test.YtbjhdfakocfapaaMsC
namespace Go.Proofs.Ytbjhdfakocfapaa
open Go.RowKit
set_option linter.unusedVariables false
set_option linter.unusedSimpArgs false
attribute [local go_sem] Oper.semAt_some
theorem ret_of {w : World} {fn : Func} {F : Fence} {n : Nat} {P : Program} {R : Ending → World → Prop} {tmps : Array Value} {D : Nat} {v : Value} (hK : w.heap[D]? = some (.deferred (some [])))
    (hr : ∀ w, (results fn tmps).run P w = .ok v w) (h : R (.returned v) (w.putObj D (.deferred none))) :
    bodyPostM F n P fn R .normal { tmps := tmps, defers := [{ target := .collected D, args := #[] }] } w :=
  ⟨by simp, .inl ⟨_, _, rfl, run_takeDeferred hK, ⟨v, hr _, h⟩⟩⟩
theorem ret_of' {w : World} {fn : Func} {F : Fence} {n : Nat} {P : Program} {R : Ending → World → Prop} {tmps : Array Value} {D : Nat} {v : Value} (hK : w.heap[D]? = some (.deferred (some [])))
    (hr : ∀ w, (results fn tmps).run P w = .ok v w) (h : R (.returned v) (w.putObj D (.deferred none))) :
    bodyPostM F n P fn R .ret { tmps := tmps, defers := [{ target := .collected D, args := #[] }] } w :=
  ⟨by simp, .inl ⟨_, _, rfl, run_takeDeferred hK, ⟨v, hr _, h⟩⟩⟩
/-- nothing panics -/
def NP (Q : Exit → Act → World → Prop) : Exit → Act → World → Prop
  | .panic _, _, _ => False
  | .outgrown, _, _ => False
  | .normal, a, w => Q .normal a w
  | .ret, a, w => Q .ret a w
  | .exit id, a, w => Q (.exit id) a w
  | .goto t, a, w => Q (.goto t) a w
theorem np {P : Program} {c : Code} {Q : Exit → Act → World → Prop} {a : Act} {w : World} (h : c.wp P (NP Q) a w) : c.wp P Q a w :=
  wp_mono h (fun e a w hq => by cases e <;> first | exact hq | exact (hq : False).elim)
set_option maxHeartbeats 4000000 in
set_option maxRecDepth 100000 in
theorem lstop_iter (W0 : World) (F R X : Nat) (n : Net) (a : NetA) (fx : List Bool) (l bs : Nat) (hN : n.f.length ≤ 1000000) (hrow : ∀ r ∈ n.f, r.length ≤ 1000000) :
    Iter Try.prog 97 #[ptr bs] (unfL n fx l) (fun i : Nat => #[Value.int .i64 (i : Int)]) (LnkR W0 F R X n a fx l bs) := by
  intro lr J Jx W hJ hJx hRd hY h0
  obtain ⟨U, hUe⟩ : ∃ U, unfL n fx l = U := ⟨_, rfl⟩
  obtain ⟨L, hL⟩ : ∃ L, onL n.f (l : Int) = L := ⟨_, rfl⟩
  obtain ⟨u, hu⟩ : ∃ u : Nat → Bool, (fun i => !fxd fx i) = u := ⟨_, rfl⟩
  have hU : U = L.filter u := by rw [← hUe, unfL_fl, hL, hu]
  have hlt : ∀ i ∈ L, i < n.f.length := fun i hi => by rw [← hL] at hi; exact (sel_mem.1 hi).1
  have hnd : L.Nodup := by rw [← hL]; exact sel_nodup _ _
  rw [hUe] at hRd hY ⊢
  have hRd : ∀ (k : Nat) (A : World), k ≤ U.length → J k A → A.heap[bs]? = some (lnkB F l) ∧ ∃ xs' fx', FilR W0 F R X n a xs' fx' A ∧ ∀ j, j ∉ U.take k → fxd fx' j = fxd fx j := by
    intro k A hk hj
    have := hRd k A hk hj
    unfold LnkR at this
    rw [hUe] at this
    exact this
  obtain ⟨hbs, xs0, fx0, hfil, -⟩ := hRd 0 W (Nat.zero_le _) h0
  obtain ⟨W1, hW1⟩ : ∃ W1, W1 = W.alloc (yB lr) := ⟨_, rfl⟩
  have G1 : Gr W W1 := by rw [hW1]; exact grAlloc _ _
  have Y1 : W1.heap[W.heap.size]? = some (yB lr) := by rw [hW1]; exact newBlk _ _ _ rfl
  have hbs1 := grBlk G1 hbs
  have hfil1 := grBlk G1 hfil.fil
  have hrows := hfil.netw.2.1
  obtain ⟨⟨s0, s1⟩, -⟩ := cells2 hbs1
  obtain ⟨f0, f1, f2, -⟩ := cells5 hfil1
  have hl1 := G1.size
  have hsz1 : W1.heap.size = W.heap.size + 1 := by rw [hW1]; simp
  have HJ := Lib.hid hJ
  have HJx := Lib.hid hJx
  have HRd := Lib.hid hRd
  have HY := Lib.hid hY
  have H0 := Lib.hid h0
  have HG1 := Lib.hid G1
  have HY1 := Lib.hid Y1
  have HR := Lib.hid hrows
  have HS := Lib.hid (And.intro hsz1 hl1)
  have hEq := Lib.hid (And.intro hU (And.intro hlt (And.intro hnd (And.intro hL hu))))
  clear hU hlt hnd hL hu hUe
  clear hJ hJx hRd hY h0 G1 Y1 hbs1 hfil1 hrows hbs hfil hl1 hsz1
  refine (callsIn_wide (n := 0)).1 ?_
  refine callsIn_of_wp_marks Try.func97 rfl trivial ?_ rfl
  simp only [Try.ntmps97, List.size_toArray, List.length_cons, List.length_nil, Nat.reduceAdd, Nat.reduceSub, Array.replicate_succ, Array.replicate_zero, List.push_toArray, List.append_toArray, List.nil_append, List.cons_append]
  refine wpIn_wide.2 (np ?_)
  go_upto_region 1 with fail
  rw [← hW1]
  clear hW1
  refine wp_region_G (S := fun wq => Gr W1 wq) (by kernel_rfl) (grDrew _) (fun hHeld => ?_)
  have hSG : Hid (∀ wp wq : World, Gr W1 wp → Gr wp wq → Gr W1 wq) := Lib.hid (fun _ _ h k => h.tr k)
  have hmv := Lib.hid (fun (wq : World) (hq : Gr W1 wq) => And.intro (grCell hq s0) (And.intro (grCell hq s1) (And.intro (grCell hq f0) (And.intro (grCell hq f1) (grCell hq f2)))))
  first
   | (refine tk hSG 0 (v := ?_) rfl (by kernel_rfl) (fun _ _ _ h => h) (by rfl) ?_ hHeld ?_; rotate_left; focus (intro w' hSw; obtain ⟨s0, s1, f0, f1, f2⟩ := hmv.out _ hSw; go_simp; (try with_reducible rfl)))
   | refine tn hSG 0 rfl (by kernel_rfl) (fun _ _ _ h => h) (by rfl) hHeld ?_
  (try simp only [zq1, zq2, zq3, Act.put, zq4, zq5, zq6])
  first
   | (refine tk hSG 1 (v := ?_) rfl (by kernel_rfl) (fun _ _ _ h => h) (by rfl) ?_ hHeld ?_; rotate_left; focus (intro w' hSw; obtain ⟨s0, s1, f0, f1, f2⟩ := hmv.out _ hSw; go_simp; (try with_reducible rfl)))
   | refine tn hSG 1 rfl (by kernel_rfl) (fun _ _ _ h => h) (by rfl) hHeld ?_
  (try simp only [zq1, zq2, zq3, Act.put, zq4, zq5, zq6])
  first
   | (refine tk hSG 2 (v := ?_) rfl (by kernel_rfl) (fun _ _ _ h => h) (by rfl) ?_ hHeld ?_; rotate_left; focus (intro w' hSw; obtain ⟨s0, s1, f0, f1, f2⟩ := hmv.out _ hSw; go_simp; (try with_reducible rfl)))
   | refine tn hSG 2 rfl (by kernel_rfl) (fun _ _ _ h => h) (by rfl) hHeld ?_
  (try simp only [zq1, zq2, zq3, Act.put, zq4, zq5, zq6])
  first
   | (refine tk hSG 3 (v := ?_) rfl (by kernel_rfl) (fun _ _ _ h => h) (by rfl) ?_ hHeld ?_; rotate_left; focus (intro w' hSw; obtain ⟨s0, s1, f0, f1, f2⟩ := hmv.out _ hSw; go_simp; (try with_reducible rfl)))
   | refine tn hSG 3 rfl (by kernel_rfl) (fun _ _ _ h => h) (by rfl) hHeld ?_
  (try simp only [zq1, zq2, zq3, Act.put, zq4, zq5, zq6])
  first
   | (refine tk hSG 4 (v := ?_) rfl (by kernel_rfl) (fun _ _ _ h => h) (by rfl) ?_ hHeld ?_; rotate_left; focus (intro w' hSw; obtain ⟨s0, s1, f0, f1, f2⟩ := hmv.out _ hSw; go_simp; (try with_reducible rfl)))
   | refine tn hSG 4 rfl (by kernel_rfl) (fun _ _ _ h => h) (by rfl) hHeld ?_
  (try simp only [zq1, zq2, zq3, Act.put, zq4, zq5, zq6])
  first
   | (refine tk hSG 5 (v := ?_) rfl (by kernel_rfl) (fun _ _ _ h => h) (by rfl) ?_ hHeld ?_; rotate_left; focus (intro w' hSw; obtain ⟨s0, s1, f0, f1, f2⟩ := hmv.out _ hSw; go_simp; (try with_reducible rfl)))
   | refine tn hSG 5 rfl (by kernel_rfl) (fun _ _ _ h => h) (by rfl) hHeld ?_
  (try simp only [zq1, zq2, zq3, Act.put, zq4, zq5, zq6])
  first
   | (refine tk hSG 6 (v := ?_) rfl (by kernel_rfl) (fun _ _ _ h => h) (by rfl) ?_ hHeld ?_; rotate_left; focus (intro w' hSw; obtain ⟨s0, s1, f0, f1, f2⟩ := hmv.out _ hSw; go_simp; (try with_reducible rfl)))
   | refine tn hSG 6 rfl (by kernel_rfl) (fun _ _ _ h => h) (by rfl) hHeld ?_
  (try simp only [zq1, zq2, zq3, Act.put, zq4, zq5, zq6])
  refine wpAnyG_ready (rs := [7]) (by kernel_rfl) (by simp) (AllG.cons rfl (fun w5 hgL K hK => ?_) AllG.nil)
  have hgL := (grDrew W1).tr hgL
  have s0 := grCell hgL s0
  have s1 := grCell hgL s1
  have f0 := grCell hgL f0
  have f1 := grCell hgL f1
  have f2 := grCell hgL f2
  go_simp
  go_at_call 84; refine (through_any n a _ _).mono ?_; rintro e w6 ⟨rfl, rfl⟩
  refine hK.out _ _ (hgL.tr ((grAlloc _ _).tr (grAlloc _ _))) (fun _ => ?_)
  (try simp only [zq1, zq2, zq3, Act.put, zq4, zq5, zq6])
  refine wpAnyG_done (by kernel_rfl) (fun w9 hg9 => ?_) _
  have n9 := grBlk hg9 (mvAlloc (newBlk w5 (netB n a) _ rfl))
  have l9 := grBlk hg9 (newBlk (w5.alloc (netB n a)) (intB (l : Int)) (w5.heap.size + 1) (by simp))
  have G9 : Gr W1 w9 := hgL.tr (((grAlloc _ _).tr (grAlloc _ _)).tr hg9)
  have z9 : W1.heap.size ≤ w5.heap.size ∧ w5.heap.size + 2 ≤ w9.heap.size := ⟨hgL.size, by have := hg9.size; simpa using this⟩
  clear hK hHeld hmv hgL hSG hg9
  clear s0 s1 f0 f1 f2
  clear s0 s1 f0 f1 f2
  generalize w5.heap.size = bn at *
  clear hgL
  have HN := Lib.hid n9
  have HL := Lib.hid l9
  have HZ := Lib.hid z9
  have HG9 := Lib.hid G9
  clear n9 l9 z9 G9
  go_wp2
  have HT := Lib.hid (thr_iter n a (l : Int) bn (bn + 1) hN hrow)
  rw [hEq.out.2.2.2.1] at HT
  refine' range_law (gf := 102) (lb := #[ptr bn, ptr (bn + 1)]) rfl (enters_of Try.func102 (by kernel_rfl) rfl) HT.out (fun _ => rfl)
    (fun k V => J (ru u L k) V ∧ V.heap[W.heap.size]? = some (yB lr) ∧ V.heap[bn]? = some (netB n a) ∧ V.heap[bn + 1]? = some (intB (l : Int)) ∧ w9.heap.size ≤ V.heap.size)
    (fun c V => c = .ret ∧ Jx V ∧ w9.heap.size ≤ V.heap.size) ?hJ ?hJx ?hRd ?h0 _ ?assign ?body ?done ?stop
  case hJ =>
    rintro k A B ⟨h1, h2, h3, h4, h5⟩ hb
    exact ⟨HJ.out _ _ _ h1 (hb.mono (by have := HS.out; have := HZ.out; omega)), (hb.block _ (by have := HS.out; have := HZ.out; omega)).trans h2, (hb.block _ (by have := HS.out; have := HZ.out; omega)).trans h3, (hb.block _ (by have := HS.out; have := HZ.out; omega)).trans h4, Nat.le_trans h5 hb.size⟩
  case hJx =>
    rintro c A B ⟨h1, h2, h3⟩ hb
    exact ⟨h1, HJx.out _ _ h2 (hb.mono (by have := HS.out; have := HZ.out; omega)), Nat.le_trans h3 hb.size⟩
  case hRd =>
    rintro k A hk ⟨h1, h2, h3, h4, h5⟩
    obtain ⟨-, xs', fx', hf, -⟩ := HRd.out _ _ (by rw [hEq.out.1]; exact ru_le _ _ _) h1
    exact ⟨h3, h4, hf.netw.2.1⟩
  case h0 =>
    exact ⟨HJ.out _ _ _ H0.out (HG1.out.tr HG9.out), grBlk HG9.out HY1.out, HN.out, HL.out, Nat.le_refl _⟩
  case assign =>
    intro lx x V K hK
    gi_wp2
    exact hK
  case body =>
    rintro l1 k hk V hsz ⟨h1, h2, h3, h4, h5⟩
    have hkU : ru u L k ≤ U.length := by rw [hEq.out.1]; exact ru_le _ _ _
    obtain ⟨g1, xs', fx', hf, hfx⟩ := HRd.out _ _ hkU h1
    obtain ⟨i, hi⟩ : ∃ i, L[k] = i := ⟨_, rfl⟩
    have hin : i < n.f.length := by rw [← hi]; exact hEq.out.2.1 _ (List.getElem_mem hk)
    have e0 : fxd fx' i = fxd fx i := hfx _ (by rw [hEq.out.1, fl_take, ← hi]; intro hm; exact nodup_take hEq.out.2.2.1 hk (List.mem_filter.1 hm).1)
    have eu : u i = !fxd fx i := by rw [← hEq.out.2.2.2.2]
    obtain ⟨⟨s0, s1⟩, -⟩ := cells2 g1
    obtain ⟨f0, f1, f2, f3, f4⟩ := cells5 hf.fil
    have x0 := bC_at hf.fixs (i := i) (by rw [hf.lf]; exact hin)
    have y0 := (cells1 h2).1
    rw [e0] at x0
    have hsz1 : W.heap.size ≤ V.heap.size := by have := HS.out; have := HZ.out; omega
    have HV := Lib.hid (And.intro h2 (And.intro h3 (And.intro h4 h5)))
    have HJ1 := Lib.hid h1
    have hii := Lib.hid hi
    clear g1 hfx e0 h1 h2 h3 h4 h5 f0 f1 f2 f3 hf
    rw [hi]
    rcases hb : fxd fx i with _ | _
    · rw [hb] at x0 eu
      have eu : u i = true := eu
      have r1 := Lib.hid (ru_t (P := u) hk (by rw [hi]; exact eu))
      obtain ⟨hkk, hg⟩ := fl_get (P := u) hk (by rw [hi]; exact eu)
      rw [hi] at hg
      obtain ⟨fn, tmps, assign, body, hy, hR⟩ := HY.out (ru u L k) (by rw [hEq.out.1]; exact hkk) V HJ1.out hsz1
      have hg2 : ∀ (h : ru u L k < U.length), U[ru u L k] = i := by rw [hEq.out.1]; exact fun _ => hg
      rw [hg2] at hy
      clear hg hg2 hkk eu hi
      gi_wp2
      first | refine hR.mono ?_ | refine ⟨rfl, hR.mono ?_⟩ | refine ⟨trivial, rfl, hR.mono ?_⟩
      rintro e W3 ⟨hup, (⟨rfl, hJ3⟩ | ⟨rfl, hJx3⟩)⟩
      · gi_wp2
        obtain ⟨h2, h3, h4, h5⟩ := HV.out
        exact ⟨hup.mono (by have := HS.out; have := HZ.out; omega), by rw [r1.out]; exact hJ3, (hup.block _ (by have := HS.out; have := HZ.out; omega) (by have := HS.out; have := HZ.out; omega)).trans h2, (hup.block _ (by have := HS.out; have := HZ.out; omega) (by have := HS.out; have := HZ.out; omega)).trans h3, (hup.block _ (by have := HS.out; have := HZ.out; omega) (by have := HS.out; have := HZ.out; omega)).trans h4, Nat.le_trans h5 hup.size⟩
      · gi_wp2
        exact ⟨hup.mono (by have := HS.out; have := HZ.out; omega), rfl, hJx3, Nat.le_trans HV.out.2.2.2 hup.size⟩
    · rw [hb] at x0 eu
      have eu : u i = false := eu
      have r1 := Lib.hid (ru_f (P := u) hk (by rw [hi]; exact eu))
      clear eu hi
      gi_wp2
      refine ⟨fun _ _ => trivial, ?_⟩
      gi_wp2
      exact ⟨Up.refl _ _, by rw [r1.out]; exact HJ1.out, HV.out⟩
  case done =>
    rintro V hsz ⟨h1, h2, h3, h4, h5⟩ hD
    go_wp2
    refine ret_of hD (fun w => results_none rfl _ _ _) ⟨⟨_, rfl⟩, ?_, .inl ?_⟩
    · simp; have := HS.out; have := HZ.out; omega
    · rw [hEq.out.1, ← ru_all]; exact HJ.out _ _ _ h1 (belPut _ (by have := HS.out; have := HZ.out; omega))
  case stop =>
    rintro c V hsz ⟨rfl, h2, h3⟩ hD
    refine wpIn_ret ?_
    refine ret_of' hD (fun w => results_none rfl _ _ _) ⟨⟨_, rfl⟩, ?_, .inr ?_⟩
    · simp; have := HS.out; have := HZ.out; omega
    · exact HJx.out _ _ h2 (belPut _ (by have := HS.out; have := HZ.out; omega))
end Go.Proofs.Ytbjhdfakocfapaa
