/- Package maxmin: the first of the least stops. -/
import Derived.Test.YtbjhdfakocfapaaMsH
namespace Go.Proofs.Ytbjhdfakocfapaa
open Go.RowKit
set_option linter.unusedVariables false
set_option linter.unusedSimpArgs false
attribute [local go_sem] Oper.semAt_some
theorem setSame {w : World} {b : Nat} {v : Value} {T : TypeId} (h : w.heap[b]? = some (.cells #[v] T (0, 0))) : w.setCell ⟨b, 0, none⟩ v = w := by
  have e : (w.setCell ⟨b, 0, none⟩ v).heap = w.heap := by
    apply Array.ext_getElem?
    intro k
    by_cases hk : k = b
    · subst hk; rw [inSet h, h]
    · exact Below.heap_setCell _ _ _ _ hk
  cases w
  simp only [World.setCell] at e ⊢
  rw [e]
def bV (F : Nat) : Option Sp → Value
  | none => .nilIface
  | some s => spV F s
theorem st_ok {n : Net} {fx : List Bool} {s : Sp} (h : s ∈ stopsL n fx) : okS n s := by
  unfold stopsL at h
  rcases List.mem_append.1 h with h | h
  · obtain ⟨l, hl, rfl⟩ := List.mem_map.1 h; exact (sel_mem.1 hl).1
  · obtain ⟨l, hl, rfl⟩ := List.mem_map.1 h; exact (sel_mem.1 hl).1
def bestK (lv : Sp → Q) (ss : List Sp) (k : Nat) : Option Sp := (ss.take k).foldl (better lv) none
theorem bestK_succ (lv : Sp → Q) (ss : List Sp) {k : Nat} (h : k < ss.length) : bestK lv ss (k + 1) = better lv (bestK lv ss k) ss[k] := foldl_take _ _ _ h
theorem bestK_all (lv : Sp → Q) (ss : List Sp) : bestK lv ss ss.length = leastM lv ss := by unfold bestK leastM; rw [List.take_length]
theorem better_mem {lv : Sp → Q} {ss : List Sp} {b : Option Sp} {s t : Sp} (hs : s ∈ ss) (hb : ∀ t, b = some t → t ∈ ss) (h : better lv b s = some t) : t ∈ ss := by
  unfold better at h
  cases b with
  | none => cases h; exact hs
  | some u => simp only at h; split at h <;> cases h; exact hs; exact hb _ rfl
theorem bestK_mem (lv : Sp → Q) (ss : List Sp) : ∀ k, k ≤ ss.length → ∀ t, bestK lv ss k = some t → t ∈ ss := by
  intro k
  induction k with
  | zero => intro _ t h; simp [bestK] at h
  | succ k ih =>
    intro h t ht
    rw [bestK_succ lv ss (by omega)] at ht
    exact better_mem (List.getElem_mem _) (ih (by omega)) ht
theorem leastM_mem {lv : Sp → Q} {ss : List Sp} {t : Sp} (h : leastM lv ss = some t) : t ∈ ss := by
  rw [← bestK_all] at h; exact bestK_mem lv ss _ (Nat.le_refl _) t h
abbrev iB (v : Value) : Obj := .cells #[v] 72 (0, 0)
abbrev fB (v : Value) : Obj := .cells #[v] 78 (0, 0)
abbrev tB (b : Bool) : Obj := .cells #[.bool b] 4 (0, 0)
abbrev cmpF : Value := .func (.func 46) #[] #[]
set_option maxHeartbeats 8000000 in
set_option maxRecDepth 100000 in
theorem least_any (W0 : World) (F R X : Nat) (n : Net) (a : NetA) (xs : List Q) (fx : List Bool) (bf : Nat) (hN : n.f.length ≤ 1000000) (hC : n.c.length ≤ 1000000) (hNL : n.l.length = n.f.length) (hrow : ∀ r ∈ n.f, r.length ≤ 1000000)
    (w : World) (hbf : w.heap[bf]? = some (filP F)) (hf : FilR W0 F R X n a xs fx w) :
    Calls Try.prog 44 #[.func (.func 77) #[] #[ptr bf], cmpF] w
      (VV (.tuple #[bV F (leastM (lev n xs fx) (stopsL n fx)), .bool (leastM (lev n xs fx) (stopsL n fx)).isSome]) w) := by
  obtain ⟨W1, hW1⟩ : ∃ W1, W1 = ((w.alloc (fB cmpF)).alloc (iB .nilIface)).alloc (tB false) := ⟨_, rfl⟩
  have G1 : Gr w W1 := by rw [hW1]; exact ((grAlloc _ _).tr (grAlloc _ _)).tr (grAlloc _ _)
  have A1 : W1.heap[w.heap.size]? = some (fB cmpF) := by rw [hW1]; exact mvAlloc (mvAlloc (newBlk _ _ _ rfl))
  have B1 : W1.heap[w.heap.size + 1]? = some (iB .nilIface) := by rw [hW1]; exact mvAlloc (newBlk _ _ _ (by simp))
  have C1 : W1.heap[w.heap.size + 2]? = some (tB false) := by rw [hW1]; exact newBlk _ _ _ (by simp)
  have z1 : W1.heap.size = w.heap.size + 3 := by rw [hW1]; simp
  have HI := Lib.hid (stops_iter W0 F R X n a xs fx bf hN hC hNL hrow)
  have HC := Lib.hid (fun (s t : Sp) hs ht wx h => cmpLev_any W0 F R X n a xs fx s t hs ht hN hrow wx h)
  obtain ⟨lv, hlv⟩ : ∃ lv, lev n xs fx = lv := ⟨_, rfl⟩
  obtain ⟨ss, hss⟩ : ∃ ss, stopsL n fx = ss := ⟨_, rfl⟩
  have hok : ∀ s ∈ ss, okS n s := fun s hs => by rw [← hss] at hs; exact st_ok hs
  rw [hlv] at HC ⊢
  rw [hss] at HI ⊢
  rw [← bestK_all]
  have HB := Lib.hid (And.intro A1 (And.intro B1 C1))
  have HG := Lib.hid G1
  have HF := Lib.hid hf
  have HP := Lib.hid hbf
  have HO := Lib.hid hok
  clear A1 B1 C1 G1 hf hbf hok hss hlv
  refine (callsIn_wide (n := 0)).1 ?_
  refine callsIn_of_wp_marks Try.func44 rfl trivial ?_ rfl
  simp only [Try.ntmps44, List.size_toArray, List.length_cons, List.length_nil, Nat.reduceAdd, Nat.reduceSub, Array.replicate_succ, Array.replicate_zero, List.push_toArray, List.append_toArray, List.nil_append, List.cons_append]
  refine wpIn_wide.2 (np ?_)
  go_upto_region 1 with fail
  have e1 : w.heap.size + 1 = (w.alloc (fB cmpF)).heap.size := by simp
  rw [← hW1]
  clear hW1 e1
  go_wp2
  refine' range_law (gf := 77) (lb := #[ptr bf]) rfl (enters_of Try.func77 (by kernel_rfl) rfl) HI.out (fun _ => rfl)
    (fun k V => Below w.heap.size w V ∧ V.heap[w.heap.size]? = some (fB cmpF) ∧ V.heap[w.heap.size + 1]? = some (iB (bV F (bestK lv ss k))) ∧ V.heap[w.heap.size + 2]? = some (tB (bestK lv ss k).isSome) ∧ W1.heap.size ≤ V.heap.size)
    (fun _ _ => False) ?hJ ?hJx ?hRd ?h0 _ ?assign ?body ?done ?stop
  case hJ =>
    rintro k A B ⟨h1, h2, h3, h4, h5⟩ hb
    exact ⟨h1.trans (hb.mono (by omega)), (hb.block _ (by omega)).trans h2, (hb.block _ (by omega)).trans h3, (hb.block _ (by omega)).trans h4, Nat.le_trans h5 hb.size⟩
  case hJx => exact fun _ _ _ h _ => h
  case hRd =>
    rintro k A hk ⟨h1, h2, h3, h4, h5⟩
    exact ⟨grBlk h1 HP.out, HF.out.up h1⟩
  case h0 => exact ⟨HG.out, HB.out.1, HB.out.2.1, HB.out.2.2, Nat.le_refl _⟩
  case assign =>
    intro lx x V K hK
    gi_wp2
    exact hK
  case body =>
    rintro l1 k hk V hsz ⟨h1, h2, h3, h4, h5⟩
    rw [bestK_succ lv ss hk]
    have hsk := HO.out _ (List.getElem_mem hk)
    have hmem := bestK_mem lv ss k (Nat.le_of_lt hk)
    generalize ss[k] = s at *
    generalize bestK lv ss k = b at *
    have hfV := HF.out.up h1
    obtain ⟨a0, a1⟩ := cells1 h2
    obtain ⟨b0, b1⟩ := cells1 h3
    obtain ⟨c0, c1⟩ := cells1 h4
    have HV := Lib.hid (And.intro h1 (And.intro h2 (And.intro h3 (And.intro h4 h5))))
    clear h1 h2 h3 h4 h5
    cases b with
    | none =>
      have e : better lv none s = some s := rfl
      rw [e]
      have hn : (none : Option Sp).isSome = false := rfl
      have hv : bV F none = .nilIface := rfl
      rw [hn] at c0
      rw [hv] at b0
      obtain ⟨T, p, hvv⟩ : ∃ T p, spV F s = .iface T p := by cases s <;> exact ⟨_, _, rfl⟩
      have hv2 : bV F (some s) = .iface T p := hvv
      rw [hv2, hvv]
      clear hn hv e hvv hv2 hfV hmem
      gi_wp2
      refine ⟨fun _ _ => trivial, ?_⟩
      gi_wp2
      obtain ⟨h1, h2, h3, h4, h5⟩ := HV.out
      exact ⟨up1 (up1 (Up.refl _ _) (by omega)) (by omega), bel1 (bel1 h1 (by omega)) (by omega), far1 (by omega) (far1 (by omega) h2), far1 (by omega) (inSet h3), inSet (far1 (by omega) h4), by simp only [World.size_setCell]; exact h5⟩
    | some t =>
      have ht := HO.out _ (hmem t rfl)
      have HC1 := Lib.hid (HC.out s t hsk ht V hfV)
      have e : better lv (some t) s = if (cmpM (lv s) (lv t)).1 < 0 then some s else some t := rfl
      rw [e]
      generalize (cmpM (lv s) (lv t)).1 = r at *
      have hn : (some t : Option Sp).isSome = true := rfl
      have hv : bV F (some t) = spV F t := rfl
      rw [hn] at c0
      rw [hv] at b0
      obtain ⟨T, p, hvv⟩ : ∃ T p, spV F s = .iface T p := by cases s <;> exact ⟨_, _, rfl⟩
      obtain ⟨T', p', huu⟩ : ∃ T p, spV F t = .iface T p := by cases t <;> exact ⟨_, _, rfl⟩
      rw [hvv, huu] at HC1
      rw [huu] at b0
      rw [hvv]
      have hE := Lib.hid (And.intro hvv huu)
      clear hn hv e hvv huu hfV hmem
      by_cases hr : r < 0
      · have td : decide (r < 0) = true := decide_eq_true hr
        rw [if_pos hr]
        gi_wp2_with (refine ⟨trivial, rfl, ?_⟩; gi_at_call 46; refine CallsIn.inRound _ ((callsIn_wide.2 HC1.out).mono ?_); rintro e w2 ⟨rfl, hb2⟩; have hb2 := Lib.hid hb2; have b0 := grCell hb2.out b0; have c0 := grCell hb2.out c0; have b1 := (cells1 (grBlk hb2.out HV.out.2.2.1)).2; have c1 := (cells1 (grBlk hb2.out HV.out.2.2.2.1)).2)
        obtain ⟨h1, h2, h3, h4, h5⟩ := HV.out
        have hs2 := hb2.out.size
        refine ⟨up1 (up1 (belUp hb2.out _) (by omega)) (by omega), bel1 (bel1 (h1.trans (hb2.out.mono h1.size)) (by omega)) (by omega), far1 (by omega) (far1 (by omega) (grBlk hb2.out h2)), far1 (by omega) ?_, inSet (far1 (by omega) (grBlk hb2.out h4)), by simp only [World.size_setCell]; omega⟩
        rw [show bV F (some s) = .iface T p from hE.out.1]
        exact inSet (grBlk hb2.out h3)
      · have td : decide (r < 0) = false := decide_eq_false hr
        rw [if_neg hr]
        gi_wp2_with (refine ⟨trivial, rfl, ?_⟩; gi_at_call 46; refine CallsIn.inRound _ ((callsIn_wide.2 HC1.out).mono ?_); rintro e w2 ⟨rfl, hb2⟩; have hb2 := Lib.hid hb2; have b0 := grCell hb2.out b0; have c0 := grCell hb2.out c0)
        obtain ⟨h1, h2, h3, h4, h5⟩ := HV.out
        have hs2 := hb2.out.size
        exact ⟨belUp hb2.out _, h1.trans (hb2.out.mono h1.size), grBlk hb2.out h2, grBlk hb2.out h3, grBlk hb2.out h4, by omega⟩
  case done =>
    rintro V hsz ⟨h1, h2, h3, h4, h5⟩ hD
    obtain ⟨b0, b1⟩ := cells1 h3
    obtain ⟨c0, c1⟩ := cells1 h4
    generalize bestK lv ss ss.length = b at *
    obtain ⟨v, hvv⟩ : ∃ v, bV F b = v := ⟨_, rfl⟩
    rw [hvv] at b0 h3
    have HE := Lib.hid hvv
    rw [z1] at hD
    generalize hgb : b.isSome = g at *
    clear hgb
    have HV := Lib.hid (And.intro h1 (And.intro h3 (And.intro h4 (And.intro h5 hD))))
    clear h1 h2 h3 h4 h5 hD
    have hv : v = .nilIface ∨ ∃ T p, v = .iface T p := by
      rw [← hvv]
      cases b with
      | none => exact .inl rfl
      | some s => cases s <;> exact .inr ⟨_, _, rfl⟩
    clear hvv
    go_upto_region 5 with fail
    rcases hv with rfl | ⟨T, p, rfl⟩
    all_goals
      refine wp_region_G (S := fun wq => Gr V wq) (by kernel_rfl) (grDrew _) (fun hHeld => ?_)
      have hSG : Hid (∀ wp wq : World, Gr V wp → Gr wp wq → Gr V wq) := Lib.hid (fun _ _ h k => h.tr k)
      have hmv := Lib.hid (fun (wq : World) (hq : Gr V wq) => And.intro (grCell hq b0) (grCell hq c0))
      first
       | (refine tk hSG 0 (v := ?_) rfl (by kernel_rfl) (fun _ _ _ h => h) (by rfl) ?_ hHeld ?_; rotate_left; focus (intro w' hSw; obtain ⟨b0, c0⟩ := hmv.out _ hSw; go_simp; (try with_reducible rfl)))
       | refine tn hSG 0 rfl (by kernel_rfl) (fun _ _ _ h => h) (by rfl) hHeld ?_
      (try simp only [zq1, zq2, zq3, Act.put, zq4, zq5, zq6])
      first
       | (refine tk hSG 1 (v := ?_) rfl (by kernel_rfl) (fun _ _ _ h => h) (by rfl) ?_ hHeld ?_; rotate_left; focus (intro w' hSw; obtain ⟨b0, c0⟩ := hmv.out _ hSw; go_simp; (try with_reducible rfl)))
       | refine tn hSG 1 rfl (by kernel_rfl) (fun _ _ _ h => h) (by rfl) hHeld ?_
      (try simp only [zq1, zq2, zq3, Act.put, zq4, zq5, zq6])
      clear b0 c0 b1 c1
      refine wpAnyG_ready (rs := [2]) (by kernel_rfl) (by simp) (AllG.cons rfl (fun w5 hg K hK => ?_) AllG.nil)
      have hgS := hSG.out _ _ hHeld.out hg
      have A5 := grBlk hgS HV.out.2.1
      obtain ⟨b0, b1⟩ := cells1 A5
      go_simp
      rw [setSame A5]
      refine hK.out _ _ hgS (fun hHeld => ?_)
      clear hK K hg hgS A5 b0 b1
      (try simp only [zq1, zq2, zq3, Act.put, zq4, zq5, zq6])
      refine wpAnyG_ready (rs := [3]) (by kernel_rfl) (by simp) (AllG.cons rfl (fun w6 hg K hK => ?_) AllG.nil)
      have hgS := hSG.out _ _ hHeld.out hg
      have A5 := grBlk hgS HV.out.2.2.1
      obtain ⟨b0, b1⟩ := cells1 A5
      go_simp
      rw [setSame A5]
      refine hK.out _ _ hgS (fun hHeld => ?_)
      clear hK K hg hgS A5 b0 b1
      (try simp only [zq1, zq2, zq3, Act.put, zq4, zq5, zq6])
      refine wpAnyG_done (by kernel_rfl) (fun w7 hg => ?_) _
      have hg7 := hSG.out _ _ hHeld.out hg
      clear hg hHeld hSG hmv
      obtain ⟨h1, h3, h4, h5, hD⟩ := HV.out
      have R7 : (w7.putObj (w.heap.size + 3) (.deferred none)).heap[w.heap.size + 1]? = _ := (World.putObj_heap_other (by omega)).trans (grBlk hg7 h3)
      have S7 : (w7.putObj (w.heap.size + 3) (.deferred none)).heap[w.heap.size + 2]? = _ := (World.putObj_heap_other (by omega)).trans (grBlk hg7 h4)
      go_wp2
      refine ret_ofc' (grBlk hg7 hD) (by rw [HE.out]; simp [results, Try.results44, go_sem, (cells1 R7).1, (cells1 S7).1]) ⟨rfl, (h1.trans (hg7.mono h1.size)).trans (belPut _ (by omega))⟩
  case stop =>
    rintro c V hsz h hD
    exact h.elim
end Go.Proofs.Ytbjhdfakocfapaa
