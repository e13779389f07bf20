/- Package maxmin: comparing levels; the stops as a function that is ranged over. -/
import Derived.Test.YtbjhdfakocfapaaMsF
namespace Go.Proofs.Ytbjhdfakocfapaa
open Go.RowKit
set_option linter.unusedVariables false
set_option linter.unusedSimpArgs false
attribute [local go_sem] Oper.semAt_some
theorem m_link (k : Nat) (v : Value) (w : World) : (method (k + 1) 109 v "queuelab/maxmin.level").run Try.prog w = .ok (127, v) w := by kernel_rfl
theorem m_lim (k : Nat) (v : Value) (w : World) : (method (k + 1) 112 v "queuelab/maxmin.level").run Try.prog w = .ok (132, v) w := by kernel_rfl
theorem s_link (k : Nat) (v : Value) (w : World) : (method (k + 1) 109 v "queuelab/maxmin.stopped").run Try.prog w = .ok (79, v) w := by kernel_rfl
theorem s_lim (k : Nat) (v : Value) (w : World) : (method (k + 1) 112 v "queuelab/maxmin.stopped").run Try.prog w = .ok (80, v) w := by kernel_rfl
theorem limlev_any (W0 : World) (F R X : Nat) (n : Net) (a : NetA) (xs : List Q) (fx : List Bool) (i : Nat) (hi : i < n.l.length) (w : World) (hf : FilR W0 F R X n a xs fx w) :
    Calls Try.prog 132 #[.agg #[.pointer (some ⟨F, 0, none⟩), .int .i64 (i : Int)]] w (VV (qv (lev n xs fx (.lim i))) w) := limlevel_any W0 F R X n a xs fx i hi w hf
/-- a stop of the network -/
def okS (n : Net) : Sp → Prop
  | .link l => l < n.c.length
  | .lim i => i < n.l.length
set_option maxHeartbeats 4000000 in
set_option maxRecDepth 100000 in
theorem cmpLev_any (W0 : World) (F R X : Nat) (n : Net) (a : NetA) (xs : List Q) (fx : List Bool) (s t : Sp) (hs : okS n s) (ht : okS n t) (hN : n.f.length ≤ 1000000) (hrow : ∀ r ∈ n.f, r.length ≤ 1000000) (w : World) (hf : FilR W0 F R X n a xs fx w) :
    Calls Try.prog 46 #[spV F s, spV F t] w (VV (.int .i64 (cmpM (lev n xs fx s) (lev n xs fx t)).1) w) := by
  have HF := Lib.hid hf
  have HG := Lib.hid (show Gr w w from Below.refl w.heap.size w)
  clear hf
  rcases s with l1 | i1 <;> rcases t with l2 | i2
  · have H1 := Lib.hid (fun wx h => level_any W0 F R X n a xs fx l1 hs hN hrow wx h)
    have H2 := Lib.hid (fun wx h => level_any W0 F R X n a xs fx l2 ht hN hrow wx h)
    clear hN hrow
    generalize lev n xs fx (.link l1) = q1 at *
    generalize lev n xs fx (.link l2) = q2 at *
    obtain ⟨r, hr⟩ : ∃ r, cmpM q1 q2 = r := ⟨_, rfl⟩
    have HC := Lib.hid (fun wx => Cmp_any q1 q2 wx)
    rw [hr] at HC ⊢
    clear hr
    unfold spV
    have hm1 := m_link
    have hm2 := m_lim
    go_enter Try.func46, Try.ntmps46
    go_wp2_with fail
    go_at_call 127
    refine (H1.out _ HF.out).mono ?_
    rintro e w1 ⟨rfl, hb1⟩
    replace HG := Lib.hid (Gr.tr HG.out hb1)
    clear hb1
    go_wp2_with fail
    go_at_call 127
    refine (H2.out _ (HF.out.up HG.out)).mono ?_
    rintro e w2 ⟨rfl, hb1⟩
    replace HG := Lib.hid (Gr.tr HG.out hb1)
    clear hb1
    go_wp2_with fail
    go_at_call 81
    refine (HC.out _).mono ?_
    rintro e w3 ⟨rfl, hb1⟩
    replace HG := Lib.hid (Gr.tr HG.out hb1)
    clear hb1
    go_wp2
    go_ret
    exact ⟨rfl, HG.out⟩
  · have H1 := Lib.hid (fun wx h => level_any W0 F R X n a xs fx l1 hs hN hrow wx h)
    have H2 := Lib.hid (fun wx h => limlev_any W0 F R X n a xs fx i2 ht wx h)
    clear hN hrow
    generalize lev n xs fx (.link l1) = q1 at *
    generalize lev n xs fx (.lim i2) = q2 at *
    obtain ⟨r, hr⟩ : ∃ r, cmpM q1 q2 = r := ⟨_, rfl⟩
    have HC := Lib.hid (fun wx => Cmp_any q1 q2 wx)
    rw [hr] at HC ⊢
    clear hr
    unfold spV
    have hm1 := m_link
    have hm2 := m_lim
    go_enter Try.func46, Try.ntmps46
    go_wp2_with fail
    go_at_call 127
    refine (H1.out _ HF.out).mono ?_
    rintro e w1 ⟨rfl, hb1⟩
    replace HG := Lib.hid (Gr.tr HG.out hb1)
    clear hb1
    go_wp2_with fail
    go_at_call 132
    refine (H2.out _ (HF.out.up HG.out)).mono ?_
    rintro e w2 ⟨rfl, hb1⟩
    replace HG := Lib.hid (Gr.tr HG.out hb1)
    clear hb1
    go_wp2_with fail
    go_at_call 81
    refine (HC.out _).mono ?_
    rintro e w3 ⟨rfl, hb1⟩
    replace HG := Lib.hid (Gr.tr HG.out hb1)
    clear hb1
    go_wp2
    go_ret
    exact ⟨rfl, HG.out⟩
  · have H1 := Lib.hid (fun wx h => limlev_any W0 F R X n a xs fx i1 hs wx h)
    have H2 := Lib.hid (fun wx h => level_any W0 F R X n a xs fx l2 ht hN hrow wx h)
    clear hN hrow
    generalize lev n xs fx (.lim i1) = q1 at *
    generalize lev n xs fx (.link l2) = q2 at *
    obtain ⟨r, hr⟩ : ∃ r, cmpM q1 q2 = r := ⟨_, rfl⟩
    have HC := Lib.hid (fun wx => Cmp_any q1 q2 wx)
    rw [hr] at HC ⊢
    clear hr
    unfold spV
    have hm1 := m_link
    have hm2 := m_lim
    go_enter Try.func46, Try.ntmps46
    go_wp2_with fail
    go_at_call 132
    refine (H1.out _ HF.out).mono ?_
    rintro e w1 ⟨rfl, hb1⟩
    replace HG := Lib.hid (Gr.tr HG.out hb1)
    clear hb1
    go_wp2_with fail
    go_at_call 127
    refine (H2.out _ (HF.out.up HG.out)).mono ?_
    rintro e w2 ⟨rfl, hb1⟩
    replace HG := Lib.hid (Gr.tr HG.out hb1)
    clear hb1
    go_wp2_with fail
    go_at_call 81
    refine (HC.out _).mono ?_
    rintro e w3 ⟨rfl, hb1⟩
    replace HG := Lib.hid (Gr.tr HG.out hb1)
    clear hb1
    go_wp2
    go_ret
    exact ⟨rfl, HG.out⟩
  · have H1 := Lib.hid (fun wx h => limlev_any W0 F R X n a xs fx i1 hs wx h)
    have H2 := Lib.hid (fun wx h => limlev_any W0 F R X n a xs fx i2 ht wx h)
    clear hN hrow
    generalize lev n xs fx (.lim i1) = q1 at *
    generalize lev n xs fx (.lim i2) = q2 at *
    obtain ⟨r, hr⟩ : ∃ r, cmpM q1 q2 = r := ⟨_, rfl⟩
    have HC := Lib.hid (fun wx => Cmp_any q1 q2 wx)
    rw [hr] at HC ⊢
    clear hr
    unfold spV
    have hm1 := m_link
    have hm2 := m_lim
    go_enter Try.func46, Try.ntmps46
    go_wp2_with fail
    go_at_call 132
    refine (H1.out _ HF.out).mono ?_
    rintro e w1 ⟨rfl, hb1⟩
    replace HG := Lib.hid (Gr.tr HG.out hb1)
    clear hb1
    go_wp2_with fail
    go_at_call 132
    refine (H2.out _ (HF.out.up HG.out)).mono ?_
    rintro e w2 ⟨rfl, hb1⟩
    replace HG := Lib.hid (Gr.tr HG.out hb1)
    clear hb1
    go_wp2_with fail
    go_at_call 81
    refine (HC.out _).mono ?_
    rintro e w3 ⟨rfl, hb1⟩
    replace HG := Lib.hid (Gr.tr HG.out hb1)
    clear hb1
    go_wp2
    go_ret
    exact ⟨rfl, HG.out⟩
theorem st_get1 {n : Net} {fx : List Bool} {p : Nat} (h : p < n.c.length) (hp : hasLink n fx p = true) : ∃ hk : rk (hasLink n fx) p < (stopsL n fx).length, (stopsL n fx)[rk (hasLink n fx) p] = .link p := by
  obtain ⟨hk, hg⟩ := sel_get h hp
  have e : (stopsL n fx)[rk (hasLink n fx) p]? = some (.link p) := by
    unfold stopsL
    rw [List.getElem?_append_left (by simpa using hk), List.getElem?_map, List.getElem?_eq_getElem hk, hg]; rfl
  obtain ⟨h1, h2⟩ := List.getElem?_eq_some_iff.1 e
  exact ⟨h1, h2⟩
def base (n : Net) (fx : List Bool) : Nat := (sel (hasLink n fx) n.c.length).length
theorem st_get2 {n : Net} {fx : List Bool} {p : Nat} (h : p < n.l.length) (hp : hasLim n fx p = true) : ∃ hk : base n fx + rk (hasLim n fx) p < (stopsL n fx).length, (stopsL n fx)[base n fx + rk (hasLim n fx) p] = .lim p := by
  obtain ⟨hk, hg⟩ := sel_get h hp
  have e : (stopsL n fx)[base n fx + rk (hasLim n fx) p]? = some (.lim p) := by
    unfold stopsL base
    rw [List.getElem?_append_right (by simp), List.getElem?_map]
    simp only [List.length_map, Nat.add_sub_cancel_left]
    rw [List.getElem?_eq_getElem hk, hg]; rfl
  obtain ⟨h1, h2⟩ := List.getElem?_eq_some_iff.1 e
  exact ⟨h1, h2⟩
theorem st_len (n : Net) (fx : List Bool) : (stopsL n fx).length = base n fx + rk (hasLim n fx) n.l.length := by simp [stopsL, base, rk]
theorem st_le1 (n : Net) (fx : List Bool) {p : Nat} (h : p ≤ n.c.length) : rk (hasLink n fx) p ≤ (stopsL n fx).length := by
  have := rk_le (hasLink n fx) h
  rw [st_len]; unfold base; omega
theorem st_le2 (n : Net) (fx : List Bool) {p : Nat} (h : p ≤ n.l.length) : base n fx + rk (hasLim n fx) p ≤ (stopsL n fx).length := by
  have := rk_le (hasLim n fx) h
  rw [st_len]; unfold rk at *; omega
abbrev filP (F : Nat) : Obj := .cells #[.pointer (some ⟨F, 0, none⟩)] 70 (0, 0)
set_option maxHeartbeats 1000000 in
set_option maxRecDepth 100000 in
theorem stops_any (F : Nat) (w : World) : Calls Try.prog 45 #[.pointer (some ⟨F, 0, none⟩)] w fun e w' =>
    e = .returned (.func (.func 77) #[] #[ptr w.heap.size]) ∧ w' = w.alloc (filP F) := by
  go_enter Try.func45, Try.ntmps45
  go_wp2
  go_ret
  exact ⟨rfl, rfl⟩
theorem anyLink (W0 : World) (F R X : Nat) (n : Net) (a : NetA) (xs : List Q) (fx : List Bool) (l b : Nat) (hN : n.f.length ≤ 1000000) (hrow : ∀ r ∈ n.f, r.length ≤ 1000000) (w : World) (hb : w.heap[b]? = some (lnkB F l)) (hf : FilR W0 F R X n a xs fx w) :
    Calls Try.prog 78 #[.func (.func 97) #[] #[ptr b]] w (BB (hasLink n fx l) w) :=
  isAny_any _ _ (unfL n fx l) (fun i : Nat => Value.int .i64 (i : Int)) _ (enters_of Try.func97 (by kernel_rfl) rfl) (lstop_iter W0 F R X n a fx l b hN hrow) w (fun k W hg => ⟨grBlk hg hb, xs, fx, hf.up hg, fun _ _ => rfl⟩)
theorem anyLim (W0 : World) (F R X : Nat) (n : Net) (a : NetA) (xs : List Q) (fx : List Bool) (i b : Nat) (hi : i < n.f.length) (w : World) (hb : w.heap[b]? = some (limB F i)) (hf : FilR W0 F R X n a xs fx w) :
    Calls Try.prog 78 #[.func (.func 98) #[] #[ptr b]] w (BB (!fxd fx i) w) := by
  have h := isAny_any _ _ (limL fx i) (fun i : Nat => Value.int .i64 (i : Int)) _ (enters_of Try.func98 (by kernel_rfl) rfl) (mstop_iter W0 F R X n a fx i b hi) w (fun k W hg => ⟨grBlk hg hb, xs, fx, hf.up hg, fun _ => rfl⟩)
  have e : (!(limL fx i).isEmpty) = !fxd fx i := by unfold limL; cases fxd fx i <;> rfl
  rw [e] at h
  exact h
end Go.Proofs.Ytbjhdfakocfapaa
