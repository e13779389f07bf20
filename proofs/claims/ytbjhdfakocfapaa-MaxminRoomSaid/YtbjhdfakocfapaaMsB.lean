/- Package maxmin: the flows with a link, as a function that is ranged over. Condition: lists of at most a million elements. -/
import Derived.Test.YtbjhdfakocfapaaMsA
import Derived.LoopNIn
import Derived.LoopIn
import Derived.TacticsInMore
import Derived.Shelf.RegionOpen
import Derived.Shelf.Abstract
namespace Go.Proofs.Ytbjhdfakocfapaa
open Go.RowKit
set_option linter.unusedVariables false
set_option linter.unusedSimpArgs false
attribute [local go_sem] Oper.semAt_some
/-- the numbers below N with a property, in order -/
def sel (P : Nat → Bool) (N : Nat) : List Nat := (List.range N).filter P
def rk (P : Nat → Bool) (p : Nat) : Nat := (sel P p).length
theorem sel_succ (P : Nat → Bool) (p : Nat) : sel P (p + 1) = sel P p ++ (if P p = true then [p] else []) := by
  unfold sel
  rw [List.range_succ, List.filter_append]
  congr 1
  by_cases h : P p = true <;> simp [List.filter, h]
theorem rk_zero (P : Nat → Bool) : rk P 0 = 0 := rfl
theorem rk_t {P : Nat → Bool} {p : Nat} (h : P p = true) : rk P (p + 1) = rk P p + 1 := by unfold rk; rw [sel_succ, if_pos h]; simp
theorem rk_f {P : Nat → Bool} {p : Nat} (h : P p = false) : rk P (p + 1) = rk P p := by unfold rk; rw [sel_succ, h]; simp
theorem sel_pre (P : Nat → Bool) {p N : Nat} (h : p ≤ N) : ∃ r, sel P N = sel P p ++ r := by
  induction N with
  | zero => obtain rfl : p = 0 := by omega
            exact ⟨[], by simp⟩
  | succ N ih =>
    by_cases e : p = N + 1
    · subst e; exact ⟨[], by simp⟩
    · obtain ⟨r, hr⟩ := ih (by omega)
      exact ⟨r ++ (if P N = true then [N] else []), by rw [sel_succ, hr, List.append_assoc]⟩
theorem rk_le (P : Nat → Bool) {p N : Nat} (h : p ≤ N) : rk P p ≤ (sel P N).length := by
  obtain ⟨r, hr⟩ := sel_pre P h
  rw [hr]; simp [rk]
theorem sel_get {P : Nat → Bool} {p N : Nat} (h : p < N) (hp : P p = true) : ∃ hk : rk P p < (sel P N).length, (sel P N)[rk P p] = p := by
  obtain ⟨r, hr⟩ := sel_pre P (show p + 1 ≤ N by omega)
  rw [sel_succ, if_pos hp] at hr
  have e : (sel P N)[rk P p]? = some p := by
    rw [hr]; unfold rk; rw [List.append_assoc, List.getElem?_append_right (Nat.le_refl _)]; simp
  obtain ⟨h1, h2⟩ := List.getElem?_eq_some_iff.1 e
  exact ⟨h1, h2⟩
theorem sel_mem {P : Nat → Bool} {N i : Nat} : i ∈ sel P N ↔ i < N ∧ P i = true := by simp [sel]
theorem sel_take {P : Nat → Bool} {p N : Nat} (h : p ≤ N) : (sel P N).take (rk P p) = sel P p := by
  obtain ⟨r, hr⟩ := sel_pre P h
  rw [hr, show rk P p = (sel P p).length from rfl, List.take_left']
  rfl
/-- flow i has the link -/
def onF (f : List (List Int)) (link : Int) (i : Nat) : Bool := (f[i]?.getD []).contains link
def onL (f : List (List Int)) (link : Int) : List Nat := sel (onF f link) f.length

abbrev ptr (b : Nat) : Value := .pointer (some ⟨b, 0, none⟩)
abbrev netB (n : Net) (a : NetA) : Obj := .cells #[.slice a.ca n.c.length a.cm, .slice a.fa n.f.length a.fm, .slice a.la n.l.length a.lm] 25 (0, 0)
abbrev intB (k : Int) : Obj := .cells #[.int .i64 k] 3 (0, 0)
set_option maxHeartbeats 1000000 in
set_option maxRecDepth 100000 in
theorem through_any (n : Net) (a : NetA) (link : Int) (w : World) : Calls Try.prog 84 #[nv n a, .int .i64 link] w fun e w' =>
    e = .returned (.func (.func 102) #[] #[ptr w.heap.size, ptr (w.heap.size + 1)]) ∧ w' = (w.alloc (netB n a)).alloc (intB link) := by
  go_enter Try.func84, Try.ntmps84
  go_wp2
  go_ret
  exact ⟨by simp, rfl⟩
/-- what through's closure reads -/
def ThrR (n : Net) (a : NetA) (link : Int) (bn bl : Nat) (W : World) : Prop :=
  W.heap[bn]? = some (netB n a) ∧ W.heap[bl]? = some (intB link) ∧ RowsR W n.f a.fa
theorem eFn {w : World} {b : Nat} {v : Value} {T : TypeId} (h : w.heap[b]? = some (.cells #[v] T (0, 0))) : w.cell? ⟨b, 0, none⟩ = some v := (cells1 h).1
set_option maxHeartbeats 4000000 in
set_option maxRecDepth 100000 in
theorem thr_iter (n : Net) (a : NetA) (link : Int) (bn bl : Nat) (hN : n.f.length ≤ 1000000) (hrow : ∀ r ∈ n.f, r.length ≤ 1000000) :
    Iter Try.prog 102 #[ptr bn, ptr bl] (onL n.f link) (fun i : Nat => #[Value.int .i64 (i : Int)]) (fun _ W => ThrR n a link bn bl W) := by
  intro l J Jx W hJ hJx hRd hY h0
  have HRd := Lib.hid hRd
  have HY := Lib.hid hY
  obtain ⟨P, hP⟩ : ∃ P, onF n.f link = P := ⟨_, rfl⟩
  have hx : onL n.f link = sel P n.f.length := by rw [← hP]; rfl
  rw [hx] at HRd HY ⊢
  obtain ⟨c0, c1, c2⟩ := cells3 (HRd.out 0 W (Nat.zero_le _) h0).1
  clear hRd hY hJ hJx
  refine (callsIn_wide (n := 0)).1 ?_
  refine callsIn_of_wp Try.func102 rfl trivial ?_ rfl
  simp only [Try.ntmps102, List.size_toArray, List.length_cons, List.length_nil, Nat.reduceAdd, Nat.reduceSub, Array.replicate_succ, Array.replicate_zero, List.push_toArray, List.append_toArray, List.nil_append, List.cons_append]
  gi_wp2
  gi_loopw [9] (fun i wr => ∃ p : Nat, p ≤ n.f.length ∧ i = .int .i64 p ∧ Hid (J (rk P p) wr) ∧ W.heap.size ≤ wr.heap.size) (fun i _ => n.f.length - (intOf i).toNat)
  case atStart => exact ⟨0, Nat.zero_le _, rfl, h0, Nat.le_refl _⟩
  case round =>
    obtain ⟨p, hp, rfl, hj, hsz⟩ := hrel
    clear c0 c1 c2
    obtain ⟨g0, g1, g2⟩ := HRd.out _ wr (rk_le P hp) hj.out
    obtain ⟨c0, c1, c2⟩ := cells3 g0
    have c3 := eFn g1
    by_cases hlt : p < n.f.length
    · obtain ⟨g, o, hA, hcs⟩ := g2.addr (by omega)
      obtain ⟨B, m, hc, hr⟩ := hcs p _ (List.getElem?_eq_getElem hlt)
      have hC := Lib.hid (Contains_any n.f[p] B m link wr hr (hrow _ (List.getElem_mem hlt)))
      have hb : n.f[p].contains link = P p := by rw [← hP]; unfold onF; rw [List.getElem?_eq_getElem hlt]; rfl
      rw [hb] at hC
      generalize n.f[p] = r at *
      rw [hA] at c1 ⊢
      clear hcs hr hb g0 g1 g2 hA
      rcases hPp : P p with _ | _
      · rw [hPp] at hC
        have e1 := Lib.hid (rk_f hPp)
        gi_wp2_with (refine ⟨trivial, rfl, ?_⟩; gi_at_call 103; refine (callsIn_wide.2 hC.out).mono ?_; rintro e w1 ⟨rfl, hw⟩; rw [hw])
        refine ⟨fun _ _ => trivial, ?_⟩
        gi_wp2
        go_roundw
        case rel => exact ⟨p + 1, by omega, by simp, by rw [e1.out]; exact hj, hsz⟩
        case measure => simp [intOf]; omega
      · rw [hPp] at hC
        have e1 := Lib.hid (rk_t hPp)
        obtain ⟨hk, hg⟩ := sel_get hlt hPp
        obtain ⟨fn, tmps, assign, body, hy, hR⟩ := HY.out _ hk wr hj.out hsz
        rw [hg] at hy
        gi_wp2_with (refine ⟨trivial, rfl, ?_⟩; gi_at_call 103; refine (callsIn_wide.2 hC.out).mono ?_; rintro e w1 ⟨rfl, hw⟩; rw [hw])
        first | refine hR.mono ?_ | refine ⟨rfl, hR.mono ?_⟩ | refine ⟨trivial, rfl, hR.mono ?_⟩
        rintro e W3 ⟨hup, (⟨rfl, hJ3⟩ | ⟨rfl, hJx3⟩)⟩
        · gi_wp2
          go_roundw
          case rel => exact ⟨p + 1, by omega, by simp, by rw [e1.out]; exact hJ3, Nat.le_trans hsz hup.size⟩
          case measure => simp [intOf]; omega
        · gi_wp2
          refine bodyPost_ret (results_none rfl _ _ _) rfl ?_
          exact ⟨⟨_, rfl⟩, Nat.le_trans hsz hup.size, .inr hJx3⟩
    · obtain rfl : p = n.f.length := by omega
      gi_wp2
      go_end0
      exact ⟨⟨_, rfl⟩, hsz, .inl hj.out⟩
end Go.Proofs.Ytbjhdfakocfapaa
