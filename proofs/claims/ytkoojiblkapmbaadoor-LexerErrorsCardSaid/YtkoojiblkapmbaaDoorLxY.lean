/- The law LexerMatchesReference's contract: it returns true; condition: the listed package-level variables hold what the text lays. -/
import Derived.Test.YtkoojiblkapmbaaDoorLxX
import Derived.Test.YtkoojiblkapmbaaDoorLxH
namespace Go.Proofs.YtkoojiblkapmbaaDoor
open Go.RowKit
set_option linter.unusedVariables false
set_option linter.unusedSimpArgs false

theorem rd_at (s : ByteArray) (p : Nat) (tk : Tk) (nx : Nat) (hq : rd s p = (tk, nx, 0)) : tk.a = p := by
  unfold rd at hq
  split at hq
  · simp at hq
  · split at hq
    · rename_i h
      simp only [Prod.mk.injEq] at hq
      exact absurd hq.2.2 h
    · simp only [Prod.mk.injEq] at hq
      rw [← hq.1]
      unfold tokOf
      split
      · rfl
      · split
        · rfl
        · split <;> rfl
theorem lexF_bounds (s : ByteArray) : ∀ (f p c : Nat), c ≤ 3000 → (lexF s f p c).1.length ≤ 3000 - c ∧ ∀ t ∈ (lexF s f p c).1, (p : Int) ≤ t.a ∧ t.a ≤ s.size := by
  intro f
  induction f with
  | zero => intro p c _; simp [lexF]
  | succ f ih =>
    intro p c hc
    rw [lexF]
    by_cases h1 : s.size ≤ p
    · rw [if_pos h1]; simp
    · rw [if_neg h1]
      by_cases h2 : c = 3000
      · rw [if_pos h2]; simp
      · rw [if_neg h2]
        obtain ⟨tk, nx, er, hq⟩ : ∃ tk nx er, rd s p = (tk, nx, er) := ⟨_, _, _, rfl⟩
        rw [hq]
        by_cases he : er = 0
        · subst he
          rw [if_neg (by show ¬ ((0 : Int) ≠ 0); decide)]
          have hn := rd_ok s p tk nx (by omega) hq
          have ha := rd_at s p tk nx hq
          have h3 := ih (gapE s nx) (c + 1) (by omega)
          have h4 := gapE_ge s nx
          refine ⟨by simp only [List.length_cons]; omega, fun t ht => ?_⟩
          rcases List.mem_cons.1 ht with rfl | ht
          · omega
          · have := h3.2 t ht; omega
        · rw [if_pos he]; simp
theorem lx_bounds (s : ByteArray) (ts : List Tk) (er : Int) (p : Nat) (h : lx s = (ts, er, p)) : ts.length ≤ 3000 ∧ ∀ t ∈ ts, 0 ≤ t.a ∧ t.a ≤ 100000 := by
  unfold lx at h
  have hb := lexF_bounds s (s.size + 1) (gapE s 0) 0 (by omega)
  split at h
  · simp only [Prod.mk.injEq] at h; rw [← h.1]; simp
  · split at h
    · simp only [Prod.mk.injEq] at h; rw [← h.1]; simp
    · simp only [Prod.mk.injEq] at h
      rw [← h.1]
      exact ⟨by omega, fun t ht => by have := hb.2 t ht; omega⟩
theorem map_shift0 (ts : List Tk) : ts = ts.map (shiftT 0) := by
  have : ∀ t : Tk, shiftT 0 t = t := fun t => by cases t; simp [shiftT]
  rw [show shiftT 0 = id from funext this, List.map_id]

set_option maxHeartbeats 400000 in
set_option maxRecDepth 100000 in
theorem MR_any (s : ByteArray) (w : World) (hL : LaidW w) (hw : 5 < w.heap.size) (hm : s.size ≤ maxLen) : Calls Tryd.prog 3 #[.string s] w (TrueB w) := by
  obtain ⟨ts, er, p, hx⟩ : ∃ ts er p, lx s = (ts, er, p) := ⟨_, _, _, rfl⟩
  have hbd := lx_bounds s ts er p hx
  have HX := Lib.hid hx
  have HM := Lib.hid hm
  have HBD := Lib.hid hbd
  clear hx hbd
  unfold maxLen at hm
  by_cases hlong : 12000 < s.size
  · go_enter Tryd.func3, Tryd.ntmps3
    go_wp2_with fail
    refine (head_any _ hL hw).mono ?_
    rintro e w1 ⟨rfl, hb1⟩
    go_wp2
    go_ret
    exact ⟨rfl, hb1⟩
  · go_enter Tryd.func3, Tryd.ntmps3
    go_wp2_with fail
    refine (head_any _ hL hw).mono ?_
    rintro e w1 ⟨rfl, hb1⟩
    have L1 := hL.below hb1 hw
    have W1 : 5 < w1.heap.size := Nat.lt_of_lt_of_le hw hb1.size
    go_wp2_with fail
    refine (Lex_any s w1 L1 W1 HM.out).mono ?_
    intro e w2 hp
    obtain ⟨A2, c2, rfl, ho2, hb2⟩ := hp.elim HX.out
    clear hp
    have T2 := Lib.hid (TokS_own ho2)
    clear ho2
    go_wp2_with fail
    refine (RLex_any s w2 HM.out).mono ?_
    intro e w3 hp
    obtain ⟨A3, c3, rfl, ho3, hb3⟩ := hp.elim HX.out
    clear hp
    have T3 := Lib.hid (TokS_own ho3)
    clear ho3
    go_wp2_with fail
    refine (Same_eq _ A2 A3 ts ts _ _ _ _ 0 rfl rfl (map_shift0 ts) (T2.out.keep hb3 hb3.size) T3.out HBD.out.1 (by decide) HBD.out.2).mono ?_
    rintro e w4 ⟨rfl, n4, rfl⟩
    go_wp2
    go_ret
    exact ⟨rfl, below_drewN ((hb1.trans (hb2.mono hb1.size)).trans (hb3.mono (Nat.le_trans hb1.size hb2.size))) _⟩
end Go.Proofs.YtkoojiblkapmbaaDoor
