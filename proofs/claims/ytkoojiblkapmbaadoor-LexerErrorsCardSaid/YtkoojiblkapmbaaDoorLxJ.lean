/- The law LexerJoins' contract: it returns true; condition: the listed package-level variables hold what the text lays. -/
import Derived.Test.YtkoojiblkapmbaaDoorLxZ
import Derived.Lib.Hide
namespace Go.Proofs.YtkoojiblkapmbaaDoor
open Go.RowKit
set_option linter.unusedVariables false
set_option linter.unusedSimpArgs false

theorem lx_inv {s : ByteArray} {ts : List Tk} {p : Nat} (hs : s.size ≤ 10000) (h : lx s = (ts, 0, p)) : ∃ r, Run s 0 ts r ∧ s.size ≤ gapE s r ∧ ts.length ≤ 3000 := by
  obtain ⟨ts', r, h1, h2, h3⟩ := lx_run s hs
  rcases h3 with ⟨h4, h5⟩ | ⟨er, he, _, _, h5⟩
  · rw [h] at h5
    simp only [Prod.mk.injEq] at h5
    rw [h5.1]
    exact ⟨r, h1, h4, h2⟩
  · rw [h] at h5
    simp only [Prod.mk.injEq] at h5
    exact absurd h5.2.1.symm he
theorem lx_err_nil {s : ByteArray} {ts : List Tk} {er : Int} {p : Nat} (h : lx s = (ts, er, p)) (he : er ≠ 0) : ts = [] := by
  unfold lx at h
  split at h
  · simp only [Prod.mk.injEq] at h; exact h.1.symm
  · split at h
    · simp only [Prod.mk.injEq] at h; exact h.1.symm
    · simp only [Prod.mk.injEq] at h; exact absurd h.2.1.symm he
theorem gap_all {s : ByteArray} {r : Nat} (hr : r ≤ s.size) (h : s.size ≤ gapE s r) : gapLen false (s.data.toList.drop r) = (s.data.toList.drop r).length := by
  unfold gapE at h
  have h1 := gapLen_le (s.data.toList.drop r) false
  have h2 : (s.data.toList.drop r).length = s.size - r := by simp
  omega

theorem Run.head_lt {s : ByteArray} {r r' : Nat} {ts : List Tk} (h : Run s r ts r') (hne : ts ≠ []) : gapE s r < s.size := by
  cases h with
  | nil => exact absurd rfl hne
  | cons hp _ _ => exact hp
theorem join_run (a b s : ByteArray) (ra : Nat) (l m : List Tk) (rb : Nat) (hs : s.data.toList = a.data.toList ++ 10 :: b.data.toList) (h1 : Run a 0 l ra) (h2 : a.size ≤ gapE a ra) (h3 : Run b 0 m rb) :
    ∃ r, Run s 0 (l ++ m.map (shiftT ((a.size + 1 : Nat) : Int))) r ∧ gapE s r = gapE b rb + (a.size + 1) := by
  have hra := h1.size (Nat.zero_le _)
  have hsz : s.size = a.size + 1 + b.size := by
    have := congrArg List.length hs
    simp only [List.length_append, List.length_cons, len_list] at this
    omega
  have hpre : Pre a s a.size := ⟨Nat.le_refl _, by rw [hs, List.take_append_of_le_length (by rw [len_list]; omega)], by omega, Or.inr ⟨10, b.data.toList, by
    rw [hs, List.drop_append_of_le_length (by rw [len_list]; omega), List.drop_eq_nil_of_le (by rw [len_list]; omega)]; rfl, by decide, by decide⟩⟩
  have hrun := hpre.run h1 hra
  have hsuf : Suf b s 0 (a.size + 1) := by
    unfold Suf
    rw [hs, Nat.zero_add, List.drop_zero, ← len_list a, ← List.drop_drop, List.drop_left]
    rfl
  have hgap : gapE s ra = gapE b 0 + (a.size + 1) := by
    have h4 := gap_all hra h2
    have h5 : s.data.toList.drop ra = a.data.toList.drop ra ++ 10 :: b.data.toList := by rw [hs, List.drop_append_of_le_length (by rw [len_list]; omega)]
    unfold gapE
    rw [h5, gapLen_all _ false _ h4]
    have h6 : ∀ c, gapLen c (10 :: b.data.toList) = gapLen false b.data.toList + 1 := by intro c; cases c <;> rfl
    rw [h6, List.length_drop, len_list, List.drop_zero]
    omega
  obtain ⟨r1, h7, h8, _, _⟩ := Suf.join h3 (hsuf.more (Nat.zero_le _)) hgap
  exact ⟨r1, hrun.app h7, h8⟩
theorem join_size (a b s : ByteArray) (hs : s.data.toList = a.data.toList ++ 10 :: b.data.toList) : s.size = a.size + 1 + b.size := by
  have := congrArg List.length hs
  simp only [List.length_append, List.length_cons, len_list] at this
  omega
theorem join_ok (a b s : ByteArray) (l m : List Tk) (p q : Nat) (hs : s.data.toList = a.data.toList ++ 10 :: b.data.toList) (ha : a.size ≤ 10000) (hb : b.size ≤ 10000) (h10 : s.size ≤ 10000)
    (h1 : lx a = (l, 0, p)) (h2 : lx b = (m, 0, q)) (hl : l.length + m.length ≤ 3000) : lx s = (l ++ m.map (shiftT ((a.size + 1 : Nat) : Int)), 0, 0) := by
  obtain ⟨ra, h3, h4, _⟩ := lx_inv ha h1
  obtain ⟨rb, h5, h6, _⟩ := lx_inv hb h2
  obtain ⟨r, h7, h8⟩ := join_run a b s ra l m rb hs h3 h4 h5
  have hz := join_size a b s hs
  exact lx_ok h10 h7 (by omega) (by simpa using hl)
theorem join_many (a b s : ByteArray) (l m : List Tk) (p q : Nat) (hs : s.data.toList = a.data.toList ++ 10 :: b.data.toList) (ha : a.size ≤ 10000) (hb : b.size ≤ 10000) (h10 : s.size ≤ 10000)
    (h1 : lx a = (l, 0, p)) (h2 : lx b = (m, 0, q)) (hl : 3000 < l.length + m.length) : ∃ i, lx s = ([], 2, i) ∧ a.size < i := by
  obtain ⟨ra, h3, h4, h5⟩ := lx_inv ha h1
  obtain ⟨rb, h6, h7, _⟩ := lx_inv hb h2
  rw [← List.take_append_drop (3000 - l.length) m] at h6
  obtain ⟨rk, h8, h9⟩ := Run.split _ h6
  have hne : m.drop (3000 - l.length) ≠ [] := by
    intro h
    have := congrArg List.length h
    simp at this
    omega
  have hlt : gapE b rk < b.size := h9.head_lt hne
  obtain ⟨r, h10', h11⟩ := join_run a b s ra l _ rk hs h3 h4 h8
  have hz := join_size a b s hs
  exact ⟨gapE s r, lx_bad h10 h10' (by omega) (by simp; omega) (by decide) (Or.inl ⟨by simp; omega, rfl⟩), by omega⟩

/-- what the caller of Lex may go on with -/
theorem LexPost.elim2 {s : ByteArray} {w w' : World} {e : Ending} {ts : List Tk} {er : Int} {p : Nat} (h : LexPost s w e w') (hx : lx s = (ts, er, p)) :
    ∃ A c, e = .returned (.tuple #[.slice A ts.length c, .int .i64 er, .int .i64 (p : Nat)]) ∧ TokS w' w'.heap.size A ts ∧ Below w.heap.size w w' ∧ ((A = none ∧ ts = [] ∧ c = 0) ∨ ∃ g, A = some ⟨g, 0, none⟩ ∧ ts.length ≤ c ∧ c ≤ maxLen) := by
  obtain ⟨A, c, h1, h2, h3⟩ := h.elim hx
  refine ⟨A, c, h1, TokS_own h2, h3, ?_⟩
  rcases h2.2 with ⟨hv, h0⟩ | ⟨g, cap, cur, hv, _, _, hn, hc, _⟩
  · injection hv with e1 e2 e3
    exact Or.inl ⟨e1, List.eq_nil_of_length_eq_zero h0, e3⟩
  · injection hv with e1 e2 e3
    exact Or.inr ⟨g, e1, by omega, by omega⟩

theorem TokS.left {w : World} {B : Nat} {A : Option Addr} {l u : List Tk} (h : TokS w B A (l ++ u)) : TokS w B A l := by
  intro hpos
  obtain ⟨g, o, hA, hg, hc⟩ := h (by rw [List.length_append]; omega)
  exact ⟨g, o, hA, hg, fun i t ht => hc i t (by rw [List.getElem?_append_left (by have := (List.getElem?_eq_some_iff.1 ht).1; exact this)]; exact ht)⟩
theorem TokS.right {w : World} {B g o : Nat} {l u : List Tk} (h : TokS w B (some ⟨g, o, none⟩) (l ++ u)) : TokS w B (some ⟨g, o + l.length * 4, none⟩) u := by
  intro hpos
  obtain ⟨g', o', hA, hg, hc⟩ := h (by rw [List.length_append]; omega)
  simp only [Option.some.injEq, Addr.mk.injEq] at hA
  obtain ⟨rfl, rfl, _⟩ := hA
  refine ⟨_, _, rfl, hg, fun i t ht => ?_⟩
  have h1 := hc (l.length + i) t (by rw [List.getElem?_append_right (by omega)]; rw [show l.length + i - l.length = i by omega]; exact ht)
  rw [show o + (l.length + i) * 4 = o + l.length * 4 + i * 4 by omega] at h1
  exact h1

set_option maxHeartbeats 1000000 in
set_option maxRecDepth 100000 in
theorem Joins_any (a b : ByteArray) (w : World) (hL : LaidW w) (hw : 5 < w.heap.size) (hma : a.size ≤ maxLen) (hmb : b.size ≤ maxLen) : Calls Tryd.prog 6 #[.string a, .string b] w (TrueB w) := by
  unfold maxLen at hma hmb
  obtain ⟨l, e1, p1, hx1⟩ : ∃ l e1 p1, lx a = (l, e1, p1) := ⟨_, _, _, rfl⟩
  obtain ⟨m, e2, p2, hx2⟩ : ∃ m e2 p2, lx b = (m, e2, p2) := ⟨_, _, _, rfl⟩
  have HX1 := Lib.hid hx1
  have HX2 := Lib.hid hx2
  by_cases ha : a.size ≤ 10000
  · by_cases hb : b.size ≤ 10000
    · have hm1 := Lib.hid (show a.size ≤ maxLen by unfold maxLen; omega)
      have hm2 := Lib.hid (show b.size ≤ maxLen by unfold maxLen; omega)
      by_cases he1 : e1 = 0
      · by_cases he2 : e2 = 0
        · subst he1 he2
          clear hx1 hx2
          go_enter Tryd.func6, Tryd.ntmps6
          go_wp2_with fail
          refine (head_any _ hL hw).mono ?_
          rintro e w1 ⟨rfl, hb1⟩
          have L1 := hL.below hb1 hw
          have W1 : 5 < w1.heap.size := Nat.lt_of_lt_of_le hw hb1.size
          go_wp2_with fail
          refine (Lex_any a w1 L1 W1 hm1.out).mono ?_
          intro e w2 hp
          obtain ⟨A2, c2, rfl, T2, hb2, hA2⟩ := hp.elim2 HX1.out
          clear hp
          have L2 := L1.below hb2 W1
          have W2 : 5 < w2.heap.size := Nat.lt_of_lt_of_le W1 hb2.size
          go_wp2_with fail
          refine (Lex_any b w2 L2 W2 hm2.out).mono ?_
          intro e w3 hp
          obtain ⟨A3, c3, rfl, T3, hb3, hA3⟩ := hp.elim2 HX2.out
          clear hp
          have L3 := L2.below hb3 W2
          have W3 : 5 < w3.heap.size := Nat.lt_of_lt_of_le W2 hb3.size
          have hb13 : Below w.heap.size w w3 := (hb1.trans (hb2.mono hb1.size)).trans (hb3.mono (Nat.le_trans hb1.size hb2.size))
          have T2' := Lib.hid (T2.keep hb3 hb3.size)
          have T3' := Lib.hid T3
          clear T2 T3 hA2 hA3 hL L1 L2 hb1 hb2 hb3
          go_wp2_with fail
          have hs : (a ++ ⟨#[10]⟩ ++ b : ByteArray).data.toList = a.data.toList ++ 10 :: b.data.toList := by simp
          generalize (a ++ ⟨#[10]⟩ ++ b : ByteArray) = S at *
          have hz := join_size a b S hs
          have HZ := Lib.hid hz
          have hmS : S.size ≤ maxLen := by unfold maxLen; omega
          have HS := Lib.hid hs
          clear hs
          by_cases hbig : 10000 < S.size
          · have hx4 : lx S = ([], 2, 0) := by unfold lx; rw [if_pos hbig]
            have hbig2 : (10000 : Int) < (a.size : Int) + (b.size : Int) + 1 := by omega
            clear hz hbig
            refine (Lex_any S w3 L3 W3 hmS).mono ?_
            intro e w4 hp
            obtain ⟨A4, c4, rfl, T4, hb4, hA4⟩ := hp.elim2 hx4
            clear hp hx4
            go_wp2
            go_ret
            exact ⟨rfl, hb13.trans (hb4.mono hb13.size)⟩
          · by_cases hmany : 3000 < l.length + m.length
            · obtain ⟨i, hx4, hi⟩ := join_many a b S l m p1 p2 HS.out ha hb (by omega) HX1.out HX2.out hmany
              have hbig2 : (a.size : Int) + (b.size : Int) + 1 ≤ 10000 := by omega
              have HX4 := Lib.hid hx4
              clear hz hbig hx4
              refine (Lex_any S w3 L3 W3 hmS).mono ?_
              intro e w4 hp
              obtain ⟨A4, c4, rfl, T4, hb4, hA4⟩ := hp.elim2 HX4.out
              clear hp
              have hbl := lx_bounds a l 0 p1 HX1.out
              have hbm := lx_bounds b m 0 p2 HX2.out
              obtain ⟨hbl1, _⟩ := hbl
              obtain ⟨hbm1, _⟩ := hbm
              go_wp2
              go_ret
              exact ⟨rfl, hb13.trans (hb4.mono hb13.size)⟩
            · have hx4 := join_ok a b S l m p1 p2 HS.out ha hb (by omega) HX1.out HX2.out (by omega)
              have hbig2 : (a.size : Int) + (b.size : Int) + 1 ≤ 10000 := by omega
              have HX4 := Lib.hid hx4
              clear hz hbig hx4
              refine (Lex_any S w3 L3 W3 hmS).mono ?_
              intro e w4 hp
              obtain ⟨A4, c4, rfl, T4, hb4, hA4⟩ := hp.elim2 HX4.out
              clear hp
              have hlen : (l ++ m.map (shiftT ((a.size + 1 : Nat) : Int))).length = l.length + m.length := by simp
              rw [hlen] at hA4 ⊢
              clear hlen
              have HBL := Lib.hid (lx_bounds a l 0 p1 HX1.out)
              have HBM := Lib.hid (lx_bounds b m 0 p2 HX2.out)
              rcases hA4 with ⟨rfl, h0, rfl⟩ | ⟨g, rfl, hc1, hc2⟩
              · have hl0 : l = [] := (List.append_eq_nil_iff.1 h0).1
                have hm0 : m = [] := by simpa using (List.append_eq_nil_iff.1 h0).2
                subst hl0 hm0
                go_wp2_with fail
                refine (Same_eq _ A2 _ [] [] _ _ _ _ 0 rfl rfl rfl (fun h => absurd h (by simp)) (fun h => absurd h (by simp)) (by simp) (by decide) (by simp)).mono ?_
                rintro e w5 ⟨rfl, n5, rfl⟩
                go_wp2_with fail
                refine (Same_eq _ A3 _ [] [] _ _ _ _ _ rfl rfl rfl (fun h => absurd h (by simp)) (fun h => absurd h (by simp)) (by simp) (by omega) (by simp)).mono ?_
                rintro e w6 ⟨rfl, n6, rfl⟩
                go_wp2
                go_ret
                exact ⟨rfl, below_drewN (hb13.trans (hb4.mono hb13.size)) _⟩
              · have hc3 : l.length ≤ c4 := by omega
                by_cases hcap : c4 = l.length
                · have hm0 : m = [] := List.eq_nil_of_length_eq_zero (by omega)
                  subst hm0 hcap
                  go_wp2_with fail
                  refine (Same_eq _ A2 _ l l _ _ _ _ 0 rfl rfl (map_shift0 l) ?hA3 ?hB3 HBL.out.1 (by decide) HBL.out.2).mono ?_
                  case hA3 => exact T2'.out.keep hb4 hb4.size
                  case hB3 => exact T4.left
                  rintro e w5 ⟨rfl, n5, rfl⟩
                  go_wp2_with fail
                  refine (Same_eq _ A3 _ [] [] _ _ _ _ _ rfl rfl rfl (fun h => absurd h (by simp)) (fun h => absurd h (by simp)) (by simp) (by omega) (by simp)).mono ?_
                  rintro e w6 ⟨rfl, n6, rfl⟩
                  go_wp2
                  go_ret
                  exact ⟨rfl, below_drewN (hb13.trans (hb4.mono hb13.size)) _⟩
                · go_wp2_with fail
                  refine (Same_eq _ A2 _ l l _ _ _ _ 0 rfl rfl (map_shift0 l) ?hA1 ?hB1 HBL.out.1 (by decide) HBL.out.2).mono ?_
                  case hA1 => exact T2'.out.keep hb4 hb4.size
                  case hB1 => exact T4.left
                  rintro e w5 ⟨rfl, n5, rfl⟩
                  go_wp2_with fail
                  refine (Same_eq _ A3 _ m (m.map (shiftT ((a.size + 1 : Nat) : Int))) _ _ _ _ _ rfl rfl (by rfl) ?hA2 ?hB2 HBM.out.1 (by omega) HBM.out.2).mono ?_
                  case hA2 => exact (T3'.out.keep hb4 hb4.size).drewN n5
                  case hB2 =>
                    have h5 := T4.right
                    rw [Nat.zero_add] at h5
                    exact h5
                  rintro e w6 ⟨rfl, n6, rfl⟩
                  go_wp2
                  go_ret
                  exact ⟨rfl, below_drewN (hb13.trans (hb4.mono hb13.size)) _⟩
        · have hn2 : (e2 != 0) = true := by simp [he2]
          subst he1
          clear hx1 hx2 he2
          go_enter Tryd.func6, Tryd.ntmps6
          go_wp2_with fail
          refine (head_any _ hL hw).mono ?_
          rintro e w1 ⟨rfl, hb1⟩
          have L1 := hL.below hb1 hw
          have W1 : 5 < w1.heap.size := Nat.lt_of_lt_of_le hw hb1.size
          go_wp2_with fail
          refine (Lex_any a w1 L1 W1 hm1.out).mono ?_
          intro e w2 hp
          obtain ⟨A2, c2, rfl, T2, hb2, hA2⟩ := hp.elim2 HX1.out
          clear hp
          have L2 := L1.below hb2 W1
          have W2 : 5 < w2.heap.size := Nat.lt_of_lt_of_le W1 hb2.size
          go_wp2_with fail
          refine (Lex_any b w2 L2 W2 hm2.out).mono ?_
          intro e w3 hp
          obtain ⟨A3, c3, rfl, T3, hb3, hA3⟩ := hp.elim2 HX2.out
          clear hp hA2 hA3
          go_wp2
          go_ret
          exact ⟨rfl, (hb1.trans (hb2.mono hb1.size)).trans (hb3.mono (Nat.le_trans hb1.size hb2.size))⟩
      · have hn1 : (e1 != 0) = true := by simp [he1]
        clear hx1 hx2 he1
        go_enter Tryd.func6, Tryd.ntmps6
        go_wp2_with fail
        refine (head_any _ hL hw).mono ?_
        rintro e w1 ⟨rfl, hb1⟩
        have L1 := hL.below hb1 hw
        have W1 : 5 < w1.heap.size := Nat.lt_of_lt_of_le hw hb1.size
        go_wp2_with fail
        refine (Lex_any a w1 L1 W1 hm1.out).mono ?_
        intro e w2 hp
        obtain ⟨A2, c2, rfl, T2, hb2, hA2⟩ := hp.elim2 HX1.out
        clear hp
        have L2 := L1.below hb2 W1
        have W2 : 5 < w2.heap.size := Nat.lt_of_lt_of_le W1 hb2.size
        go_wp2_with fail
        refine (Lex_any b w2 L2 W2 hm2.out).mono ?_
        intro e w3 hp
        obtain ⟨A3, c3, rfl, T3, hb3, hA3⟩ := hp.elim2 HX2.out
        clear hp hA2 hA3
        go_wp2
        go_ret
        exact ⟨rfl, (hb1.trans (hb2.mono hb1.size)).trans (hb3.mono (Nat.le_trans hb1.size hb2.size))⟩
    · have hb0 : (10000 : Int) < (b.size : Int) := by omega
      have ha0 : (a.size : Int) ≤ 10000 := by omega
      clear hx1 hx2
      go_enter Tryd.func6, Tryd.ntmps6
      go_wp2_with fail
      refine (head_any _ hL hw).mono ?_
      rintro e w1 ⟨rfl, hb1⟩
      go_wp2
      go_ret
      exact ⟨rfl, hb1⟩
  · have ha0 : (10000 : Int) < (a.size : Int) := by omega
    clear hx1 hx2
    go_enter Tryd.func6, Tryd.ntmps6
    go_wp2_with fail
    refine (head_any _ hL hw).mono ?_
    rintro e w1 ⟨rfl, hb1⟩
    go_wp2
    go_ret
    exact ⟨rfl, hb1⟩
end Go.Proofs.YtkoojiblkapmbaaDoor
