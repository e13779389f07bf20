/- The law LexerErrors' contract: it returns true; condition: the listed package-level variables hold what the text lays. -/
import Derived.Test.YtkoojiblkapmbaaDoorLxJ
namespace Go.Proofs.YtkoojiblkapmbaaDoor
open Go.RowKit
set_option linter.unusedVariables false
set_option linter.unusedSimpArgs false

theorem tokErr_ne2 (l : List UInt8) : tokErr l ≠ 2 := by
  cases l with
  | nil => decide
  | cons b r =>
    simp only [tokErr]
    split
    · split <;> decide
    · split
      · split
        · decide
        · split <;> decide
      · decide
theorem rd_ne2 (s : ByteArray) (p : Nat) : (rd s p).2.2 ≠ 2 := by
  unfold rd
  split
  · show (7 : Int) ≠ 2; decide
  · split
    · exact tokErr_ne2 _
    · show (0 : Int) ≠ 2; decide
theorem lx_zero {s : ByteArray} {ts : List Tk} {p : Nat} (h : lx s = (ts, 0, p)) : p = 0 := by
  unfold lx at h
  split at h
  · simp at h
  · split at h
    · rename_i h1; simp only [Prod.mk.injEq] at h; rw [h.2] at h1; exact absurd rfl h1
    · simp only [Prod.mk.injEq] at h; omega
theorem err_inv {s : ByteArray} {ts0 : List Tk} {er : Int} {i : Nat} (hs : s.size ≤ 10000) (h : lx s = (ts0, er, i)) (he : er ≠ 0) :
    ∃ ts r, Run s 0 ts r ∧ ts.length ≤ 3000 ∧ gapE s r = i ∧ i < s.size ∧ ((ts.length = 3000 ∧ er = 2) ∨ (ts.length ≠ 3000 ∧ (rd s i).2.2 = er)) := by
  obtain ⟨ts, r, h1, h2, h3⟩ := lx_run s hs
  rcases h3 with ⟨h4, h5⟩ | ⟨er', he', h4, h5, h6⟩
  · rw [h] at h5
    simp only [Prod.mk.injEq] at h5
    exact absurd h5.2.1 he
  · rw [h] at h6
    simp only [Prod.mk.injEq] at h6
    obtain ⟨_, rfl, rfl⟩ := h6
    exact ⟨ts, r, h1, h2, rfl, h4, h5⟩
theorem err_cut {s t : ByteArray} {ts0 : List Tk} {er : Int} {i : Nat} (hs : s.size ≤ 10000) (h : lx s = (ts0, er, i)) (he : er ≠ 0) (ht : t.data.toList = s.data.toList.take i) :
    ∃ ts, lx t = (ts, 0, 0) ∧ (er = 2 → ts.length = 3000) := by
  obtain ⟨ts, r, h1, h2, h3, h4, h5⟩ := err_inv hs h he
  have hz : t.size = i := by
    have := congrArg List.length ht
    rw [List.length_take, len_list, len_list] at this
    omega
  have hpre : Pre s t i := ⟨by omega, by rw [ht, List.take_take]; simp, by omega, Or.inl (by rw [ht]; exact List.drop_eq_nil_of_le (by rw [List.length_take]; omega))⟩
  have hri : r ≤ i := by have := gapE_ge s r; omega
  have hrun := hpre.run h1 hri
  refine ⟨ts, lx_ok (by omega) hrun ?_ h2, fun h2' => ?_⟩
  · obtain ⟨x, hx1, hx2, hx3⟩ := hpre.parts hri
    have hnil : t.data.toList.drop i = [] := List.drop_eq_nil_of_le (by rw [len_list]; omega)
    rw [hnil, List.append_nil] at hx2
    unfold gapE
    rw [hx2]
    have hall : gapLen false x = x.length := gapLen_cut_all x (s.data.toList.drop i) false (by
      rw [← hx1]
      unfold gapE at h3
      omega)
    rw [hall]; omega
  · rcases h5 with ⟨h6, _⟩ | ⟨_, h6⟩
    · exact h6
    · rw [h2'] at h6; exact absurd h6 (rd_ne2 s i)
theorem err_tail {s t : ByteArray} {ts0 : List Tk} {er : Int} {i e : Nat} {rest : List UInt8} (hs : s.size ≤ 10000) (h : lx s = (ts0, er, i)) (he : er ≠ 0) (hi : i < s.size) (he2 : e = max (i + 1) (i + tokLen (s.data.toList.drop i)))
    (ht : t.data.toList = s.data.toList.take e ++ 32 :: rest) (h10 : t.size ≤ 10000) : lx t = ([], er, i) := by
  obtain ⟨ts, r, h1, h2, h3, h4, h5⟩ := err_inv hs h he
  have hle := tokLen_le (s.data.toList.drop i)
  rw [List.length_drop, len_list] at hle
  have hel : e ≤ s.size := by omega
  have htl : (s.data.toList.take e).length = e := by rw [List.length_take, len_list]; omega
  have hz : t.size = e + 1 + rest.length := by
    have := congrArg List.length ht
    rw [List.length_append, htl, List.length_cons, len_list] at this
    omega
  have hpre : Pre s t e := ⟨hel, by rw [ht, List.take_append_of_le_length (by omega), List.take_of_length_le (by omega)], by omega, Or.inr ⟨32, rest, by
    rw [ht, List.drop_append_of_le_length (by omega), List.drop_eq_nil_of_le (by omega)]; rfl, by decide, by decide⟩⟩
  have hri : r ≤ i := by have := gapE_ge s r; omega
  have hrun := hpre.run h1 (by omega)
  have hg := hpre.gap (r := r) (by omega) (by omega)
  rw [h3] at hg
  have htk := hpre.tok (p := i) (by omega) (by omega)
  have hm := (rd_move s t i i _ rfl htk.1 htk.2).1
  rw [← hg]
  refine lx_bad h10 hrun (by omega) h2 he ?_
  rw [hg, hm]
  exact h5

set_option maxHeartbeats 1000000 in
set_option maxRecDepth 100000 in
theorem Errors_any (s t : ByteArray) (w : World) (hL : LaidW w) (hw : 5 < w.heap.size) (hms : s.size ≤ maxLen) (hmt : t.size ≤ maxLen) : Calls Tryd.prog 8 #[.string s, .string t] w (TrueB w) := by
  unfold maxLen at hms hmt
  obtain ⟨l, er, i, hx1⟩ : ∃ l er i, lx s = (l, er, i) := ⟨_, _, _, rfl⟩
  have HX1 := Lib.hid hx1
  by_cases hs : s.size ≤ 10000
  · by_cases ht : t.size ≤ 10000
    · have hm1 := Lib.hid (show s.size ≤ maxLen by unfold maxLen; omega)
      by_cases he : er = 0
      · subst he
        have hi0 := lx_zero hx1
        subst hi0
        clear hx1
        go_enter Tryd.func8, Tryd.ntmps8
        go_wp2_with fail
        refine (head_any _ hL hw).mono ?_
        rintro e w1 ⟨rfl, hb1⟩
        have L1 := hL.below hb1 hw
        have W1 : 5 < w1.heap.size := Nat.lt_of_lt_of_le hw hb1.size
        go_wp2_with fail
        refine (Lex_any s w1 L1 W1 hm1.out).mono ?_
        intro e w2 hp
        obtain ⟨A2, c2, rfl, T2, hb2, hA2⟩ := hp.elim2 HX1.out
        clear hp hA2
        go_wp2
        go_ret
        exact ⟨rfl, hb1.trans (hb2.mono hb1.size)⟩
      · have hl0 := lx_err_nil hx1 he
        subst hl0
        have hi : i < s.size := by
          obtain ⟨_, _, _, _, _, hi, _⟩ := err_inv hs hx1 he
          exact hi
        obtain ⟨ts, hts, hts2⟩ := err_cut (t := s.extract 0 i) hs hx1 he (by have := sub_bytes s 0 i; rw [Nat.zero_add] at this; rw [this, List.drop_zero])
        have hne : (er == 0) = false := by simp [he]
        have HTS := Lib.hid hts
        obtain ⟨n, hn⟩ : ∃ n, tokLen (s.data.toList.drop i) = n := ⟨_, rfl⟩
        have hN := Lib.hid hn
        have hnle : i + n ≤ s.size := by
          have hle := tokLen_le (s.data.toList.drop i)
          rw [List.length_drop, len_list, hn] at hle
          omega
        have HE := Lib.hid he
        have hm2 := Lib.hid (show (s.extract 0 i).size ≤ maxLen by rw [ByteArray.size_extract]; unfold maxLen; omega)
        obtain ⟨q, hq⟩ : ∃ q : Nat, max 1 n = q := ⟨_, rfl⟩
        have hqm : max (1 : Int) (n : Int) = (q : Int) := by omega
        have hqs : i + q ≤ s.size := by omega
        have hmin : min (i + q) s.size = i + q := by omega
        have HT := Lib.hid (fun (T : ByteArray) (h : T.data.toList = s.data.toList.take (i + q) ++ 32 :: t.data.toList) (h10 : T.size ≤ 10000) => err_tail (e := i + q) hs hx1 he hi (by rw [hn]; omega) h h10)
        have hST : (s.extract 0 (i + q) ++ ⟨#[32]⟩ ++ t : ByteArray).data.toList = s.data.toList.take (i + q) ++ 32 :: t.data.toList := by
          have h0 := sub_bytes s 0 (i + q)
          rw [Nat.zero_add, List.drop_zero] at h0
          simp only [ByteArray.data_append, Array.toList_append, h0, List.append_assoc]
          rfl
        have HST := Lib.hid hST
        have hSz : (s.extract 0 (i + q) ++ ⟨#[32]⟩ ++ t : ByteArray).size = i + q + 1 + t.size := by
          have := congrArg List.length hST
          rw [List.length_append, List.length_cons, len_list, len_list, List.length_take, len_list] at this
          omega
        have HSZ := Lib.hid hSz
        clear hx1 hts hn he hq hST hSz
        have hcase : (er = 2 ∧ ((ts.length : Int) != 3000) = false) ∨ ((er == 2) = false) := by
          by_cases h2 : er = 2
          · exact Or.inl ⟨h2, by rw [hts2 h2]; rfl⟩
          · exact Or.inr (by simp [h2])
        clear hts2
        rcases hcase with ⟨rfl, h3000⟩ | h2
        all_goals
          by_cases hbig : 10000 < i + q + 1 + t.size
          · have hbigI : (10000 : Int) < ((i + q : Nat) : Int) + 1 + (t.size : Int) := by omega
            have hbigJ : (10000 : Int) < (i : Int) + (q : Int) + 1 + (t.size : Int) := by omega
            clear hbig
            go_enter Tryd.func8, Tryd.ntmps8
            go_wp2_with fail
            refine (head_any _ hL hw).mono ?_
            rintro e w1 ⟨rfl, hb1⟩
            have L1 := hL.below hb1 hw
            have W1 : 5 < w1.heap.size := Nat.lt_of_lt_of_le hw hb1.size
            go_wp2_with fail
            refine (Lex_any s w1 L1 W1 hm1.out).mono ?_
            intro e w2 hp
            obtain ⟨A2, c2, rfl, T2, hb2, hA2⟩ := hp.elim2 HX1.out
            clear hp hA2 T2
            have L2 := L1.below hb2 W1
            have W2 : 5 < w2.heap.size := Nat.lt_of_lt_of_le W1 hb2.size
            go_wp2_with fail
            refine (Lex_any _ w2 L2 W2 hm2.out).mono ?_
            intro e w3 hp
            obtain ⟨A3, c3, rfl, T3, hb3, hA3⟩ := hp.elim2 HTS.out
            clear hp hA3 T3
            have L3 := L2.below hb3 W2
            have W3 : 5 < w3.heap.size := Nat.lt_of_lt_of_le W2 hb3.size
            go_wp2_with fail
            refine (End_eq s i n hN _ hi (by omega)).mono ?_
            rintro e w4 ⟨rfl, hb4⟩
            have L4 := L3.below hb4 W3
            have W4 : 5 < w4.heap.size := Nat.lt_of_lt_of_le W3 hb4.size
            go_wp2
            go_ret
            exact ⟨rfl, ((hb1.trans (hb2.mono hb1.size)).trans (hb3.mono (Nat.le_trans hb1.size hb2.size))).trans (hb4.mono (Nat.le_trans hb1.size (Nat.le_trans hb2.size hb3.size)))⟩
          · have hbigI : ((i + q : Nat) : Int) + 1 + (t.size : Int) ≤ 10000 := by omega
            have hbigJ : (i : Int) + (q : Int) + 1 + (t.size : Int) ≤ 10000 := by omega
            clear hbig
            go_enter Tryd.func8, Tryd.ntmps8
            go_wp2_with fail
            refine (head_any _ hL hw).mono ?_
            rintro e w1 ⟨rfl, hb1⟩
            have L1 := hL.below hb1 hw
            have W1 : 5 < w1.heap.size := Nat.lt_of_lt_of_le hw hb1.size
            go_wp2_with fail
            refine (Lex_any s w1 L1 W1 hm1.out).mono ?_
            intro e w2 hp
            obtain ⟨A2, c2, rfl, T2, hb2, hA2⟩ := hp.elim2 HX1.out
            clear hp hA2 T2
            have L2 := L1.below hb2 W1
            have W2 : 5 < w2.heap.size := Nat.lt_of_lt_of_le W1 hb2.size
            go_wp2_with fail
            refine (Lex_any _ w2 L2 W2 hm2.out).mono ?_
            intro e w3 hp
            obtain ⟨A3, c3, rfl, T3, hb3, hA3⟩ := hp.elim2 HTS.out
            clear hp hA3 T3
            have L3 := L2.below hb3 W2
            have W3 : 5 < w3.heap.size := Nat.lt_of_lt_of_le W2 hb3.size
            go_wp2_with fail
            refine (End_eq s i n hN _ hi (by omega)).mono ?_
            rintro e w4 ⟨rfl, hb4⟩
            have L4 := L3.below hb4 W3
            have W4 : 5 < w4.heap.size := Nat.lt_of_lt_of_le W3 hb4.size
            go_wp2_with fail
            have hz := HSZ.out
            refine (fails_true _ _ _ i rfl w4 L4 W4 (by rw [hz]; unfold maxLen; omega) (HT.out _ HST.out (by rw [hz]; omega))).mono ?_
            clear hz
            rintro e w5 ⟨rfl, hb5⟩
            go_wp2
            go_ret
            exact ⟨rfl, (((hb1.trans (hb2.mono hb1.size)).trans (hb3.mono (Nat.le_trans hb1.size hb2.size))).trans (hb4.mono (Nat.le_trans hb1.size (Nat.le_trans hb2.size hb3.size)))).trans (hb5.mono (Nat.le_trans hb1.size (Nat.le_trans hb2.size (Nat.le_trans hb3.size hb4.size))))⟩
    · have ht0 : (10000 : Int) < (t.size : Int) := by omega
      have hs0 : (s.size : Int) ≤ 10000 := by omega
      clear hx1
      go_enter Tryd.func8, Tryd.ntmps8
      go_wp2_with fail
      refine (head_any _ hL hw).mono ?_
      rintro e w1 ⟨rfl, hb1⟩
      go_wp2
      go_ret
      exact ⟨rfl, hb1⟩
  · have hs0 : (10000 : Int) < (s.size : Int) := by omega
    clear hx1
    go_enter Tryd.func8, Tryd.ntmps8
    go_wp2_with fail
    refine (head_any _ hL hw).mono ?_
    rintro e w1 ⟨rfl, hb1⟩
    go_wp2
    go_ret
    exact ⟨rfl, hb1⟩
end Go.Proofs.YtkoojiblkapmbaaDoor
