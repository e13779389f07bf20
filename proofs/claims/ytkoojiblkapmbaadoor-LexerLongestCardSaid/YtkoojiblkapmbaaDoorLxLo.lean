/- The law LexerLongest's contract: it returns true; condition: the listed package-level variables hold what the text lays. -/
import Derived.Test.YtkoojiblkapmbaaDoorLxCv
import Derived.Test.YtkoojiblkapmbaaDoorLxWr
import Derived.Deep.RegionWith
namespace Go.Proofs.YtkoojiblkapmbaaDoor
open Go.RowKit
set_option linter.unusedVariables false
set_option linter.unusedSimpArgs false

theorem longest (s U : ByteArray) (p n : Nat) (us : List Tk) (q : Nat) (hs : s.size ≤ 10000) (hn : tokLen (s.data.toList.drop p) = n) (hn0 : 0 < n) (hlt : p + n < s.size) (hg : gapE s (p + n) = p + n)
    (hU : U.data.toList = (s.data.toList.drop p).take (n + 1)) (h : lx U = (us, 0, q)) : 2 ≤ us.length := by
  have hUs : U.size = n + 1 := by rw [← len_list, hU, List.length_take, List.length_drop, len_list]; omega
  obtain ⟨r, h1, h2, h3⟩ := lx_inv (by omega) h
  have hb : s.data.toList.drop (p + n) = s[p + n]'hlt :: s.data.toList.drop (p + n + 1) := head_of s (p + n) hlt
  have hx : U.data.toList = (s.data.toList.drop p).take n ++ [s[p + n]'hlt] := by
    rw [hU, List.take_succ_eq_append_getElem (by rw [List.length_drop, len_list]; omega), List.getElem_drop]
    rfl
  have hcut := tokLen_cut U.data.toList ((s.data.toList.drop p).drop (n + 1)) (by rw [hx]; simp) (by rw [hU, List.take_append_drop, hn, List.length_take, List.length_drop, len_list]; omega)
  rw [hU, List.take_append_drop, hn, ← hU] at hcut
  have hg0 : gapE U 0 = 0 := by
    unfold gapE
    rw [List.drop_zero, tok_nogap _ (by omega)]
  cases h1 with
  | nil => omega
  | @cons _ nx _ tk us' hp hq hrun =>
    cases hrun with
    | nil =>
      exfalso
      rw [hg0] at hq
      obtain ⟨h4, _⟩ := rd_len U 0 tk r hq
      rw [List.drop_zero, hcut, Nat.zero_add] at h4
      subst h4
      have h5 : gapLen false [s[p + r]'hlt] = 0 := by
        have h6 : gapLen false (s.data.toList.drop (p + r)) = 0 := by unfold gapE at hg; omega
        have h7 := gapLen_cut [s[p + r]'hlt] (s.data.toList.drop (p + r + 1)) false (by rw [List.singleton_append, ← hb, h6]; simp)
        rw [h7, List.singleton_append, ← hb, h6]
      have h8 : U.data.toList.drop r = [s[p + r]'hlt] := by
        rw [hx, List.drop_left' (by rw [List.length_take, List.length_drop, len_list]; omega)]
      unfold gapE at h2
      rw [h8, h5] at h2
      omega
    | cons _ _ _ => simp

theorem slice_ok3 (s : ByteArray) (a n : Nat) (h : a + n + 1 ≤ s.size) (wx : World) :
    (Instr.slice 9 (.string s) (some (.int .i64 (a : Int))) (some (.int .i64 ((a : Int) + (n : Int) + 1))) none).run Tryd.prog wx = .ok (.string (s.extract a (a + n + 1))) wx := by
  have h2 := run_slice_string (P := Tryd.prog) wx 9 s .i64 .i64 (a : Int) ((a : Int) + (n : Int) + 1) Tryd.underlying9 (by omega) (by omega) (by omega)
  rw [h2, show ((a : Int)).toNat = a from by omega, show ((a : Int) + (n : Int) + 1).toNat = a + n + 1 from by omega]

set_option maxHeartbeats 1000000 in
set_option maxRecDepth 100000 in
theorem Longest_any (s : ByteArray) (w : World) (hL : LaidW w) (hw : 5 < w.heap.size) (hms : s.size ≤ maxLen) : Calls Tryd.prog 9 #[.string s] w (TrueB w) := by
  unfold maxLen at hms
  obtain ⟨ts, er, i, hx1⟩ : ∃ l er i, lx s = (l, er, i) := ⟨_, _, _, rfl⟩
  have HX1 := Lib.hid hx1
  have hm1 := Lib.hid (show s.size ≤ maxLen by unfold maxLen; omega)
  by_cases hs : s.size ≤ 2000
  · by_cases he : er = 0
    · subst he
      obtain ⟨rr, hrun, hend, hlen⟩ := lx_inv (by omega) hx1
      have HR := Lib.hid (show ∃ q, Run s 0 (ts.drop 0) q ∧ s.size ≤ gapE s q from ⟨rr, hrun, hend⟩)
      clear hx1 hrun hend
      go_enter Tryd.func9, Tryd.ntmps9
      go_wp2_with fail
      refine (head_any _ hL hw).mono ?_
      rintro e w1 ⟨rfl, hb1⟩
      have L1 := hL.below hb1 hw
      have W1 : 5 < w1.heap.size := Nat.lt_of_lt_of_le hw hb1.size
      go_wp2_with fail
      refine (Lex_any s w1 L1 W1 hm1.out).mono ?_
      intro e w2 hp
      obtain ⟨A2, c2, rfl, T2, hb2, hA2⟩ := hp.elim2 HX1.out
      clear hp hA2
      have hb12 : Below w.heap.size w w2 := hb1.trans (hb2.mono hb1.size)
      have L2 := L1.below hb2 W1
      have W2 : 5 < w2.heap.size := Nat.lt_of_lt_of_le W1 hb2.size
      have TT := Lib.hid T2
      clear T2 hb1 hb2 L1 hL W1
      go_wp2_with fail
      go_loopw [7] (fun iv wr => ∃ (k r : Nat), k ≤ ts.length ∧ iv = .int .i64 k ∧ r ≤ s.size ∧ Hid (∃ q, Run s r (ts.drop k) q ∧ s.size ≤ gapE s q) ∧ Below w2.heap.size w2 wr) (fun iv _ => ts.length - (intOf iv).toNat)
      case atStart => exact ⟨0, 0, Nat.zero_le _, rfl, Nat.zero_le _, HR.out, Below.refl _ _⟩
      case round =>
        obtain ⟨k, r, hk, rfl, hr, hR, hbw⟩ := hrel
        by_cases hlt : k < ts.length
        · obtain ⟨p, n, hp, hn0, hpn, ha, htx, hmb, htl, hrd, hnext⟩ := Run.at_ hR.out hlt
          obtain ⟨g2, o2, rfl, hg2, hc2⟩ := (TT.out.keep hbw hbw.size) (by omega)
          have htk : ts[k]? = some ts[k] := List.getElem?_eq_getElem hlt
          obtain ⟨a0, a1, a2, a3⟩ := hc2 k _ htk
          have hany0 : ∀ w, Calls Tryd.prog 14 #[.agg #[.int .i64 ts[k].k, .string ts[k].x, .int .i64 ts[k].m, .int .i64 ts[k].a]] w fun e w' => e = .returned (.string (s.extract p (p + n))) ∧ Below w.heap.size w w' := fun w => by
            have h := Text_any ts[k] w hmb
            unfold TextPost at h
            rw [htx] at h
            exact h
          have hany := Lib.hid hany0
          rw [ha] at a3 hany
          have HN := Lib.hid hnext
          have HTL := Lib.hid htl
          have hTs : (s.extract p (p + n)).size = n := by rw [ByteArray.size_extract]; omega
          generalize hT : s.extract p (p + n) = T at *
          clear hany0 hT hp ha htx hmb htl hrd hnext hc2 htk
          generalize ts[k] = t at *
          have q1 : IntKind.i64.wrap ((p : Int) + (n : Int)) = (p : Int) + (n : Int) := IntWalk.i64_in _ (by omega)
          go_wp2_with fail
          go_region_with (go_at_call 14; refine (hany.out _).mono ?_; rintro e w3 ⟨rfl, hb3⟩; have hx3 : w3.cell? ⟨g2, o2 + k * 4 + 3, none⟩ = some (.int .i64 (p : Int)) := (hb3.cell (p := ⟨g2, o2 + k * 4 + 3, none⟩) hg2).trans a3)
          all_goals
            have hb3' : Below wr.heap.size wr w3 := ((Below.refl _ wr).drew).trans hb3
            have hbw3 : Below w2.heap.size w2 w3 := hbw.trans (hb3'.mono hbw.size)
            clear hb3 q1
            by_cases hnx : p + n = s.size
            · have hnI : ((p : Int) + (n : Int) == (s.size : Int)) = true := by simp; omega
              clear hnx
              go_wp2_with fail
              go_roundw
              case rel => exact ⟨k + 1, p + n, by omega, by go_num, hpn, HN.out, hbw3⟩
              case measure => simp [intOf]; omega
            · have hnI : ((p : Int) + (n : Int) == (s.size : Int)) = false := by simp; omega
              obtain ⟨g, hg⟩ : ∃ g, gapE s (p + n) = g := ⟨_, rfl⟩
              have HG := Lib.hid hg
              have hgg := gapE_ge s (p + n)
              have hgl := gapE_le s (p + n) hpn
              rw [hg] at hgg hgl
              by_cases hgt : p + n < g
              · clear hnx hg
                go_wp2_with fail
                refine (Gap_eq s (p + n) g HG _ hpn (by omega)).mono ?_
                rintro e w4 ⟨rfl, rfl⟩
                go_wp2_with fail
                go_roundw
                case rel => exact ⟨k + 1, p + n, by omega, by go_num, hpn, HN.out, hbw3⟩
                case measure => simp [intOf]; omega
              · have hge : g = p + n := by omega
                subst hge
                have hsn := slice_ok3 s p n (by omega)
                obtain ⟨us, er', j, hxU⟩ : ∃ us er' j, lx (s.extract p (p + n + 1)) = (us, er', j) := ⟨_, _, _, rfl⟩
                have hlong : er' = 0 → 2 ≤ us.length := fun h0 => by
                  subst h0
                  exact longest s (s.extract p (p + n + 1)) p n us j (by omega) HTL.out hn0 (by omega) hg (by rw [show p + n + 1 = p + (n + 1) by omega, sub_bytes]) hxU
                have hU1 := Lib.hid (show (s.extract p (p + n + 1)).size ≤ maxLen by rw [ByteArray.size_extract]; unfold maxLen; omega)
                have HXU := Lib.hid hxU
                have HLO := Lib.hid hlong
                have L3 := L2.below hbw3 W2
                have W3 : 5 < w3.heap.size := Nat.lt_of_lt_of_le W2 hbw3.size
                clear hnx hg hxU hlong hgt hgg hgl
                go_wp2_with fail
                refine (Gap_eq s (p + n) (p + n) HG _ hpn (by omega)).mono ?_
                rintro e w4 ⟨rfl, rfl⟩
                go_wp2_with fail
                refine (Lex_any _ _ L3 W3 hU1.out).mono ?_
                intro e w5 hp5
                obtain ⟨A5, c5, rfl, T5, hb5, hA5⟩ := hp5.elim2 HXU.out
                clear hp5 T5 hA5
                have hbw5 : Below w2.heap.size w2 w5 := hbw3.trans (hb5.mono hbw3.size)
                by_cases he0 : er' = 0
                · have h2 := HLO.out he0
                  subst he0
                  have h2I : (2 : Int) ≤ (us.length : Int) := by omega
                  clear h2
                  go_wp2_with fail
                  go_roundw
                  case rel => exact ⟨k + 1, p + n, by omega, by go_num, hpn, HN.out, hbw5⟩
                  case measure => simp [intOf]; omega
                · have hne : (er' == 0) = false := by simp [he0]
                  clear he0
                  go_wp2_with fail
                  go_roundw
                  case rel => exact ⟨k + 1, p + n, by omega, by go_num, hpn, HN.out, hbw5⟩
                  case measure => simp [intOf]; omega
        · go_wp2_with fail
          go_ret
          exact ⟨rfl, hb12.trans (hbw.mono hb12.size)⟩
    · have hne : (er != 0) = true := by simp [he]
      clear hx1 he
      go_enter Tryd.func9, Tryd.ntmps9
      go_wp2_with fail
      refine (head_any _ hL hw).mono ?_
      rintro e w1 ⟨rfl, hb1⟩
      have L1 := hL.below hb1 hw
      have W1 : 5 < w1.heap.size := Nat.lt_of_lt_of_le hw hb1.size
      go_wp2_with fail
      refine (Lex_any s w1 L1 W1 hm1.out).mono ?_
      intro e w2 hp
      obtain ⟨A2, c2, rfl, T2, hb2, hA2⟩ := hp.elim2 HX1.out
      clear hp hA2
      go_wp2
      go_ret
      exact ⟨rfl, hb1.trans (hb2.mono hb1.size)⟩
  · have hs0 : (2000 : Int) < (s.size : Int) := by omega
    clear hx1
    go_enter Tryd.func9, Tryd.ntmps9
    go_wp2_with fail
    refine (head_any _ hL hw).mono ?_
    rintro e w1 ⟨rfl, hb1⟩
    go_wp2
    go_ret
    exact ⟨rfl, hb1⟩
end Go.Proofs.YtkoojiblkapmbaaDoor
