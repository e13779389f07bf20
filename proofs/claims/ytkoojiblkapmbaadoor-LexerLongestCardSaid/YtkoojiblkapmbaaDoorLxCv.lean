/- The law LexerCovers' contract: it returns true; condition: the listed package-level variables hold what the text lays. -/
import Derived.Test.YtkoojiblkapmbaaDoorLxTx
namespace Go.Proofs.YtkoojiblkapmbaaDoor
open Go.RowKit
set_option linter.unusedVariables false
set_option linter.unusedSimpArgs false

/-- the k-th token of a run: where it stands, what its text is, and the rest -/
theorem Run.at_ {s : ByteArray} {ts : List Tk} {r0 k : Nat} (h : ∃ q, Run s r0 (ts.drop k) q ∧ s.size ≤ gapE s q) (hk : k < ts.length) :
    ∃ (p n : Nat), p = gapE s r0 ∧ 0 < n ∧ p + n ≤ s.size ∧ ts[k].a = (p : Int) ∧ txtB ts[k] = s.extract p (p + n) ∧ (0 ≤ ts[k].m ∧ ts[k].m ≤ 1000000000) ∧ tokLen (s.data.toList.drop p) = n ∧ rd s p = (ts[k], p + n, 0) ∧ ∃ q, Run s (p + n) (ts.drop (k + 1)) q ∧ s.size ≤ gapE s q := by
  obtain ⟨q, h1, h2⟩ := h
  rw [List.drop_eq_getElem_cons hk] at h1
  generalize hts : ts.drop (k + 1) = us at *
  cases h1 with
  | @cons _ nx _ _ _ hp hq hrun =>
    obtain ⟨h3, h4⟩ := rd_len s _ _ nx hq
    have h5 := rd_ok s _ _ nx hp hq
    have h6 := rd_text s _ nx _ hp hq
    have h7 := rd_at s _ _ nx hq
    rw [h3] at h5 h6 hrun hq
    exact ⟨gapE s r0, _, rfl, h4, h5.2, h7, h6.1, h6.2, rfl, hq, q, hrun, h2⟩

theorem Gap_eq (s : ByteArray) (at0 q : Nat) (hq : Hid (gapE s at0 = q)) (w : World) (hat : at0 ≤ s.size) (hs : s.size ≤ 100000) :
    Calls Tryd.prog 15 #[.string s, .int .i64 at0] w fun e w' => e = .returned (.int .i64 (q : Int)) ∧ w' = w := by
  have h := Gap_any s at0 w hat hs
  refine h.mono ?_
  rintro e w' ⟨rfl, rfl⟩
  refine ⟨?_, rfl⟩
  rw [← hq.out]
  rfl

set_option maxHeartbeats 1000000 in
set_option maxRecDepth 100000 in
theorem Covers_any (s : ByteArray) (w : World) (hL : LaidW w) (hw : 5 < w.heap.size) (hms : s.size ≤ maxLen) : Calls Tryd.prog 4 #[.string s] w (TrueB w) := by
  unfold maxLen at hms
  obtain ⟨ts, er, i, hx1⟩ : ∃ l er i, lx s = (l, er, i) := ⟨_, _, _, rfl⟩
  have HX1 := Lib.hid hx1
  by_cases hs : s.size ≤ 10000
  · have hm1 := Lib.hid (show s.size ≤ maxLen by unfold maxLen; omega)
    by_cases he : er = 0
    · subst he
      obtain ⟨rr, hrun, hend, hlen⟩ := lx_inv hs hx1
      have HR := Lib.hid (show ∃ q, Run s 0 (ts.drop 0) q ∧ s.size ≤ gapE s q from ⟨rr, hrun, hend⟩)
      clear hx1 hrun hend
      go_enter Tryd.func4, Tryd.ntmps4
      go_wp2_with fail
      refine (head_any _ hL hw).mono ?_
      rintro e w1 ⟨rfl, hb1⟩
      have L1 := hL.below hb1 hw
      have W1 : 5 < w1.heap.size := Nat.lt_of_lt_of_le hw hb1.size
      go_wp2_with fail
      refine (Lex_any s w1 L1 W1 hm1.out).mono ?_
      intro e w2 hp
      obtain ⟨A2, c2, rfl, T2, hb2, hA2⟩ := hp.elim2 HX1.out
      clear hp hA2
      have hb12 : Below w.heap.size w w2 := hb1.trans (hb2.mono hb1.size)
      have TT := Lib.hid T2
      clear T2 hb1 hb2 L1 hL W1
      go_wp2_with fail
      go_loopw [7, 8] (fun av iv wr => ∃ (k r : Nat), k ≤ ts.length ∧ iv = .int .i64 k ∧ av = .int .i64 r ∧ r ≤ s.size ∧ Hid (∃ q, Run s r (ts.drop k) q ∧ s.size ≤ gapE s q) ∧ Below w2.heap.size w2 wr) (fun _ iv _ => ts.length - (intOf iv).toNat)
      case atStart => exact ⟨0, 0, Nat.zero_le _, rfl, rfl, Nat.zero_le _, HR.out, Below.refl _ _⟩
      case round =>
        obtain ⟨k, r, hk, rfl, rfl, hr, hR, hbw⟩ := hrel
        by_cases hlt : k < ts.length
        · obtain ⟨p, n, hp, hn0, hpn, ha, htx, hmb, htl, hrd, hnext⟩ := Run.at_ hR.out hlt
          obtain ⟨g2, o2, rfl, hg2, hc2⟩ := (TT.out.keep hbw hbw.size) (by omega)
          have htk : ts[k]? = some ts[k] := List.getElem?_eq_getElem hlt
          obtain ⟨a0, a1, a2, a3⟩ := hc2 k _ htk
          have hge := gapE_ge s r
          have HP := Lib.hid hp.symm
          have hpr : r ≤ p := by omega
          have hany := Lib.hid (fun w => Text_any ts[k] w hmb)
          rw [ha] at a3 hany
          have HTX := Lib.hid htx
          have HN := Lib.hid hnext
          have hTs : (s.extract p (p + n)).size = n := by rw [ByteArray.size_extract]; omega
          have hne : (s.extract p (p + n)).toList.isEmpty = false := by
            rw [Lib.toList_data]
            cases hl : (s.extract p (p + n)).data.toList with
            | nil => have := congrArg List.length hl; rw [len_list, hTs] at this; simp at this; omega
            | cons b r => rfl
          have hsn := slice_ok s p n hpn
          generalize hT : s.extract p (p + n) = T at *
          have HTT := Lib.hid hT
          clear hT hp ha htx hmb htl hrd hnext hc2 htk hge
          generalize ts[k] = t at *
          go_wp2_with fail
          refine (hany.out _).mono ?_
          rintro e w3 ⟨rfl, hb3⟩
          rw [HTX.out]
          obtain ⟨hc3, hf3⟩ := bcell hb3
          clear hf3
          have q1 : IntKind.i64.wrap ((s.size : Int) - (n : Int)) = (s.size : Int) - (n : Int) := IntWalk.i64_in _ (by omega)
          have q2 : IntKind.i64.wrap ((p : Int) + (n : Int)) = (p : Int) + (n : Int) := IntWalk.i64_in _ (by omega)
          have q3 : decide ((p : Int) < (r : Int)) = false := by simp; omega
          have q4 : decide ((s.size : Int) - (n : Int) < (p : Int)) = false := by simp; omega
          have q5 : ((p : Int) != (p : Int)) = false := by simp
          have q6 : (T.toList != T.toList) = false := by simp
          go_wp2_with fail
          go_quiet ((go_at_call 15; exact Calls.quiet_of_same (Gap_eq s r p HP _ hr (by omega))))
          clear q1 q2 q3 q4 q5 q6
          go_wp2
          go_roundw
          case rel => exact ⟨k + 1, p + n, by omega, by go_num, by go_num, hpn, HN.out, below_drewN (hbw.trans (hb3.mono hbw.size)) _⟩
          case measure => simp [intOf]; omega
        · have hend : gapE s r = s.size := by
            obtain ⟨q, hq1, hq2⟩ := hR.out
            rw [List.drop_eq_nil_of_le (by omega)] at hq1
            cases hq1
            have := gapE_le s r hr
            omega
          have HE := Lib.hid hend
          clear hend
          go_wp2_with fail
          refine (Gap_eq s r s.size HE _ hr (by omega)).mono ?_
          rintro e w3 ⟨rfl, rfl⟩
          go_wp2
          go_ret
          exact ⟨rfl, hb12.trans (hbw.mono hb12.size)⟩
    · have hl0 := lx_err_nil hx1 he
      subst hl0
      have hne : (er != 0) = true := by simp [he]
      clear hx1 he
      go_enter Tryd.func4, Tryd.ntmps4
      go_wp2_with fail
      refine (head_any _ hL hw).mono ?_
      rintro e w1 ⟨rfl, hb1⟩
      have L1 := hL.below hb1 hw
      have W1 : 5 < w1.heap.size := Nat.lt_of_lt_of_le hw hb1.size
      go_wp2_with fail
      refine (Lex_any s w1 L1 W1 hm1.out).mono ?_
      intro e w2 hp
      obtain ⟨A2, c2, rfl, T2, hb2, hA2⟩ := hp.elim2 HX1.out
      clear hp hA2
      go_wp2
      go_ret
      exact ⟨rfl, hb1.trans (hb2.mono hb1.size)⟩
  · have hs0 : (10000 : Int) < (s.size : Int) := by omega
    clear hx1
    go_enter Tryd.func4, Tryd.ntmps4
    go_wp2_with fail
    refine (head_any _ hL hw).mono ?_
    rintro e w1 ⟨rfl, hb1⟩
    go_wp2
    go_ret
    exact ⟨rfl, hb1⟩
end Go.Proofs.YtkoojiblkapmbaaDoor
