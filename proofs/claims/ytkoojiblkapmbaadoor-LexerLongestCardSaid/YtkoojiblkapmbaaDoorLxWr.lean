/- The law LexerWriting's contract: it returns true; condition: the listed package-level variables hold what the text lays. -/
import Derived.Test.YtkoojiblkapmbaaDoorLxTx
namespace Go.Proofs.YtkoojiblkapmbaaDoor
open Go.RowKit
set_option linter.unusedVariables false
set_option linter.unusedSimpArgs false

/-- equal but for offsets -/
def AlikeT (ts us : List Tk) : Prop := us.length = ts.length ∧ ∀ (i : Nat) (t u : Tk), ts[i]? = some t → us[i]? = some u → u.k = t.k ∧ u.x = t.x ∧ u.m = t.m
set_option maxHeartbeats 800000 in
set_option maxRecDepth 100000 in
theorem Alike_true (w : World) (A B : Option Addr) (ts us : List Tk) (n m c d : Nat) (hN : n = ts.length) (hM : m = ts.length) (hA : TokS w w.heap.size A ts) (hB : TokS w w.heap.size B us) (hal : AlikeT ts us) (hn : ts.length ≤ 3000) :
    Calls Tryd.prog 16 #[.slice A n c, .slice B m d] w (Drew w true) := by
  subst hN hM
  have HA := Lib.hid hA
  have HB := Lib.hid hB
  have HX := Lib.hid hal
  clear hA hB hal
  go_enter Tryd.func16, Tryd.ntmps16
  go_wp2
  go_loopw [5] (fun i wr => ∃ k : Nat, k ≤ ts.length ∧ i = .int .i64 k ∧ Hid (∃ n, wr = w.drewN n)) (fun i _ => ts.length - (intOf i).toNat)
  case atStart => exact ⟨0, Nat.zero_le _, rfl, 0, rfl⟩
  case round =>
    obtain ⟨k, hk, rfl, hw⟩ := hrel
    by_cases hlt : k < ts.length
    · obtain ⟨gA, oA, rfl, hgA, hcA⟩ := HA.out (by omega)
      obtain ⟨gB, oB, rfl, hgB, hcB⟩ := HB.out (by rw [HX.out.1]; omega)
      obtain ⟨nn, rfl⟩ := hw.out
      have htk : ts[k]? = some ts[k] := List.getElem?_eq_getElem hlt
      have huk : us[k]? = some (us[k]'(by rw [HX.out.1]; exact hlt)) := List.getElem?_eq_getElem _
      obtain ⟨a0, a1, a2, a3⟩ := hcA k _ htk
      obtain ⟨b0, b1, b2, b3⟩ := hcB k _ huk
      obtain ⟨e1, e2, e3⟩ := HX.out.2 k _ _ htk huk
      rw [e1] at b0
      rw [e2] at b1
      rw [e3] at b2
      clear htk huk hcA hcB e1 e2 e3 a3 b3
      generalize ts[k] = t at *
      go_wp2
      go_quiet (fail)
      go_wp2
      go_roundw
      case rel => exact ⟨k + 1, by omega, by go_num, _, rfl⟩
      case measure => simp [intOf]; omega
    · go_wp2
      go_ret
      exact ⟨rfl, hw.out⟩

/-- the texts of tokens, each followed by a blank -/
def flat (ts : List Tk) : List UInt8 := ts.flatMap fun t => (txtB t).data.toList ++ [32]
theorem flat_cons (t : Tk) (ts : List Tk) : flat (t :: ts) = (txtB t).data.toList ++ 32 :: flat ts := by simp [flat]
theorem flat_snoc (ts : List Tk) (t : Tk) : flat (ts ++ [t]) = flat ts ++ ((txtB t).data.toList ++ [32]) := by simp [flat]
theorem tok_nogap (l : List UInt8) (h : 0 < tokLen l) : gapLen false l = 0 := by
  cases l with
  | nil => rfl
  | cons b r =>
    rw [tokLen_cons] at h
    have h0 := gapLen_other (b :: r) 0 (by simp)
    simp only [List.getElem_cons_zero, List.drop_zero] at h0
    refine h0 ?_ ?_ ?_
    all_goals
      intro hc
      rw [hc] at h
      simp at h
theorem AlikeT.cons {t u : Tk} {ts us : List Tk} (h : AlikeT ts us) (h1 : u.k = t.k) (h2 : u.x = t.x) (h3 : u.m = t.m) : AlikeT (t :: ts) (u :: us) := by
  refine ⟨by simp [h.1], fun i a b ha hb => ?_⟩
  cases i with
  | zero => simp at ha hb; subst ha hb; exact ⟨h1, h2, h3⟩
  | succ i => exact h.2 i a b (by simpa using ha) (by simpa using hb)
theorem flat_gap {s : ByteArray} {r r' : Nat} {ts : List Tk} (h : Run s r ts r') : gapLen false (flat ts) = 0 := by
  cases h with
  | nil => rfl
  | @cons _ nx _ tk us hp hq hrun =>
    obtain ⟨h1, h2⟩ := rd_len s _ tk nx hq
    obtain ⟨h3, _⟩ := rd_text s _ nx tk hp hq
    have hle := tokLen_le (s.data.toList.drop (gapE s r))
    rw [flat_cons, h3, h1, sub_bytes]
    refine tok_nogap _ ?_
    have hx : ((s.data.toList.drop (gapE s r)).take (tokLen (s.data.toList.drop (gapE s r)))) ≠ [] := by
      intro h0
      have := congrArg List.length h0
      rw [List.length_take] at this
      simp at this
      omega
    have hc := tokLen_cut _ (List.drop (tokLen (s.data.toList.drop (gapE s r))) (s.data.toList.drop (gapE s r))) hx (by rw [List.take_append_drop, List.length_take]; omega)
    rw [List.take_append_drop] at hc
    rw [tokLen_brk _ 32 _ hx ⟨by decide, by decide⟩, hc]
    exact h2
/-- what is written is read back -/
theorem flat_run {s : ByteArray} {r r' : Nat} {ts : List Tk} (h : Run s r ts r') : ∀ (W : ByteArray) (pre : List UInt8) (q : Nat), W.data.toList = pre ++ flat ts → gapE W q = pre.length →
    ∃ us q', Run W q us q' ∧ W.size ≤ gapE W q' ∧ AlikeT ts us := by
  induction h with
  | nil r =>
    intro W pre q hW hq
    refine ⟨[], q, Run.nil q, ?_, rfl, fun i t u h1 _ => by simp at h1⟩
    rw [hq, ← len_list, hW]
    simp [flat]
  | @cons r nx r' tk ts hp hrd hrun ih =>
    intro W pre q hW hq
    obtain ⟨h1, h2⟩ := rd_len s _ tk nx hrd
    obtain ⟨h3, _⟩ := rd_text s _ nx tk hp hrd
    have hle := tokLen_le (s.data.toList.drop (gapE s r))
    generalize hn : tokLen (s.data.toList.drop (gapE s r)) = n at *
    have hxl : ((s.data.toList.drop (gapE s r)).take n).length = n := by rw [List.length_take]; omega
    have hx : ((s.data.toList.drop (gapE s r)).take n) ≠ [] := by
      intro h0
      rw [h0] at hxl
      simp at hxl
      omega
    have hc := tokLen_cut _ (List.drop n (s.data.toList.drop (gapE s r))) hx (by rw [List.take_append_drop, hn, hxl]; omega)
    rw [List.take_append_drop, hn] at hc
    rw [flat_cons, h3, h1, sub_bytes] at hW
    have hdrop : W.data.toList.drop pre.length = (s.data.toList.drop (gapE s r)).take n ++ 32 :: flat ts := by rw [hW, List.drop_left]
    have htl : tokLen (W.data.toList.drop pre.length) = n := by rw [hdrop, tokLen_brk _ 32 _ hx ⟨by decide, by decide⟩, hc]
    have hmv := (rd_move s W (gapE s r) pre.length n hn htl (by rw [hdrop, List.take_append_of_le_length (by omega), List.take_take]; simp)).2 tk nx hrd
    have hdrop2 : W.data.toList.drop (pre.length + n) = 32 :: flat ts := by
      rw [← List.drop_drop, hdrop]
      exact List.drop_left' hxl
    have hgap : gapE W (pre.length + n) = pre.length + n + 1 := by
      unfold gapE
      rw [hdrop2]
      have : gapLen false (32 :: flat ts) = gapLen false (flat ts) + 1 := rfl
      rw [this, flat_gap hrun]
    have hsz : W.size = pre.length + n + 1 + (flat ts).length := by
      rw [← len_list, hW, List.length_append, List.length_append, hxl, List.length_cons]; omega
    obtain ⟨us, q', h5, h6, h7⟩ := ih W (pre ++ ((s.data.toList.drop (gapE s r)).take n ++ [32])) (pre.length + n) (by rw [hW]; simp) (by rw [hgap, List.length_append, List.length_append, hxl]; rfl)
    refine ⟨⟨tk.k, tk.x, tk.m, (pre.length : Nat)⟩ :: us, q', Run.cons (by rw [hq, hsz]; omega) (nx := pre.length + n) (by rw [hq]; exact hmv.2) h5, h6, h7.cons rfl rfl rfl⟩
theorem write_ok (s W : ByteArray) (ts : List Tk) (p : Nat) (hs : s.size ≤ 10000) (h : lx s = (ts, 0, p)) (hW : W.data.toList = flat ts) (h10 : W.size ≤ 10000) : ∃ us, lx W = (us, 0, 0) ∧ AlikeT ts us := by
  obtain ⟨r, h1, h2, h3⟩ := lx_inv hs h
  have hg : gapE W 0 = ([] : List UInt8).length := by
    unfold gapE
    rw [List.drop_zero, hW, flat_gap h1]
    rfl
  obtain ⟨us, q', h5, h6, h7⟩ := flat_run h1 W [] 0 (by rw [hW]; rfl) hg
  exact ⟨us, lx_ok h10 h5 h6 (by rw [h7.1]; exact h3), h7⟩

/-- the k-th token's text and number -/
theorem run_tok {s : ByteArray} {r r' : Nat} {ts : List Tk} (h : Run s r ts r') : ∀ t ∈ ts, (0 ≤ t.m ∧ t.m ≤ 1000000000) ∧ (txtB t).size ≤ s.size := by
  induction h with
  | nil r => intro t ht; simp at ht
  | @cons r nx r' tk ts hp hq hrun ih =>
    intro t ht
    rcases List.mem_cons.1 ht with rfl | ht
    · have h := rd_text s _ nx _ hp hq
      exact ⟨h.2, by rw [h.1, ByteArray.size_extract]; omega⟩
    · exact ih t ht

set_option maxHeartbeats 1000000 in
set_option maxRecDepth 100000 in
theorem Writing_any (s : ByteArray) (w : World) (hL : LaidW w) (hw : 5 < w.heap.size) (hms : s.size ≤ maxLen) : Calls Tryd.prog 7 #[.string s] w (TrueB w) := by
  unfold maxLen at hms
  obtain ⟨ts, er, i, hx1⟩ : ∃ l er i, lx s = (l, er, i) := ⟨_, _, _, rfl⟩
  have HX1 := Lib.hid hx1
  by_cases hs : s.size ≤ 10000
  · have hm1 := Lib.hid (show s.size ≤ maxLen by unfold maxLen; omega)
    by_cases he : er = 0
    · subst he
      obtain ⟨rr, hrun, hend, hlen⟩ := lx_inv hs hx1
      have HR := Lib.hid (run_tok hrun)
      clear hx1 hrun hend
      go_enter Tryd.func7, Tryd.ntmps7
      go_wp2_with fail
      refine (head_any _ hL hw).mono ?_
      rintro e w1 ⟨rfl, hb1⟩
      have L1 := hL.below hb1 hw
      have W1 : 5 < w1.heap.size := Nat.lt_of_lt_of_le hw hb1.size
      go_wp2_with fail
      refine (Lex_any s w1 L1 W1 hm1.out).mono ?_
      intro e w2 hp
      obtain ⟨A2, c2, rfl, T2, hb2, hA2⟩ := hp.elim2 HX1.out
      clear hp hA2
      have hb12 : Below w.heap.size w w2 := hb1.trans (hb2.mono hb1.size)
      have L2 := L1.below hb2 W1
      have W2 : 5 < w2.heap.size := Nat.lt_of_lt_of_le W1 hb2.size
      have TT := Lib.hid T2
      clear T2 hb1 hb2 L1 hL W1
      go_wp2_with fail
      go_loopw [7, 8] (fun xv iv wr => ∃ (k : Nat) (X : ByteArray), k ≤ ts.length ∧ iv = .int .i64 k ∧ xv = .string X ∧ Hid (X.data.toList = flat (ts.take k)) ∧ X.size ≤ k * 10001 ∧ Below w2.heap.size w2 wr) (fun _ iv _ => ts.length - (intOf iv).toNat)
      case atStart => exact ⟨0, ⟨#[]⟩, Nat.zero_le _, rfl, rfl, rfl, Nat.zero_le _, Below.refl _ _⟩
      case round =>
        obtain ⟨k, X, hk, rfl, rfl, hX, hXs, hbw⟩ := hrel
        by_cases hlt : k < ts.length
        · obtain ⟨g2, o2, rfl, hg2, hc2⟩ := (TT.out.keep hbw hbw.size) (by omega)
          have htk : ts[k]? = some ts[k] := List.getElem?_eq_getElem hlt
          obtain ⟨a0, a1, a2, a3⟩ := hc2 k _ htk
          obtain ⟨hmb, hts⟩ := HR.out ts[k] (List.getElem_mem hlt)
          have hany := Lib.hid (fun w => Text_any ts[k] w hmb)
          have hfl : flat (ts.take (k + 1)) = flat (ts.take k) ++ ((txtB ts[k]).data.toList ++ [32]) := by rw [List.take_succ_eq_append_getElem hlt, flat_snoc]
          have HFL := Lib.hid hfl
          have hkk : (k + 1) * 10001 = k * 10001 + 10001 := by omega
          have HKK := Lib.hid hkk
          have hk3 : k * 10001 ≤ 30003000 := by omega
          have hX2 : X.size ≤ 30003000 := by omega
          clear hmb hfl hkk hc2 htk
          generalize ts[k] = t at *
          generalize htb : txtB t = T at *
          have HTB := Lib.hid htb
          clear htb
          go_wp2_with fail
          refine (hany.out _).mono ?_
          rintro e w3 ⟨rfl, hb3⟩
          rw [HTB.out]
          go_wp2
          go_roundw
          case rel =>
            refine ⟨k + 1, X ++ (T ++ ⟨#[32]⟩), by omega, by go_num, rfl, ?_, ?_, hbw.trans (hb3.mono hbw.size)⟩
            · show (X ++ (T ++ ⟨#[32]⟩ : ByteArray)).data.toList = _
              rw [HFL.out, ByteArray.data_append, ByteArray.data_append, Array.toList_append, Array.toList_append, hX.out]
            · rw [HKK.out, ByteArray.size_append, ByteArray.size_append]
              have : (⟨#[32]⟩ : ByteArray).size = 1 := rfl
              omega
          case measure => simp [intOf]; omega
        · have hkl : k = ts.length := by omega
          subst hkl
          have hX1 := hX.out
          rw [List.take_of_length_le (Nat.le_refl _)] at hX1
          have hX3 : X.size ≤ 30003000 := by omega
          have hmX : X.size ≤ maxLen := by unfold maxLen; omega
          have L3 := L2.below hbw W2
          have W3 : 5 < wr.heap.size := Nat.lt_of_lt_of_le W2 hbw.size
          have T3 := Lib.hid (TT.out.keep hbw hbw.size)
          by_cases hbig : 10000 < X.size
          · have hx4 : lx X = ([], 2, 0) := by unfold lx; rw [if_pos hbig]
            have hbI : (10000 : Int) < (X.size : Int) := by omega
            clear hX1 hbig hX hXs
            go_wp2_with fail
            refine (Lex_any X wr L3 W3 hmX).mono ?_
            intro e w4 hp
            obtain ⟨A4, c4, rfl, T4, hb4, hA4⟩ := hp.elim2 hx4
            clear hp hx4
            go_wp2
            go_ret
            exact ⟨rfl, (hb12.trans (hbw.mono hb12.size)).trans (hb4.mono (Nat.le_trans hb12.size hbw.size))⟩
          · obtain ⟨us, hx4, hal⟩ := write_ok s X ts i hs HX1.out hX1 (by omega)
            have hbI : (X.size : Int) ≤ 10000 := by omega
            have hal1 := hal.1
            have HX4 := Lib.hid hx4
            have HAL := Lib.hid hal
            have hll := Lib.hid (lx_inv hs HX1.out)
            clear hX1 hbig hX hXs hx4 hal
            go_wp2_with fail
            refine (Lex_any X wr L3 W3 hmX).mono ?_
            intro e w4 hp
            obtain ⟨A4, c4, rfl, T4, hb4, hA4⟩ := hp.elim2 HX4.out
            have H1 := Lib.hid hal1
            clear hp hA4 hal1
            go_wp2_with fail
            refine (Alike_true _ A2 A4 ts us _ _ _ _ rfl H1.out (T3.out.keep hb4 hb4.size) T4 HAL.out hlen).mono ?_
            rintro e w5 ⟨rfl, n5, rfl⟩
            go_wp2
            go_ret
            exact ⟨rfl, below_drewN ((hb12.trans (hbw.mono hb12.size)).trans (hb4.mono (Nat.le_trans hb12.size hbw.size))) _⟩
    · have hne : (er != 0) = true := by simp [he]
      clear hx1 he
      go_enter Tryd.func7, Tryd.ntmps7
      go_wp2_with fail
      refine (head_any _ hL hw).mono ?_
      rintro e w1 ⟨rfl, hb1⟩
      have L1 := hL.below hb1 hw
      have W1 : 5 < w1.heap.size := Nat.lt_of_lt_of_le hw hb1.size
      go_wp2_with fail
      refine (Lex_any s w1 L1 W1 hm1.out).mono ?_
      intro e w2 hp
      obtain ⟨A2, c2, rfl, T2, hb2, hA2⟩ := hp.elim2 HX1.out
      clear hp hA2
      go_wp2
      go_ret
      exact ⟨rfl, hb1.trans (hb2.mono hb1.size)⟩
  · have hs0 : (10000 : Int) < (s.size : Int) := by omega
    clear hx1
    go_enter Tryd.func7, Tryd.ntmps7
    go_wp2_with fail
    refine (head_any _ hL hw).mono ?_
    rintro e w1 ⟨rfl, hb1⟩
    go_wp2
    go_ret
    exact ⟨rfl, hb1⟩
end Go.Proofs.YtkoojiblkapmbaaDoor
