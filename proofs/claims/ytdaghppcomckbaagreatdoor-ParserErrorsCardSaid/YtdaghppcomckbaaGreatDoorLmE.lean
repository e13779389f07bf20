/- Texts of one proof: LxW, LxX. -/
import Derived.Test.YtdaghppcomckbaaGreatDoorLxV
import Derived.Test.YtdaghppcomckbaaGreatDoorLxF
/- The reference's Token in one piece, and the contract of its Lex; no conditions but sizes. -/
namespace Go.Proofs.YtdaghppcomckbaaGreatDoor
open Go.RowKit
set_option linter.unusedVariables false
set_option linter.unusedSimpArgs false

/-- what Token returns -/
def tkP (x : ByteArray) : Tk × Int := if tokErr x.data.toList ≠ 0 then (Tk.zero, tokErr x.data.toList) else (tokOf x 0, 0)
theorem tkP_bad {x : ByteArray} {e : Int} (h : tokErr x.data.toList = e) (he : e ≠ 0) : tkP x = (Tk.zero, e) := by unfold tkP; rw [h, if_pos he]
theorem tkP_ok {x : ByteArray} {t : Tk} (h : tokErr x.data.toList = 0) (ht : tokOf x 0 = t) : tkP x = (t, 0) := by unfold tkP; rw [h, if_neg (by decide), ht]
theorem head_x (x : ByteArray) (hx : 0 < x.size) : x.data.toList = x[0]'hx :: x.data.toList.drop 1 := by
  have := head_of x 0 hx
  rw [List.drop_zero] at this
  exact this
def TkPost (x : ByteArray) (w : World) (e : Ending) (w' : World) : Prop :=
  e = .returned (.tuple #[.agg #[.int .i64 (tkP x).1.k, .string (tkP x).1.x, .int .i64 (tkP x).1.m, .int .i64 (tkP x).1.a], .int .i64 (tkP x).2]) ∧ Below w.heap.size w w'
theorem len_list (x : ByteArray) : x.data.toList.length = x.size := by simp

theorem Token_any (x : ByteArray) (w : World) (hx : 0 < x.size) (hs : x.size ≤ 100000) (hdig : cls (x[0]'hx).toNat = 5 → ∀ b ∈ x.data.toList, 48 ≤ b.toNat ∧ b.toNat ≤ 57) :
    Calls Tryz.prog 25 #[.string x] w (TkPost x w) := by
  have hh := head_x x hx
  have hl := len_list x
  by_cases h4 : cls (x[0]'hx).toNat = 4
  · by_cases hn : 12 < x.size
    · have hp : tkP x = (Tk.zero, 3) := tkP_bad (by
        have hn2 := hn
        rw [← hl] at hn2
        rw [hh] at hn2 ⊢
        simp only [tokErr]
        rw [if_pos h4, if_pos hn2]) (by decide)
      unfold TkPost
      rw [hp]
      exact Token_long x w hx hs h4 hn
    · have hp : tkP x = (⟨1, x, 0, 0⟩, 0) := tkP_ok (by
        have hn2 := hn
        rw [← hl] at hn2
        rw [hh] at hn2 ⊢
        simp only [tokErr]
        rw [if_pos h4, if_neg hn2]) (by
        unfold tokOf
        rw [hh]
        simp only
        rw [if_pos h4]; rfl)
      unfold TkPost
      rw [hp]
      exact Token_name x w hx hs h4 (by omega)
  by_cases h5 : cls (x[0]'hx).toNat = 5
  · by_cases hz : 1 < x.size ∧ (x[0]'hx).toNat = 48
    · have hp : tkP x = (Tk.zero, 7) := tkP_bad (by
        have hz2 := hz
        rw [← hl] at hz2
        rw [hh] at hz2 ⊢
        simp only [tokErr]
        rw [if_neg h4, if_pos h5, if_pos hz2]) (by decide)
      unfold TkPost
      rw [hp]
      exact Token_zero x w hx hs h5 hz.1 (by rw [hz.2]; rfl)
    · have hz2 := hz
      rw [← hl] at hz2
      have hnum : Calls Tryz.prog 25 #[.string x] w (NumPost x w) := by
        by_cases h1 : x.size = 1
        · exact Token_num_one x w hx hs h5 h1 (hdig h5)
        · exact Token_num_more x w hx hs h5 (by omega) (by simp; omega) (hdig h5)
      refine hnum.mono ?_
      rintro e w' ⟨rfl, hb⟩
      refine ⟨?_, hb⟩
      by_cases hv : 1000000000 < decVal 0 x.data.toList
      · have hp : tkP x = (Tk.zero, 3) := tkP_bad (by
          rw [hh] at hz2 hv ⊢
          simp only [tokErr]
          rw [if_neg h4, if_pos h5, if_neg hz2, if_pos hv]) (by decide)
        rw [hp, if_pos hv]
        rfl
      · have hp : tkP x = (⟨2, ⟨#[]⟩, decVal 0 x.data.toList, 0⟩, 0) := tkP_ok (by
          rw [hh] at hz2 hv ⊢
          simp only [tokErr]
          rw [if_neg h4, if_pos h5, if_neg hz2, if_neg hv]) (by
          unfold tokOf
          rw [hh]
          simp only
          rw [if_neg h4, if_pos h5]; rfl)
        rw [hp, if_neg hv]
  · have hp : tkP x = (⟨3, x, 0, 0⟩, 0) := tkP_ok (by
      rw [hh]
      simp only [tokErr]
      rw [if_neg h4, if_neg h5]) (by
      unfold tokOf
      rw [hh]
      simp only
      rw [if_neg h4, if_neg h5]; rfl)
    unfold TkPost
    rw [hp]
    exact Token_punct x w hx hs h4 h5

/-- what read returns, by End and Token -/
theorem rd_none (s : ByteArray) (p : Nat) (h : tokLen (s.data.toList.drop p) = 0) : rd s p = (Tk.zero, 0, 7) := by unfold rd; rw [if_pos h]
theorem rd_tok (s : ByteArray) (p n : Nat) (hn : tokLen (s.data.toList.drop p) = n) (h0 : n ≠ 0) : rd s p = if (tkP (s.extract p (p + n))).2 ≠ 0 then (Tk.zero, 0, (tkP (s.extract p (p + n))).2) else (⟨(tkP (s.extract p (p + n))).1.k, (tkP (s.extract p (p + n))).1.x, (tkP (s.extract p (p + n))).1.m, p⟩, p + n, 0) := by
  unfold rd
  rw [hn, if_neg h0, ← sub_bytes]
  by_cases he : tokErr (s.extract p (p + n)).data.toList ≠ 0
  · rw [if_pos he, tkP_bad rfl he, if_pos he]
  · have he0 : tokErr (s.extract p (p + n)).data.toList = 0 := Classical.byContradiction he
    rw [if_neg he, tkP_ok he0 rfl, if_neg (by show ¬ ((0 : Int) ≠ 0); decide)]
    have : ∀ q : Nat, tokOf (s.extract p (p + n)) q = ⟨(tokOf (s.extract p (p + n)) 0).k, (tokOf (s.extract p (p + n)) 0).x, (tokOf (s.extract p (p + n)) 0).m, q⟩ := by
      intro q
      unfold tokOf
      split
      · rfl
      · split
        · rfl
        · split <;> rfl
    rw [this p]
theorem tok_head_dig (s : ByteArray) (p n : Nat) (hp : p < s.size) (hn : tokLen (s.data.toList.drop p) = n) (h5 : cls (s[p]'hp).toNat = 5) : ∀ b ∈ (s.extract p (p + n)).data.toList, 48 ≤ b.toNat ∧ b.toNat ≤ 57 := by
  apply digits_of
  rw [← hn, head_of s p hp]
  simp only [tokLen]
  rw [if_neg (by omega), if_pos h5]
end Go.Proofs.YtdaghppcomckbaaGreatDoor

/- The contract of the reference's Lex; no conditions but sizes. -/
namespace Go.Proofs.YtdaghppcomckbaaGreatDoor
open Go.RowKit
set_option linter.unusedVariables false
set_option linter.unusedSimpArgs false

theorem Token_eq (x : ByteArray) (k : Int) (y : ByteArray) (m a er : Int) (hq : Hid (tkP x = (⟨k, y, m, a⟩, er))) (w : World) (hx : 0 < x.size) (hs : x.size ≤ 100000) (hdig : cls (x[0]'hx).toNat = 5 → ∀ b ∈ x.data.toList, 48 ≤ b.toNat ∧ b.toNat ≤ 57) :
    Calls Tryz.prog 25 #[.string x] w fun e w' => e = .returned (.tuple #[.agg #[.int .i64 k, .string y, .int .i64 m, .int .i64 a], .int .i64 er]) ∧ Below w.heap.size w w' := by
  have h := Token_any x w hx hs hdig
  unfold TkPost at h
  rw [hq.out] at h
  exact h
theorem End_eq (s : ByteArray) (at0 n : Nat) (hq : Hid (tokLen (s.data.toList.drop at0) = n)) (w : World) (hat : at0 < s.size) (hs : s.size ≤ 100000) :
    Calls Tryz.prog 24 #[.string s, .int .i64 at0] w fun e w' => e = .returned (.int .i64 ((at0 + n : Nat) : Int)) ∧ Below w.heap.size w w' := by
  have h := End_any s at0 w hat hs
  rw [hq.out] at h
  exact h

set_option maxHeartbeats 400000 in
set_option maxRecDepth 100000 in
theorem RLex_long (s : ByteArray) (w : World) (h : 10000 < s.size) (hm : s.size ≤ maxLen) : Calls Tryz.prog 14 #[.string s] w (LexPost s w) := by
  have hx : lx s = ([], 2, 0) := by unfold lx; rw [if_pos h]
  unfold maxLen at hm
  have H : Hid (LexPost s w (.returned (.tuple #[.slice none 0 0, .int .i64 2, .int .i64 0])) w) := by
    unfold LexPost
    rw [hx]
    exact ⟨_, rfl, World.ownsRow_nil _ _ _ _, Below.refl _ _⟩
  clear hx
  go_enter Tryz.func14, Tryz.ntmps14
  go_wp2
  go_ret3
  exact H.out

set_option maxHeartbeats 1000000 in
set_option maxRecDepth 100000 in
theorem RLex_short (s : ByteArray) (w : World) (h : s.size ≤ 10000) : Calls Tryz.prog 14 #[.string s] w (LexPost s w) := by
  obtain ⟨i0, hi, hz0, hz1, hz2⟩ := info_parts tokInfo
  go_enter Tryz.func14, Tryz.ntmps14
  go_wp2_with fail
  refine (Gap_any s 0 _ (Nat.zero_le _) (by omega)).mono ?_
  rintro e w' ⟨rfl, rfl⟩
  go_wp2_with fail
  go_loopg [5, 6] s.size (fun gk v i wr => ∃ (p : Nat) (ts : List Tk), i = .int .i64 p ∧ p ≤ s.size ∧ s.size ≤ p + gk ∧ ts.length ≤ 3000 ∧ Hid (Inv s gk p ts) ∧ wr.ownsRow w.heap.size 44 4 v ts.length (cellsOf ts) ∧ Below w.heap.size w wr)
  case atStart =>
    refine ⟨gapE s 0, [], ?_, gapE_le s 0 (Nat.zero_le _), by omega, by simp, ?_, World.ownsRow_nil _ _ _ _, Below.refl _ _⟩
    · simp [gapE]
    · show lexF s (s.size + 1) (gapE s 0) 0 = _
      simp
  case round =>
    obtain ⟨p, ts, rfl, hp, hg, hlen, hI, hown, hb⟩ := hrel
    obtain ⟨A, c, rfl⟩ := own_slice hown
    by_cases hlt : p < s.size
    · by_cases hmany : ts.length = 3000
      · have H := Lib.hid (LexPost.err (w' := wr) (hI.out.err (er := 2) h (by decide) (by rw [hmany]; exact lexF_many s gk p hlt)) hb)
        have hmb : ((ts.length : Int) == 3000) = true := by rw [hmany]; rfl
        clear hmany
        go_wp2
        go_ret3
        exact H.out
      · obtain ⟨n, hn⟩ : ∃ n, tokLen (s.data.toList.drop p) = n := ⟨_, rfl⟩
        have hmb : ((ts.length : Int) == 3000) = false := by simp; omega
        have hl2 : ts.length + 1 ≤ 3000 := by omega
        have hnle : p + n ≤ s.size := by
          have hle := tokLen_le (s.data.toList.drop p)
          have hle2 : tokLen (s.data.toList.drop p) ≤ s.size - p := by simpa using hle
          omega
        by_cases hn0 : n = 0
        · subst hn0
          have HLX := Lib.hid (hI.out.err (er := 7) h (by decide) (lexF_bad s gk p ts.length _ _ 7 hlt hmany (rd_none s p hn) (by decide)))
          have hN := Lib.hid hn
          clear hmany hn
          go_wp2_with fail
          refine (End_eq s p 0 hN _ hlt (by omega)).mono ?_
          rintro e w1 ⟨rfl, hb1⟩
          go_wp2
          go_ret3
          exact LexPost.err HLX.out (hb.trans (hb1.mono hb.size))
        · have hrd := rd_tok s p n hn hn0
          obtain ⟨⟨k, y, m, a⟩, er, hq⟩ : ∃ t er, tkP (s.extract p (p + n)) = (t, er) := ⟨_, _, rfl⟩
          rw [hq] at hrd
          have hdig := Lib.hid (tok_head_dig s p n hlt hn)
          have hxs : (s.extract p (p + n)).size = n := by rw [ByteArray.size_extract]; omega
          have hx0 : 0 < (s.extract p (p + n)).size := by omega
          have hxh : (s.extract p (p + n))[0]'hx0 = s[p]'hlt := by
            have h1 := head_x (s.extract p (p + n)) hx0
            rw [sub_bytes, head_of s p hlt] at h1
            obtain ⟨n', rfl⟩ : ∃ n', n = n' + 1 := ⟨n - 1, by omega⟩
            rw [List.take_succ_cons] at h1
            exact (List.cons.inj h1).1.symm
          have hdig2 := Lib.hid (show ∀ hx1 : 0 < (s.extract p (p + n)).size, cls ((s.extract p (p + n))[0]'hx1).toNat = 5 → ∀ b ∈ (s.extract p (p + n)).data.toList, 48 ≤ b.toNat ∧ b.toNat ≤ 57 from fun hx1 => by rw [hxh]; exact hdig.out)
          have HXS := Lib.hid (show 0 < (s.extract p (p + n)).size ∧ (s.extract p (p + n)).size ≤ 100000 by omega)
          have hne0 : ((p : Int) + (n : Int) == (p : Int)) = false := by simp; omega
          have hsn := slice_ok s p n hnle
          have hN := Lib.hid hn
          have hQ := Lib.hid hq
          have hpos : 0 < n := by omega
          clear hxh hxs hx0 hdig hn hq hn0
          by_cases he : er = 0
          · subst he
            rw [if_neg (by show ¬ ((0 : Int) ≠ 0); decide)] at hrd
            have hI2 : ∃ g, gk = g + 1 := ⟨gk - 1, by omega⟩
            obtain ⟨g, rfl⟩ := hI2
            have hI3 := Lib.hid (hI.out.next hlt hmany hrd)
            have hgl := gapE_le s (p + n) hnle
            have hgg := gapE_ge s (p + n)
            clear hmany hrd hI
            go_wp2_with fail
            refine (End_eq s p n hN _ hlt (by omega)).mono ?_
            rintro e w1 ⟨rfl, hb1⟩
            have hown1 := ownsRow_below hown hb1
            have hb1' : Below w.heap.size w w1 := hb.trans (hb1.mono hb.size)
            clear hb1
            go_wp2_with fail
            refine (Token_eq _ k y m a 0 hQ _ HXS.out.1 HXS.out.2 (hdig2.out _)).mono ?_
            rintro e w2 ⟨rfl, hb2⟩
            have hown2 := ownsRow_below hown1 hb2
            have hb2' : Below w.heap.size w w2 := hb1'.trans (hb2.mono hb1'.size)
            have hbase : w.heap.size ≤ w2.heap.size := hb2'.size
            clear hb2
            go_wp2_with (at_builtin; refine wpList_append_own _ rfl _ _ 40 rfl w.heap.size 44 i0 zeroV 4 40 Tryz.underlying40 hi hz0 hz1 hz2 rfl (by decide) _ _ _ rfl ((hown2.alloc _).alloc _) ⟨w2.heap.size + 1, 0, none⟩ 1 1 (Tk.cells ⟨k, y, m, p⟩) rfl rfl ?c1 ?c2 ?c3 ?c4 ?c5 ?_)
            case c1 => exact new_cells _ #[.int .i64 k, .string y, .int .i64 m, .int .i64 p] _ _ (by simp)
            case c2 => exact tk_one ⟨k, y, m, p⟩
            case c3 => unfold maxLen; omega
            case c4 => omega
            case c5 => simp; omega
            intro v' w3 hown3 hgrow _
            have hb3 : Below w.heap.size w w3 := ((hb2'.alloc hbase _).alloc (by simp; omega) _).grown hgrow (by simp; omega) (fun k hk => (hown.lt k hk).1)
            rw [← cellsOf_snoc] at hown3
            clear hgrow hown2 hown1 hown hb1' hb2'
            go_wp2_with fail
            refine (Gap_any s (p + n) _ hnle (by omega)).mono ?_
            rintro e w4 ⟨rfl, rfl⟩
            go_wp2
            go_roundg g
            case measure => omega
            case rel => exact ⟨gapE s (p + n), ts ++ [⟨k, y, m, p⟩], rfl, hgl, by omega, by simp; omega, hI3, by simpa using hown3, hb3⟩
          · rw [if_pos he] at hrd
            have HLX := Lib.hid (hI.out.err (er := er) h he (lexF_bad s gk p ts.length _ _ er hlt hmany hrd he))
            have hne : (er == 0) = false := by simp [he]
            have hne2 : (er != 0) = true := by simp [he]
            clear hmany hrd he
            go_wp2_with fail
            refine (End_eq s p n hN _ hlt (by omega)).mono ?_
            rintro e w1 ⟨rfl, hb1⟩
            have hb1' : Below w.heap.size w w1 := hb.trans (hb1.mono hb.size)
            clear hb1
            go_wp2_with fail
            refine (Token_eq _ k y m a er hQ _ HXS.out.1 HXS.out.2 (hdig2.out _)).mono ?_
            rintro e w2 ⟨rfl, hb2⟩
            have hb2' : Below w.heap.size w w2 := hb1'.trans (hb2.mono hb1'.size)
            go_wp2
            go_ret3
            exact LexPost.err HLX.out (hb2'.alloc hb2'.size _)
    · have H := Lib.hid (LexPost.ok (hI.out.ok h (by omega)) hown hb)
      go_wp2
      go_ret3
      exact H.out

theorem RLex_any (s : ByteArray) (w : World) (hm : s.size ≤ maxLen) : Calls Tryz.prog 14 #[.string s] w (LexPost s w) := by
  by_cases h : s.size ≤ 10000
  · exact RLex_short s w h
  · exact RLex_long s w (by omega) hm
end Go.Proofs.YtdaghppcomckbaaGreatDoor
