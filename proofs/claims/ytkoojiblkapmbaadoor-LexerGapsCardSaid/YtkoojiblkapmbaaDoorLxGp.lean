/- The law LexerGaps' contract: it returns true; condition: the listed package-level variables hold what the text lays. -/
import Derived.Test.YtkoojiblkapmbaaDoorLxJ
import Derived.Deep.RegionWith
namespace Go.Proofs.YtkoojiblkapmbaaDoor
open Go.RowKit
set_option linter.unusedVariables false
set_option linter.unusedSimpArgs false

/-- what may be inserted -/
structure Gapy (g : List UInt8) : Prop where
  head : ∃ b r, g = b :: r ∧ brk b
  all : ∀ c, gapLen c g = g.length
  out : cmt false g = false
def gapS : List ByteArray := [⟨#[32]⟩, ⟨#[9, 9]⟩, ⟨#[10]⟩, ⟨#[32, 35, 32, 97, 32, 60, 61, 32, 55, 59, 10]⟩, ⟨#[35, 10, 10]⟩]
def gapJ (j : Nat) : ByteArray := gapS.getD j ⟨#[]⟩
theorem gapy_j (j : Nat) (hj : j < 5) : Gapy (gapJ j).data.toList ∧ (gapJ j).size ≤ 11 := by
  match j, hj with
  | 0, _ => exact ⟨⟨⟨32, [], rfl, by decide, by decide⟩, fun c => by cases c <;> rfl, rfl⟩, by decide⟩
  | 1, _ => exact ⟨⟨⟨9, [9], rfl, by decide, by decide⟩, fun c => by cases c <;> rfl, rfl⟩, by decide⟩
  | 2, _ => exact ⟨⟨⟨10, [], rfl, by decide, by decide⟩, fun c => by cases c <;> rfl, rfl⟩, by decide⟩
  | 3, _ => exact ⟨⟨⟨32, [35, 32, 97, 32, 60, 61, 32, 55, 59, 10], rfl, by decide, by decide⟩, fun c => by cases c <;> rfl, rfl⟩, by decide⟩
  | 4, _ => exact ⟨⟨⟨35, [10, 10], rfl, by decide, by decide⟩, fun c => by cases c <;> rfl, rfl⟩, by decide⟩
  | n + 5, h => omega
theorem gapLen_true (y : List UInt8) (hy : y ≠ []) : 0 < gapLen true y := by
  cases y with
  | nil => exact absurd rfl hy
  | cons b r =>
    simp only [gapLen]
    rw [if_neg]
    · omega
    · rintro ⟨h1, _, _, h2⟩
      simp [h2] at h1

theorem gaps_ok (s S : ByteArray) (l : List Tk) (k q at0 : Nat) (g : List UInt8) (hs : s.size ≤ 10000) (h : lx s = (l, 0, q)) (hk : k ≤ l.length) (hg : Gapy g)
    (hat : (k = l.length ∧ at0 = s.size) ∨ (∃ hk2 : k < l.length, (l[k]'hk2).a = (at0 : Int))) :
    at0 ≤ s.size ∧ (S.data.toList = s.data.toList.take at0 ++ (g ++ s.data.toList.drop at0) → S.size ≤ 10000 → lx S = (l.take k ++ (l.drop k).map (shiftT (g.length : Int)), 0, 0)) := by
  obtain ⟨r, h1, h2, h3⟩ := lx_inv hs h
  rw [← List.take_append_drop k l] at h1
  obtain ⟨rk, h4, h5⟩ := Run.split _ h1
  have hrk := h4.size (Nat.zero_le _)
  have hgl := gapE_le s rk hrk
  have hp : at0 = gapE s rk := by
    rcases hat with ⟨hk2, h6⟩ | ⟨hk2, h6⟩
    · rw [List.drop_eq_nil_of_le (by omega)] at h5
      cases h5
      omega
    · rw [List.drop_eq_getElem_cons hk2] at h5
      generalize hts : l.drop (k + 1) = us at *
      cases h5 with
      | cons hp hq _ =>
        have := rd_at s _ _ _ hq
        omega
  refine ⟨by omega, fun hS h10 => ?_⟩
  have htl : (s.data.toList.take at0).length = at0 := by rw [List.length_take, len_list]; omega
  have hdl : (s.data.toList.drop at0).length = s.size - at0 := by rw [List.length_drop, len_list]
  have hz : S.size = s.size + g.length := by
    rw [← len_list, hS, List.length_append, List.length_append, htl, hdl]; omega
  have hSd : S.data.toList.drop at0 = g ++ s.data.toList.drop at0 := by rw [hS, List.drop_left' htl]
  obtain ⟨b0, g', hgc, hbrk⟩ := hg.head
  have hpre : Pre s S at0 := ⟨by omega, by rw [hS, List.take_left' htl], by omega, Or.inr ⟨b0, g' ++ s.data.toList.drop at0, by rw [hSd, hgc]; rfl, hbrk⟩⟩
  have hge := gapE_ge s rk
  have hrun := hpre.run h4 (by omega)
  obtain ⟨x, hx1, hx2, hx3⟩ := hpre.parts (p := rk) (by omega)
  have hgx : gapLen false (x ++ s.data.toList.drop at0) = x.length := by
    rw [← hx1]
    unfold gapE at hp
    omega
  have hall := gapLen_cut_all x (s.data.toList.drop at0) false (by omega)
  have hrest := gapLen_all x false (s.data.toList.drop at0) hall
  rw [hgx] at hrest
  have hgapS : gapE S rk = gapE s rk + g.length := by
    unfold gapE
    rw [hx2, hSd, gapLen_all x false _ hall, gapLen_all g _ _ (hg.all _)]
    have h0 : gapLen (cmt (cmt false x) g) (s.data.toList.drop at0) = 0 := by
      by_cases hy : s.data.toList.drop at0 = []
      · rw [hy]; rfl
      · have hc : cmt false x = false := by
          cases hc : cmt false x with
          | false => rfl
          | true =>
            rw [hc] at hrest
            have := gapLen_true _ hy
            omega
        rw [hc] at hrest ⊢
        rw [hg.out]
        omega
    rw [h0, hx1, hgx]
    omega
  have hsuf : Suf s S (gapE s rk) g.length := by
    unfold Suf
    rw [← hp, ← List.drop_drop, hSd, List.drop_left]
  obtain ⟨r1, h7, h8, _, _⟩ := Suf.join h5 hsuf hgapS
  exact lx_ok h10 (hrun.app h7) (by omega) (by rw [List.length_append, List.length_map, ← List.length_append, List.take_append_drop]; exact h3)

theorem gaps_cell (j : Nat) (hj : j < 5) (W : World) : (W.alloc (.cells #[.string ⟨#[32]⟩, .string ⟨#[9, 9]⟩, .string ⟨#[10]⟩, .string ⟨#[32, 35, 32, 97, 32, 60, 61, 32, 55, 59, 10]⟩, .string ⟨#[35, 10, 10]⟩] 9)).cell? ⟨W.heap.size, j, none⟩ = some (.string (gapJ j)) := by
  rw [cell_of_row _ _ j _ _ (0, 0) (heap_alloc_new W _)]
  match j, hj with
  | 0, _ => rfl
  | 1, _ => rfl
  | 2, _ => rfl
  | 3, _ => rfl
  | 4, _ => rfl
  | n + 5, h => omega
def LexAns (er : Int) (p : Nat) (ts : List Tk) (n : Nat) (w : World) (e : Ending) (w' : World) : Prop :=
  ∃ A c, e = .returned (.tuple #[.slice A n c, .int .i64 er, .int .i64 (p : Nat)]) ∧ TokS w' w'.heap.size A ts ∧ Below w.heap.size w w' ∧ ((A = none ∧ ts = [] ∧ c = 0) ∨ ∃ g, A = some ⟨g, 0, none⟩ ∧ n ≤ c ∧ c ≤ maxLen)
theorem lex_ans {S : ByteArray} {er : Int} {p : Nat} {ts : List Tk} {n : Nat} (h : lx S = (ts, er, p)) (hn : ts.length = n) (hm : S.size ≤ maxLen) (w : World) (hL : LaidW w) (hw : 5 < w.heap.size) :
    Calls Tryd.prog 11 #[.string S] w (LexAns er p ts n w) := by
  subst hn
  exact (Lex_any S w hL hw hm).mono fun e w' hp => hp.elim2 h
theorem cat_list (s g : ByteArray) (a : Nat) (ha : a ≤ s.size) : (s.extract 0 a ++ g ++ s.extract a s.size : ByteArray).data.toList = s.data.toList.take a ++ (g.data.toList ++ s.data.toList.drop a) := by
  have h0 := sub_bytes s 0 a
  rw [Nat.zero_add, List.drop_zero] at h0
  have h1 := sub_bytes s a (s.size - a)
  rw [show a + (s.size - a) = s.size by omega, List.take_of_length_le (by rw [List.length_drop, len_list]; omega)] at h1
  rw [ByteArray.data_append, ByteArray.data_append, Array.toList_append, Array.toList_append, h0, h1, List.append_assoc]
theorem cat_size (s g : ByteArray) (a : Nat) (ha : a ≤ s.size) : (s.extract 0 a ++ g ++ s.extract a s.size : ByteArray).size = s.size + g.size := by
  rw [← len_list, cat_list s g a ha, List.length_append, List.length_append, List.length_take, List.length_drop, len_list, len_list]; omega

/-- Same at two equal lists, as the quiet walk asks for it -/
theorem same_quiet (w : World) (A B : Option Addr) (ts us : List Tk) (n m c d : Nat) (by_ : Int) (hn : n = ts.length) (hm : m = ts.length) (hu : us = ts.map (shiftT by_)) (hA : TokS w w.heap.size A ts) (hB : TokS w w.heap.size B us)
    (hl : ts.length ≤ 3000) (hby : 0 ≤ by_ ∧ by_ ≤ 100000) (ha : ∀ t ∈ ts, 0 ≤ t.a ∧ t.a ≤ 100000) (nn : Nat) :
    Calls Tryd.prog 13 #[.slice A n c, .slice B m d, .int .i64 by_] (w.drewN nn) fun e w'' => e = .returned (.bool true) ∧ ∃ m, w'' = w.drewN m :=
  Calls.quiet_of (Same_eq (w.drewN nn) A B ts us n m c d by_ hn hm hu (hA.drewN nn) (hB.drewN nn) hl hby ha)
theorem shiftT_len (u : List Tk) (g : ByteArray) : u.map (shiftT (g.data.toList.length : Int)) = u.map (shiftT (g.size : Int)) := by rw [len_list]

set_option maxHeartbeats 1000000 in
set_option maxRecDepth 100000 in
theorem Gaps_any (s : ByteArray) (which kind : Int) (w : World) (hL : LaidW w) (hw : 5 < w.heap.size) (hms : s.size ≤ maxLen) (wf1 : (Lit.int .i64 which).wf = true) (wf2 : (Lit.int .i64 kind).wf = true) :
    Calls Tryd.prog 5 #[.string s, .int .i64 which, .int .i64 kind] w (TrueB w) := by
  unfold maxLen at hms
  clear wf1 wf2
  obtain ⟨l, er, q, hx1⟩ : ∃ l er i, lx s = (l, er, i) := ⟨_, _, _, rfl⟩
  have HX1 := Lib.hid hx1
  have hm1 := Lib.hid (show s.size ≤ maxLen by unfold maxLen; omega)
  by_cases hs : s.size ≤ 10000
  · by_cases hwn : 0 ≤ which
    · by_cases hkn : 0 ≤ kind
      · by_cases he : er = 0
        · subst he
          have hlen := (lx_bounds s l 0 q hx1).1
          obtain ⟨W, rfl⟩ := Int.eq_ofNat_of_zero_le hwn
          obtain ⟨K, rfl⟩ := Int.eq_ofNat_of_zero_le hkn
          obtain ⟨k, hk⟩ : ∃ k, W % (l.length + 1) = k := ⟨_, rfl⟩
          have hkle : k ≤ l.length := by have := Nat.mod_lt W (show 0 < l.length + 1 by omega); omega
          obtain ⟨j, hj⟩ : ∃ j, K % 5 = j := ⟨_, rfl⟩
          have hj5 : j < 5 := by omega
          have hkI : (W : Int) % ((l.length : Int) + 1) = (k : Int) := by rw [← hk]; exact (Int.natCast_emod W (l.length + 1)).symm
          have hjI : (K : Int) % 5 = (j : Int) := by omega
          have hgc := gaps_cell j hj5
          obtain ⟨hgy, hgz⟩ := gapy_j j hj5
          have HGY := Lib.hid hgy
          generalize gapJ j = g at *
          clear hx1 hwn hkn hk hj hgy
          have HHL := Lib.hid hL
          by_cases hkl : k < l.length
          · obtain ⟨a, ha⟩ : ∃ a : Nat, l[k].a = (a : Int) := by
              have := ((lx_bounds s l 0 q HX1.out).2 l[k] (List.getElem_mem hkl)).1
              exact ⟨l[k].a.toNat, by omega⟩
            have hgo : ∀ S : ByteArray, a ≤ s.size ∧ (S.data.toList = s.data.toList.take a ++ (g.data.toList ++ s.data.toList.drop a) → S.size ≤ 10000 → lx S = (l.take k ++ (l.drop k).map (shiftT (g.data.toList.length : Int)), 0, 0)) :=
              fun S => gaps_ok s S l k q a g.data.toList hs HX1.out hkle HGY.out (Or.inr ⟨hkl, ha⟩)
            have has := (hgo s).1
            have HGO := Lib.hid hgo
            clear hgo
            go_enter Tryd.func5, Tryd.ntmps5
            go_wp2_with fail
            refine (head_any _ hL hw).mono ?_
            rintro e w1 ⟨rfl, hb1⟩
            have L1 := hL.below hb1 hw
            have W1 : 5 < w1.heap.size := Nat.lt_of_lt_of_le hw hb1.size
            go_wp2_with fail
            refine (Lex_any s w1 L1 W1 hm1.out).mono ?_
            intro e w2 hp
            obtain ⟨A2, c2, rfl, T2, hb2, hA2⟩ := hp.elim2 HX1.out
            clear hp
            obtain ⟨g2, rfl, hc2, hc2'⟩ : ∃ g, A2 = some ⟨g, 0, none⟩ ∧ l.length ≤ c2 ∧ c2 ≤ maxLen := by
              rcases hA2 with ⟨_, h0, _⟩ | h
              · rw [h0] at hkl; simp at hkl
              · exact h
            clear hA2
            have TT := Lib.hid T2
            obtain ⟨g2', o2', hA, hg2, hcc⟩ := T2 (by omega)
            simp only [Option.some.injEq, Addr.mk.injEq] at hA
            obtain ⟨rfl, rfl, _⟩ := hA
            obtain ⟨_, _, _, a3⟩ := hcc k _ (List.getElem?_eq_getElem hkl)
            rw [ha, Nat.zero_add] at a3
            clear hcc T2
            have L2 := L1.below hb2 W1
            have W2 : 5 < w2.heap.size := Nat.lt_of_lt_of_le W1 hb2.size
            have hb12 : Below w.heap.size w w2 := hb1.trans (hb2.mono hb1.size)
            clear hb1 hb2 L1 W1
            have hcs := cat_size s g a has
            have HCL := Lib.hid (cat_list s g a has)
            have HGS := Lib.hid (len_list g)
            by_cases hbig : 10000 < s.size + g.size
            · have hx4 : lx (s.extract 0 a ++ g ++ s.extract a s.size : ByteArray) = ([], 2, 0) := by unfold lx; rw [if_pos (by rw [hcs]; exact hbig)]
              have HLEX := Lib.hid (fun w hL hw => lex_ans hx4 rfl (by rw [hcs]; unfold maxLen; omega) w hL hw)
              clear hx4 hcs
              go_wp2_with fail
              go_region_with (go_at_call 11; refine (HLEX.out _ (by exact L2.alloc _) (by show 5 < (World.alloc _ _).heap.size; simp; omega)).mono ?_; rintro e w4 ⟨A4, c4, rfl, T4, hb4, hA4⟩)
              have hb4' : Below w2.heap.size w2 w4 := (((Below.refl w2.heap.size w2).alloc (Nat.le_refl _) _).drew).trans (hb4.mono (by show _ ≤ (World.alloc _ _).heap.size; simp))
              go_wp2_with fail
              go_ret
              exact ⟨rfl, hb12.trans (hb4'.mono hb12.size)⟩
            · have hx4 := (HGO.out (s.extract 0 a ++ g ++ s.extract a s.size)).2 HCL.out (by rw [hcs]; omega)
              have hlen4 : (l.take k ++ (l.drop k).map (shiftT (g.data.toList.length : Int))).length = l.length := by simp; omega
              have HLEX := Lib.hid (fun w hL hw => lex_ans hx4 hlen4 (by rw [hcs]; unfold maxLen; omega) w hL hw)
              have hsm : s.size + g.size ≤ 10000 := by omega
              clear hx4 hcs hlen4 hbig
              go_wp2_with fail
              go_region_with (go_at_call 11; refine (HLEX.out _ (by exact L2.alloc _) (by show 5 < (World.alloc _ _).heap.size; simp; omega)).mono ?_; rintro e w4 ⟨A4, c4, rfl, T4, hb4, hA4⟩)
              have hb4' : Below w2.heap.size w2 w4 := (((Below.refl w2.heap.size w2).alloc (Nat.le_refl _) _).drew).trans (hb4.mono (by show _ ≤ (World.alloc _ _).heap.size; simp))
              clear hb4
              obtain ⟨g4, rfl, hc4, hc4'⟩ : ∃ g, A4 = some ⟨g, 0, none⟩ ∧ l.length ≤ c4 ∧ c4 ≤ maxLen := by
                rcases hA4 with ⟨_, h0, _⟩ | h
                · exfalso
                  have := congrArg List.length h0
                  simp at this
                  omega
                · exact h
              clear hA4
              have hc2k : ¬ c2 = k := by omega
              have hc4k : ¬ c4 = k := by omega
              have hk2 : k ≤ c2 := by omega
              have hk4 : k ≤ c4 := by omega
              have T2' := TT.out.keep hb4' hb4'.size
              rw [← List.take_append_drop k l] at T2'
              have htk : (l.take k).length = k := by rw [List.length_take]; omega
              have T2r := T2'.right
              have T4r := T4.right
              rw [htk, Nat.zero_add] at T2r T4r
              rw [shiftT_len] at T4r
              have hbd := (lx_bounds s l 0 q HX1.out).2
              have Q1 := Lib.hid (fun nn => same_quiet w4 _ _ (l.take k) (l.take k) k k c2 c4 0 htk.symm htk.symm (map_shift0 _) T2'.left T4.left (by omega) (by decide) (fun t ht => hbd t (List.mem_of_mem_take ht)) nn)
              have Q2 := Lib.hid (fun nn => same_quiet w4 _ _ (l.drop k) ((l.drop k).map (shiftT (g.size : Int))) (l.length - k) (l.length - k) (c2 - k) (c4 - k) (g.size : Int) (by simp) (by simp) rfl T2r T4r (by simp; omega) (by omega) (fun t ht => hbd t (List.mem_of_mem_drop ht)) nn)
              clear T2' T2r T4r htk hbd T4
              go_wp2_with fail
              go_quiet ((go_at_call 13; first | with_reducible exact Q1.out _ | with_reducible exact Q2.out _))
              go_wp2_with fail
              go_ret
              exact ⟨rfl, below_drewN (hb12.trans (hb4'.mono hb12.size)) _⟩
          · have hkeq : k = l.length := by omega
            subst hkeq
            have hgo : ∀ S : ByteArray, s.size ≤ s.size ∧ (S.data.toList = s.data.toList.take s.size ++ (g.data.toList ++ s.data.toList.drop s.size) → S.size ≤ 10000 → lx S = (l.take l.length ++ (l.drop l.length).map (shiftT (g.data.toList.length : Int)), 0, 0)) :=
              fun S => gaps_ok s S l l.length q s.size g.data.toList hs HX1.out (Nat.le_refl _) HGY.out (Or.inl ⟨rfl, rfl⟩)
            have HGO := Lib.hid hgo
            clear hgo
            go_enter Tryd.func5, Tryd.ntmps5
            go_wp2_with fail
            refine (head_any _ hL hw).mono ?_
            rintro e w1 ⟨rfl, hb1⟩
            have L1 := hL.below hb1 hw
            have W1 : 5 < w1.heap.size := Nat.lt_of_lt_of_le hw hb1.size
            go_wp2_with fail
            refine (Lex_any s w1 L1 W1 hm1.out).mono ?_
            intro e w2 hp
            obtain ⟨A2, c2, rfl, T2, hb2, hA2⟩ := hp.elim2 HX1.out
            clear hp
            have TT := Lib.hid T2
            have L2 := L1.below hb2 W1
            have W2 : 5 < w2.heap.size := Nat.lt_of_lt_of_le W1 hb2.size
            have hb12 : Below w.heap.size w w2 := hb1.trans (hb2.mono hb1.size)
            clear hb1 hb2 L1 W1 T2
            have hcs : (s ++ g : ByteArray).size = s.size + g.size := ByteArray.size_append
            have HCL := Lib.hid (show (s ++ g : ByteArray).data.toList = s.data.toList.take s.size ++ (g.data.toList ++ s.data.toList.drop s.size) by
              rw [ByteArray.data_append, Array.toList_append, List.take_of_length_le (by rw [len_list]; omega), List.drop_eq_nil_of_le (by rw [len_list]; omega), List.append_nil])
            by_cases hbig : 10000 < s.size + g.size
            · have hx4 : lx (s ++ g : ByteArray) = ([], 2, 0) := by unfold lx; rw [if_pos (by rw [hcs]; exact hbig)]
              have HLEX := Lib.hid (fun w hL hw => lex_ans hx4 rfl (by rw [hcs]; unfold maxLen; omega) w hL hw)
              clear hx4 hcs
              go_wp2_with fail
              go_region_with (go_at_call 11; refine (HLEX.out _ (by exact L2.alloc _) (by show 5 < (World.alloc _ _).heap.size; simp; omega)).mono ?_; rintro e w4 ⟨A4, c4, rfl, T4, hb4, hA4⟩)
              have hb4' : Below w2.heap.size w2 w4 := (((Below.refl w2.heap.size w2).alloc (Nat.le_refl _) _).drew).trans (hb4.mono (by show _ ≤ (World.alloc _ _).heap.size; simp))
              go_wp2_with fail
              go_ret
              exact ⟨rfl, hb12.trans (hb4'.mono hb12.size)⟩
            · have hx4 := (HGO.out (s ++ g)).2 HCL.out (by rw [hcs]; omega)
              have hlen4 : (l.take l.length ++ (l.drop l.length).map (shiftT (g.data.toList.length : Int))).length = l.length := by simp
              have HLEX := Lib.hid (fun w hL hw => lex_ans hx4 hlen4 (by rw [hcs]; unfold maxLen; omega) w hL hw)
              have hsm : s.size + g.size ≤ 10000 := by omega
              clear hx4 hcs hlen4 hbig
              go_wp2_with fail
              go_region_with (go_at_call 11; refine (HLEX.out _ (by exact L2.alloc _) (by show 5 < (World.alloc _ _).heap.size; simp; omega)).mono ?_; rintro e w4 ⟨A4, c4, rfl, T4, hb4, hA4⟩)
              have hb4' : Below w2.heap.size w2 w4 := (((Below.refl w2.heap.size w2).alloc (Nat.le_refl _) _).drew).trans (hb4.mono (by show _ ≤ (World.alloc _ _).heap.size; simp))
              clear hb4
              have T2' := TT.out.keep hb4' hb4'.size
              have hbd := (lx_bounds s l 0 q HX1.out).2
              have htl : l.take l.length = l := List.take_of_length_le (Nat.le_refl _)
              have T4l := T4.left
              rw [htl] at T4l
              have hA4' : (A4 = none ∧ l = [] ∧ c4 = 0) ∨ ∃ g, A4 = some ⟨g, 0, none⟩ ∧ l.length ≤ c4 ∧ c4 ≤ maxLen := by
                rcases hA4 with ⟨h1, h2, h3⟩ | h
                · exact Or.inl ⟨h1, by rw [← htl]; exact (List.append_eq_nil_iff.1 h2).1, h3⟩
                · exact Or.inr h
              have Q1 := Lib.hid (fun nn => same_quiet w4 A2 A4 l l l.length l.length c2 c4 0 rfl rfl (map_shift0 _) T2' T4l (by omega) (by decide) hbd nn)
              have Q2 := Lib.hid (fun (A B : Option Addr) (c d nn : Nat) => same_quiet w4 A B [] [] 0 0 c d (g.size : Int) rfl rfl rfl (fun h => absurd h (by simp)) (fun h => absurd h (by simp)) (by simp) (by omega) (by simp) nn)
              have Q0 := Lib.hid (fun (A B : Option Addr) (c d nn : Nat) => same_quiet w4 A B [] [] 0 0 c d 0 rfl rfl rfl (fun h => absurd h (by simp)) (fun h => absurd h (by simp)) (by simp) (by decide) (by simp) nn)
              clear T2' T4l htl hbd T4 hA4
              rcases hA2 with ⟨rfl, rfl, rfl⟩ | ⟨g2, rfl, hc2, hc2'⟩
              · rcases hA4' with ⟨rfl, _, rfl⟩ | ⟨g4, rfl, hc4, hc4'⟩
                · go_wp2_with fail
                  go_quiet ((go_at_call 13; first | with_reducible exact Q0.out _ _ _ _ _ | with_reducible exact Q2.out _ _ _ _ _))
                  go_wp2_with fail
                  go_ret
                  exact ⟨rfl, below_drewN (hb12.trans (hb4'.mono hb12.size)) _⟩
                · by_cases h4 : c4 = 0
                  · subst h4
                    go_wp2_with fail
                    go_quiet ((go_at_call 13; first | with_reducible exact Q0.out _ _ _ _ _ | with_reducible exact Q2.out _ _ _ _ _))
                    go_wp2_with fail
                    go_ret
                    exact ⟨rfl, below_drewN (hb12.trans (hb4'.mono hb12.size)) _⟩
                  · go_wp2_with fail
                    go_quiet ((go_at_call 13; first | with_reducible exact Q0.out _ _ _ _ _ | with_reducible exact Q2.out _ _ _ _ _))
                    go_wp2_with fail
                    go_ret
                    exact ⟨rfl, below_drewN (hb12.trans (hb4'.mono hb12.size)) _⟩
              · rcases hA4' with ⟨rfl, rfl, rfl⟩ | ⟨g4, rfl, hc4, hc4'⟩
                · by_cases h2 : c2 = 0
                  · subst h2
                    go_wp2_with fail
                    go_quiet ((go_at_call 13; first | with_reducible exact Q0.out _ _ _ _ _ | with_reducible exact Q1.out _ | with_reducible exact Q2.out _ _ _ _ _))
                    go_wp2_with fail
                    go_ret
                    exact ⟨rfl, below_drewN (hb12.trans (hb4'.mono hb12.size)) _⟩
                  · skip
                    go_wp2_with fail
                    go_quiet ((go_at_call 13; first | with_reducible exact Q0.out _ _ _ _ _ | with_reducible exact Q1.out _ | with_reducible exact Q2.out _ _ _ _ _))
                    go_wp2_with fail
                    go_ret
                    exact ⟨rfl, below_drewN (hb12.trans (hb4'.mono hb12.size)) _⟩
                · by_cases h2 : c2 = l.length
                  · by_cases h4 : c4 = l.length
                    · subst h2 h4
                      go_wp2_with fail
                      go_quiet ((go_at_call 13; first | with_reducible exact Q0.out _ _ _ _ _ | with_reducible exact Q1.out _ | with_reducible exact Q2.out _ _ _ _ _))
                      go_wp2_with fail
                      go_ret
                      exact ⟨rfl, below_drewN (hb12.trans (hb4'.mono hb12.size)) _⟩
                    · subst h2
                      go_wp2_with fail
                      go_quiet ((go_at_call 13; first | with_reducible exact Q0.out _ _ _ _ _ | with_reducible exact Q1.out _ | with_reducible exact Q2.out _ _ _ _ _))
                      go_wp2_with fail
                      go_ret
                      exact ⟨rfl, below_drewN (hb12.trans (hb4'.mono hb12.size)) _⟩
                  · by_cases h4 : c4 = l.length
                    · subst h4
                      go_wp2_with fail
                      go_quiet ((go_at_call 13; first | with_reducible exact Q0.out _ _ _ _ _ | with_reducible exact Q1.out _ | with_reducible exact Q2.out _ _ _ _ _))
                      go_wp2_with fail
                      go_ret
                      exact ⟨rfl, below_drewN (hb12.trans (hb4'.mono hb12.size)) _⟩
                    · skip
                      go_wp2_with fail
                      go_quiet ((go_at_call 13; first | with_reducible exact Q0.out _ _ _ _ _ | with_reducible exact Q1.out _ | with_reducible exact Q2.out _ _ _ _ _))
                      go_wp2_with fail
                      go_ret
                      exact ⟨rfl, below_drewN (hb12.trans (hb4'.mono hb12.size)) _⟩
        · have hne : (er != 0) = true := by simp [he]
          clear hx1 he
          go_enter Tryd.func5, Tryd.ntmps5
          go_wp2_with fail
          refine (head_any _ hL hw).mono ?_
          rintro e w1 ⟨rfl, hb1⟩
          have L1 := hL.below hb1 hw
          have W1 : 5 < w1.heap.size := Nat.lt_of_lt_of_le hw hb1.size
          go_wp2_with fail
          refine (Lex_any s w1 L1 W1 hm1.out).mono ?_
          intro e w2 hp
          obtain ⟨A2, c2, rfl, T2, hb2, hA2⟩ := hp.elim2 HX1.out
          clear hp hA2
          go_wp2_with fail
          go_ret
          exact ⟨rfl, hb1.trans (hb2.mono hb1.size)⟩
      · have hk0 : kind < 0 := by omega
        have hs0 : (s.size : Int) ≤ 10000 := by omega
        clear hx1
        go_enter Tryd.func5, Tryd.ntmps5
        go_wp2_with fail
        refine (head_any _ hL hw).mono ?_
        rintro e w1 ⟨rfl, hb1⟩
        go_wp2_with fail
        go_ret
        exact ⟨rfl, hb1⟩
    · have hk0 : which < 0 := by omega
      have hs0 : (s.size : Int) ≤ 10000 := by omega
      clear hx1
      go_enter Tryd.func5, Tryd.ntmps5
      go_wp2_with fail
      refine (head_any _ hL hw).mono ?_
      rintro e w1 ⟨rfl, hb1⟩
      go_wp2_with fail
      go_ret
      exact ⟨rfl, hb1⟩
  · have hs0 : (10000 : Int) < (s.size : Int) := by omega
    clear hx1
    go_enter Tryd.func5, Tryd.ntmps5
    go_wp2_with fail
    refine (head_any _ hL hw).mono ?_
    rintro e w1 ⟨rfl, hb1⟩
    go_wp2_with fail
    go_ret
    exact ⟨rfl, hb1⟩
end Go.Proofs.YtkoojiblkapmbaaDoor
