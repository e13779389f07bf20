/- Package maxmin: which networks are valid. -/
import Derived.Test.YtbjhdfakocfapaaMsA
namespace Go.Proofs.Ytbjhdfakocfapaa
open Go.RowKit
set_option linter.unusedVariables false
set_option linter.unusedSimpArgs false
def capB (c : Int) : Bool := decide (0 ≤ c) && decide (c ≤ 1000)
def capsB (l : List Int) : Bool := l.all capB
/-- the links of a flow, from a least one on -/
def linkB (count : Int) : List Int → Int → Bool
  | [], _ => true
  | x :: l, m => if x < m ∨ count ≤ x then false else linkB count l (x + 1)
def linksB (count : Int) (l : List Int) : Bool := decide (1 ≤ l.length) && decide (l.length ≤ 6) && linkB count l 0
def sizeB (n : Net) : Bool := decide (n.c.length ≤ 8) && decide (n.f.length ≤ 8) && decide (n.l.length = n.f.length)
def validB (n : Net) : Bool := sizeB n && (n.f.all (linksB n.c.length) && (capsB n.c && capsB n.l))
theorem linkB_drop {count : Int} {l : List Int} {k : Nat} (h : k < l.length) (m : Int) : linkB count (l.drop k) m = if l[k] < m ∨ count ≤ l[k] then false else linkB count (l.drop (k + 1)) (l[k] + 1) := by
  rw [List.drop_eq_getElem_cons h, linkB]
theorem all_drop {α : Type} {p : α → Bool} {l : List α} {k : Nat} (h : k < l.length) : (l.drop k).all p = (p l[k] && (l.drop (k + 1)).all p) := by
  rw [List.drop_eq_getElem_cons h, List.all_cons]
theorem all_end {α : Type} {p : α → Bool} {l : List α} {k : Nat} (h : l.length ≤ k) : (l.drop k).all p = true := by rw [List.drop_eq_nil_of_le h]; rfl
set_option maxHeartbeats 1000000 in
set_option maxRecDepth 100000 in
theorem areCaps_any (l : List Int) (A : Option Addr) (m : Nat) (w : World) (h : IntsR w l A) (hn : l.length ≤ maxLen) :
    Calls Try.prog 38 #[.slice A l.length m] w (SS (.bool (capsB l)) w) := by
  have H := Lib.hid h
  have hml : maxLen = 9223372036854775807 := rfl
  clear h
  go_enter Try.func38, Try.ntmps38
  go_wp2
  go_loop [7] (fun i => ∃ k : Nat, k ≤ l.length ∧ i = .int .i64 k ∧ Hid ((l.drop k).all capB = capsB l)) (fun i => l.length - (intOf i).toNat)
  case atStart => exact ⟨0, Nat.zero_le _, rfl, rfl⟩
  case round =>
    obtain ⟨k, hk, rfl, hI⟩ := hrel
    by_cases hlt : k < l.length
    · obtain ⟨g, o, rfl, hcs⟩ := H.out.addr (by omega)
      have hc := hcs k _ (List.getElem?_eq_getElem hlt)
      have h1 := hI.out
      rw [all_drop hlt] at h1
      clear hcs hI
      generalize l[k] = y at *
      have hq : IntKind.i64.wrap ((k : Int) + 1) = (k : Int) + 1 := IntWalk.i64_in _ (by omega)
      by_cases h0 : y < 0
      · have h3 := Lib.hid (show capsB l = false by rw [← h1]; simp [capB]; omega)
        clear h1
        go_wp2
        go_ret
        exact ⟨ret_b (by rw [h3.out]), rfl⟩
      · by_cases h5 : 1000 < y
        · have h3 := Lib.hid (show capsB l = false by rw [← h1]; simp [capB]; omega)
          clear h1
          go_wp2
          go_ret
          exact ⟨ret_b (by rw [h3.out]), rfl⟩
        · have h3 := Lib.hid (show (l.drop (k + 1)).all capB = capsB l by rw [← h1, show capB y = true from by simp [capB]; omega]; rfl)
          clear h1
          go_wp2
          go_round
          case rel => exact ⟨k + 1, by omega, by go_num, h3⟩
          case measure => simp [intOf]; omega
    · have h3 := Lib.hid ((all_end (p := capB) (l := l) (k := k) (by omega)).symm.trans hI.out)
      go_wp2
      go_ret
      exact ⟨ret_b (by rw [← h3.out]), rfl⟩
set_option maxHeartbeats 1000000 in
set_option maxRecDepth 100000 in
theorem areLinks_any (l : List Int) (A : Option Addr) (m : Nat) (count : Int) (hct : 0 ≤ count ∧ count ≤ 1000000) (w : World) (h : IntsR w l A) :
    Calls Try.prog 37 #[.slice A l.length m, .int .i64 count] w (SS (.bool (linksB count l)) w) := by
  have H := Lib.hid h
  clear h
  by_cases hl1 : l.length < 1
  · have e : linksB count l = false := by unfold linksB; rw [decide_eq_false (show ¬ 1 ≤ l.length by omega)]; rfl
    rw [e]
    have t : decide ((l.length : Int) < 1) = true := by simp; omega
    clear e H
    go_enter Try.func37, Try.ntmps37
    go_wp2
    go_ret
    exact ⟨rfl, rfl⟩
  by_cases hl6 : 6 < l.length
  · have e : linksB count l = false := by unfold linksB; rw [decide_eq_false (show ¬ l.length ≤ 6 by omega)]; simp
    rw [e]
    have t : decide ((l.length : Int) < 1) = false := by simp; omega
    have t2 : decide ((6 : Int) < l.length) = true := by simp; omega
    clear e H
    go_enter Try.func37, Try.ntmps37
    go_wp2
    go_ret
    exact ⟨rfl, rfl⟩
  have e : linksB count l = linkB count l 0 := by unfold linksB; rw [decide_eq_true (show 1 ≤ l.length by omega), decide_eq_true (show l.length ≤ 6 by omega)]; rfl
  rw [e]
  have t : decide ((l.length : Int) < 1) = false := by simp; omega
  have t2 : decide ((6 : Int) < l.length) = false := by simp; omega
  clear e
  go_enter Try.func37, Try.ntmps37
  go_wp2
  go_loop [5, 18] (fun b i => ∃ (k : Nat) (mv : Int), k ≤ l.length ∧ i = .int .i64 k ∧ b = .int .i64 mv ∧ 0 ≤ mv ∧ Hid (linkB count (l.drop k) mv = linkB count l 0)) (fun _ i => l.length - (intOf i).toNat)
  case atStart => exact ⟨0, 0, Nat.zero_le _, rfl, rfl, Int.le_refl _, rfl⟩
  case round =>
    obtain ⟨k, mv, hk, rfl, rfl, hm0, hI⟩ := hrel
    by_cases hlt : k < l.length
    · obtain ⟨g, o, rfl, hcs⟩ := H.out.addr (by omega)
      have hc := hcs k _ (List.getElem?_eq_getElem hlt)
      have h1 := hI.out
      rw [linkB_drop hlt] at h1
      clear hcs hI
      generalize l[k] = y at *
      have hq : IntKind.i64.wrap ((k : Int) + 1) = (k : Int) + 1 := IntWalk.i64_in _ (by omega)
      by_cases h0 : y < mv
      · rw [if_pos (.inl h0)] at h1
        have h3 := Lib.hid h1
        have d0 : decide (y < mv) = true := decide_eq_true h0
        clear h1
        go_wp2
        go_ret
        exact ⟨ret_b (by rw [← h3.out]), rfl⟩
      · have d0 : decide (y < mv) = false := decide_eq_false h0
        by_cases h5 : count ≤ y
        · rw [if_pos (.inr h5)] at h1
          have h3 := Lib.hid h1
          have d1 : decide (count ≤ y) = true := decide_eq_true h5
          clear h1
          go_wp2
          go_ret
          exact ⟨ret_b (by rw [← h3.out]), rfl⟩
        · rw [if_neg (by omega)] at h1
          have h3 := Lib.hid h1
          have d1 : decide (count ≤ y) = false := decide_eq_false h5
          have hz : IntKind.i64.wrap (y + 1) = y + 1 := IntWalk.i64_in _ (by omega)
          clear h1
          go_wp2
          go_round
          case rel => exact ⟨k + 1, y + 1, by omega, by go_num, rfl, by omega, h3⟩
          case measure => simp [intOf]; omega
    · have h3 := Lib.hid hI.out
      have e9 : l.drop k = [] := List.drop_eq_nil_of_le (by omega)
      go_wp2
      go_ret
      exact ⟨ret_b (by rw [← h3.out, e9]; rfl), rfl⟩
set_option maxHeartbeats 2000000 in
set_option maxRecDepth 100000 in
theorem Valid13_any (n : Net) (a : NetA) (w : World) (hn : NetR w n a) (hs : n.c.length ≤ maxLen ∧ n.f.length ≤ maxLen ∧ n.l.length ≤ maxLen) :
    Calls Try.prog 17 #[nv n a] w (VV (.bool (validB n)) w) := by
  have hml : maxLen = 9223372036854775807 := rfl
  obtain ⟨W1, hW1⟩ : ∃ W1, W1 = w.alloc (.cells #[.slice a.ca n.c.length a.cm, .slice a.fa n.f.length a.fm, .slice a.la n.l.length a.lm] 25 (0, 0)) := ⟨_, rfl⟩
  have G1 : Gr w W1 := by rw [hW1]; exact grAlloc _ _
  have B1 : W1.heap[w.heap.size]? = some (.cells #[.slice a.ca n.c.length a.cm, .slice a.fa n.f.length a.fm, .slice a.la n.l.length a.lm] 25 (0, 0)) := by rw [hW1]; exact newBlk _ _ _ rfl
  have hn1 := hn.gr G1
  obtain ⟨b0, b1, b2⟩ := cells3 B1
  have HN := Lib.hid hn1
  have HG := Lib.hid G1
  have HS := Lib.hid hs
  clear hn hn1 B1 G1 hs
  by_cases c1 : 8 < n.c.length
  · have e : validB n = false := by unfold validB sizeB; rw [decide_eq_false (show ¬ n.c.length ≤ 8 by omega)]; rfl
    rw [e]
    have t : decide ((8 : Int) < n.c.length) = true := by simp; omega
    clear e
    go_enter Try.func17, Try.ntmps17
    go_upto_region 1 with fail
    rw [← hW1]
    clear hW1
    go_wp2
    go_ret
    exact ⟨rfl, HG.out⟩
  by_cases c2 : 8 < n.f.length
  · have e : validB n = false := by unfold validB sizeB; rw [decide_eq_false (show ¬ n.f.length ≤ 8 by omega)]; simp
    rw [e]
    have t1 : decide ((8 : Int) < n.c.length) = false := by simp; omega
    have t : decide ((8 : Int) < n.f.length) = true := by simp; omega
    clear e
    go_enter Try.func17, Try.ntmps17
    go_upto_region 1 with fail
    rw [← hW1]
    clear hW1
    go_wp2
    go_ret
    exact ⟨rfl, HG.out⟩
  have t1 : decide ((8 : Int) < n.c.length) = false := by simp; omega
  have t2 : decide ((8 : Int) < n.f.length) = false := by simp; omega
  by_cases c3 : n.l.length = n.f.length
  rotate_left
  · have e : validB n = false := by unfold validB sizeB; rw [decide_eq_false c3]; simp
    rw [e]
    have t : decide ((n.l.length : Int) = n.f.length) = false := by simp; omega
    clear e
    go_enter Try.func17, Try.ntmps17
    go_upto_region 1 with fail
    rw [← hW1]
    clear hW1
    go_wp2
    go_ret
    exact ⟨rfl, HG.out⟩
  have e : validB n = (n.f.all (linksB n.c.length) && (capsB n.c && capsB n.l)) := by unfold validB sizeB; rw [decide_eq_true (show n.c.length ≤ 8 by omega), decide_eq_true (show n.f.length ≤ 8 by omega), decide_eq_true c3]; rfl
  rw [e]
  clear e
  have HC := Lib.hid (fun wx hg => areCaps_any n.c a.ca a.cm wx (HN.out.1.gr hg) HS.out.1)
  have HL := Lib.hid (fun wx hg => areCaps_any n.l a.la a.lm wx (HN.out.2.2.gr hg) HS.out.2.2)
  have C3 := Lib.hid c3
  have C12 := Lib.hid (And.intro c1 c2)
  have t3 : (n.l.length : Int) = n.f.length := by omega
  clear c1 c2 c3
  go_enter Try.func17, Try.ntmps17
  go_upto_region 1 with fail
  rw [← hW1]
  clear hW1
  go_wp2
  go_loop [27] (fun i => ∃ k : Nat, k ≤ n.f.length ∧ i = .int .i64 k ∧ Hid ((n.f.drop k).all (linksB n.c.length) = n.f.all (linksB n.c.length))) (fun i => n.f.length - (intOf i).toNat)
  case atStart => exact ⟨0, Nat.zero_le _, rfl, rfl⟩
  case round =>
    obtain ⟨k, hk, rfl, hI⟩ := hrel
    by_cases hlt : k < n.f.length
    · obtain ⟨g, o, hA, hcs⟩ := HN.out.2.1.addr (by omega)
      obtain ⟨B, m, hc, hr⟩ := hcs k _ (List.getElem?_eq_getElem hlt)
      have h1 := hI.out
      rw [all_drop hlt] at h1
      have HK := Lib.hid (areLinks_any n.f[k] B m n.c.length (by have := C12.out; omega) W1 hr)
      rw [hA] at b1 ⊢
      clear hcs hI hA hr
      generalize n.f[k] = y at *
      have hq : IntKind.i64.wrap ((k : Int) + 1) = (k : Int) + 1 := IntWalk.i64_in _ (by have := C12.out; omega)
      rcases hb : linksB n.c.length y with _ | _
      · rw [hb] at HK h1
        have h3 := Lib.hid (show n.f.all (linksB n.c.length) = false by rw [← h1]; rfl)
        clear h1 hb
        go_wp2_with (go_at_call 37; refine HK.out.mono ?_; rintro e w1 ⟨rfl, hw⟩; rw [hw]; clear hw)
        go_ret
        exact ⟨ret_b (by rw [h3.out]; rfl), HG.out⟩
      · rw [hb] at HK h1
        have h3 := Lib.hid (show (n.f.drop (k + 1)).all (linksB n.c.length) = n.f.all (linksB n.c.length) by rw [← h1]; rfl)
        clear h1 hb
        go_wp2_with (go_at_call 37; refine HK.out.mono ?_; rintro e w1 ⟨rfl, hw⟩; rw [hw]; clear hw)
        go_round
        case rel => exact ⟨k + 1, by omega, by go_num, h3⟩
        case measure => simp [intOf]; omega
    · have h3 := Lib.hid ((all_end (p := linksB n.c.length) (l := n.f) (k := k) (by omega)).symm.trans hI.out)
      have HC1 := Lib.hid (HC.out W1 (Below.refl _ _))
      have HL1 := Lib.hid (HL.out W1 (Below.refl _ _))
      clear hI HC HL t3
      rcases hb : capsB n.c with _ | _
      · rw [hb] at HC1
        have h4 := Lib.hid hb
        clear hb
        go_wp2_with (go_at_call 38; refine HC1.out.mono ?_; rintro e w1 ⟨rfl, hw⟩; rw [hw]; clear hw)
        go_ret
        exact ⟨ret_b (by rw [← h3.out, h4.out]; rfl), HG.out⟩
      · rw [hb] at HC1
        have h4 := Lib.hid hb
        clear hb
        go_wp2_with fail
        go_at_call 38
        refine HC1.out.mono ?_
        rintro e w1 ⟨rfl, hw⟩
        rw [hw]
        clear hw HC1
        go_wp2_with (go_at_call 38; refine HL1.out.mono ?_; rintro e w1 ⟨rfl, hw⟩; rw [hw]; clear hw)
        go_ret
        exact ⟨ret_b (by rw [← h3.out, h4.out]; simp), HG.out⟩
end Go.Proofs.Ytbjhdfakocfapaa
