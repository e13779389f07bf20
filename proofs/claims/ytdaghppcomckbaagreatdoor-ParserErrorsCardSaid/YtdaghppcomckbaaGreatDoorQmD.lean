/- Texts of one proof: QbA, QbB, QbC. -/
import Derived.Test.YtdaghppcomckbaaGreatDoorQmB
import Derived.Test.YtdaghppcomckbaaGreatDoorPyF
import Derived.Deep.QuietTactic
/- The contract of the reference's Same on trees; no conditions. -/
namespace Go.Proofs.YtdaghppcomckbaaGreatDoor
open Go.RowKit
set_option linter.unusedVariables false
set_option linter.unusedSimpArgs false

mutual
def sameN : Nd → Nd → Bool
  | .mk k x n u a ks, t => decide (k = t.kind) && (decide (x = t.name) && (decide (n = t.n) && (decide (u = t.unit) && (decide (a = t.at0) && sameL ks t.kids))))
def sameL : List Nd → List Nd → Bool
  | [], [] => true
  | t :: ts, u :: us => sameN t u && sameL ts us
  | _, _ => false
end
mutual
theorem sameN_iff : ∀ t u : Nd, sameN t u = true ↔ t = u
  | .mk k x n u a ks, .mk k' x' n' u' a' ks' => by
    rw [sameN, Nd.mk.injEq, ← sameL_iff ks ks']
    show (decide (k = k') && (decide (x = x') && (decide (n = n') && (decide (u = u') && (decide (a = a') && sameL ks ks'))))) = true ↔ _
    simp
theorem sameL_iff : ∀ ts us : List Nd, sameL ts us = true ↔ ts = us
  | [], [] => by rw [sameL]; simp
  | t :: ts, u :: us => by rw [sameL, Bool.and_eq_true, sameN_iff t u, sameL_iff ts us, List.cons.injEq]
  | [], u :: us => by rw [sameL] <;> simp
  | t :: ts, [] => by rw [sameL] <;> simp
end
theorem sameL_len : ∀ (ts us : List Nd), ts.length ≠ us.length → sameL ts us = false
  | [], [], h => absurd rfl h
  | t :: ts, u :: us, h => by rw [sameL, sameL_len ts us (by simpa using h)]; simp
  | [], u :: us, _ => by rw [sameL] <;> simp
  | t :: ts, [], _ => by rw [sameL] <;> simp
theorem bytes_ext {x y : ByteArray} (h : x.toList = y.toList) : x = y := by
  rw [ByteArray.toList_eq, ByteArray.toList_eq] at h
  have h2 : x.data = y.data := Array.toList_inj.1 h
  cases x
  cases y
  simp only at h2
  rw [h2]
set_option maxHeartbeats 4000000 in
set_option maxRecDepth 100000 in
theorem same_heads (k k' : Int) (x x' : ByteArray) (n n' u u' a a' : Int) (A B : Option Addr) (m m' c d : Nat) (w : World) (h : ¬ (k = k' ∧ x = x' ∧ n = n' ∧ u = u' ∧ a = a' ∧ m = m')) :
    Calls Tryz.prog 8 #[aggN k x n u a A m c, aggN k' x' n' u' a' B m' d] w (BB false w) := by
  go_enter Tryz.func8, Tryz.ntmps8
  go_wp2_with fail
  all_goals first
    | (go_ret; exact ⟨rfl, (((Below.refl _ _).alloc (Nat.le_refl _) _).alloc (by simp) _)⟩)
    | (exfalso; rename_i q0 q1 q2 q3 q4 q5 K0 K1; have q6 : (m : Int) = m' := (by simpa using q5); exact h ⟨q0, bytes_ext q1, q2, q3, q4, (by omega)⟩)
/-- what the comparison of a tree owes -/
def SmC (t : Nd) : Prop := ∀ (u : Nd) (w : World) (A B : Option Addr) (c d : Nat), t.kids.length ≤ maxLen → NmS t → KidsR w (From 0) t.kids A → KidsR w (From 0) u.kids B →
  Calls Tryz.prog 8 #[nv t A c, nv u B d] w (BB (sameN t u) w)
set_option maxHeartbeats 4000000 in
set_option maxRecDepth 100000 in
theorem same_loop (k : Int) (x : ByteArray) (n u a : Int) (ks us : List Nd) (ih : ∀ t ∈ ks, SmC t) (hNs : NmSs ks) (hlen : ks.length ≤ maxLen) (hus : us.length = ks.length) (A B : Option Addr) (c d : Nat) (w : World) (hA : KidsR w (From 0) ks A) (hB : KidsR w (From 0) us B) :
    Calls Tryz.prog 8 #[aggN k x n u a A ks.length c, aggN k x n u a B ks.length d] w (BB (sameL ks us) w) := by
  have HW0 := Lib.hid (((Below.refl w.heap.size w).alloc (Nat.le_refl _) (.cells (arrN k x n u a A ks.length c) 25)).alloc (by simp) (.cells (arrN k x n u a B ks.length d) 25))
  have HA0 := Lib.hid ((Below.heap_alloc (w.alloc (.cells (arrN k x n u a A ks.length c) 25)) (.cells (arrN k x n u a B ks.length d) 25) _ (by simp)).trans (newBlk w (.cells (arrN k x n u a A ks.length c) 25) w.heap.size rfl))
  have HB0 := Lib.hid (newBlk (w.alloc (.cells (arrN k x n u a A ks.length c) 25)) (.cells (arrN k x n u a B ks.length d) 25) (w.heap.size + 1) (by simp))
  obtain ⟨r, hr⟩ : ∃ r, sameL ks us = r := ⟨_, rfl⟩
  rw [hr]
  have hR := Lib.hid hr
  have IH := Lib.hid ih
  have HKA := Lib.hid hA
  have HKB := Lib.hid hB
  have HNS := Lib.hid hNs
  have HUS := Lib.hid hus
  clear hr ih hA hB hNs hus
  unfold maxLen at hlen
  go_enter Tryz.func8, Tryz.ntmps8
  go_wp2_with fail
  go_loopg [5] (ks.length) (fun gk i wr => ∃ (j : Nat), j + gk = ks.length ∧ i = .int .i64 j ∧ Hid (sameL (ks.drop j) (us.drop j) = r) ∧ Hid (wr.heap[w.heap.size]? = some (.cells (arrN k x n u a A ks.length c) 25 (0, 0))) ∧ Hid (wr.heap[w.heap.size + 1]? = some (.cells (arrN k x n u a B ks.length d) 25 (0, 0))) ∧ Hid (Below w.heap.size w wr))
  case atStart => exact ⟨0, by omega, rfl, hR, HA0, HB0, HW0⟩
  case round =>
    obtain ⟨j, hj, rfl, hS, hA1, hB1, hW⟩ := hrel
    obtain ⟨⟨a0, a1, a2, a3, a4, a5⟩, -⟩ := cells6 hA1.out
    obtain ⟨⟨b0, b1, b2, b3, b4, b5⟩, -⟩ := cells6 hB1.out
    have hxa := blkLt hA1.out
    have hxb := blkLt hB1.out
    clear a0 a1 a2 a3 a4 b0 b1 b2 b3 b4
    by_cases hlt : j < ks.length
    · obtain ⟨gq, rfl⟩ : ∃ gq, gk = gq + 1 := ⟨gk - 1, by omega⟩
      have hlu : j < us.length := by rw [HUS.out]; exact hlt
      have hSq := hS.out
      rw [List.drop_eq_getElem_cons hlt, List.drop_eq_getElem_cons hlu, sameL] at hSq
      have hSH := Lib.hid hSq
      have hKA := HKA.out.keep (w' := wr) (P' := From 0) (fun q h1 h2 => ⟨hW.out.block q h2, h1⟩)
      have hKB := HKB.out.keep (w' := wr) (P' := From 0) (fun q h1 h2 => ⟨hW.out.block q h2, h1⟩)
      obtain ⟨ga, oa, rfl⟩ := hKA.addr (by omega)
      obtain ⟨gb, ob, rfl⟩ := hKB.addr (by omega)
      obtain ⟨A1, c1, ⟨e0, e1, e2, e3, e4, e5⟩, hK1⟩ := (hKA.get _ _ _ j _ (List.getElem?_eq_getElem hlt)).cells
      obtain ⟨A2, c2, ⟨f0, f1, f2, f3, f4, f5⟩, hK2⟩ := (hKB.get _ _ _ j _ (List.getElem?_eq_getElem hlu)).cells
      have hmem : ks[j] ∈ ks := List.getElem_mem hlt
      have hNj := HNS.out.mem _ hmem
      have hI := Lib.hid (IH.out _ hmem us[j] wr.drew A1 A2 c1 c2 hNj.len hNj (KidsR.keep (w := wr) (w' := wr.drew) (P := From 0) (P' := From 0) (fun q h1 h2 => ⟨rfl, h1⟩) _ _ hK1) (KidsR.keep (w := wr) (w' := wr.drew) (P := From 0) (P' := From 0) (fun q h1 h2 => ⟨rfl, h1⟩) _ _ hK2))
      clear hKA hKB hK1 hK2 hmem hNj hSq hS
      generalize us[j] = v at *
      generalize ks[j] = t at *
      cases hP : sameN t v with
      | false =>
        rw [hP] at hI
        have hF : Hid (false = r) := by have := hSH.out; rw [hP] at this; exact this
        clear hP hSH
        go_wp2_with fail
        go_region_with (go_at_call 8; refine hI.out.mono ?_; rintro e w2 ⟨rfl, hb2⟩; have hb2 := bdrew hb2)
        all_goals
          go_wp2
          go_ret
          exact ⟨by rw [← hF.out]; rfl, hW.out.trans (hb2.mono hW.out.size)⟩
      | true =>
        rw [hP] at hI
        have hS1 : Hid (sameL (ks.drop (j + 1)) (us.drop (j + 1)) = r) := by have := hSH.out; rw [hP, Bool.true_and] at this; exact this
        clear hP hSH
        go_wp2_with fail
        go_region_with (go_at_call 8; refine hI.out.mono ?_; rintro e w2 ⟨rfl, hb2⟩; have hb2 := bdrew hb2; have hA2 := Lib.hid ((hb2.block _ hxa).trans hA1.out); have hB2 := Lib.hid ((hb2.block _ hxb).trans hB1.out); have hW2 := Lib.hid (hW.out.trans (hb2.mono hW.out.size)); clear hb2 e0 e1 e2 e3 e4 e5 f0 f1 f2 f3 f4 f5)
        all_goals
          go_wp2
          go_roundg gq
          case measure => omega
          case rel => exact ⟨j + 1, by omega, by go_num, hS1, hA2, hB2, hW2⟩
    · have hF : Hid (true = r) := by
        have := hS.out
        rw [List.drop_eq_nil_of_le (by omega), List.drop_eq_nil_of_le (by rw [HUS.out]; omega), sameL] at this
        exact this
      clear hS
      go_wp2_with fail
      go_ret
      exact ⟨by rw [← hF.out]; rfl, hW.out⟩
theorem same_step (t : Nd) (ih : ∀ v ∈ t.kids, SmC v) : SmC t := by
  intro t2 w A B c d hlen hN hA hB
  obtain ⟨k, x, n, u, a, ks⟩ := t
  obtain ⟨k', x', n', u', a', us⟩ := t2
  by_cases h : k = k' ∧ x = x' ∧ n = n' ∧ u = u' ∧ a = a' ∧ ks.length = us.length
  · obtain ⟨rfl, rfl, rfl, rfl, rfl, hl⟩ := h
    have e : sameN (.mk k x n u a ks) (.mk k x n u a us) = sameL ks us := by rw [sameN]; simp [Nd.kind, Nd.name, Nd.n, Nd.unit, Nd.at0, Nd.kids]
    rw [e]
    have h2 := same_loop k x n u a ks us ih hN.kids hlen hl.symm A B c d w hA hB
    show Calls _ _ #[aggN k x n u a A ks.length c, aggN k x n u a B us.length d] _ _
    rw [← hl]
    exact h2
  · have e : sameN (.mk k x n u a ks) (.mk k' x' n' u' a' us) = false := by
      cases hs : sameN (.mk k x n u a ks) (.mk k' x' n' u' a' us) with
      | false => rfl
      | true =>
        have h3 := (sameN_iff _ _).1 hs
        injection h3 with h4 h5 h6 h7 h8 h9
        exact absurd ⟨h4, h5, h6, h7, h8, by rw [h9]⟩ h
    rw [e]
    exact same_heads k k' x x' n n' u u' a a' A B ks.length us.length c d w h
mutual
theorem same_any : ∀ t : Nd, SmC t
  | .mk k x n u a kids => same_step (.mk k x n u a kids) (same_all kids)
theorem same_all : ∀ (ts : List Nd), ∀ u ∈ ts, SmC u
  | [], u, hu => by cases hu
  | t :: ts, u, hu => by
    rcases List.mem_cons.1 hu with h | h
    · rw [h]; exact same_any t
    · exact same_all ts u h
end
end Go.Proofs.YtdaghppcomckbaaGreatDoor

/- The contract of the reference's SameDiags on equal lists; no conditions. -/
namespace Go.Proofs.YtdaghppcomckbaaGreatDoor
open Go.RowKit
set_option linter.unusedVariables false
set_option linter.unusedSimpArgs false

theorem DiagsR.keep {w w' : World} {D : Option Addr} {ds : List (Int × Int)} (h : DiagsR w D ds) (hb : Below w.heap.size w w') : DiagsR w' D ds := by
  intro hpos
  obtain ⟨g, o, rfl, hc⟩ := h hpos
  refine ⟨g, o, rfl, fun i d hd => ?_⟩
  obtain ⟨h1, h2⟩ := hc i d hd
  have hlt := World.block_lt_of_cell? w _ h1
  exact ⟨(hb.cell (p := ⟨g, o + i * 2, none⟩) hlt).trans h1, (hb.cell (p := ⟨g, o + i * 2 + 1, none⟩) hlt).trans h2⟩
set_option maxHeartbeats 2000000 in
set_option maxRecDepth 100000 in
theorem SameDiags_true (ds : List (Int × Int)) (D E : Option Addr) (c d : Nat) (w : World) (hlen : ds.length ≤ 1000) (hD : DiagsR w D ds) (hE : DiagsR w E ds) :
    Calls Tryz.prog 7 #[.slice D ds.length c, .slice E ds.length d] w (BB true w) := by
  have HD := Lib.hid hD
  have HE := Lib.hid hE
  clear hD hE
  go_enter Tryz.func7, Tryz.ntmps7
  go_wp2_with fail
  go_loopw [5] (fun i wr => ∃ k : Nat, k ≤ ds.length ∧ i = .int .i64 k ∧ Hid (∃ n, wr = w.drewN n)) (fun i _ => ds.length - (intOf i).toNat)
  case atStart => exact ⟨0, Nat.zero_le _, rfl, 0, rfl⟩
  case round =>
    obtain ⟨k, hk, rfl, hw⟩ := hrel
    by_cases hlt : k < ds.length
    · obtain ⟨gA, oA, rfl, hcA⟩ := HD.out (by omega)
      obtain ⟨gB, oB, rfl, hcB⟩ := HE.out (by omega)
      obtain ⟨nn, rfl⟩ := hw.out
      obtain ⟨a0, a1⟩ := hcA k _ (List.getElem?_eq_getElem hlt)
      obtain ⟨b0, b1⟩ := hcB k _ (List.getElem?_eq_getElem hlt)
      generalize ds[k] = t at *
      clear hcA hcB
      go_wp2
      go_quiet (fail)
      go_wp2
      go_roundw
      case rel => exact ⟨k + 1, by omega, by go_num, _, rfl⟩
      case measure => simp [intOf]; omega
    · go_wp2
      go_ret
      obtain ⟨nn, rfl⟩ := hw.out
      exact ⟨rfl, belowDrewN w nn⟩
end Go.Proofs.YtdaghppcomckbaaGreatDoor

/- The contract of the laws' gives at two offsets; condition: the listed package-level variables hold what the text lays. -/
namespace Go.Proofs.YtdaghppcomckbaaGreatDoor
open Go.RowKit
set_option linter.unusedVariables false
set_option linter.unusedSimpArgs false

set_option maxHeartbeats 2000000 in
set_option maxRecDepth 100000 in
theorem gives_two (s : ByteArray) (p q : Int) (hp : parseM s = (zNd, [(7, p), (7, q)])) (gA cA : Nat) (w : World) (hL : LaidW w) (hw : 2 < w.heap.size) (hm : s.size ≤ maxLen) (h0 : w.cell? ⟨gA, 0, none⟩ = some (.int .i64 p)) (h1 : w.cell? ⟨gA, 1, none⟩ = some (.int .i64 q)) :
    Calls Tryz.prog 9 #[.string s, .slice (some ⟨gA, 0, none⟩) 2 cA] w (BB true w) := by
  have hlt := World.block_lt_of_cell? w _ h0
  have HP := Lib.hid hp
  clear hp
  obtain ⟨i0, hi, hz0, hz1, hz2⟩ := info_parts diagInfo
  have hZ : ∀ (wx : World) (A2 : Option Addr) (c2 : Nat), Calls Tryz.prog 8 #[.agg #[.int .i64 0, .string ⟨#[]⟩, .int .i64 0, .int .i64 0, .int .i64 0, .slice A2 0 c2], .agg #[.int .i64 0, .string ⟨#[]⟩, .int .i64 0, .int .i64 0, .int .i64 0, .slice none 0 0]] wx (BB true wx) := by
    intro wx A2 c2
    have h := same_any zNd zNd wx A2 none c2 0 (by unfold maxLen; simp [zNd, Nd.kids]) (by unfold zNd NmS NmSs; exact ⟨by unfold maxLen; decide, by unfold maxLen; decide, trivial⟩) trivial trivial
    have e1 : sameN zNd zNd = true := (sameN_iff _ _).2 rfl
    rw [e1] at h
    have h2 : Calls Tryz.prog 8 #[.agg #[.int .i64 0, .string ⟨#[]⟩, .int .i64 0, .int .i64 0, .int .i64 0, .slice A2 0 (0 + c2)], .agg #[.int .i64 0, .string ⟨#[]⟩, .int .i64 0, .int .i64 0, .int .i64 0, .slice none 0 0]] wx (BB true wx) := h
    rw [Nat.zero_add] at h2
    exact h2
  go_enter Tryz.func9, Tryz.ntmps9
  go_wp2_with fail
  go_loopg [5, 12] 2 (fun gk v0 i wr => ∃ (k : Nat) (v : Value), k + gk = 2 ∧ v0 = v ∧ i = .int .i64 k ∧ Hid (wr.ownsRow w.heap.size 31 2 v k (dCells ([((7 : Int), p), (7, q)].take k))) ∧ Hid (Below w.heap.size w wr))
  case atStart => exact ⟨0, _, by omega, rfl, rfl, Lib.hid (World.ownsRow_nil _ _ _ _), Lib.hid (Below.refl _ _)⟩
  case round =>
    obtain ⟨k, v, hk, hv, rfl, hO, hW⟩ := hrel
    have hv := hv.symm
    subst hv
    by_cases hlt2 : k < 2
    · by_cases hz : k = 0
      · have hltk := hlt2
        obtain rfl : k = 0 := by omega
        obtain rfl : gk = 2 := by omega
        have hc := hW.out.cell (p := ⟨gA, 0, none⟩) hlt
        rw [h0] at hc
        have hO0 := Lib.hid (show wr.ownsRow w.heap.size 31 2 v 0 [] from hO.out)
        go_wp2_with (at_builtin; refine wpList_append_lies _ rfl _ _ 26 rfl w.heap.size 31 i0 (.agg #[.int .i64 0, .int .i64 0]) 2 16 Tryz.underlying26 hi hz0 hz1 hz2 rfl (by decide) v 0 [] rfl (hO0.out.alloc _) ⟨wr.heap.size, 0, none⟩ 1 1 [.int .i64 7, .int .i64 p] rfl rfl ?c1 (dg_one 7 p) (by decide) (by unfold maxLen; omega) (by omega) ?c2 (wr.heap.size + 1) (by simp) ?_)
        try case c1 => exact new_cells _ #[.int .i64 7, .int .i64 p] _ _ rfl
        case c2 => have := hW.out.size; simp; omega
        intro g cap w2 hown2 hgrow hat hlt2
        have hW2 := Lib.hid ((hW.out.alloc hW.out.size (.cells #[.int .i64 7, .int .i64 p] 31)).grown hgrow (by have := hW.out.size; simp; omega) (fun kk hk => (hO.out.lt kk hk).1))
        have hO2 := Lib.hid hown2
        clear hgrow hown2 hc
        go_wp2_with fail
        go_roundg 1
        case measure => omega
        case rel => exact ⟨1, _, by omega, rfl, rfl, hO2, hW2⟩
      · have hltk := hlt2
        obtain rfl : k = 1 := by omega
        obtain rfl : gk = 1 := by omega
        have hc := hW.out.cell (p := ⟨gA, 1, none⟩) hlt
        rw [h1] at hc
        have hO0 := Lib.hid (show wr.ownsRow w.heap.size 31 2 v 1 [.int .i64 7, .int .i64 p] from hO.out)
        go_wp2_with (at_builtin; refine wpList_append_lies _ rfl _ _ 26 rfl w.heap.size 31 i0 (.agg #[.int .i64 0, .int .i64 0]) 2 16 Tryz.underlying26 hi hz0 hz1 hz2 rfl (by decide) v 1 [.int .i64 7, .int .i64 p] rfl (hO0.out.alloc _) ⟨wr.heap.size, 0, none⟩ 1 1 [.int .i64 7, .int .i64 q] rfl rfl ?d1 (dg_one 7 q) (by decide) (by unfold maxLen; omega) (by omega) ?d2 (wr.heap.size + 1) (by simp) ?_)
        try case d1 => exact new_cells _ #[.int .i64 7, .int .i64 q] _ _ rfl
        case d2 => have := hW.out.size; simp; omega
        intro g cap w2 hown2 hgrow hat hlt2
        have hW2 := Lib.hid ((hW.out.alloc hW.out.size (.cells #[.int .i64 7, .int .i64 q] 31)).grown hgrow (by have := hW.out.size; simp; omega) (fun kk hk => (hO.out.lt kk hk).1))
        have hO2 := Lib.hid hown2
        clear hgrow hown2 hc
        go_wp2_with fail
        go_roundg 0
        case measure => omega
        case rel => exact ⟨2, _, by omega, rfl, rfl, hO2, hW2⟩
    · obtain rfl : k = 2 := by omega
      obtain ⟨A, c, rfl⟩ := own_slice hO.out
      have hDw := Lib.hid (DiagsR.own (ds := [((7 : Int), p), (7, q)]) hO.out)
      have hL1 := hL.below hW.out hw
      have hX := Lib.hid (Parse_any s wr hL1 (Nat.lt_of_lt_of_le hw hW.out.size) hm)
      clear hL1
      have hlen2 : [((7 : Int), p), (7, q)].length ≤ 1000 := by simp
      go_wp2_with (first
        | (go_at_call 5; refine hX.out.mono ?_; intro e w2 hp; unfold ParsePost at hp; rw [HP.out] at hp; obtain ⟨A2, c2, D2, dc2, he, -, hD2, hb2⟩ := hp; have he2 : e = .returned (.tuple #[aggN 0 ⟨#[]⟩ 0 0 0 A2 0 c2, .slice D2 2 dc2]) := he; clear he; subst he2; have hDH := Lib.hid hD2; have hW2 := Lib.hid (hW.out.trans (hb2.mono hW.out.size)); have hDw2 := Lib.hid (hDw.out.keep hb2); clear hD2 hb2; have hSD := Lib.hid (show ∀ wx, Below w2.heap.size w2 wx → Calls Tryz.prog 7 #[.slice D2 2 dc2, .slice A 2 c] wx (BB true wx) from fun wx hb => SameDiags_true [((7 : Int), p), (7, q)] D2 A dc2 c wx hlen2 (hDH.out.keep hb) (hDw2.out.keep hb)); have HBn := Lib.hid (newBlk w2 (.cells (#[.int .i64 0, .string ⟨#[]⟩, .int .i64 0, .int .i64 0, .int .i64 0, .slice A2 0 c2] : Array Value) 25) _ rfl); have hW3 := Lib.hid (hW2.out.alloc hW2.out.size (.cells (#[.int .i64 0, .string ⟨#[]⟩, .int .i64 0, .int .i64 0, .int .i64 0, .slice A2 0 c2] : Array Value) 25)))
        | (go_at_call 7; refine (hSD.out _ ((Below.refl _ _).alloc (Nat.le_refl _) _)).mono ?_; rintro e w4 ⟨rfl, hb4⟩; have hW4 := Lib.hid (hW3.out.trans (hb4.mono hW3.out.size)); obtain ⟨⟨y0, y1, y2, y3, y4, y5⟩, -⟩ := cells6 ((hb4.block _ (blkLt HBn.out)).trans HBn.out); have hxy := Nat.lt_of_lt_of_le (blkLt HBn.out) hb4.size; clear hb4)
        | (go_at_call 8; refine (hZ _ _ _).mono ?_; rintro e w5 ⟨rfl, hb5⟩; have hW5 := Lib.hid (hW4.out.trans (hb5.mono hW4.out.size)); clear hb5))
      all_goals
        go_ret
        exact ⟨rfl, by first | exact hW5.out | exact hW4.out⟩
end Go.Proofs.YtdaghppcomckbaaGreatDoor
