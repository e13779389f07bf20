/- Law 10: the reference's Trace. -/
import Derived.Test.YthgngkajdiclcaaDoorNiB
import Derived.Test.YthgngkajdiclcaaDoorNbH
namespace Go.Proofs.YthgngkajdiclcaaDoor
open Go.RowKit
set_option linter.unusedVariables false
set_option linter.unusedSimpArgs false
namespace N
open K
/-- what Trace leaves -/
def trL (R : List Int × Nat × Int) : List Int := if R.2.2 = 0 then R.1 else []
def TrP (R : List Int × Nat × Int) (w : World) (e : Ending) (w' : World) : Prop := (∃ A c, e = .returned (.tuple #[.slice A (trL R).length c, .int .i64 R.2.1, .int .i64 R.2.2]) ∧ IntsR w' (trL R) A) ∧ Gr w w'
theorem tr_er {st : List Int} {k : Nat} {er : Int} {w w' : World} (h : er ≠ 0) (hg : Gr w w') : TrP (st, k, er) w (.returned (.tuple #[.slice none 0 0, .int .i64 k, .int .i64 er])) w' := by
  have e : trL (st, k, er) = [] := by unfold trL; rw [if_neg h]
  unfold TrP
  rw [e]
  exact ⟨⟨none, 0, rfl, .inl rfl⟩, hg⟩
theorem own_nums {w : World} {B : Nat} {v : Value} {l : List Int} (h : w.ownsRow B 3 1 v l.length (iCells l)) : ∃ A c, v = .slice A l.length c ∧ IntsR w l A := by
  rcases h.2 with ⟨rfl, h0⟩ | ⟨g, cap, cur, rfl, hb, hg, hn, hc, hs, ht⟩
  · obtain rfl : l = [] := List.eq_nil_of_length_eq_zero h0
    exact ⟨none, 0, rfl, .inl rfl⟩
  · refine ⟨_, cap, rfl, .inr ⟨g, 0, rfl, fun i n hi => ?_⟩⟩
    have hlt : i < l.length := (List.getElem?_eq_some_iff.1 hi).1
    rw [Nat.zero_add, World.ownsRow.cellAt h i (by omega), iC_at, hi]; rfl
theorem own_form {w : World} {B : Nat} {T : TypeId} {v : Value} {n : Nat} {xs : List Value} (h : w.ownsRow B T 1 v n xs) : ∃ A c, v = .slice A n c := by
  rcases h.2 with ⟨rfl, rfl⟩ | ⟨g, cap, cur, rfl, -⟩
  · exact ⟨none, 0, rfl⟩
  · exact ⟨_, cap, rfl⟩
theorem inN {i0 i1 i2 i3 : Int} {j : Nat} (hin : ∀ n ∈ [i0, i1, i2, i3], vN n = true) (hj : j < 4) : ∃ m, (#[.int .i64 i0, .int .i64 i1, .int .i64 i2, .int .i64 i3] : Array Value)[j]? = some (.int .i64 m) ∧ gt [i0, i1, i2, i3] j = m ∧ vN m = true := by
  rcases j with _ | _ | _ | _ | j
  · exact ⟨i0, rfl, rfl, hin _ (by simp)⟩
  · exact ⟨i1, rfl, rfl, hin _ (by simp)⟩
  · exact ⟨i2, rfl, rfl, hin _ (by simp)⟩
  · exact ⟨i3, rfl, rfl, hin _ (by simp)⟩
  · omega
theorem TrO.set2 {B : Nat} {w : World} {S : Value} {st s : List Int} {k g n cap : Nat} {m : Int} (h : TrO B w (.slice (some ⟨g, 0, none⟩) n cap) S st s) (hk : st[k]? = some m) : w.cell? ⟨g, k, none⟩ = some (.int .i64 m) ∧ w.frozen? ⟨g, k, none⟩ = false ∧ B ≤ g ∧
    ∀ b : Int, TrO B (w.setCell ⟨g, k, none⟩ (.int .i64 b)) (.slice (some ⟨g, 0, none⟩) n cap) S (st.set k b) s := by
  obtain ⟨g2, c2, hN, h1, h2, h3, -, h4⟩ := h.set hk
  simp only [Value.slice.injEq, Option.some.injEq, Addr.mk.injEq] at hN
  obtain ⟨⟨rfl, -⟩, -, rfl⟩ := hN
  exact ⟨h1, h2, h3, h4⟩
theorem form_rel {x : In} {i many : Nat} {vars : Int} (hf : formI x i many vars = true) (h : x.op = 1) : rng x.n = (x.n, 0) := rng_t (form_push hf h)
theorem cells1k {w : World} {b : Nat} {v : Value} {T : TypeId} (h : w.heap[b]? = some (.cells #[v] T (0, 0))) : w.cell? ⟨b, 0, none⟩ = some v := (cell_of_row _ _ 0 _ _ (0, 0) h).trans rfl
set_option maxHeartbeats 8000000 in
set_option maxRecDepth 100000 in
theorem Trace_any (vs : List (Int × Int)) (VA : Option Addr) (vc : Nat) (l : List In) (LA : Option Addr) (lc : Nat) (st : List Int) (SA : Option Addr) (sc : Nat) (i0 i1 i2 i3 : Int) (H : List Int) (w : World) (hV : VsR w vs VA) (hL : InsR w l LA) (hS : IntsR w st SA) (hH : Hts H vs.length l) (hlen : l.length ≤ 4000) (hst : st.length = vs.length) (htv : ∀ n ∈ st, vN n = true) (hvl : vs.length ≤ 1000) (hin : ∀ n ∈ [i0, i1, i2, i3], vN n = true) :
    Calls Tryd.prog 26 #[.slice VA vs.length vc, .slice LA l.length lc, .slice SA st.length sc, .agg #[.int .i64 i0, .int .i64 i1, .int .i64 i2, .int .i64 i3]] w (TrP (run vs [i0, i1, i2, i3] l l.length 0 [] st 0) w) := by
  obtain ⟨R, hR⟩ : ∃ R, run vs [i0, i1, i2, i3] l l.length 0 [] st 0 = R := ⟨_, rfl⟩
  rw [hR]
  have hRH := Lib.hid hR
  have hI : Inv H vs l 0 [] st := ⟨Nat.zero_le _, by rw [hH.h0]; rfl, by simp, htv, hst⟩
  have hIH := Lib.hid hI
  obtain ⟨W1, hW1⟩ : ∃ W1, W1 = w.alloc (.cells #[.int .i64 i0, .int .i64 i1, .int .i64 i2, .int .i64 i3] 28) := ⟨_, rfl⟩
  have hg1 : Gr w W1 := by rw [hW1]; exact grAlloc _ _
  have HG1 := Lib.hid hg1
  have HI1 := Lib.hid (show W1.heap[w.heap.size]? = some (.cells #[.int .i64 i0, .int .i64 i1, .int .i64 i2, .int .i64 i3] 28 (0, 0)) by rw [hW1]; exact nBlk _ _ _ rfl)
  have hB1 := Lib.hid (show w.heap.size + 1 ≤ W1.heap.size by rw [hW1]; simp)
  have HV := Lib.hid hV
  have HL := Lib.hid hL
  have HS1 := Lib.hid (hS.gr hg1)
  have HH := Lib.hid hH
  have hstH := Lib.hid hst
  have hlnH := Lib.hid hlen
  have hvlH := Lib.hid hvl
  have hinH := Lib.hid hin
  have hst1 := Lib.hid (show 0 + st.length ≤ 100000 by omega)
  clear hR hI hV hL hS hH htv hin hg1 hlen hvl hst
  go_enter Tryd.func26, Tryd.ntmps26
  go_upto_region 1 with fail
  rw [← hW1]
  clear hW1
  go_upto_region 3 with (at_builtin; refine wpList_append_ints rfl _ _ rfl (w.heap.size + 1) _ 0 [] rfl (World.ownsRow_nil _ _ _ _) st SA sc rfl HS1.out hst1.out hB1.out ?_)
  intro N w2 hown2 hgrow2
  obtain ⟨NA, nc, rfl⟩ := own_form hown2
  have hO2 : Hid (TrO (w.heap.size + 1) w2 (.slice NA st.length nc) (.slice none 0 0) st []) := Lib.hid ⟨by simpa using hown2, World.ownsRow_nil _ _ _ _, fun k h => by simp [Value.ownBlock] at h⟩
  have hB2 := Lib.hid (gbBelow (B := w.heap.size + 1) hgrow2 hB1.out (fun k e => by simp [Value.ownBlock] at e))
  clear hown2 hgrow2 HS1 hst1
  generalize hsl : st.length = sl at *
  clear hsl
  go_upto_region 6 with fail
  go_loopg [12, 13, 14] (l.length) (fun gk a12 a13 a14 wr => ∃ (i kk : Nat) (s sti : List Int), kk + gk = l.length ∧ l.length ≤ i + gk ∧ a14 = .int .i64 i ∧ a13 = .int .i64 kk ∧ Hid (Inv H vs l i s sti) ∧ Hid (run vs [i0, i1, i2, i3] l gk i s sti kk = R) ∧ Hid (TrO (w.heap.size + 1) wr (.slice NA sl nc) a12 sti s) ∧ Hid (Below (w.heap.size + 1) W1 wr))
  case atStart => exact ⟨0, 0, [], st, by omega, by omega, rfl, rfl, hIH, hRH, hO2, hB2⟩
  case round =>
    obtain ⟨i, kk, s, sti, hkg, hig, rfl, rfl, hI, hRu, hO, hB⟩ := hrel
    have hGw := Lib.hid (HG1.out.trans (hB.out.mono (Nat.le_succ _)))
    clear hO2 hB2 hIH hRH
    obtain ⟨SA2, sc2, rfl⟩ := own_form hO.out.stk
    by_cases hlt : i < l.length
    · obtain ⟨gq, rfl⟩ : ∃ g, gk = g + 1 := ⟨gk - 1, by omega⟩
      have hx : l[i]? = some l[i] := List.getElem?_eq_getElem hlt
      obtain ⟨n1, f1⟩ := HH.out.nx i _ hx
      obtain ⟨gl, ol, hLA, hat⟩ := (HL.out.gr hGw.out).addr (by omega)
      subst hLA
      obtain ⟨e0, e1, e2⟩ := hat i _ hx
      have hxH := Lib.hid hx
      clear hx hat
      generalize l[i] = x at *
      have hop := form_op f1
      have f1H := Lib.hid f1
      obtain ⟨k1, k2, k3, k4⟩ := n1
      have hhi := hI.out.h
      rw [hhi] at k1 k2
      have k1H := Lib.hid k1
      have hs64 := Lib.hid (show s.length ≤ 100 by have := tko_pos x.op; have := pt_pos x.op; unfold tko at *; split at k2 <;> omega)
      clear k1 k2 k3 k4 hhi f1
      obtain ⟨k, hk⟩ := Int.eq_ofNat_of_zero_le (show 0 ≤ x.op by omega)
      have hkH := Lib.hid hk
      rw [hk] at e0 hop
      clear hk
      obtain ⟨W5, hW5⟩ : ∃ W5, W5 = wr.alloc (.cells #[.int .i64 (k : Int), .int .i64 x.n, .int .i64 x.r] 42) := ⟨_, rfl⟩
      have hg5 : Gr wr W5 := by rw [hW5]; exact grAlloc _ _
      obtain ⟨y0, y1, y2⟩ := cells3k (show W5.heap[wr.heap.size]? = some (.cells #[.int .i64 (k : Int), .int .i64 x.n, .int .i64 x.r] 42 (0, 0)) by rw [hW5]; exact nBlk _ _ _ rfl)
      have hO5 := Lib.hid (hO.out.gr hg5)
      have hB5 := Lib.hid (hB.out.trans (hg5.mono (Nat.le_trans hB1.out hB.out.size)))
      have hG5 := Lib.hid (Gr.tr hGw.out hg5)
      clear hg5 hO hB hGw
      have q1 : IntKind.i64.wrap ((i : Int) + 1) = (i : Int) + 1 := IntWalk.i64_in _ (by have := hlnH.out; omega)
      have q2 : IntKind.i64.wrap ((kk : Int) + 1) = (kk : Int) + 1 := IntWalk.i64_in _ (by have := hlnH.out; omega)
      go_upto_region 8 with fail
      rw [← hW5]
      clear hW5 e0 e1 e2
      rcases hst : step vs [i0, i1, i2, i3] x i s sti with ⟨c, er⟩
      have hstH2 := Lib.hid hst
      have hinv := step_inv HH.out hI.out hxH.out hst
      by_cases hk1 : k = 1
      · have hk := hk1
        clear hk1
        have ho : x.op = 1 := by rw [hkH.out, hk]; rfl
        rw [step_1 ho, form_rel f1H.out ho] at hst
        cases hst
        have t1 : ((k : Int) == 1) = true := by simp [hk]
        obtain ⟨-, hI2, hnx⟩ := hinv.resolve_right (by omega)
        have hRu2 := Lib.hid (show run vs [i0, i1, i2, i3] l gq (i + 1) (x.n :: s) sti (kk + 1) = R by rw [← run_ok hxH.out hstH2.out]; exact hRu.out)
        have hI2 := Lib.hid hI2
        clear hinv hstH2 hI hRu hnx hxH
        clear hk ho hkH f1H k1H hop
        go_wp2_with (at_builtin; refine wpList_push rfl _ _ rfl (w.heap.size + 1) _ _ sti s rfl (hO5.out.gr (grAlloc _ _)) x.n W5.heap.size rfl (cells1k (nBlk _ _ _ rfl)) hs64.out ?c2 ?_)
        case c2 => have := hB5.out.size; have := hB1.out; simp; omega
        intro v' w6 hO6 hb6
        have hO6 := Lib.hid hO6
        have hB6 := Lib.hid ((hB5.out.trans ((grAlloc _ _).mono (Nat.le_trans hB1.out hB5.out.size))).trans hb6)
        clear hb6 hO5 hB5 hG5
        go_wp2
        go_roundg gq
        case measure => omega
        case rel => exact ⟨i + 1, kk + 1, x.n :: s, sti, by omega, by omega, by go_num, by go_num, hI2, hRu2, hO6, hB6⟩
      by_cases hk2 : k = 2
      · have hk := hk2
        clear hk2
        have ho : x.op = 2 := by rw [hkH.out, hk]; rfl
        have hxv := form_var f1H.out (.inl ho)
        obtain ⟨j, hj⟩ := Int.eq_ofNat_of_zero_le hxv.1
        have hjl : j < sti.length := by have := hI.out.len; omega
        obtain ⟨m, hm⟩ : ∃ m, sti[j]? = some m := ⟨_, List.getElem?_eq_getElem hjl⟩
        have hmv := hI.out.tv m (List.mem_of_getElem? hm)
        have hgt : gt sti x.n = m := by unfold gt; rw [hj, Int.toNat_natCast, hm]; rfl
        rw [step_2 ho, hgt, rng_t hmv] at hst
        cases hst
        obtain ⟨gn, cn, hN, cN, -, -, -, -⟩ := hO5.out.set hm
        simp only [Value.slice.injEq] at hN
        obtain ⟨rfl, hsl2, rfl⟩ := hN
        have hjs : j < sl := by omega
        rw [hj] at y1
        have t1 : ((k : Int) == 1) = false := by simp; omega
        have t2 : ((k : Int) == 2) = true := by simp [hk]
        obtain ⟨-, hI2, hnx⟩ := hinv.resolve_right (by omega)
        have hRu2 := Lib.hid (show run vs [i0, i1, i2, i3] l gq (i + 1) (m :: s) sti (kk + 1) = R by rw [← run_ok hxH.out hstH2.out]; exact hRu.out)
        have hI2 := Lib.hid hI2
        clear hinv hstH2 hI hRu hnx hxH
        clear hk ho hkH f1H k1H hop hxv hj hjl hm hmv hgt hsl2
        go_wp2_with (at_builtin; refine wpList_push rfl _ _ rfl (w.heap.size + 1) _ _ sti s rfl (hO5.out.gr (grAlloc _ _)) m W5.heap.size rfl (cells1k (nBlk _ _ _ rfl)) hs64.out ?c2 ?_)
        case c2 => have := hB5.out.size; have := hB1.out; simp; omega
        intro v' w6 hO6 hb6
        have hO6 := Lib.hid hO6
        have hB6 := Lib.hid ((hB5.out.trans ((grAlloc _ _).mono (Nat.le_trans hB1.out hB5.out.size))).trans hb6)
        clear hb6 hO5 hB5 hG5
        go_wp2
        go_roundg gq
        case measure => omega
        case rel => exact ⟨i + 1, kk + 1, m :: s, sti, by omega, by omega, by go_num, by go_num, hI2, hRu2, hO6, hB6⟩
      by_cases hk3 : k = 3
      · have hk := hk3
        clear hk3
        have ho : x.op = 3 := by rw [hkH.out, hk]; rfl
        have hxv := form_in f1H.out ho
        obtain ⟨j, hj⟩ := Int.eq_ofNat_of_zero_le hxv.1
        have hj4 : j < 4 := by omega
        obtain ⟨m, hm, hgt, hmv⟩ := inN hinH.out hj4
        rw [← hj] at hgt
        rw [step_3 ho, hgt, rng_t hmv] at hst
        cases hst
        have cI : W5.cell? ⟨w.heap.size, j, none⟩ = some (.int .i64 m) := (cell_of_row _ _ j _ _ (0, 0) ((hB5.out.block _ (Nat.lt_succ_self _)).trans HI1.out)).trans hm
        rw [hj] at y1
        have t1 : ((k : Int) == 1) = false := by simp; omega
        have t2 : ((k : Int) == 2) = false := by simp; omega
        have t3 : ((k : Int) == 3) = true := by simp [hk]
        obtain ⟨-, hI2, hnx⟩ := hinv.resolve_right (by omega)
        have hRu2 := Lib.hid (show run vs [i0, i1, i2, i3] l gq (i + 1) (m :: s) sti (kk + 1) = R by rw [← run_ok hxH.out hstH2.out]; exact hRu.out)
        have hI2 := Lib.hid hI2
        clear hinv hstH2 hI hRu hnx hxH
        clear hk ho hkH f1H k1H hop hxv hj hm hmv hgt
        go_wp2_with (at_builtin; refine wpList_push rfl _ _ rfl (w.heap.size + 1) _ _ sti s rfl (hO5.out.gr (grAlloc _ _)) m W5.heap.size rfl (cells1k (nBlk _ _ _ rfl)) hs64.out ?c2 ?_)
        case c2 => have := hB5.out.size; have := hB1.out; simp; omega
        intro v' w6 hO6 hb6
        have hO6 := Lib.hid hO6
        have hB6 := Lib.hid ((hB5.out.trans ((grAlloc _ _).mono (Nat.le_trans hB1.out hB5.out.size))).trans hb6)
        clear hb6 hO5 hB5 hG5
        go_wp2
        go_roundg gq
        case measure => omega
        case rel => exact ⟨i + 1, kk + 1, m :: s, sti, by omega, by omega, by go_num, by go_num, hI2, hRu2, hO6, hB6⟩
      by_cases hk13 : k = 13
      · have hk := hk13
        clear hk13
        have hk13 : x.op = 13 := by rw [hkH.out, hk]; rfl
        rw [step_13 hk13] at hst
        cases hst
        obtain ⟨-, hI2, hnx⟩ := hinv.resolve_right (by omega)
        have hnn : 0 ≤ x.n := by have := form_n f1H.out (.inr hk13); omega
        have hRu2 := Lib.hid (show run vs [i0, i1, i2, i3] l gq x.n.toNat s sti (kk + 1) = R by rw [← run_ok hxH.out hstH2.out]; exact hRu.out)
        have hI2 := Lib.hid hI2
        simp only at hI2 hnx
        obtain ⟨j, hj⟩ := Int.eq_ofNat_of_zero_le hnn
        rw [hj] at y1
        rw [hj, Int.toNat_natCast] at hRu2 hI2 hnx
        have t1 : ((k : Int) == 1) = false := by simp; omega
        have t2 : ((k : Int) == 2) = false := by simp; omega
        have t3 : ((k : Int) == 3) = false := by simp; omega
        have t11 : ((k : Int) == 11) = false := by simp; omega
        have t12 : ((k : Int) == 12) = false := by simp; omega
        have t13 : ((k : Int) == 13) = true := by simp [hk]
        clear hj hinv hstH2 f1H k1H hI hRu hxH hkH hk13 hk hnn hop
        go_wp2
        go_roundg gq
        case measure => omega
        case rel => exact ⟨j, kk + 1, s, sti, by omega, by omega, by go_num, by go_num, hI2, hRu2, hO5, hB5⟩
      by_cases hk12 : k = 12
      · have hk := hk12
        clear hk12
        obtain ⟨y, a, r, hs2⟩ := two_of (s := s) (t := s.length) (by have := k1H.out; rw [takes_2 (by rw [hkH.out]; omega)] at this; exact this) rfl
        subst hs2
        obtain ⟨g, cap, hS, hcap, cy, hT1⟩ := hO5.out.top
        simp only [Value.slice.injEq] at hS
        obtain ⟨rfl, -, rfl⟩ := hS
        obtain ⟨g2, cap2, hS2, hcap2, ca, hT2⟩ := hT1.top
        simp only [Value.slice.injEq, Option.some.injEq, Addr.mk.injEq] at hS2
        obtain ⟨⟨rfl, -⟩, -, rfl⟩ := hS2
        have hvy := hI.out.sv y (by simp)
        have hva := hI.out.sv a (by simp)
        have hT2 := Lib.hid hT2
        have hrs := Lib.hid (show r.length ≤ 100 by have := hs64.out; simp only [List.length_cons] at this; omega)
        have hl2 : (y :: a :: r).length = r.length + 2 := rfl
        have hl1 : (a :: r).length = r.length + 1 := rfl
        have qa : IntKind.i64.wrap (((y :: a :: r).length : Int) - 2) = (r.length : Int) := by rw [hl2, IntWalk.i64_in _ (by have := hrs.out; omega)]; omega
        have qb : IntKind.i64.wrap (((y :: a :: r).length : Int) - 1) = ((a :: r).length : Int) := by rw [hl2, hl1, IntWalk.i64_in _ (by have := hrs.out; omega)]; omega
        have u0 : r.length < (y :: a :: r).length := by rw [hl2]; omega
        have u1 : (a :: r).length < (y :: a :: r).length := by rw [hl2, hl1]; omega
        have u2 : (y :: a :: r).length ≤ sc2 := by rw [hl2]; rw [hl1] at hcap; omega
        clear hT1 hO5 hl2 hl1 hcap hcap2 hs64
        have hk12 : x.op = 12 := by rw [hkH.out, hk]; rfl
        rw [step_12 hk12] at hst
        cases hst
        obtain ⟨-, hI2, hnx⟩ := hinv.resolve_right (by omega)
        have hRu2 := Lib.hid (show run vs [i0, i1, i2, i3] l gq (if rlB a x.r y = true then i + 1 else x.n.toNat) r sti (kk + 1) = R by rw [← run_ok hxH.out hstH2.out]; exact hRu.out)
        have hI2 := Lib.hid hI2
        simp only at hI2 hnx
        have hnn : 0 ≤ x.n := by have := form_n f1H.out (.inl hk12); omega
        obtain ⟨j, hj⟩ := Int.eq_ofNat_of_zero_le hnn
        rw [hj] at y1
        rw [hj, Int.toNat_natCast] at hRu2 hI2 hnx
        have HC := Lib.hid (rholds_any x.r a y)
        have t1 : ((k : Int) == 1) = false := by simp; omega
        have t2 : ((k : Int) == 2) = false := by simp; omega
        have t3 : ((k : Int) == 3) = false := by simp; omega
        have t11 : ((k : Int) == 11) = false := by simp; omega
        have t12 : ((k : Int) == 12) = true := by simp [hk]
        clear hj hinv hstH2 f1H k1H hI hRu hxH hkH hnn hk12 hk hvy hva hop
        generalize (y :: a :: r).length = n2 at *
        generalize (a :: r).length = n1 at *
        generalize hgn : r.length = n0 at *
        have hgnH := Lib.hid hgn
        clear hgn
        rcases hq : rlB a x.r y with _ | _
        · rw [hq] at HC hRu2 hI2 hnx
          simp only [Bool.false_eq_true, if_false] at hRu2 hI2 hnx
          clear hq
          go_upto_region 28 with fail
          refine wp_region_G (S := fun wq => Gr W5 wq) (by kernel_rfl) (grDrew _) (fun hHeld => ?_)
          have hSG : Hid (∀ wp wq : World, Gr W5 wp → Gr wp wq → Gr W5 wq) := Lib.hid (fun _ _ h k => h.tr k)
          have hmv := Lib.hid (fun (wq : World) (hq : Gr W5 wq) => And.intro (grCell hq y1) (And.intro (grCell hq y2) (And.intro (grCell hq ca) (grCell hq cy))))
          first
           | (refine tk hSG 0 (v := ?_) rfl (by kernel_rfl) (fun _ _ _ h => h) (by rfl) ?_ hHeld ?_; rotate_left; focus (intro w' hSw; obtain ⟨y1, y2, ca, cy⟩ := hmv.out _ hSw; go_simp; (try with_reducible rfl)))
           | refine tn hSG 0 rfl (by kernel_rfl) (fun _ _ _ h => h) (by rfl) hHeld ?_
          (try simp only [zq1, zq2, zq3, Act.put, zq4, zq5, zq6])
          first
           | (refine tk hSG 1 (v := ?_) rfl (by kernel_rfl) (fun _ _ _ h => h) (by rfl) ?_ hHeld ?_; rotate_left; focus (intro w' hSw; obtain ⟨y1, y2, ca, cy⟩ := hmv.out _ hSw; go_simp; (try with_reducible rfl)))
           | refine tn hSG 1 rfl (by kernel_rfl) (fun _ _ _ h => h) (by rfl) hHeld ?_
          (try simp only [zq1, zq2, zq3, Act.put, zq4, zq5, zq6])
          first
           | (refine tk hSG 2 (v := ?_) rfl (by kernel_rfl) (fun _ _ _ h => h) (by rfl) ?_ hHeld ?_; rotate_left; focus (intro w' hSw; obtain ⟨y1, y2, ca, cy⟩ := hmv.out _ hSw; go_simp; (try with_reducible rfl)))
           | refine tn hSG 2 rfl (by kernel_rfl) (fun _ _ _ h => h) (by rfl) hHeld ?_
          (try simp only [zq1, zq2, zq3, Act.put, zq4, zq5, zq6])
          first
           | (refine tk hSG 3 (v := ?_) rfl (by kernel_rfl) (fun _ _ _ h => h) (by rfl) ?_ hHeld ?_; rotate_left; focus (intro w' hSw; obtain ⟨y1, y2, ca, cy⟩ := hmv.out _ hSw; go_simp; (try with_reducible rfl)))
           | refine tn hSG 3 rfl (by kernel_rfl) (fun _ _ _ h => h) (by rfl) hHeld ?_
          (try simp only [zq1, zq2, zq3, Act.put, zq4, zq5, zq6])
          first
           | (refine tk hSG 4 (v := ?_) rfl (by kernel_rfl) (fun _ _ _ h => h) (by rfl) ?_ hHeld ?_; rotate_left; focus (intro w' hSw; obtain ⟨y1, y2, ca, cy⟩ := hmv.out _ hSw; go_simp; (try with_reducible rfl)))
           | refine tn hSG 4 rfl (by kernel_rfl) (fun _ _ _ h => h) (by rfl) hHeld ?_
          (try simp only [zq1, zq2, zq3, Act.put, zq4, zq5, zq6])
          refine tk hSG 5 (v := .pointer (some ⟨g, n0, none⟩)) rfl (by kernel_rfl) (fun _ _ _ h => h) (by rfl) ?_ hHeld ?_
          focus (intro w' hSw; obtain ⟨y1, y2, ca, cy⟩ := hmv.out _ hSw; go_simp; (try (intro hq; omega)))
          (try simp only [zq1, zq2, zq3, Act.put, zq4, zq5, zq6])
          first
           | (refine tk hSG 6 (v := ?_) rfl (by kernel_rfl) (fun _ _ _ h => h) (by rfl) ?_ hHeld ?_; rotate_left; focus (intro w' hSw; obtain ⟨y1, y2, ca, cy⟩ := hmv.out _ hSw; go_simp; (try with_reducible rfl)))
           | refine tn hSG 6 rfl (by kernel_rfl) (fun _ _ _ h => h) (by rfl) hHeld ?_
          (try simp only [zq1, zq2, zq3, Act.put, zq4, zq5, zq6])
          first
           | (refine tk hSG 7 (v := ?_) rfl (by kernel_rfl) (fun _ _ _ h => h) (by rfl) ?_ hHeld ?_; rotate_left; focus (intro w' hSw; obtain ⟨y1, y2, ca, cy⟩ := hmv.out _ hSw; go_simp; (try with_reducible rfl)))
           | refine tn hSG 7 rfl (by kernel_rfl) (fun _ _ _ h => h) (by rfl) hHeld ?_
          (try simp only [zq1, zq2, zq3, Act.put, zq4, zq5, zq6])
          first
           | (refine tk hSG 8 (v := ?_) rfl (by kernel_rfl) (fun _ _ _ h => h) (by rfl) ?_ hHeld ?_; rotate_left; focus (intro w' hSw; obtain ⟨y1, y2, ca, cy⟩ := hmv.out _ hSw; go_simp; (try with_reducible rfl)))
           | refine tn hSG 8 rfl (by kernel_rfl) (fun _ _ _ h => h) (by rfl) hHeld ?_
          (try simp only [zq1, zq2, zq3, Act.put, zq4, zq5, zq6])
          first
           | (refine tk hSG 9 (v := ?_) rfl (by kernel_rfl) (fun _ _ _ h => h) (by rfl) ?_ hHeld ?_; rotate_left; focus (intro w' hSw; obtain ⟨y1, y2, ca, cy⟩ := hmv.out _ hSw; go_simp; (try with_reducible rfl)))
           | refine tn hSG 9 rfl (by kernel_rfl) (fun _ _ _ h => h) (by rfl) hHeld ?_
          (try simp only [zq1, zq2, zq3, Act.put, zq4, zq5, zq6])
          refine tk hSG 10 (v := .pointer (some ⟨g, n1, none⟩)) rfl (by kernel_rfl) (fun _ _ _ h => h) (by rfl) ?_ hHeld ?_
          focus (intro w' hSw; obtain ⟨y1, y2, ca, cy⟩ := hmv.out _ hSw; go_simp; (try (intro hq; omega)))
          (try simp only [zq1, zq2, zq3, Act.put, zq4, zq5, zq6])
          first
           | (refine tk hSG 11 (v := ?_) rfl (by kernel_rfl) (fun _ _ _ h => h) (by rfl) ?_ hHeld ?_; rotate_left; focus (intro w' hSw; obtain ⟨y1, y2, ca, cy⟩ := hmv.out _ hSw; go_simp; (try with_reducible rfl)))
           | refine tn hSG 11 rfl (by kernel_rfl) (fun _ _ _ h => h) (by rfl) hHeld ?_
          (try simp only [zq1, zq2, zq3, Act.put, zq4, zq5, zq6])
          refine tc hSG 12 (v := .bool false) rfl (by kernel_rfl) (fun _ _ _ h => h) (by rfl) ?_ hHeld ?_
          focus (intro wz hSw K hK; obtain ⟨y1, y2, ca, cy⟩ := hmv.out _ hSw; go_simp; refine (HC.out _).mono ?_; rintro e w2 ⟨rfl, hw2⟩; have hb2 := (show Gr wz w2 by rw [hw2]; exact Below.refl _ _); first | exact hK.out _ hb2 | (have h9 := hK.out _ hb2; (try simp only [zq1, zq2, zq3, Act.put, zq4, zq5, zq6] at h9 ⊢); exact h9) | (have h9 := hK.out _ hb2; go_simp; exact h9))
          (try simp only [zq1, zq2, zq3, Act.put, zq4, zq5, zq6])
          first
           | (refine tk hSG 13 (v := ?_) rfl (by kernel_rfl) (fun _ _ _ h => h) (by rfl) ?_ hHeld ?_; rotate_left; focus (intro w' hSw; obtain ⟨y1, y2, ca, cy⟩ := hmv.out _ hSw; go_simp; (try with_reducible rfl)))
           | refine tn hSG 13 rfl (by kernel_rfl) (fun _ _ _ h => h) (by rfl) hHeld ?_
          (try simp only [zq1, zq2, zq3, Act.put, zq4, zq5, zq6])
          refine wpAnyG_done (by kernel_rfl) (fun w6 hgD => ?_) _
          have hg6 : Gr W5 w6 := (grDrew W5).tr hgD
          clear hgD hSG hHeld
          have hT6 := Lib.hid (hT2.out.gr hg6)
          have hB6 := Lib.hid (hB5.out.trans (hg6.mono (Nat.le_trans hB1.out hB5.out.size)))
          have y1 := grCell hg6 y1
          clear hg6 hT2 hB5 hG5 y0 y2 ca cy
          go_wp2
          go_roundg gq
          case measure => omega
          case rel => exact ⟨j, kk + 1, r, sti, by omega, by omega, by go_num, by go_num, hI2, hRu2, hT6, hB6⟩
        · rw [hq] at HC hRu2 hI2 hnx
          simp only [if_true] at hRu2 hI2 hnx
          clear hq
          go_upto_region 28 with fail
          refine wp_region_G (S := fun wq => Gr W5 wq) (by kernel_rfl) (grDrew _) (fun hHeld => ?_)
          have hSG : Hid (∀ wp wq : World, Gr W5 wp → Gr wp wq → Gr W5 wq) := Lib.hid (fun _ _ h k => h.tr k)
          have hmv := Lib.hid (fun (wq : World) (hq : Gr W5 wq) => And.intro (grCell hq y1) (And.intro (grCell hq y2) (And.intro (grCell hq ca) (grCell hq cy))))
          first
           | (refine tk hSG 0 (v := ?_) rfl (by kernel_rfl) (fun _ _ _ h => h) (by rfl) ?_ hHeld ?_; rotate_left; focus (intro w' hSw; obtain ⟨y1, y2, ca, cy⟩ := hmv.out _ hSw; go_simp; (try with_reducible rfl)))
           | refine tn hSG 0 rfl (by kernel_rfl) (fun _ _ _ h => h) (by rfl) hHeld ?_
          (try simp only [zq1, zq2, zq3, Act.put, zq4, zq5, zq6])
          first
           | (refine tk hSG 1 (v := ?_) rfl (by kernel_rfl) (fun _ _ _ h => h) (by rfl) ?_ hHeld ?_; rotate_left; focus (intro w' hSw; obtain ⟨y1, y2, ca, cy⟩ := hmv.out _ hSw; go_simp; (try with_reducible rfl)))
           | refine tn hSG 1 rfl (by kernel_rfl) (fun _ _ _ h => h) (by rfl) hHeld ?_
          (try simp only [zq1, zq2, zq3, Act.put, zq4, zq5, zq6])
          first
           | (refine tk hSG 2 (v := ?_) rfl (by kernel_rfl) (fun _ _ _ h => h) (by rfl) ?_ hHeld ?_; rotate_left; focus (intro w' hSw; obtain ⟨y1, y2, ca, cy⟩ := hmv.out _ hSw; go_simp; (try with_reducible rfl)))
           | refine tn hSG 2 rfl (by kernel_rfl) (fun _ _ _ h => h) (by rfl) hHeld ?_
          (try simp only [zq1, zq2, zq3, Act.put, zq4, zq5, zq6])
          first
           | (refine tk hSG 3 (v := ?_) rfl (by kernel_rfl) (fun _ _ _ h => h) (by rfl) ?_ hHeld ?_; rotate_left; focus (intro w' hSw; obtain ⟨y1, y2, ca, cy⟩ := hmv.out _ hSw; go_simp; (try with_reducible rfl)))
           | refine tn hSG 3 rfl (by kernel_rfl) (fun _ _ _ h => h) (by rfl) hHeld ?_
          (try simp only [zq1, zq2, zq3, Act.put, zq4, zq5, zq6])
          first
           | (refine tk hSG 4 (v := ?_) rfl (by kernel_rfl) (fun _ _ _ h => h) (by rfl) ?_ hHeld ?_; rotate_left; focus (intro w' hSw; obtain ⟨y1, y2, ca, cy⟩ := hmv.out _ hSw; go_simp; (try with_reducible rfl)))
           | refine tn hSG 4 rfl (by kernel_rfl) (fun _ _ _ h => h) (by rfl) hHeld ?_
          (try simp only [zq1, zq2, zq3, Act.put, zq4, zq5, zq6])
          refine tk hSG 5 (v := .pointer (some ⟨g, n0, none⟩)) rfl (by kernel_rfl) (fun _ _ _ h => h) (by rfl) ?_ hHeld ?_
          focus (intro w' hSw; obtain ⟨y1, y2, ca, cy⟩ := hmv.out _ hSw; go_simp; (try (intro hq; omega)))
          (try simp only [zq1, zq2, zq3, Act.put, zq4, zq5, zq6])
          first
           | (refine tk hSG 6 (v := ?_) rfl (by kernel_rfl) (fun _ _ _ h => h) (by rfl) ?_ hHeld ?_; rotate_left; focus (intro w' hSw; obtain ⟨y1, y2, ca, cy⟩ := hmv.out _ hSw; go_simp; (try with_reducible rfl)))
           | refine tn hSG 6 rfl (by kernel_rfl) (fun _ _ _ h => h) (by rfl) hHeld ?_
          (try simp only [zq1, zq2, zq3, Act.put, zq4, zq5, zq6])
          first
           | (refine tk hSG 7 (v := ?_) rfl (by kernel_rfl) (fun _ _ _ h => h) (by rfl) ?_ hHeld ?_; rotate_left; focus (intro w' hSw; obtain ⟨y1, y2, ca, cy⟩ := hmv.out _ hSw; go_simp; (try with_reducible rfl)))
           | refine tn hSG 7 rfl (by kernel_rfl) (fun _ _ _ h => h) (by rfl) hHeld ?_
          (try simp only [zq1, zq2, zq3, Act.put, zq4, zq5, zq6])
          first
           | (refine tk hSG 8 (v := ?_) rfl (by kernel_rfl) (fun _ _ _ h => h) (by rfl) ?_ hHeld ?_; rotate_left; focus (intro w' hSw; obtain ⟨y1, y2, ca, cy⟩ := hmv.out _ hSw; go_simp; (try with_reducible rfl)))
           | refine tn hSG 8 rfl (by kernel_rfl) (fun _ _ _ h => h) (by rfl) hHeld ?_
          (try simp only [zq1, zq2, zq3, Act.put, zq4, zq5, zq6])
          first
           | (refine tk hSG 9 (v := ?_) rfl (by kernel_rfl) (fun _ _ _ h => h) (by rfl) ?_ hHeld ?_; rotate_left; focus (intro w' hSw; obtain ⟨y1, y2, ca, cy⟩ := hmv.out _ hSw; go_simp; (try with_reducible rfl)))
           | refine tn hSG 9 rfl (by kernel_rfl) (fun _ _ _ h => h) (by rfl) hHeld ?_
          (try simp only [zq1, zq2, zq3, Act.put, zq4, zq5, zq6])
          refine tk hSG 10 (v := .pointer (some ⟨g, n1, none⟩)) rfl (by kernel_rfl) (fun _ _ _ h => h) (by rfl) ?_ hHeld ?_
          focus (intro w' hSw; obtain ⟨y1, y2, ca, cy⟩ := hmv.out _ hSw; go_simp; (try (intro hq; omega)))
          (try simp only [zq1, zq2, zq3, Act.put, zq4, zq5, zq6])
          first
           | (refine tk hSG 11 (v := ?_) rfl (by kernel_rfl) (fun _ _ _ h => h) (by rfl) ?_ hHeld ?_; rotate_left; focus (intro w' hSw; obtain ⟨y1, y2, ca, cy⟩ := hmv.out _ hSw; go_simp; (try with_reducible rfl)))
           | refine tn hSG 11 rfl (by kernel_rfl) (fun _ _ _ h => h) (by rfl) hHeld ?_
          (try simp only [zq1, zq2, zq3, Act.put, zq4, zq5, zq6])
          refine tc hSG 12 (v := .bool true) rfl (by kernel_rfl) (fun _ _ _ h => h) (by rfl) ?_ hHeld ?_
          focus (intro wz hSw K hK; obtain ⟨y1, y2, ca, cy⟩ := hmv.out _ hSw; go_simp; refine (HC.out _).mono ?_; rintro e w2 ⟨rfl, hw2⟩; have hb2 := (show Gr wz w2 by rw [hw2]; exact Below.refl _ _); first | exact hK.out _ hb2 | (have h9 := hK.out _ hb2; (try simp only [zq1, zq2, zq3, Act.put, zq4, zq5, zq6] at h9 ⊢); exact h9) | (have h9 := hK.out _ hb2; go_simp; exact h9))
          (try simp only [zq1, zq2, zq3, Act.put, zq4, zq5, zq6])
          first
           | (refine tk hSG 13 (v := ?_) rfl (by kernel_rfl) (fun _ _ _ h => h) (by rfl) ?_ hHeld ?_; rotate_left; focus (intro w' hSw; obtain ⟨y1, y2, ca, cy⟩ := hmv.out _ hSw; go_simp; (try with_reducible rfl)))
           | refine tn hSG 13 rfl (by kernel_rfl) (fun _ _ _ h => h) (by rfl) hHeld ?_
          (try simp only [zq1, zq2, zq3, Act.put, zq4, zq5, zq6])
          refine wpAnyG_done (by kernel_rfl) (fun w6 hgD => ?_) _
          have hg6 : Gr W5 w6 := (grDrew W5).tr hgD
          clear hgD hSG hHeld
          have hT6 := Lib.hid (hT2.out.gr hg6)
          have hB6 := Lib.hid (hB5.out.trans (hg6.mono (Nat.le_trans hB1.out hB5.out.size)))
          have y1 := grCell hg6 y1
          clear hg6 hT2 hB5 hG5 y0 y2 ca cy
          go_wp2
          go_roundg gq
          case measure => omega
          case rel => exact ⟨i + 1, kk + 1, r, sti, by omega, by omega, by go_num, by go_num, hI2, hRu2, hT6, hB6⟩
      by_cases hk11 : k = 11
      · have hk := hk11
        clear hk11
        have ho : x.op = 11 := by rw [hkH.out, hk]; rfl
        have hxv := form_var f1H.out (.inr ho)
        obtain ⟨j, hj⟩ := Int.eq_ofNat_of_zero_le hxv.1
        have hjv : j < vs.length := by omega
        have hjl : j < sti.length := by have := hI.out.len; omega
        obtain ⟨m, hm⟩ : ∃ m, sti[j]? = some m := ⟨_, List.getElem?_eq_getElem hjl⟩
        obtain ⟨v, hv⟩ : ∃ v, vs[j]? = some v := ⟨_, List.getElem?_eq_getElem hjv⟩
        obtain ⟨y, r, hs2⟩ := one_of (s := s) (t := s.length) (by have := k1H.out; rw [ho, takes_1] at this; exact this) rfl
        subst hs2
        obtain ⟨g, cap, hS, hcap, cy, hT1⟩ := hO5.out.top
        simp only [Value.slice.injEq] at hS
        obtain ⟨rfl, -, rfl⟩ := hS
        obtain ⟨gn, cn, hN, -, -, -, -, -⟩ := hT1.set hm
        simp only [Value.slice.injEq] at hN
        obtain ⟨rfl, hsl2, rfl⟩ := hN
        have hjs : j < sl := by omega
        obtain ⟨gv, ov, rfl, v0, v1⟩ := HV.out.at hv
        have v0 := grCell hG5.out v0
        have v1 := grCell hG5.out v1
        rw [hj] at y1
        rw [step_11 ho, hj, Int.toNat_natCast, hv] at hst
        simp only [Option.getD_some] at hst
        have hT1 := Lib.hid hT1
        have hmH := Lib.hid hm
        have hrs := Lib.hid (show r.length ≤ 100 by have := hs64.out; simp only [List.length_cons] at this; omega)
        have hl2 : (y :: r).length = r.length + 1 := rfl
        have qb : IntKind.i64.wrap (((y :: r).length : Int) - 1) = (r.length : Int) := by rw [hl2, IntWalk.i64_in _ (by have := hrs.out; omega)]; omega
        have u0 : r.length < (y :: r).length := by rw [hl2]; omega
        have u2 : (y :: r).length ≤ sc2 := by rw [hl2]; exact hcap
        clear hO5 hl2 hcap hs64
        have t1 : ((k : Int) == 1) = false := by simp; omega
        have t2 : ((k : Int) == 2) = false := by simp; omega
        have t3 : ((k : Int) == 3) = false := by simp; omega
        have t11 : ((k : Int) == 11) = true := by simp [hk]
        have hgo := Lib.hid (fun h : btw2 y v = true => show run vs [i0, i1, i2, i3] l gq (i + 1) r (sti.set j y) (kk + 1) = R by rw [if_pos h] at hst; cases hst; rw [← hRu.out, run_ok hxH.out hstH2.out])
        have hi2 := Lib.hid (fun h : btw2 y v = true => show Inv H vs l (i + 1) r (sti.set j y) by rw [if_pos h] at hst; cases hst; exact (hinv.resolve_right (by omega)).2.1)
        have hbd := Lib.hid (fun h : btw2 y v = false => show (sti, kk + 1, (15 : Int)) = R by rw [if_neg (by simp [h])] at hst; cases hst; rw [← hRu.out, run_er hxH.out hstH2.out (by decide)])
        obtain ⟨lo, hi⟩ := v
        simp only at v0 v1
        clear hst hstH2 hinv hI hRu hxH hkH f1H k1H hop hxv hjl hj hm hv hsl2 ho hk
        generalize (y :: r).length = n1 at *
        generalize r.length = n0 at *
        by_cases b1 : y < lo
        · have tlo : decide (y < lo) = true := decide_eq_true b1
          have hbad := Lib.hid (hbd.out (by unfold btw2; simp; omega))
          clear b1 hgo hi2 hbd
          go_upto_region 23 with fail
          refine wp_region_G (S := fun wq => Gr W5 wq) (by kernel_rfl) (grDrew _) (fun hHeld => ?_)
          have hSG : Hid (∀ wp wq : World, Gr W5 wp → Gr wp wq → Gr W5 wq) := Lib.hid (fun _ _ h k => h.tr k)
          have hmv := Lib.hid (fun (wq : World) (hq : Gr W5 wq) => And.intro (grCell hq y1) (And.intro (grCell hq cy) (And.intro (grCell hq v0) (grCell hq v1))))
          first
           | (refine tk hSG 0 (v := ?_) rfl (by kernel_rfl) (fun _ _ _ h => h) (by rfl) ?_ hHeld ?_; rotate_left; focus (intro w' hSw; obtain ⟨y1, cy, v0, v1⟩ := hmv.out _ hSw; go_simp; (try with_reducible rfl)))
           | refine tn hSG 0 rfl (by kernel_rfl) (fun _ _ _ h => h) (by rfl) hHeld ?_
          (try simp only [zq1, zq2, zq3, Act.put, zq4, zq5, zq6])
          first
           | (refine tk hSG 1 (v := ?_) rfl (by kernel_rfl) (fun _ _ _ h => h) (by rfl) ?_ hHeld ?_; rotate_left; focus (intro w' hSw; obtain ⟨y1, cy, v0, v1⟩ := hmv.out _ hSw; go_simp; (try with_reducible rfl)))
           | refine tn hSG 1 rfl (by kernel_rfl) (fun _ _ _ h => h) (by rfl) hHeld ?_
          (try simp only [zq1, zq2, zq3, Act.put, zq4, zq5, zq6])
          first
           | (refine tk hSG 2 (v := ?_) rfl (by kernel_rfl) (fun _ _ _ h => h) (by rfl) ?_ hHeld ?_; rotate_left; focus (intro w' hSw; obtain ⟨y1, cy, v0, v1⟩ := hmv.out _ hSw; go_simp; (try with_reducible rfl)))
           | refine tn hSG 2 rfl (by kernel_rfl) (fun _ _ _ h => h) (by rfl) hHeld ?_
          (try simp only [zq1, zq2, zq3, Act.put, zq4, zq5, zq6])
          refine tk hSG 3 (v := .pointer (some ⟨g, n0, none⟩)) rfl (by kernel_rfl) (fun _ _ _ h => h) (by rfl) ?_ hHeld ?_
          focus (intro w' hSw; obtain ⟨y1, cy, v0, v1⟩ := hmv.out _ hSw; go_simp; (try (intro hq; omega)))
          (try simp only [zq1, zq2, zq3, Act.put, zq4, zq5, zq6])
          first
           | (refine tk hSG 4 (v := ?_) rfl (by kernel_rfl) (fun _ _ _ h => h) (by rfl) ?_ hHeld ?_; rotate_left; focus (intro w' hSw; obtain ⟨y1, cy, v0, v1⟩ := hmv.out _ hSw; go_simp; (try with_reducible rfl)))
           | refine tn hSG 4 rfl (by kernel_rfl) (fun _ _ _ h => h) (by rfl) hHeld ?_
          (try simp only [zq1, zq2, zq3, Act.put, zq4, zq5, zq6])
          first
           | (refine tk hSG 5 (v := ?_) rfl (by kernel_rfl) (fun _ _ _ h => h) (by rfl) ?_ hHeld ?_; rotate_left; focus (intro w' hSw; obtain ⟨y1, cy, v0, v1⟩ := hmv.out _ hSw; go_simp; (try with_reducible rfl)))
           | refine tn hSG 5 rfl (by kernel_rfl) (fun _ _ _ h => h) (by rfl) hHeld ?_
          (try simp only [zq1, zq2, zq3, Act.put, zq4, zq5, zq6])
          first
           | (refine tk hSG 6 (v := ?_) rfl (by kernel_rfl) (fun _ _ _ h => h) (by rfl) ?_ hHeld ?_; rotate_left; focus (intro w' hSw; obtain ⟨y1, cy, v0, v1⟩ := hmv.out _ hSw; go_simp; (try with_reducible rfl)))
           | refine tn hSG 6 rfl (by kernel_rfl) (fun _ _ _ h => h) (by rfl) hHeld ?_
          (try simp only [zq1, zq2, zq3, Act.put, zq4, zq5, zq6])
          first
           | (refine tk hSG 7 (v := ?_) rfl (by kernel_rfl) (fun _ _ _ h => h) (by rfl) ?_ hHeld ?_; rotate_left; focus (intro w' hSw; obtain ⟨y1, cy, v0, v1⟩ := hmv.out _ hSw; go_simp; (try with_reducible rfl)))
           | refine tn hSG 7 rfl (by kernel_rfl) (fun _ _ _ h => h) (by rfl) hHeld ?_
          (try simp only [zq1, zq2, zq3, Act.put, zq4, zq5, zq6])
          refine tk hSG 8 (v := .pointer (some ⟨gv, ov + j * 5, none⟩)) rfl (by kernel_rfl) (fun _ _ _ h => h) (by rfl) ?_ hHeld ?_
          focus (intro w' hSw; obtain ⟨y1, cy, v0, v1⟩ := hmv.out _ hSw; go_simp; (try (intro hq; omega)))
          (try simp only [zq1, zq2, zq3, Act.put, zq4, zq5, zq6])
          first
           | (refine tk hSG 9 (v := ?_) rfl (by kernel_rfl) (fun _ _ _ h => h) (by rfl) ?_ hHeld ?_; rotate_left; focus (intro w' hSw; obtain ⟨y1, cy, v0, v1⟩ := hmv.out _ hSw; go_simp; (try with_reducible rfl)))
           | refine tn hSG 9 rfl (by kernel_rfl) (fun _ _ _ h => h) (by rfl) hHeld ?_
          (try simp only [zq1, zq2, zq3, Act.put, zq4, zq5, zq6])
          first
           | (refine tk hSG 10 (v := ?_) rfl (by kernel_rfl) (fun _ _ _ h => h) (by rfl) ?_ hHeld ?_; rotate_left; focus (intro w' hSw; obtain ⟨y1, cy, v0, v1⟩ := hmv.out _ hSw; go_simp; (try with_reducible rfl)))
           | refine tn hSG 10 rfl (by kernel_rfl) (fun _ _ _ h => h) (by rfl) hHeld ?_
          (try simp only [zq1, zq2, zq3, Act.put, zq4, zq5, zq6])
          refine tk hSG 11 (v := .bool true) rfl (by kernel_rfl) (fun _ _ _ h => h) (by rfl) ?_ hHeld ?_
          focus (intro w' hSw; obtain ⟨y1, cy, v0, v1⟩ := hmv.out _ hSw; go_simp; (try exact tlo))
          (try simp only [zq1, zq2, zq3, Act.put, zq4, zq5, zq6])
          first
           | (refine tk hSG 12 (v := ?_) rfl (by kernel_rfl) (fun _ _ _ h => h) (by rfl) ?_ hHeld ?_; rotate_left; focus (intro w' hSw; obtain ⟨y1, cy, v0, v1⟩ := hmv.out _ hSw; go_simp; (try with_reducible rfl)))
           | refine tn hSG 12 rfl (by kernel_rfl) (fun _ _ _ h => h) (by rfl) hHeld ?_
          (try simp only [zq1, zq2, zq3, Act.put, zq4, zq5, zq6])
          first
           | (refine tk hSG 13 (v := ?_) rfl (by kernel_rfl) (fun _ _ _ h => h) (by rfl) ?_ hHeld ?_; rotate_left; focus (intro w' hSw; obtain ⟨y1, cy, v0, v1⟩ := hmv.out _ hSw; go_simp; (try with_reducible rfl)))
           | refine tn hSG 13 rfl (by kernel_rfl) (fun _ _ _ h => h) (by rfl) hHeld ?_
          (try simp only [zq1, zq2, zq3, Act.put, zq4, zq5, zq6])
          first
           | (refine tk hSG 14 (v := ?_) rfl (by kernel_rfl) (fun _ _ _ h => h) (by rfl) ?_ hHeld ?_; rotate_left; focus (intro w' hSw; obtain ⟨y1, cy, v0, v1⟩ := hmv.out _ hSw; go_simp; (try with_reducible rfl)))
           | refine tn hSG 14 rfl (by kernel_rfl) (fun _ _ _ h => h) (by rfl) hHeld ?_
          (try simp only [zq1, zq2, zq3, Act.put, zq4, zq5, zq6])
          first
           | (refine tk hSG 15 (v := ?_) rfl (by kernel_rfl) (fun _ _ _ h => h) (by rfl) ?_ hHeld ?_; rotate_left; focus (intro w' hSw; obtain ⟨y1, cy, v0, v1⟩ := hmv.out _ hSw; go_simp; (try with_reducible rfl)))
           | refine tn hSG 15 rfl (by kernel_rfl) (fun _ _ _ h => h) (by rfl) hHeld ?_
          (try simp only [zq1, zq2, zq3, Act.put, zq4, zq5, zq6])
          first
           | (refine tk hSG 16 (v := ?_) rfl (by kernel_rfl) (fun _ _ _ h => h) (by rfl) ?_ hHeld ?_; rotate_left; focus (intro w' hSw; obtain ⟨y1, cy, v0, v1⟩ := hmv.out _ hSw; go_simp; (try with_reducible rfl)))
           | refine tn hSG 16 rfl (by kernel_rfl) (fun _ _ _ h => h) (by rfl) hHeld ?_
          (try simp only [zq1, zq2, zq3, Act.put, zq4, zq5, zq6])
          first
           | (refine tk hSG 17 (v := ?_) rfl (by kernel_rfl) (fun _ _ _ h => h) (by rfl) ?_ hHeld ?_; rotate_left; focus (intro w' hSw; obtain ⟨y1, cy, v0, v1⟩ := hmv.out _ hSw; go_simp; (try with_reducible rfl)))
           | refine tn hSG 17 rfl (by kernel_rfl) (fun _ _ _ h => h) (by rfl) hHeld ?_
          (try simp only [zq1, zq2, zq3, Act.put, zq4, zq5, zq6])
          first
           | (refine tk hSG 18 (v := ?_) rfl (by kernel_rfl) (fun _ _ _ h => h) (by rfl) ?_ hHeld ?_; rotate_left; focus (intro w' hSw; obtain ⟨y1, cy, v0, v1⟩ := hmv.out _ hSw; go_simp; (try with_reducible rfl)))
           | refine tn hSG 18 rfl (by kernel_rfl) (fun _ _ _ h => h) (by rfl) hHeld ?_
          (try simp only [zq1, zq2, zq3, Act.put, zq4, zq5, zq6])
          first
           | (refine tk hSG 19 (v := ?_) rfl (by kernel_rfl) (fun _ _ _ h => h) (by rfl) ?_ hHeld ?_; rotate_left; focus (intro w' hSw; obtain ⟨y1, cy, v0, v1⟩ := hmv.out _ hSw; go_simp; (try with_reducible rfl)))
           | refine tn hSG 19 rfl (by kernel_rfl) (fun _ _ _ h => h) (by rfl) hHeld ?_
          (try simp only [zq1, zq2, zq3, Act.put, zq4, zq5, zq6])
          first
           | (refine tk hSG 20 (v := ?_) rfl (by kernel_rfl) (fun _ _ _ h => h) (by rfl) ?_ hHeld ?_; rotate_left; focus (intro w' hSw; obtain ⟨y1, cy, v0, v1⟩ := hmv.out _ hSw; go_simp; (try with_reducible rfl)))
           | refine tn hSG 20 rfl (by kernel_rfl) (fun _ _ _ h => h) (by rfl) hHeld ?_
          (try simp only [zq1, zq2, zq3, Act.put, zq4, zq5, zq6])
          first
           | (refine tk hSG 21 (v := ?_) rfl (by kernel_rfl) (fun _ _ _ h => h) (by rfl) ?_ hHeld ?_; rotate_left; focus (intro w' hSw; obtain ⟨y1, cy, v0, v1⟩ := hmv.out _ hSw; go_simp; (try with_reducible rfl)))
           | refine tn hSG 21 rfl (by kernel_rfl) (fun _ _ _ h => h) (by rfl) hHeld ?_
          (try simp only [zq1, zq2, zq3, Act.put, zq4, zq5, zq6])
          first
           | (refine tk hSG 22 (v := ?_) rfl (by kernel_rfl) (fun _ _ _ h => h) (by rfl) ?_ hHeld ?_; rotate_left; focus (intro w' hSw; obtain ⟨y1, cy, v0, v1⟩ := hmv.out _ hSw; go_simp; (try with_reducible rfl)))
           | refine tn hSG 22 rfl (by kernel_rfl) (fun _ _ _ h => h) (by rfl) hHeld ?_
          (try simp only [zq1, zq2, zq3, Act.put, zq4, zq5, zq6])
          first
           | (refine tk hSG 23 (v := ?_) rfl (by kernel_rfl) (fun _ _ _ h => h) (by rfl) ?_ hHeld ?_; rotate_left; focus (intro w' hSw; obtain ⟨y1, cy, v0, v1⟩ := hmv.out _ hSw; go_simp; (try with_reducible rfl)))
           | refine tn hSG 23 rfl (by kernel_rfl) (fun _ _ _ h => h) (by rfl) hHeld ?_
          (try simp only [zq1, zq2, zq3, Act.put, zq4, zq5, zq6])
          first
           | (refine tk hSG 24 (v := ?_) rfl (by kernel_rfl) (fun _ _ _ h => h) (by rfl) ?_ hHeld ?_; rotate_left; focus (intro w' hSw; obtain ⟨y1, cy, v0, v1⟩ := hmv.out _ hSw; go_simp; (try with_reducible rfl)))
           | refine tn hSG 24 rfl (by kernel_rfl) (fun _ _ _ h => h) (by rfl) hHeld ?_
          (try simp only [zq1, zq2, zq3, Act.put, zq4, zq5, zq6])
          first
           | (refine tk hSG 25 (v := ?_) rfl (by kernel_rfl) (fun _ _ _ h => h) (by rfl) ?_ hHeld ?_; rotate_left; focus (intro w' hSw; obtain ⟨y1, cy, v0, v1⟩ := hmv.out _ hSw; go_simp; (try with_reducible rfl)))
           | refine tn hSG 25 rfl (by kernel_rfl) (fun _ _ _ h => h) (by rfl) hHeld ?_
          (try simp only [zq1, zq2, zq3, Act.put, zq4, zq5, zq6])
          refine wpAnyG_done (by kernel_rfl) (fun w6 hgD => ?_) _
          have hg6 : Gr W5 w6 := (grDrew W5).tr hgD
          clear hgD hSG hHeld
          have hP := Lib.hid (show TrP R w (.returned (.tuple #[.slice none 0 0, .int .i64 ((kk : Int) + 1), .int .i64 15])) w6 by rw [← hbad.out, show ((kk : Int) + 1) = ((kk + 1 : Nat) : Int) by omega]; exact tr_er (k := kk + 1) (by decide) (Gr.tr hG5.out hg6))
          clear hg6 hT1 hB5 hG5 y0 y1 y2 cy v0 v1 hbad
          go_wp2
          (try rw [Exit.noGoto_ret])
          exact bodyPost_ret (v := .tuple #[.slice none 0 0, .int .i64 ((kk : Int) + 1), .int .i64 15]) (by simp [results, Tryd.results26, go_sem]) rfl hP.out
        · have tlo : decide (y < lo) = false := decide_eq_false b1
          by_cases b2 : y > hi
          · have thi : decide (y > hi) = true := decide_eq_true b2
            have hbad := Lib.hid (hbd.out (by unfold btw2; simp; omega))
            clear b1 b2 hgo hi2 hbd
            go_upto_region 23 with fail
            refine wp_region_G (S := fun wq => Gr W5 wq) (by kernel_rfl) (grDrew _) (fun hHeld => ?_)
            have hSG : Hid (∀ wp wq : World, Gr W5 wp → Gr wp wq → Gr W5 wq) := Lib.hid (fun _ _ h k => h.tr k)
            have hmv := Lib.hid (fun (wq : World) (hq : Gr W5 wq) => And.intro (grCell hq y1) (And.intro (grCell hq cy) (And.intro (grCell hq v0) (grCell hq v1))))
            first
             | (refine tk hSG 0 (v := ?_) rfl (by kernel_rfl) (fun _ _ _ h => h) (by rfl) ?_ hHeld ?_; rotate_left; focus (intro w' hSw; obtain ⟨y1, cy, v0, v1⟩ := hmv.out _ hSw; go_simp; (try with_reducible rfl)))
             | refine tn hSG 0 rfl (by kernel_rfl) (fun _ _ _ h => h) (by rfl) hHeld ?_
            (try simp only [zq1, zq2, zq3, Act.put, zq4, zq5, zq6])
            first
             | (refine tk hSG 1 (v := ?_) rfl (by kernel_rfl) (fun _ _ _ h => h) (by rfl) ?_ hHeld ?_; rotate_left; focus (intro w' hSw; obtain ⟨y1, cy, v0, v1⟩ := hmv.out _ hSw; go_simp; (try with_reducible rfl)))
             | refine tn hSG 1 rfl (by kernel_rfl) (fun _ _ _ h => h) (by rfl) hHeld ?_
            (try simp only [zq1, zq2, zq3, Act.put, zq4, zq5, zq6])
            first
             | (refine tk hSG 2 (v := ?_) rfl (by kernel_rfl) (fun _ _ _ h => h) (by rfl) ?_ hHeld ?_; rotate_left; focus (intro w' hSw; obtain ⟨y1, cy, v0, v1⟩ := hmv.out _ hSw; go_simp; (try with_reducible rfl)))
             | refine tn hSG 2 rfl (by kernel_rfl) (fun _ _ _ h => h) (by rfl) hHeld ?_
            (try simp only [zq1, zq2, zq3, Act.put, zq4, zq5, zq6])
            refine tk hSG 3 (v := .pointer (some ⟨g, n0, none⟩)) rfl (by kernel_rfl) (fun _ _ _ h => h) (by rfl) ?_ hHeld ?_
            focus (intro w' hSw; obtain ⟨y1, cy, v0, v1⟩ := hmv.out _ hSw; go_simp; (try (intro hq; omega)))
            (try simp only [zq1, zq2, zq3, Act.put, zq4, zq5, zq6])
            first
             | (refine tk hSG 4 (v := ?_) rfl (by kernel_rfl) (fun _ _ _ h => h) (by rfl) ?_ hHeld ?_; rotate_left; focus (intro w' hSw; obtain ⟨y1, cy, v0, v1⟩ := hmv.out _ hSw; go_simp; (try with_reducible rfl)))
             | refine tn hSG 4 rfl (by kernel_rfl) (fun _ _ _ h => h) (by rfl) hHeld ?_
            (try simp only [zq1, zq2, zq3, Act.put, zq4, zq5, zq6])
            first
             | (refine tk hSG 5 (v := ?_) rfl (by kernel_rfl) (fun _ _ _ h => h) (by rfl) ?_ hHeld ?_; rotate_left; focus (intro w' hSw; obtain ⟨y1, cy, v0, v1⟩ := hmv.out _ hSw; go_simp; (try with_reducible rfl)))
             | refine tn hSG 5 rfl (by kernel_rfl) (fun _ _ _ h => h) (by rfl) hHeld ?_
            (try simp only [zq1, zq2, zq3, Act.put, zq4, zq5, zq6])
            first
             | (refine tk hSG 6 (v := ?_) rfl (by kernel_rfl) (fun _ _ _ h => h) (by rfl) ?_ hHeld ?_; rotate_left; focus (intro w' hSw; obtain ⟨y1, cy, v0, v1⟩ := hmv.out _ hSw; go_simp; (try with_reducible rfl)))
             | refine tn hSG 6 rfl (by kernel_rfl) (fun _ _ _ h => h) (by rfl) hHeld ?_
            (try simp only [zq1, zq2, zq3, Act.put, zq4, zq5, zq6])
            first
             | (refine tk hSG 7 (v := ?_) rfl (by kernel_rfl) (fun _ _ _ h => h) (by rfl) ?_ hHeld ?_; rotate_left; focus (intro w' hSw; obtain ⟨y1, cy, v0, v1⟩ := hmv.out _ hSw; go_simp; (try with_reducible rfl)))
             | refine tn hSG 7 rfl (by kernel_rfl) (fun _ _ _ h => h) (by rfl) hHeld ?_
            (try simp only [zq1, zq2, zq3, Act.put, zq4, zq5, zq6])
            refine tk hSG 8 (v := .pointer (some ⟨gv, ov + j * 5, none⟩)) rfl (by kernel_rfl) (fun _ _ _ h => h) (by rfl) ?_ hHeld ?_
            focus (intro w' hSw; obtain ⟨y1, cy, v0, v1⟩ := hmv.out _ hSw; go_simp; (try (intro hq; omega)))
            (try simp only [zq1, zq2, zq3, Act.put, zq4, zq5, zq6])
            first
             | (refine tk hSG 9 (v := ?_) rfl (by kernel_rfl) (fun _ _ _ h => h) (by rfl) ?_ hHeld ?_; rotate_left; focus (intro w' hSw; obtain ⟨y1, cy, v0, v1⟩ := hmv.out _ hSw; go_simp; (try with_reducible rfl)))
             | refine tn hSG 9 rfl (by kernel_rfl) (fun _ _ _ h => h) (by rfl) hHeld ?_
            (try simp only [zq1, zq2, zq3, Act.put, zq4, zq5, zq6])
            first
             | (refine tk hSG 10 (v := ?_) rfl (by kernel_rfl) (fun _ _ _ h => h) (by rfl) ?_ hHeld ?_; rotate_left; focus (intro w' hSw; obtain ⟨y1, cy, v0, v1⟩ := hmv.out _ hSw; go_simp; (try with_reducible rfl)))
             | refine tn hSG 10 rfl (by kernel_rfl) (fun _ _ _ h => h) (by rfl) hHeld ?_
            (try simp only [zq1, zq2, zq3, Act.put, zq4, zq5, zq6])
            refine tk hSG 11 (v := .bool false) rfl (by kernel_rfl) (fun _ _ _ h => h) (by rfl) ?_ hHeld ?_
            focus (intro w' hSw; obtain ⟨y1, cy, v0, v1⟩ := hmv.out _ hSw; go_simp; (try exact tlo))
            (try simp only [zq1, zq2, zq3, Act.put, zq4, zq5, zq6])
            first
             | (refine tk hSG 12 (v := ?_) rfl (by kernel_rfl) (fun _ _ _ h => h) (by rfl) ?_ hHeld ?_; rotate_left; focus (intro w' hSw; obtain ⟨y1, cy, v0, v1⟩ := hmv.out _ hSw; go_simp; (try with_reducible rfl)))
             | refine tn hSG 12 rfl (by kernel_rfl) (fun _ _ _ h => h) (by rfl) hHeld ?_
            (try simp only [zq1, zq2, zq3, Act.put, zq4, zq5, zq6])
            first
             | (refine tk hSG 13 (v := ?_) rfl (by kernel_rfl) (fun _ _ _ h => h) (by rfl) ?_ hHeld ?_; rotate_left; focus (intro w' hSw; obtain ⟨y1, cy, v0, v1⟩ := hmv.out _ hSw; go_simp; (try with_reducible rfl)))
             | refine tn hSG 13 rfl (by kernel_rfl) (fun _ _ _ h => h) (by rfl) hHeld ?_
            (try simp only [zq1, zq2, zq3, Act.put, zq4, zq5, zq6])
            first
             | (refine tk hSG 14 (v := ?_) rfl (by kernel_rfl) (fun _ _ _ h => h) (by rfl) ?_ hHeld ?_; rotate_left; focus (intro w' hSw; obtain ⟨y1, cy, v0, v1⟩ := hmv.out _ hSw; go_simp; (try with_reducible rfl)))
             | refine tn hSG 14 rfl (by kernel_rfl) (fun _ _ _ h => h) (by rfl) hHeld ?_
            (try simp only [zq1, zq2, zq3, Act.put, zq4, zq5, zq6])
            first
             | (refine tk hSG 15 (v := ?_) rfl (by kernel_rfl) (fun _ _ _ h => h) (by rfl) ?_ hHeld ?_; rotate_left; focus (intro w' hSw; obtain ⟨y1, cy, v0, v1⟩ := hmv.out _ hSw; go_simp; (try with_reducible rfl)))
             | refine tn hSG 15 rfl (by kernel_rfl) (fun _ _ _ h => h) (by rfl) hHeld ?_
            (try simp only [zq1, zq2, zq3, Act.put, zq4, zq5, zq6])
            refine tk hSG 16 (v := .pointer (some ⟨g, n0, none⟩)) rfl (by kernel_rfl) (fun _ _ _ h => h) (by rfl) ?_ hHeld ?_
            focus (intro w' hSw; obtain ⟨y1, cy, v0, v1⟩ := hmv.out _ hSw; go_simp; (try (intro hq; omega)))
            (try simp only [zq1, zq2, zq3, Act.put, zq4, zq5, zq6])
            first
             | (refine tk hSG 17 (v := ?_) rfl (by kernel_rfl) (fun _ _ _ h => h) (by rfl) ?_ hHeld ?_; rotate_left; focus (intro w' hSw; obtain ⟨y1, cy, v0, v1⟩ := hmv.out _ hSw; go_simp; (try with_reducible rfl)))
             | refine tn hSG 17 rfl (by kernel_rfl) (fun _ _ _ h => h) (by rfl) hHeld ?_
            (try simp only [zq1, zq2, zq3, Act.put, zq4, zq5, zq6])
            first
             | (refine tk hSG 18 (v := ?_) rfl (by kernel_rfl) (fun _ _ _ h => h) (by rfl) ?_ hHeld ?_; rotate_left; focus (intro w' hSw; obtain ⟨y1, cy, v0, v1⟩ := hmv.out _ hSw; go_simp; (try with_reducible rfl)))
             | refine tn hSG 18 rfl (by kernel_rfl) (fun _ _ _ h => h) (by rfl) hHeld ?_
            (try simp only [zq1, zq2, zq3, Act.put, zq4, zq5, zq6])
            first
             | (refine tk hSG 19 (v := ?_) rfl (by kernel_rfl) (fun _ _ _ h => h) (by rfl) ?_ hHeld ?_; rotate_left; focus (intro w' hSw; obtain ⟨y1, cy, v0, v1⟩ := hmv.out _ hSw; go_simp; (try with_reducible rfl)))
             | refine tn hSG 19 rfl (by kernel_rfl) (fun _ _ _ h => h) (by rfl) hHeld ?_
            (try simp only [zq1, zq2, zq3, Act.put, zq4, zq5, zq6])
            first
             | (refine tk hSG 20 (v := ?_) rfl (by kernel_rfl) (fun _ _ _ h => h) (by rfl) ?_ hHeld ?_; rotate_left; focus (intro w' hSw; obtain ⟨y1, cy, v0, v1⟩ := hmv.out _ hSw; go_simp; (try with_reducible rfl)))
             | refine tn hSG 20 rfl (by kernel_rfl) (fun _ _ _ h => h) (by rfl) hHeld ?_
            (try simp only [zq1, zq2, zq3, Act.put, zq4, zq5, zq6])
            refine tk hSG 21 (v := .pointer (some ⟨gv, ov + j * 5, none⟩)) rfl (by kernel_rfl) (fun _ _ _ h => h) (by rfl) ?_ hHeld ?_
            focus (intro w' hSw; obtain ⟨y1, cy, v0, v1⟩ := hmv.out _ hSw; go_simp; (try (intro hq; omega)))
            (try simp only [zq1, zq2, zq3, Act.put, zq4, zq5, zq6])
            first
             | (refine tk hSG 22 (v := ?_) rfl (by kernel_rfl) (fun _ _ _ h => h) (by rfl) ?_ hHeld ?_; rotate_left; focus (intro w' hSw; obtain ⟨y1, cy, v0, v1⟩ := hmv.out _ hSw; go_simp; (try with_reducible rfl)))
             | refine tn hSG 22 rfl (by kernel_rfl) (fun _ _ _ h => h) (by rfl) hHeld ?_
            (try simp only [zq1, zq2, zq3, Act.put, zq4, zq5, zq6])
            first
             | (refine tk hSG 23 (v := ?_) rfl (by kernel_rfl) (fun _ _ _ h => h) (by rfl) ?_ hHeld ?_; rotate_left; focus (intro w' hSw; obtain ⟨y1, cy, v0, v1⟩ := hmv.out _ hSw; go_simp; (try with_reducible rfl)))
             | refine tn hSG 23 rfl (by kernel_rfl) (fun _ _ _ h => h) (by rfl) hHeld ?_
            (try simp only [zq1, zq2, zq3, Act.put, zq4, zq5, zq6])
            refine tk hSG 24 (v := .bool true) rfl (by kernel_rfl) (fun _ _ _ h => h) (by rfl) ?_ hHeld ?_
            focus (intro w' hSw; obtain ⟨y1, cy, v0, v1⟩ := hmv.out _ hSw; go_simp; (try exact thi))
            (try simp only [zq1, zq2, zq3, Act.put, zq4, zq5, zq6])
            first
             | (refine tk hSG 25 (v := ?_) rfl (by kernel_rfl) (fun _ _ _ h => h) (by rfl) ?_ hHeld ?_; rotate_left; focus (intro w' hSw; obtain ⟨y1, cy, v0, v1⟩ := hmv.out _ hSw; go_simp; (try with_reducible rfl)))
             | refine tn hSG 25 rfl (by kernel_rfl) (fun _ _ _ h => h) (by rfl) hHeld ?_
            (try simp only [zq1, zq2, zq3, Act.put, zq4, zq5, zq6])
            refine wpAnyG_done (by kernel_rfl) (fun w6 hgD => ?_) _
            have hg6 : Gr W5 w6 := (grDrew W5).tr hgD
            clear hgD hSG hHeld
            have hP := Lib.hid (show TrP R w (.returned (.tuple #[.slice none 0 0, .int .i64 ((kk : Int) + 1), .int .i64 15])) w6 by rw [← hbad.out, show ((kk : Int) + 1) = ((kk + 1 : Nat) : Int) by omega]; exact tr_er (k := kk + 1) (by decide) (Gr.tr hG5.out hg6))
            clear hg6 hT1 hB5 hG5 y0 y1 y2 cy v0 v1 hbad
            go_wp2
            (try rw [Exit.noGoto_ret])
            exact bodyPost_ret (v := .tuple #[.slice none 0 0, .int .i64 ((kk : Int) + 1), .int .i64 15]) (by simp [results, Tryd.results26, go_sem]) rfl hP.out
          · have thi : decide (y > hi) = false := decide_eq_false b2
            have hbt : btw2 y (lo, hi) = true := by unfold btw2; simp; omega
            have hRu2 := Lib.hid (hgo.out hbt)
            have hI2 := Lib.hid (hi2.out hbt)
            clear b1 b2 hgo hi2 hbd hbt
            go_upto_region 23 with fail
            refine wp_region_G (S := fun wq => Gr W5 wq) (by kernel_rfl) (grDrew _) (fun hHeld => ?_)
            have hSG : Hid (∀ wp wq : World, Gr W5 wp → Gr wp wq → Gr W5 wq) := Lib.hid (fun _ _ h k => h.tr k)
            have hmv := Lib.hid (fun (wq : World) (hq : Gr W5 wq) => And.intro (grCell hq y1) (And.intro (grCell hq cy) (And.intro (grCell hq v0) (grCell hq v1))))
            first
             | (refine tk hSG 0 (v := ?_) rfl (by kernel_rfl) (fun _ _ _ h => h) (by rfl) ?_ hHeld ?_; rotate_left; focus (intro w' hSw; obtain ⟨y1, cy, v0, v1⟩ := hmv.out _ hSw; go_simp; (try with_reducible rfl)))
             | refine tn hSG 0 rfl (by kernel_rfl) (fun _ _ _ h => h) (by rfl) hHeld ?_
            (try simp only [zq1, zq2, zq3, Act.put, zq4, zq5, zq6])
            first
             | (refine tk hSG 1 (v := ?_) rfl (by kernel_rfl) (fun _ _ _ h => h) (by rfl) ?_ hHeld ?_; rotate_left; focus (intro w' hSw; obtain ⟨y1, cy, v0, v1⟩ := hmv.out _ hSw; go_simp; (try with_reducible rfl)))
             | refine tn hSG 1 rfl (by kernel_rfl) (fun _ _ _ h => h) (by rfl) hHeld ?_
            (try simp only [zq1, zq2, zq3, Act.put, zq4, zq5, zq6])
            first
             | (refine tk hSG 2 (v := ?_) rfl (by kernel_rfl) (fun _ _ _ h => h) (by rfl) ?_ hHeld ?_; rotate_left; focus (intro w' hSw; obtain ⟨y1, cy, v0, v1⟩ := hmv.out _ hSw; go_simp; (try with_reducible rfl)))
             | refine tn hSG 2 rfl (by kernel_rfl) (fun _ _ _ h => h) (by rfl) hHeld ?_
            (try simp only [zq1, zq2, zq3, Act.put, zq4, zq5, zq6])
            refine tk hSG 3 (v := .pointer (some ⟨g, n0, none⟩)) rfl (by kernel_rfl) (fun _ _ _ h => h) (by rfl) ?_ hHeld ?_
            focus (intro w' hSw; obtain ⟨y1, cy, v0, v1⟩ := hmv.out _ hSw; go_simp; (try (intro hq; omega)))
            (try simp only [zq1, zq2, zq3, Act.put, zq4, zq5, zq6])
            first
             | (refine tk hSG 4 (v := ?_) rfl (by kernel_rfl) (fun _ _ _ h => h) (by rfl) ?_ hHeld ?_; rotate_left; focus (intro w' hSw; obtain ⟨y1, cy, v0, v1⟩ := hmv.out _ hSw; go_simp; (try with_reducible rfl)))
             | refine tn hSG 4 rfl (by kernel_rfl) (fun _ _ _ h => h) (by rfl) hHeld ?_
            (try simp only [zq1, zq2, zq3, Act.put, zq4, zq5, zq6])
            first
             | (refine tk hSG 5 (v := ?_) rfl (by kernel_rfl) (fun _ _ _ h => h) (by rfl) ?_ hHeld ?_; rotate_left; focus (intro w' hSw; obtain ⟨y1, cy, v0, v1⟩ := hmv.out _ hSw; go_simp; (try with_reducible rfl)))
             | refine tn hSG 5 rfl (by kernel_rfl) (fun _ _ _ h => h) (by rfl) hHeld ?_
            (try simp only [zq1, zq2, zq3, Act.put, zq4, zq5, zq6])
            first
             | (refine tk hSG 6 (v := ?_) rfl (by kernel_rfl) (fun _ _ _ h => h) (by rfl) ?_ hHeld ?_; rotate_left; focus (intro w' hSw; obtain ⟨y1, cy, v0, v1⟩ := hmv.out _ hSw; go_simp; (try with_reducible rfl)))
             | refine tn hSG 6 rfl (by kernel_rfl) (fun _ _ _ h => h) (by rfl) hHeld ?_
            (try simp only [zq1, zq2, zq3, Act.put, zq4, zq5, zq6])
            first
             | (refine tk hSG 7 (v := ?_) rfl (by kernel_rfl) (fun _ _ _ h => h) (by rfl) ?_ hHeld ?_; rotate_left; focus (intro w' hSw; obtain ⟨y1, cy, v0, v1⟩ := hmv.out _ hSw; go_simp; (try with_reducible rfl)))
             | refine tn hSG 7 rfl (by kernel_rfl) (fun _ _ _ h => h) (by rfl) hHeld ?_
            (try simp only [zq1, zq2, zq3, Act.put, zq4, zq5, zq6])
            refine tk hSG 8 (v := .pointer (some ⟨gv, ov + j * 5, none⟩)) rfl (by kernel_rfl) (fun _ _ _ h => h) (by rfl) ?_ hHeld ?_
            focus (intro w' hSw; obtain ⟨y1, cy, v0, v1⟩ := hmv.out _ hSw; go_simp; (try (intro hq; omega)))
            (try simp only [zq1, zq2, zq3, Act.put, zq4, zq5, zq6])
            first
             | (refine tk hSG 9 (v := ?_) rfl (by kernel_rfl) (fun _ _ _ h => h) (by rfl) ?_ hHeld ?_; rotate_left; focus (intro w' hSw; obtain ⟨y1, cy, v0, v1⟩ := hmv.out _ hSw; go_simp; (try with_reducible rfl)))
             | refine tn hSG 9 rfl (by kernel_rfl) (fun _ _ _ h => h) (by rfl) hHeld ?_
            (try simp only [zq1, zq2, zq3, Act.put, zq4, zq5, zq6])
            first
             | (refine tk hSG 10 (v := ?_) rfl (by kernel_rfl) (fun _ _ _ h => h) (by rfl) ?_ hHeld ?_; rotate_left; focus (intro w' hSw; obtain ⟨y1, cy, v0, v1⟩ := hmv.out _ hSw; go_simp; (try with_reducible rfl)))
             | refine tn hSG 10 rfl (by kernel_rfl) (fun _ _ _ h => h) (by rfl) hHeld ?_
            (try simp only [zq1, zq2, zq3, Act.put, zq4, zq5, zq6])
            refine tk hSG 11 (v := .bool false) rfl (by kernel_rfl) (fun _ _ _ h => h) (by rfl) ?_ hHeld ?_
            focus (intro w' hSw; obtain ⟨y1, cy, v0, v1⟩ := hmv.out _ hSw; go_simp; (try exact tlo))
            (try simp only [zq1, zq2, zq3, Act.put, zq4, zq5, zq6])
            first
             | (refine tk hSG 12 (v := ?_) rfl (by kernel_rfl) (fun _ _ _ h => h) (by rfl) ?_ hHeld ?_; rotate_left; focus (intro w' hSw; obtain ⟨y1, cy, v0, v1⟩ := hmv.out _ hSw; go_simp; (try with_reducible rfl)))
             | refine tn hSG 12 rfl (by kernel_rfl) (fun _ _ _ h => h) (by rfl) hHeld ?_
            (try simp only [zq1, zq2, zq3, Act.put, zq4, zq5, zq6])
            first
             | (refine tk hSG 13 (v := ?_) rfl (by kernel_rfl) (fun _ _ _ h => h) (by rfl) ?_ hHeld ?_; rotate_left; focus (intro w' hSw; obtain ⟨y1, cy, v0, v1⟩ := hmv.out _ hSw; go_simp; (try with_reducible rfl)))
             | refine tn hSG 13 rfl (by kernel_rfl) (fun _ _ _ h => h) (by rfl) hHeld ?_
            (try simp only [zq1, zq2, zq3, Act.put, zq4, zq5, zq6])
            first
             | (refine tk hSG 14 (v := ?_) rfl (by kernel_rfl) (fun _ _ _ h => h) (by rfl) ?_ hHeld ?_; rotate_left; focus (intro w' hSw; obtain ⟨y1, cy, v0, v1⟩ := hmv.out _ hSw; go_simp; (try with_reducible rfl)))
             | refine tn hSG 14 rfl (by kernel_rfl) (fun _ _ _ h => h) (by rfl) hHeld ?_
            (try simp only [zq1, zq2, zq3, Act.put, zq4, zq5, zq6])
            first
             | (refine tk hSG 15 (v := ?_) rfl (by kernel_rfl) (fun _ _ _ h => h) (by rfl) ?_ hHeld ?_; rotate_left; focus (intro w' hSw; obtain ⟨y1, cy, v0, v1⟩ := hmv.out _ hSw; go_simp; (try with_reducible rfl)))
             | refine tn hSG 15 rfl (by kernel_rfl) (fun _ _ _ h => h) (by rfl) hHeld ?_
            (try simp only [zq1, zq2, zq3, Act.put, zq4, zq5, zq6])
            refine tk hSG 16 (v := .pointer (some ⟨g, n0, none⟩)) rfl (by kernel_rfl) (fun _ _ _ h => h) (by rfl) ?_ hHeld ?_
            focus (intro w' hSw; obtain ⟨y1, cy, v0, v1⟩ := hmv.out _ hSw; go_simp; (try (intro hq; omega)))
            (try simp only [zq1, zq2, zq3, Act.put, zq4, zq5, zq6])
            first
             | (refine tk hSG 17 (v := ?_) rfl (by kernel_rfl) (fun _ _ _ h => h) (by rfl) ?_ hHeld ?_; rotate_left; focus (intro w' hSw; obtain ⟨y1, cy, v0, v1⟩ := hmv.out _ hSw; go_simp; (try with_reducible rfl)))
             | refine tn hSG 17 rfl (by kernel_rfl) (fun _ _ _ h => h) (by rfl) hHeld ?_
            (try simp only [zq1, zq2, zq3, Act.put, zq4, zq5, zq6])
            first
             | (refine tk hSG 18 (v := ?_) rfl (by kernel_rfl) (fun _ _ _ h => h) (by rfl) ?_ hHeld ?_; rotate_left; focus (intro w' hSw; obtain ⟨y1, cy, v0, v1⟩ := hmv.out _ hSw; go_simp; (try with_reducible rfl)))
             | refine tn hSG 18 rfl (by kernel_rfl) (fun _ _ _ h => h) (by rfl) hHeld ?_
            (try simp only [zq1, zq2, zq3, Act.put, zq4, zq5, zq6])
            first
             | (refine tk hSG 19 (v := ?_) rfl (by kernel_rfl) (fun _ _ _ h => h) (by rfl) ?_ hHeld ?_; rotate_left; focus (intro w' hSw; obtain ⟨y1, cy, v0, v1⟩ := hmv.out _ hSw; go_simp; (try with_reducible rfl)))
             | refine tn hSG 19 rfl (by kernel_rfl) (fun _ _ _ h => h) (by rfl) hHeld ?_
            (try simp only [zq1, zq2, zq3, Act.put, zq4, zq5, zq6])
            first
             | (refine tk hSG 20 (v := ?_) rfl (by kernel_rfl) (fun _ _ _ h => h) (by rfl) ?_ hHeld ?_; rotate_left; focus (intro w' hSw; obtain ⟨y1, cy, v0, v1⟩ := hmv.out _ hSw; go_simp; (try with_reducible rfl)))
             | refine tn hSG 20 rfl (by kernel_rfl) (fun _ _ _ h => h) (by rfl) hHeld ?_
            (try simp only [zq1, zq2, zq3, Act.put, zq4, zq5, zq6])
            refine tk hSG 21 (v := .pointer (some ⟨gv, ov + j * 5, none⟩)) rfl (by kernel_rfl) (fun _ _ _ h => h) (by rfl) ?_ hHeld ?_
            focus (intro w' hSw; obtain ⟨y1, cy, v0, v1⟩ := hmv.out _ hSw; go_simp; (try (intro hq; omega)))
            (try simp only [zq1, zq2, zq3, Act.put, zq4, zq5, zq6])
            first
             | (refine tk hSG 22 (v := ?_) rfl (by kernel_rfl) (fun _ _ _ h => h) (by rfl) ?_ hHeld ?_; rotate_left; focus (intro w' hSw; obtain ⟨y1, cy, v0, v1⟩ := hmv.out _ hSw; go_simp; (try with_reducible rfl)))
             | refine tn hSG 22 rfl (by kernel_rfl) (fun _ _ _ h => h) (by rfl) hHeld ?_
            (try simp only [zq1, zq2, zq3, Act.put, zq4, zq5, zq6])
            first
             | (refine tk hSG 23 (v := ?_) rfl (by kernel_rfl) (fun _ _ _ h => h) (by rfl) ?_ hHeld ?_; rotate_left; focus (intro w' hSw; obtain ⟨y1, cy, v0, v1⟩ := hmv.out _ hSw; go_simp; (try with_reducible rfl)))
             | refine tn hSG 23 rfl (by kernel_rfl) (fun _ _ _ h => h) (by rfl) hHeld ?_
            (try simp only [zq1, zq2, zq3, Act.put, zq4, zq5, zq6])
            refine tk hSG 24 (v := .bool false) rfl (by kernel_rfl) (fun _ _ _ h => h) (by rfl) ?_ hHeld ?_
            focus (intro w' hSw; obtain ⟨y1, cy, v0, v1⟩ := hmv.out _ hSw; go_simp; (try exact thi))
            (try simp only [zq1, zq2, zq3, Act.put, zq4, zq5, zq6])
            first
             | (refine tk hSG 25 (v := ?_) rfl (by kernel_rfl) (fun _ _ _ h => h) (by rfl) ?_ hHeld ?_; rotate_left; focus (intro w' hSw; obtain ⟨y1, cy, v0, v1⟩ := hmv.out _ hSw; go_simp; (try with_reducible rfl)))
             | refine tn hSG 25 rfl (by kernel_rfl) (fun _ _ _ h => h) (by rfl) hHeld ?_
            (try simp only [zq1, zq2, zq3, Act.put, zq4, zq5, zq6])
            refine wpAnyG_done (by kernel_rfl) (fun w6 hgD => ?_) _
            have hg6 : Gr W5 w6 := (grDrew W5).tr hgD
            clear hgD hSG hHeld
            have hT6 := Lib.hid (hT1.out.gr hg6)
            have hB6 := Lib.hid (hB5.out.trans (hg6.mono (Nat.le_trans hB1.out hB5.out.size)))
            have hG6 := Lib.hid (Gr.tr hG5.out hg6)
            have y1 := grCell hg6 y1
            have cy := grCell hg6 cy
            clear hg6 hT1 hB5 hG5 y0 y2 v0 v1
            go_upto_region 25 with fail
            refine wp_region_X (S := fun wq => Gr w6 wq) [9] (by kernel_rfl) (grDrew _) (fun hHeld => ?_)
            have hSG : Hid (∀ wp wq : World, Gr w6 wp → Gr wp wq → Gr w6 wq) := Lib.hid (fun _ _ h k => h.tr k)
            have hmv := Lib.hid (fun (wq : World) (hq : Gr w6 wq) => And.intro (grCell hq y1) (grCell hq cy))
            first
             | (refine xk hSG 0 [8, 9] (v := ?_) rfl (by kernel_rfl) (fun _ _ _ h => h) (by rfl) ?_ hHeld ?_; rotate_left; focus (intro w' hSw; obtain ⟨y1, cy⟩ := hmv.out _ hSw; go_simp; (try with_reducible rfl)))
             | refine xn hSG 0 [8, 9] rfl (by kernel_rfl) (fun _ _ _ h => h) (by rfl) hHeld ?_
            (try simp only [zq1, zq2, zq3, Act.put, zq4, zq5, zq6])
            first
             | (refine xk hSG 1 [2, 8, 9] (v := ?_) rfl (by kernel_rfl) (fun _ _ _ h => h) (by rfl) ?_ hHeld ?_; rotate_left; focus (intro w' hSw; obtain ⟨y1, cy⟩ := hmv.out _ hSw; go_simp; (try with_reducible rfl)))
             | refine xn hSG 1 [2, 8, 9] rfl (by kernel_rfl) (fun _ _ _ h => h) (by rfl) hHeld ?_
            (try simp only [zq1, zq2, zq3, Act.put, zq4, zq5, zq6])
            first
             | (refine xk hSG 2 [8, 9] (v := ?_) rfl (by kernel_rfl) (fun _ _ _ h => h) (by rfl) ?_ hHeld ?_; rotate_left; focus (intro w' hSw; obtain ⟨y1, cy⟩ := hmv.out _ hSw; go_simp; (try with_reducible rfl)))
             | refine xn hSG 2 [8, 9] rfl (by kernel_rfl) (fun _ _ _ h => h) (by rfl) hHeld ?_
            (try simp only [zq1, zq2, zq3, Act.put, zq4, zq5, zq6])
            first
             | (refine xk hSG 3 [6, 7, 8, 9] (v := ?_) rfl (by kernel_rfl) (fun _ _ _ h => h) (by rfl) ?_ hHeld ?_; rotate_left; focus (intro w' hSw; obtain ⟨y1, cy⟩ := hmv.out _ hSw; go_simp; (try with_reducible rfl)))
             | refine xn hSG 3 [6, 7, 8, 9] rfl (by kernel_rfl) (fun _ _ _ h => h) (by rfl) hHeld ?_
            (try simp only [zq1, zq2, zq3, Act.put, zq4, zq5, zq6])
            first
             | (refine xk hSG 4 [5, 6, 7, 8, 9] (v := ?_) rfl (by kernel_rfl) (fun _ _ _ h => h) (by rfl) ?_ hHeld ?_; rotate_left; focus (intro w' hSw; obtain ⟨y1, cy⟩ := hmv.out _ hSw; go_simp; (try with_reducible rfl)))
             | refine xn hSG 4 [5, 6, 7, 8, 9] rfl (by kernel_rfl) (fun _ _ _ h => h) (by rfl) hHeld ?_
            (try simp only [zq1, zq2, zq3, Act.put, zq4, zq5, zq6])
            first
             | (refine xk hSG 5 [6, 7, 8, 9] (v := ?_) rfl (by kernel_rfl) (fun _ _ _ h => h) (by rfl) ?_ hHeld ?_; rotate_left; focus (intro w' hSw; obtain ⟨y1, cy⟩ := hmv.out _ hSw; go_simp; (try with_reducible rfl)))
             | refine xn hSG 5 [6, 7, 8, 9] rfl (by kernel_rfl) (fun _ _ _ h => h) (by rfl) hHeld ?_
            (try simp only [zq1, zq2, zq3, Act.put, zq4, zq5, zq6])
            refine xk hSG 6 [7, 8, 9] (v := .pointer (some ⟨g, n0, none⟩)) rfl (by kernel_rfl) (fun _ _ _ h => h) (by rfl) ?_ hHeld ?_
            focus (intro w' hSw; obtain ⟨y1, cy⟩ := hmv.out _ hSw; go_simp; (try (intro hq; omega)))
            (try simp only [zq1, zq2, zq3, Act.put, zq4, zq5, zq6])
            first
             | (refine xk hSG 7 [8, 9] (v := ?_) rfl (by kernel_rfl) (fun _ _ _ h => h) (by rfl) ?_ hHeld ?_; rotate_left; focus (intro w' hSw; obtain ⟨y1, cy⟩ := hmv.out _ hSw; go_simp; (try with_reducible rfl)))
             | refine xn hSG 7 [8, 9] rfl (by kernel_rfl) (fun _ _ _ h => h) (by rfl) hHeld ?_
            (try simp only [zq1, zq2, zq3, Act.put, zq4, zq5, zq6])
            refine xk hSG 8 [9] (v := .pointer (some ⟨gn, j, none⟩)) rfl (by kernel_rfl) (fun _ _ _ h => h) (by rfl) ?_ hHeld ?_
            focus (intro w' hSw; obtain ⟨y1, cy⟩ := hmv.out _ hSw; go_simp; (try (intro hq; omega)))
            (try simp only [zq1, zq2, zq3, Act.put, zq4, zq5, zq6])
            refine wpAnyX_oneX (i := 9) (by kernel_rfl) (by kernel_rfl) rfl (fun w7 hg K hK => ?_)
            have hg7 := hHeld.out.tr hg
            have hT7 := hT6.out.gr hg7
            obtain ⟨cz, dz, hgB2, hset⟩ := hT7.set2 hmH.out
            go_simp
            refine hK.out _ _ ?_
            have hT8 := Lib.hid (hset y)
            have hB8 := Lib.hid (belK (i := j) (u := .int .i64 y) (hB6.out.trans (hg7.mono (Nat.le_trans hB1.out hB6.out.size))) hgB2)
            clear hK K hg hHeld hSG hg7 hT7 cz dz hset hgB2 hT6 hB6 hG6 y1 cy
            refine wpAnyX_done (by kernel_rfl) (fun w8 hg => ?_) _
            have hT9 := Lib.hid (hT8.out.gr hg)
            have hB9 := Lib.hid (hB8.out.trans (hg.mono (Nat.le_trans hB1.out hB8.out.size)))
            clear hg hT8 hB8
            go_wp2
            go_roundg gq
            case measure => omega
            case rel => exact ⟨i + 1, kk + 1, r, sti.set j y, by omega, by omega, by go_num, by go_num, hI2, hRu2, hT9, hB9⟩
      obtain ⟨y, a, r, hs2⟩ := two_of (s := s) (t := s.length) (by have := k1H.out; rw [takes_2 (by rw [hkH.out]; omega)] at this; exact this) rfl
      subst hs2
      obtain ⟨g, cap, hS, hcap, cy, hT1⟩ := hO5.out.top
      simp only [Value.slice.injEq] at hS
      obtain ⟨rfl, -, rfl⟩ := hS
      obtain ⟨g2, cap2, hS2, hcap2, ca, hT2⟩ := hT1.top
      simp only [Value.slice.injEq, Option.some.injEq, Addr.mk.injEq] at hS2
      obtain ⟨⟨rfl, -⟩, -, rfl⟩ := hS2
      have hvy := hI.out.sv y (by simp)
      have hva := hI.out.sv a (by simp)
      have hT2 := Lib.hid hT2
      have hrs := Lib.hid (show r.length ≤ 100 by have := hs64.out; simp only [List.length_cons] at this; omega)
      have hrs0 := hrs
      have hl2 : (y :: a :: r).length = r.length + 2 := rfl
      have hl1 : (a :: r).length = r.length + 1 := rfl
      have qa : IntKind.i64.wrap (((y :: a :: r).length : Int) - 2) = (r.length : Int) := by rw [hl2, IntWalk.i64_in _ (by have := hrs.out; omega)]; omega
      have qb : IntKind.i64.wrap (((y :: a :: r).length : Int) - 1) = ((a :: r).length : Int) := by rw [hl2, hl1, IntWalk.i64_in _ (by have := hrs.out; omega)]; omega
      have u0 : r.length < (y :: a :: r).length := by rw [hl2]; omega
      have u1 : (a :: r).length < (y :: a :: r).length := by rw [hl2, hl1]; omega
      have u2 : (y :: a :: r).length ≤ sc2 := by rw [hl2]; rw [hl1] at hcap; omega
      clear hT1 hO5 hl2 hl1 hcap hcap2 hs64
      have hko : 4 ≤ (k : Int) ∧ (k : Int) ≤ 10 := by omega
      rw [step_two (by rw [hkH.out]; exact hko), hkH.out] at hst
      have HC := Lib.hid (rcalc_any k a y hko hva hvy)
      rcases hcl : clc (k : Int) a y with ⟨cv, ce⟩
      rw [hcl] at HC hst
      simp only at HC
      have t1 : ((k : Int) == 1) = false := by simp; omega
      have t2 : ((k : Int) == 2) = false := by simp; omega
      have t3 : ((k : Int) == 3) = false := by simp; omega
      have t11 : ((k : Int) == 11) = false := by simp; omega
      have t12 : ((k : Int) == 12) = false := by simp; omega
      have t13 : ((k : Int) == 13) = false := by simp; omega
      have hc0 : ce = 0 → c = ⟨cv :: r, sti, i + 1⟩ ∧ er = 0 := fun h => by subst h; unfold psh at hst; simp only [if_true] at hst; cases hst; exact ⟨rfl, rfl⟩
      have hc1 : ce ≠ 0 → er = ce := fun h => by unfold psh at hst; rw [if_neg h] at hst; cases hst; rfl
      have hgo := Lib.hid (fun h : ce = 0 => show run vs [i0, i1, i2, i3] l gq (i + 1) (cv :: r) sti (kk + 1) = R by have h2 := hc0 h; rw [← hRu.out, run_ok hxH.out (c := ⟨cv :: r, sti, i + 1⟩) (by rw [hstH2.out, h2.1, h2.2])])
      have hi2 := Lib.hid (fun h : ce = 0 => show Inv H vs l (i + 1) (cv :: r) sti by have h2 := hc0 h; have h3 := (hinv.resolve_right (by omega)).2.1; rw [h2.1] at h3; exact h3)
      have hbad := Lib.hid (fun h : ce ≠ 0 => show (c.st, kk + 1, ce) = R by rw [← hRu.out, run_er hxH.out hstH2.out (by rw [hc1 h]; exact h), hc1 h])
      clear hst hstH2 hinv hc0 hc1 hcl hko hvy hva hI hRu hxH hkH f1H k1H hop
      generalize (y :: a :: r).length = n2 at *
      generalize (a :: r).length = n1 at *
      generalize hgn : r.length = n0 at *
      have hgnH := Lib.hid hgn
      clear hgn
      go_upto_region 12 with fail
      refine wp_region_G (S := fun wq => Gr W5 wq) (by kernel_rfl) (grDrew _) (fun hHeld => ?_)
      have hSG : Hid (∀ wp wq : World, Gr W5 wp → Gr wp wq → Gr W5 wq) := Lib.hid (fun _ _ h k => h.tr k)
      have hmv := Lib.hid (fun (wq : World) (hq : Gr W5 wq) => And.intro (grCell hq y0) (And.intro (grCell hq ca) (grCell hq cy)))
      first
       | (refine tk hSG 0 (v := ?_) rfl (by kernel_rfl) (fun _ _ _ h => h) (by rfl) ?_ hHeld ?_; rotate_left; focus (intro w' hSw; obtain ⟨y0, ca, cy⟩ := hmv.out _ hSw; go_simp; (try with_reducible rfl)))
       | refine tn hSG 0 rfl (by kernel_rfl) (fun _ _ _ h => h) (by rfl) hHeld ?_
      (try simp only [zq1, zq2, zq3, Act.put, zq4, zq5, zq6])
      first
       | (refine tk hSG 1 (v := ?_) rfl (by kernel_rfl) (fun _ _ _ h => h) (by rfl) ?_ hHeld ?_; rotate_left; focus (intro w' hSw; obtain ⟨y0, ca, cy⟩ := hmv.out _ hSw; go_simp; (try with_reducible rfl)))
       | refine tn hSG 1 rfl (by kernel_rfl) (fun _ _ _ h => h) (by rfl) hHeld ?_
      (try simp only [zq1, zq2, zq3, Act.put, zq4, zq5, zq6])
      first
       | (refine tk hSG 2 (v := ?_) rfl (by kernel_rfl) (fun _ _ _ h => h) (by rfl) ?_ hHeld ?_; rotate_left; focus (intro w' hSw; obtain ⟨y0, ca, cy⟩ := hmv.out _ hSw; go_simp; (try with_reducible rfl)))
       | refine tn hSG 2 rfl (by kernel_rfl) (fun _ _ _ h => h) (by rfl) hHeld ?_
      (try simp only [zq1, zq2, zq3, Act.put, zq4, zq5, zq6])
      first
       | (refine tk hSG 3 (v := ?_) rfl (by kernel_rfl) (fun _ _ _ h => h) (by rfl) ?_ hHeld ?_; rotate_left; focus (intro w' hSw; obtain ⟨y0, ca, cy⟩ := hmv.out _ hSw; go_simp; (try with_reducible rfl)))
       | refine tn hSG 3 rfl (by kernel_rfl) (fun _ _ _ h => h) (by rfl) hHeld ?_
      (try simp only [zq1, zq2, zq3, Act.put, zq4, zq5, zq6])
      first
       | (refine tk hSG 4 (v := ?_) rfl (by kernel_rfl) (fun _ _ _ h => h) (by rfl) ?_ hHeld ?_; rotate_left; focus (intro w' hSw; obtain ⟨y0, ca, cy⟩ := hmv.out _ hSw; go_simp; (try with_reducible rfl)))
       | refine tn hSG 4 rfl (by kernel_rfl) (fun _ _ _ h => h) (by rfl) hHeld ?_
      (try simp only [zq1, zq2, zq3, Act.put, zq4, zq5, zq6])
      refine tk hSG 5 (v := .pointer (some ⟨g, n0, none⟩)) rfl (by kernel_rfl) (fun _ _ _ h => h) (by rfl) ?_ hHeld ?_
      focus (intro w' hSw; obtain ⟨y0, ca, cy⟩ := hmv.out _ hSw; go_simp; (try (intro hq; omega)))
      (try simp only [zq1, zq2, zq3, Act.put, zq4, zq5, zq6])
      first
       | (refine tk hSG 6 (v := ?_) rfl (by kernel_rfl) (fun _ _ _ h => h) (by rfl) ?_ hHeld ?_; rotate_left; focus (intro w' hSw; obtain ⟨y0, ca, cy⟩ := hmv.out _ hSw; go_simp; (try with_reducible rfl)))
       | refine tn hSG 6 rfl (by kernel_rfl) (fun _ _ _ h => h) (by rfl) hHeld ?_
      (try simp only [zq1, zq2, zq3, Act.put, zq4, zq5, zq6])
      first
       | (refine tk hSG 7 (v := ?_) rfl (by kernel_rfl) (fun _ _ _ h => h) (by rfl) ?_ hHeld ?_; rotate_left; focus (intro w' hSw; obtain ⟨y0, ca, cy⟩ := hmv.out _ hSw; go_simp; (try with_reducible rfl)))
       | refine tn hSG 7 rfl (by kernel_rfl) (fun _ _ _ h => h) (by rfl) hHeld ?_
      (try simp only [zq1, zq2, zq3, Act.put, zq4, zq5, zq6])
      first
       | (refine tk hSG 8 (v := ?_) rfl (by kernel_rfl) (fun _ _ _ h => h) (by rfl) ?_ hHeld ?_; rotate_left; focus (intro w' hSw; obtain ⟨y0, ca, cy⟩ := hmv.out _ hSw; go_simp; (try with_reducible rfl)))
       | refine tn hSG 8 rfl (by kernel_rfl) (fun _ _ _ h => h) (by rfl) hHeld ?_
      (try simp only [zq1, zq2, zq3, Act.put, zq4, zq5, zq6])
      first
       | (refine tk hSG 9 (v := ?_) rfl (by kernel_rfl) (fun _ _ _ h => h) (by rfl) ?_ hHeld ?_; rotate_left; focus (intro w' hSw; obtain ⟨y0, ca, cy⟩ := hmv.out _ hSw; go_simp; (try with_reducible rfl)))
       | refine tn hSG 9 rfl (by kernel_rfl) (fun _ _ _ h => h) (by rfl) hHeld ?_
      (try simp only [zq1, zq2, zq3, Act.put, zq4, zq5, zq6])
      refine tk hSG 10 (v := .pointer (some ⟨g, n1, none⟩)) rfl (by kernel_rfl) (fun _ _ _ h => h) (by rfl) ?_ hHeld ?_
      focus (intro w' hSw; obtain ⟨y0, ca, cy⟩ := hmv.out _ hSw; go_simp; (try (intro hq; omega)))
      (try simp only [zq1, zq2, zq3, Act.put, zq4, zq5, zq6])
      first
       | (refine tk hSG 11 (v := ?_) rfl (by kernel_rfl) (fun _ _ _ h => h) (by rfl) ?_ hHeld ?_; rotate_left; focus (intro w' hSw; obtain ⟨y0, ca, cy⟩ := hmv.out _ hSw; go_simp; (try with_reducible rfl)))
       | refine tn hSG 11 rfl (by kernel_rfl) (fun _ _ _ h => h) (by rfl) hHeld ?_
      (try simp only [zq1, zq2, zq3, Act.put, zq4, zq5, zq6])
      refine tc hSG 12 (v := .tuple #[.int .i64 cv, .int .i64 ce]) rfl (by kernel_rfl) (fun _ _ _ h => h) (by rfl) ?_ hHeld ?_
      focus (intro wz hSw K hK; obtain ⟨y0, ca, cy⟩ := hmv.out _ hSw; go_simp; refine (HC.out _).mono ?_; rintro e w2 ⟨rfl, hw2⟩; have hb2 := (show Gr wz w2 by rw [hw2]; exact Below.refl _ _); first | exact hK.out _ hb2 | (have h9 := hK.out _ hb2; (try simp only [zq1, zq2, zq3, Act.put, zq4, zq5, zq6] at h9 ⊢); exact h9) | (have h9 := hK.out _ hb2; go_simp; exact h9))
      (try simp only [zq1, zq2, zq3, Act.put, zq4, zq5, zq6])
      first
       | (refine tk hSG 13 (v := ?_) rfl (by kernel_rfl) (fun _ _ _ h => h) (by rfl) ?_ hHeld ?_; rotate_left; focus (intro w' hSw; obtain ⟨y0, ca, cy⟩ := hmv.out _ hSw; go_simp; (try with_reducible rfl)))
       | refine tn hSG 13 rfl (by kernel_rfl) (fun _ _ _ h => h) (by rfl) hHeld ?_
      (try simp only [zq1, zq2, zq3, Act.put, zq4, zq5, zq6])
      first
       | (refine tk hSG 14 (v := ?_) rfl (by kernel_rfl) (fun _ _ _ h => h) (by rfl) ?_ hHeld ?_; rotate_left; focus (intro w' hSw; obtain ⟨y0, ca, cy⟩ := hmv.out _ hSw; go_simp; (try with_reducible rfl)))
       | refine tn hSG 14 rfl (by kernel_rfl) (fun _ _ _ h => h) (by rfl) hHeld ?_
      (try simp only [zq1, zq2, zq3, Act.put, zq4, zq5, zq6])
      first
       | (refine tk hSG 15 (v := ?_) rfl (by kernel_rfl) (fun _ _ _ h => h) (by rfl) ?_ hHeld ?_; rotate_left; focus (intro w' hSw; obtain ⟨y0, ca, cy⟩ := hmv.out _ hSw; go_simp; (try with_reducible rfl)))
       | refine tn hSG 15 rfl (by kernel_rfl) (fun _ _ _ h => h) (by rfl) hHeld ?_
      (try simp only [zq1, zq2, zq3, Act.put, zq4, zq5, zq6])
      first
       | (refine tk hSG 16 (v := ?_) rfl (by kernel_rfl) (fun _ _ _ h => h) (by rfl) ?_ hHeld ?_; rotate_left; focus (intro w' hSw; obtain ⟨y0, ca, cy⟩ := hmv.out _ hSw; go_simp; (try with_reducible rfl)))
       | refine tn hSG 16 rfl (by kernel_rfl) (fun _ _ _ h => h) (by rfl) hHeld ?_
      (try simp only [zq1, zq2, zq3, Act.put, zq4, zq5, zq6])
      first
       | (refine tk hSG 17 (v := ?_) rfl (by kernel_rfl) (fun _ _ _ h => h) (by rfl) ?_ hHeld ?_; rotate_left; focus (intro w' hSw; obtain ⟨y0, ca, cy⟩ := hmv.out _ hSw; go_simp; (try with_reducible rfl)))
       | refine tn hSG 17 rfl (by kernel_rfl) (fun _ _ _ h => h) (by rfl) hHeld ?_
      (try simp only [zq1, zq2, zq3, Act.put, zq4, zq5, zq6])
      refine wpAnyG_done (by kernel_rfl) (fun w6 hgD => ?_) _
      have hg6 : Gr W5 w6 := (grDrew W5).tr hgD
      clear hgD hSG hHeld
      have hT6 := Lib.hid (hT2.out.gr hg6)
      have hB6 := Lib.hid (hB5.out.trans (hg6.mono (Nat.le_trans hB1.out hB5.out.size)))
      have hG6 := Lib.hid (Gr.tr hG5.out hg6)
      clear hg6 hT2 hB5 hG5 y0 y1 y2 ca cy
      by_cases h0 : ce = 0
      · have hRu2 := Lib.hid (hgo.out h0)
        have hI2 := Lib.hid (hi2.out h0)
        subst h0
        clear hgo hi2 hbad
        go_wp2_with (at_builtin; refine wpList_push rfl _ _ rfl (w.heap.size + 1) _ _ sti r rfl (hT6.out.gr (grAlloc _ _)) cv w6.heap.size rfl (cells1k (nBlk _ _ _ rfl)) ?c1 ?c2 ?_)
        case c1 => rw [hgnH.out]; exact hrs0.out
        case c2 => have := hB6.out.size; have := hB1.out; simp; omega
        intro v' w7 hO7 hb7
        have hO7 := Lib.hid hO7
        have hB7 := Lib.hid ((hB6.out.trans ((grAlloc _ _).mono (Nat.le_trans hB1.out hB6.out.size))).trans hb7)
        clear hb7 hT6 hB6 hG6
        go_wp2
        go_roundg gq
        case measure => omega
        case rel => exact ⟨i + 1, kk + 1, cv :: r, sti, by omega, by omega, by go_num, by go_num, hI2, hRu2, hO7, hB7⟩
      · have hP := Lib.hid (show TrP R w (.returned (.tuple #[.slice none 0 0, .int .i64 ((kk : Int) + 1), .int .i64 ce])) w6 by rw [← hbad.out h0, show ((kk : Int) + 1) = ((kk + 1 : Nat) : Int) by omega]; exact tr_er (k := kk + 1) h0 hG6.out)
        have hne : (ce != 0) = true := by simp [h0]
        clear hgo hi2 hbad hT6 hB6 hG6 h0
        go_wp2
        (try rw [Exit.noGoto_ret])
        exact bodyPost_ret (v := .tuple #[.slice none 0 0, .int .i64 ((kk : Int) + 1), .int .i64 ce]) (by simp [results, Tryd.results26, go_sem]) rfl hP.out
    · have hRe : (sti, kk, 0) = R := by rw [← hRu.out]; exact (run_end (by omega)).symm
      obtain ⟨A, c, hN, hz⟩ := own_nums hO.out.now
      have hP := Lib.hid (show TrP R w (.returned (.tuple #[.slice NA sl nc, .int .i64 (kk : Int), .int .i64 0])) wr by rw [← hRe, hN]; exact ⟨⟨A, c, rfl, hz⟩, hGw.out⟩)
      have hkl : decide ((i : Int) < (l.length : Int)) = false := by simp; omega
      clear hRe hRu hI hO hB hN hz hGw
      go_wp2
      exact bodyPost_ret (v := .tuple #[.slice NA sl nc, .int .i64 (kk : Int), .int .i64 0]) (by simp [results, Tryd.results26, go_sem]) rfl hP.out
end N
end Go.Proofs.YthgngkajdiclcaaDoor
