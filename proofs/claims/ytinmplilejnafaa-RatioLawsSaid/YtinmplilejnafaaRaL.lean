/- Law package 12: RatioLaws. -/
import Derived.Test.YtinmplilejnafaaRaG
namespace Go.Proofs.Ytinmplilejnafaa
open Go.RowKit
set_option linter.unusedVariables false
set_option linter.unusedSimpArgs false
theorem cells6q {w : World} {b : Nat} {v0 v1 v2 v3 v4 v5 : Value} {T : TypeId} (h : w.heap[b]? = some (.cells #[v0, v1, v2, v3, v4, v5] T (0, 0))) :
    w.cell? ⟨b, 0, none⟩ = some v0 ∧ w.cell? ⟨b, 1, none⟩ = some v1 ∧ w.cell? ⟨b, 2, none⟩ = some v2 ∧ w.cell? ⟨b, 3, none⟩ = some v3 ∧ w.cell? ⟨b, 4, none⟩ = some v4 ∧ w.cell? ⟨b, 5, none⟩ = some v5 := by
  refine ⟨?_, ?_, ?_, ?_, ?_, ?_⟩
  · rw [cell_of_row _ _ 0 _ _ (0, 0) h]; rfl
  · rw [cell_of_row _ _ 1 _ _ (0, 0) h]; rfl
  · rw [cell_of_row _ _ 2 _ _ (0, 0) h]; rfl
  · rw [cell_of_row _ _ 3 _ _ (0, 0) h]; rfl
  · rw [cell_of_row _ _ 4 _ _ (0, 0) h]; rfl
  · rw [cell_of_row _ _ 5 _ _ (0, 0) h]; rfl
set_option maxHeartbeats 400000 in
theorem run_bs3 (a b c : Q) (w : World) : (Instr.buildSlice 34 3 #[(0, .agg #[.int .i64 a.n, .int .i64 a.d]), (1, .agg #[.int .i64 b.n, .int .i64 b.d]), (2, .agg #[.int .i64 c.n, .int .i64 c.d])]).run Try.prog w = .ok (.slice (some ⟨w.heap.size, 0, none⟩) 3 3) (w.alloc (.cells #[.int .i64 a.n, .int .i64 a.d, .int .i64 b.n, .int .i64 b.d, .int .i64 c.n, .int .i64 c.d] 23 (0, 0))) := by
  simp [Instr.buildSlice, go_sem, Instr.fill]
theorem wpList_bs3 {w : World} {ops : Array Oper} {rest : List Oper} {o : Oper} {ac : Act} {Q' : Exit → Act → World → Prop} (hg : o.guard = none) (x y z : Operand)
    (ho : o.op = Op.buildSlice 34 3 #[(0, x), (1, y), (2, z)]) (a b c : Q) (hx : ac.eval x = .agg #[.int .i64 a.n, .int .i64 a.d]) (hy : ac.eval y = .agg #[.int .i64 b.n, .int .i64 b.d]) (hz : ac.eval z = .agg #[.int .i64 c.n, .int .i64 c.d])
    (h : wpList Try.prog ops Q' rest (ac.put o.dst (.slice (some ⟨w.heap.size, 0, none⟩) 3 3)) (w.alloc (.cells #[.int .i64 a.n, .int .i64 a.d, .int .i64 b.n, .int .i64 b.d, .int .i64 c.n, .int .i64 c.d] 23 (0, 0)))) :
    wpList Try.prog ops Q' (o :: rest) ac w := by
  refine wpList_plain hg fun K hK => ?_
  have hrun := run_bs3 a b c w
  unfold Oper.wp
  simp [execOp, ho, hx, hy, hz, hrun, Result.andThen]
  exact hK _ _ h
def smL (q : Q) : Bool := qB q && (decide (-900 ≤ q.n) && (decide (q.n ≤ 900) && decide (q.d ≤ 900)))
theorem smL_iff {q : Q} : smL q = true ↔ qB q = true ∧ -900 ≤ q.n ∧ q.n ≤ 900 ∧ q.d ≤ 900 := by simp [smL]
set_option maxHeartbeats 8000000 in
set_option maxRecDepth 100000 in
theorem laws_go (a b c s u x y z m v t d f dd : Q) (e g i k h n p r j aa ee : Int)
    (c1 : Hid (∀ w, Calls Try.prog 13 #[qv a, qv b] w (VV (.tuple #[qv s, .int .i64 e]) w)))
    (c2 : Hid (∀ w, Calls Try.prog 13 #[qv b, qv a] w (VV (.tuple #[qv s, .int .i64 e]) w)))
    (c3 : Hid (∀ w, Calls Try.prog 17 #[qv a, qv b] w (VV (.tuple #[qv u, .int .i64 g]) w)))
    (c4 : Hid (∀ w, Calls Try.prog 17 #[qv b, qv a] w (VV (.tuple #[qv u, .int .i64 g]) w)))
    (c5 : Hid (∀ w, Calls Try.prog 13 #[qv s, qv c] w (VV (.tuple #[qv x, .int .i64 i]) w)))
    (c6 : Hid (∀ w, Calls Try.prog 13 #[qv b, qv c] w (VV (.tuple #[qv y, .int .i64 k]) w)))
    (c7 : Hid (∀ w, Calls Try.prog 13 #[qv a, qv y] w (VV (.tuple #[qv z, .int .i64 h]) w)))
    (c8 : Hid (∀ w, Calls Try.prog 17 #[qv u, qv c] w (VV (.tuple #[qv m, .int .i64 n]) w)))
    (c9 : Hid (∀ w, Calls Try.prog 17 #[qv b, qv c] w (VV (.tuple #[qv v, .int .i64 p]) w)))
    (d0 : Hid (∀ w, Calls Try.prog 17 #[qv a, qv v] w (VV (.tuple #[qv t, .int .i64 r]) w)))
    (d1 : Hid (∀ w, Calls Try.prog 17 #[qv s, qv c] w (VV (.tuple #[qv d, .int .i64 j]) w)))
    (d2 : Hid (∀ w, Calls Try.prog 17 #[qv a, qv c] w (VV (.tuple #[qv f, .int .i64 aa]) w)))
    (d4 : Hid (∀ w, Calls Try.prog 13 #[qv f, qv v] w (VV (.tuple #[qv dd, .int .i64 ee]) w)))
    (hH : Hid (smL a = true → smL b = true → smL c = true → (e = 0 ∧ g = 0) ∧ (k = 0 ∧ x = z ∧ i = h) ∧ (p = 0 ∧ m = t ∧ n = r) ∧ (aa = 0 ∧ d = dd ∧ j = ee))) (w : World) : Calls Try.prog 5 #[qv a, qv b, qv c] w (BB true w) := by
  go_enter Try.func5, Try.ntmps5
  have HW := Lib.hid (Below.refl w.heap.size w)
  go_upto_region 2 with (go_at_call 10; refine (head_any _).mono ?_; rintro e wn ⟨rfl, hbn⟩; obtain ⟨HA, HB, HC⟩ := three2 hbn; have HA := Lib.hid HA; have HB := Lib.hid HB; have HC := Lib.hid HC; replace HW := Lib.hid (bCall (by (repeat with_reducible first | exact HW.out | apply bDrew | apply bAlloc)) hbn); clear hbn)
  go_cut [8, 9] (fun s1 s2 wx => ∃ bS : Nat, s1 = .pointer (some ⟨bS, 0, none⟩) ∧ s2 = .int .i64 e ∧ Hid (wx.heap[w.heap.size]? = some (.cells #[.int .i64 (a.n), .int .i64 (a.d)] 23 (0, 0))) ∧ Hid (wx.heap[w.heap.size + 1]? = some (.cells #[.int .i64 (b.n), .int .i64 (b.d)] 23 (0, 0))) ∧ Hid (wx.heap[w.heap.size + 1 + 1]? = some (.cells #[.int .i64 (c.n), .int .i64 (c.d)] 23 (0, 0))) ∧ Hid (wx.heap[bS]? = some (.cells #[.int .i64 (s.n), .int .i64 (s.d)] 23 (0, 0))) ∧ Hid (Below w.heap.size w wx))
  case first => as_aux_lemma =>
    have A0 := (cells2 HA.out).1.1
    have A1 := (cells2 HA.out).1.2
    have A2 := (cells2 HA.out).2.1
    have A3 := (cells2 HA.out).2.2
    have Al := blkLt HA.out
    have B0 := (cells2 HB.out).1.1
    have B1 := (cells2 HB.out).1.2
    have B2 := (cells2 HB.out).2.1
    have B3 := (cells2 HB.out).2.2
    have Bl := blkLt HB.out
    have C0 := (cells2 HC.out).1.1
    have C1 := (cells2 HC.out).1.2
    have C2 := (cells2 HC.out).2.1
    have C3 := (cells2 HC.out).2.2
    have Cl := blkLt HC.out
    go_wp2_with (go_at_call 13; refine (c1.out _).mono ?_; rintro e wn ⟨rfl, hbn⟩; replace HW := Lib.hid (bCall (by (repeat with_reducible first | exact HW.out | apply bDrew | apply bAlloc)) hbn); replace HA := Lib.hid (moveX (by (repeat with_reducible first | exact Below.refl _ _ | apply bDrew | apply bAlloc)) hbn HA.out); replace HB := Lib.hid (moveX (by (repeat with_reducible first | exact Below.refl _ _ | apply bDrew | apply bAlloc)) hbn HB.out); replace HC := Lib.hid (moveX (by (repeat with_reducible first | exact Below.refl _ _ | apply bDrew | apply bAlloc)) hbn HC.out); replace A0 := (cells2 HA.out).1.1; replace A1 := (cells2 HA.out).1.2; replace A2 := (cells2 HA.out).2.1; replace A3 := (cells2 HA.out).2.2; replace Al := blkLt HA.out; replace B0 := (cells2 HB.out).1.1; replace B1 := (cells2 HB.out).1.2; replace B2 := (cells2 HB.out).2.1; replace B3 := (cells2 HB.out).2.2; replace Bl := blkLt HB.out; replace C0 := (cells2 HC.out).1.1; replace C1 := (cells2 HC.out).1.2; replace C2 := (cells2 HC.out).2.1; replace C3 := (cells2 HC.out).2.2; replace Cl := blkLt HC.out; clear hbn)
    go_meet
    exact ⟨_, rfl, rfl, Lib.hid (mvAlloc HA.out), Lib.hid (mvAlloc HB.out), Lib.hid (mvAlloc HC.out), Lib.hid (newBlk _ _ _ rfl), Lib.hid (bAlloc HW.out)⟩
  case rest => as_aux_lemma =>
    clear HW HA HB HC
    obtain ⟨bS, rfl, rfl, HA, HB, HC, HS, HW⟩ := hcut
    go_upto_region 3 with fail
    go_cut [10, 11] (fun s1 s2 wx => ∃ bT : Nat, s1 = .pointer (some ⟨bT, 0, none⟩) ∧ s2 = .int .i64 e ∧ Hid (wx.heap[w.heap.size]? = some (.cells #[.int .i64 (a.n), .int .i64 (a.d)] 23 (0, 0))) ∧ Hid (wx.heap[w.heap.size + 1]? = some (.cells #[.int .i64 (b.n), .int .i64 (b.d)] 23 (0, 0))) ∧ Hid (wx.heap[w.heap.size + 1 + 1]? = some (.cells #[.int .i64 (c.n), .int .i64 (c.d)] 23 (0, 0))) ∧ Hid (wx.heap[bS]? = some (.cells #[.int .i64 (s.n), .int .i64 (s.d)] 23 (0, 0))) ∧ Hid (wx.heap[bT]? = some (.cells #[.int .i64 (s.n), .int .i64 (s.d)] 23 (0, 0))) ∧ Hid (Below w.heap.size w wx))
    case first => as_aux_lemma =>
      have A0 := (cells2 HA.out).1.1
      have A1 := (cells2 HA.out).1.2
      have A2 := (cells2 HA.out).2.1
      have A3 := (cells2 HA.out).2.2
      have Al := blkLt HA.out
      have B0 := (cells2 HB.out).1.1
      have B1 := (cells2 HB.out).1.2
      have B2 := (cells2 HB.out).2.1
      have B3 := (cells2 HB.out).2.2
      have Bl := blkLt HB.out
      have C0 := (cells2 HC.out).1.1
      have C1 := (cells2 HC.out).1.2
      have C2 := (cells2 HC.out).2.1
      have C3 := (cells2 HC.out).2.2
      have Cl := blkLt HC.out
      have S0 := (cells2 HS.out).1.1
      have S1 := (cells2 HS.out).1.2
      have S2 := (cells2 HS.out).2.1
      have S3 := (cells2 HS.out).2.2
      have Sl := blkLt HS.out
      go_wp2_with (go_at_call 13; refine (c2.out _).mono ?_; rintro e wn ⟨rfl, hbn⟩; replace HW := Lib.hid (bCall (by (repeat with_reducible first | exact HW.out | apply bDrew | apply bAlloc)) hbn); replace HA := Lib.hid (moveX (by (repeat with_reducible first | exact Below.refl _ _ | apply bDrew | apply bAlloc)) hbn HA.out); replace HB := Lib.hid (moveX (by (repeat with_reducible first | exact Below.refl _ _ | apply bDrew | apply bAlloc)) hbn HB.out); replace HC := Lib.hid (moveX (by (repeat with_reducible first | exact Below.refl _ _ | apply bDrew | apply bAlloc)) hbn HC.out); replace HS := Lib.hid (moveX (by (repeat with_reducible first | exact Below.refl _ _ | apply bDrew | apply bAlloc)) hbn HS.out); replace A0 := (cells2 HA.out).1.1; replace A1 := (cells2 HA.out).1.2; replace A2 := (cells2 HA.out).2.1; replace A3 := (cells2 HA.out).2.2; replace Al := blkLt HA.out; replace B0 := (cells2 HB.out).1.1; replace B1 := (cells2 HB.out).1.2; replace B2 := (cells2 HB.out).2.1; replace B3 := (cells2 HB.out).2.2; replace Bl := blkLt HB.out; replace C0 := (cells2 HC.out).1.1; replace C1 := (cells2 HC.out).1.2; replace C2 := (cells2 HC.out).2.1; replace C3 := (cells2 HC.out).2.2; replace Cl := blkLt HC.out; replace S0 := (cells2 HS.out).1.1; replace S1 := (cells2 HS.out).1.2; replace S2 := (cells2 HS.out).2.1; replace S3 := (cells2 HS.out).2.2; replace Sl := blkLt HS.out; clear hbn)
      go_meet
      exact ⟨_, rfl, rfl, Lib.hid (mvAlloc HA.out), Lib.hid (mvAlloc HB.out), Lib.hid (mvAlloc HC.out), Lib.hid (mvAlloc HS.out), Lib.hid (newBlk _ _ _ rfl), Lib.hid (bAlloc HW.out)⟩
    case rest => as_aux_lemma =>
      clear HW HA HB HC HS
      obtain ⟨bT, rfl, rfl, HA, HB, HC, HS, HT, HW⟩ := hcut
      go_upto_region 4 with fail
      go_cut [12, 13] (fun s1 s2 wx => ∃ bU : Nat, s1 = .pointer (some ⟨bU, 0, none⟩) ∧ s2 = .int .i64 g ∧ Hid (wx.heap[w.heap.size]? = some (.cells #[.int .i64 (a.n), .int .i64 (a.d)] 23 (0, 0))) ∧ Hid (wx.heap[w.heap.size + 1]? = some (.cells #[.int .i64 (b.n), .int .i64 (b.d)] 23 (0, 0))) ∧ Hid (wx.heap[w.heap.size + 1 + 1]? = some (.cells #[.int .i64 (c.n), .int .i64 (c.d)] 23 (0, 0))) ∧ Hid (wx.heap[bS]? = some (.cells #[.int .i64 (s.n), .int .i64 (s.d)] 23 (0, 0))) ∧ Hid (wx.heap[bT]? = some (.cells #[.int .i64 (s.n), .int .i64 (s.d)] 23 (0, 0))) ∧ Hid (wx.heap[bU]? = some (.cells #[.int .i64 (u.n), .int .i64 (u.d)] 23 (0, 0))) ∧ Hid (Below w.heap.size w wx))
      case first => as_aux_lemma =>
        have A0 := (cells2 HA.out).1.1
        have A1 := (cells2 HA.out).1.2
        have A2 := (cells2 HA.out).2.1
        have A3 := (cells2 HA.out).2.2
        have Al := blkLt HA.out
        have B0 := (cells2 HB.out).1.1
        have B1 := (cells2 HB.out).1.2
        have B2 := (cells2 HB.out).2.1
        have B3 := (cells2 HB.out).2.2
        have Bl := blkLt HB.out
        have C0 := (cells2 HC.out).1.1
        have C1 := (cells2 HC.out).1.2
        have C2 := (cells2 HC.out).2.1
        have C3 := (cells2 HC.out).2.2
        have Cl := blkLt HC.out
        have S0 := (cells2 HS.out).1.1
        have S1 := (cells2 HS.out).1.2
        have S2 := (cells2 HS.out).2.1
        have S3 := (cells2 HS.out).2.2
        have Sl := blkLt HS.out
        have T0 := (cells2 HT.out).1.1
        have T1 := (cells2 HT.out).1.2
        have T2 := (cells2 HT.out).2.1
        have T3 := (cells2 HT.out).2.2
        have Tl := blkLt HT.out
        go_wp2_with (go_at_call 17; refine (c3.out _).mono ?_; rintro e wn ⟨rfl, hbn⟩; replace HW := Lib.hid (bCall (by (repeat with_reducible first | exact HW.out | apply bDrew | apply bAlloc)) hbn); replace HA := Lib.hid (moveX (by (repeat with_reducible first | exact Below.refl _ _ | apply bDrew | apply bAlloc)) hbn HA.out); replace HB := Lib.hid (moveX (by (repeat with_reducible first | exact Below.refl _ _ | apply bDrew | apply bAlloc)) hbn HB.out); replace HC := Lib.hid (moveX (by (repeat with_reducible first | exact Below.refl _ _ | apply bDrew | apply bAlloc)) hbn HC.out); replace HS := Lib.hid (moveX (by (repeat with_reducible first | exact Below.refl _ _ | apply bDrew | apply bAlloc)) hbn HS.out); replace HT := Lib.hid (moveX (by (repeat with_reducible first | exact Below.refl _ _ | apply bDrew | apply bAlloc)) hbn HT.out); replace A0 := (cells2 HA.out).1.1; replace A1 := (cells2 HA.out).1.2; replace A2 := (cells2 HA.out).2.1; replace A3 := (cells2 HA.out).2.2; replace Al := blkLt HA.out; replace B0 := (cells2 HB.out).1.1; replace B1 := (cells2 HB.out).1.2; replace B2 := (cells2 HB.out).2.1; replace B3 := (cells2 HB.out).2.2; replace Bl := blkLt HB.out; replace C0 := (cells2 HC.out).1.1; replace C1 := (cells2 HC.out).1.2; replace C2 := (cells2 HC.out).2.1; replace C3 := (cells2 HC.out).2.2; replace Cl := blkLt HC.out; replace S0 := (cells2 HS.out).1.1; replace S1 := (cells2 HS.out).1.2; replace S2 := (cells2 HS.out).2.1; replace S3 := (cells2 HS.out).2.2; replace Sl := blkLt HS.out; replace T0 := (cells2 HT.out).1.1; replace T1 := (cells2 HT.out).1.2; replace T2 := (cells2 HT.out).2.1; replace T3 := (cells2 HT.out).2.2; replace Tl := blkLt HT.out; clear hbn)
        go_meet
        exact ⟨_, rfl, rfl, Lib.hid (mvAlloc HA.out), Lib.hid (mvAlloc HB.out), Lib.hid (mvAlloc HC.out), Lib.hid (mvAlloc HS.out), Lib.hid (mvAlloc HT.out), Lib.hid (newBlk _ _ _ rfl), Lib.hid (bAlloc HW.out)⟩
      case rest => as_aux_lemma =>
        clear HW HA HB HC HS HT
        obtain ⟨bU, rfl, rfl, HA, HB, HC, HS, HT, HU, HW⟩ := hcut
        go_upto_region 5 with fail
        go_cut [14, 15] (fun s1 s2 wx => ∃ bV : Nat, s1 = .pointer (some ⟨bV, 0, none⟩) ∧ s2 = .int .i64 g ∧ Hid (wx.heap[w.heap.size]? = some (.cells #[.int .i64 (a.n), .int .i64 (a.d)] 23 (0, 0))) ∧ Hid (wx.heap[w.heap.size + 1]? = some (.cells #[.int .i64 (b.n), .int .i64 (b.d)] 23 (0, 0))) ∧ Hid (wx.heap[w.heap.size + 1 + 1]? = some (.cells #[.int .i64 (c.n), .int .i64 (c.d)] 23 (0, 0))) ∧ Hid (wx.heap[bS]? = some (.cells #[.int .i64 (s.n), .int .i64 (s.d)] 23 (0, 0))) ∧ Hid (wx.heap[bT]? = some (.cells #[.int .i64 (s.n), .int .i64 (s.d)] 23 (0, 0))) ∧ Hid (wx.heap[bU]? = some (.cells #[.int .i64 (u.n), .int .i64 (u.d)] 23 (0, 0))) ∧ Hid (wx.heap[bV]? = some (.cells #[.int .i64 (u.n), .int .i64 (u.d)] 23 (0, 0))) ∧ Hid (Below w.heap.size w wx))
        case first => as_aux_lemma =>
          have A0 := (cells2 HA.out).1.1
          have A1 := (cells2 HA.out).1.2
          have A2 := (cells2 HA.out).2.1
          have A3 := (cells2 HA.out).2.2
          have Al := blkLt HA.out
          have B0 := (cells2 HB.out).1.1
          have B1 := (cells2 HB.out).1.2
          have B2 := (cells2 HB.out).2.1
          have B3 := (cells2 HB.out).2.2
          have Bl := blkLt HB.out
          have C0 := (cells2 HC.out).1.1
          have C1 := (cells2 HC.out).1.2
          have C2 := (cells2 HC.out).2.1
          have C3 := (cells2 HC.out).2.2
          have Cl := blkLt HC.out
          have S0 := (cells2 HS.out).1.1
          have S1 := (cells2 HS.out).1.2
          have S2 := (cells2 HS.out).2.1
          have S3 := (cells2 HS.out).2.2
          have Sl := blkLt HS.out
          have T0 := (cells2 HT.out).1.1
          have T1 := (cells2 HT.out).1.2
          have T2 := (cells2 HT.out).2.1
          have T3 := (cells2 HT.out).2.2
          have Tl := blkLt HT.out
          have U0 := (cells2 HU.out).1.1
          have U1 := (cells2 HU.out).1.2
          have U2 := (cells2 HU.out).2.1
          have U3 := (cells2 HU.out).2.2
          have Ul := blkLt HU.out
          go_wp2_with (go_at_call 17; refine (c4.out _).mono ?_; rintro e wn ⟨rfl, hbn⟩; replace HW := Lib.hid (bCall (by (repeat with_reducible first | exact HW.out | apply bDrew | apply bAlloc)) hbn); replace HA := Lib.hid (moveX (by (repeat with_reducible first | exact Below.refl _ _ | apply bDrew | apply bAlloc)) hbn HA.out); replace HB := Lib.hid (moveX (by (repeat with_reducible first | exact Below.refl _ _ | apply bDrew | apply bAlloc)) hbn HB.out); replace HC := Lib.hid (moveX (by (repeat with_reducible first | exact Below.refl _ _ | apply bDrew | apply bAlloc)) hbn HC.out); replace HS := Lib.hid (moveX (by (repeat with_reducible first | exact Below.refl _ _ | apply bDrew | apply bAlloc)) hbn HS.out); replace HT := Lib.hid (moveX (by (repeat with_reducible first | exact Below.refl _ _ | apply bDrew | apply bAlloc)) hbn HT.out); replace HU := Lib.hid (moveX (by (repeat with_reducible first | exact Below.refl _ _ | apply bDrew | apply bAlloc)) hbn HU.out); replace A0 := (cells2 HA.out).1.1; replace A1 := (cells2 HA.out).1.2; replace A2 := (cells2 HA.out).2.1; replace A3 := (cells2 HA.out).2.2; replace Al := blkLt HA.out; replace B0 := (cells2 HB.out).1.1; replace B1 := (cells2 HB.out).1.2; replace B2 := (cells2 HB.out).2.1; replace B3 := (cells2 HB.out).2.2; replace Bl := blkLt HB.out; replace C0 := (cells2 HC.out).1.1; replace C1 := (cells2 HC.out).1.2; replace C2 := (cells2 HC.out).2.1; replace C3 := (cells2 HC.out).2.2; replace Cl := blkLt HC.out; replace S0 := (cells2 HS.out).1.1; replace S1 := (cells2 HS.out).1.2; replace S2 := (cells2 HS.out).2.1; replace S3 := (cells2 HS.out).2.2; replace Sl := blkLt HS.out; replace T0 := (cells2 HT.out).1.1; replace T1 := (cells2 HT.out).1.2; replace T2 := (cells2 HT.out).2.1; replace T3 := (cells2 HT.out).2.2; replace Tl := blkLt HT.out; replace U0 := (cells2 HU.out).1.1; replace U1 := (cells2 HU.out).1.2; replace U2 := (cells2 HU.out).2.1; replace U3 := (cells2 HU.out).2.2; replace Ul := blkLt HU.out; clear hbn)
          go_meet
          exact ⟨_, rfl, rfl, Lib.hid (mvAlloc HA.out), Lib.hid (mvAlloc HB.out), Lib.hid (mvAlloc HC.out), Lib.hid (mvAlloc HS.out), Lib.hid (mvAlloc HT.out), Lib.hid (mvAlloc HU.out), Lib.hid (newBlk _ _ _ rfl), Lib.hid (bAlloc HW.out)⟩
        case rest => as_aux_lemma =>
          clear HW HA HB HC HS HT HU
          obtain ⟨bV, rfl, rfl, HA, HB, HC, HS, HT, HU, HV, HW⟩ := hcut
          clear c1 c2 c3 c4
          go_upto_region 6 with fail
          go_cut [7] (fun s1 wx => s1 = .bool true ∧ Hid (wx.heap[w.heap.size]? = some (.cells #[.int .i64 (a.n), .int .i64 (a.d)] 23 (0, 0))) ∧ Hid (wx.heap[w.heap.size + 1]? = some (.cells #[.int .i64 (b.n), .int .i64 (b.d)] 23 (0, 0))) ∧ Hid (wx.heap[w.heap.size + 1 + 1]? = some (.cells #[.int .i64 (c.n), .int .i64 (c.d)] 23 (0, 0))) ∧ Hid (wx.heap[bS]? = some (.cells #[.int .i64 (s.n), .int .i64 (s.d)] 23 (0, 0))) ∧ Hid (wx.heap[bU]? = some (.cells #[.int .i64 (u.n), .int .i64 (u.d)] 23 (0, 0))) ∧ Hid (Below w.heap.size w wx))
          case first => as_aux_lemma =>
            have S0 := (cells2 HS.out).1.1
            have S1 := (cells2 HS.out).1.2
            have S2 := (cells2 HS.out).2.1
            have S3 := (cells2 HS.out).2.2
            have Sl := blkLt HS.out
            have T0 := (cells2 HT.out).1.1
            have T1 := (cells2 HT.out).1.2
            have T2 := (cells2 HT.out).2.1
            have T3 := (cells2 HT.out).2.2
            have Tl := blkLt HT.out
            have U0 := (cells2 HU.out).1.1
            have U1 := (cells2 HU.out).1.2
            have U2 := (cells2 HU.out).2.1
            have U3 := (cells2 HU.out).2.2
            have Ul := blkLt HU.out
            have V0 := (cells2 HV.out).1.1
            have V1 := (cells2 HV.out).1.2
            have V2 := (cells2 HV.out).2.1
            have V3 := (cells2 HV.out).2.2
            have Vl := blkLt HV.out
            have z1 := fun w => run_q_eq s s w
            have z2 := fun w => run_q_eq u u w
            rw [qEq_rfl] at z1 z2
            go_wp2_with fail
            go_meet
            exact ⟨rfl, HA, HB, HC, HS, HU, HW⟩
          case rest => as_aux_lemma =>
            clear HW HA HB HC HS HT HU HV
            obtain ⟨rfl, HA, HB, HC, HS, HU, HW⟩ := hcut
            go_upto_region 7 with fail
            go_cut [87, 88, 89] (fun s1 s2 s3 wx => ∃ (bE : Nat) (T : TypeId), s1 = .slice (some ⟨bE, 0, none⟩) 3 3 ∧ s2 = .int .i64 3 ∧ s3 = .int .i64 0 ∧ Hid (wx.heap[bE]? = some (.cells #[.int .i64 a.n, .int .i64 a.d, .int .i64 b.n, .int .i64 b.d, .int .i64 c.n, .int .i64 c.d] T (0, 0))) ∧ Hid (wx.heap[w.heap.size]? = some (.cells #[.int .i64 (a.n), .int .i64 (a.d)] 23 (0, 0))) ∧ Hid (wx.heap[w.heap.size + 1]? = some (.cells #[.int .i64 (b.n), .int .i64 (b.d)] 23 (0, 0))) ∧ Hid (wx.heap[w.heap.size + 1 + 1]? = some (.cells #[.int .i64 (c.n), .int .i64 (c.d)] 23 (0, 0))) ∧ Hid (wx.heap[bS]? = some (.cells #[.int .i64 (s.n), .int .i64 (s.d)] 23 (0, 0))) ∧ Hid (wx.heap[bU]? = some (.cells #[.int .i64 (u.n), .int .i64 (u.d)] 23 (0, 0))) ∧ Hid (Below w.heap.size w wx))
            case first => as_aux_lemma =>
              have A0 := (cells2 HA.out).1.1
              have A1 := (cells2 HA.out).1.2
              have A2 := (cells2 HA.out).2.1
              have A3 := (cells2 HA.out).2.2
              have Al := blkLt HA.out
              have B0 := (cells2 HB.out).1.1
              have B1 := (cells2 HB.out).1.2
              have B2 := (cells2 HB.out).2.1
              have B3 := (cells2 HB.out).2.2
              have Bl := blkLt HB.out
              have C0 := (cells2 HC.out).1.1
              have C1 := (cells2 HC.out).1.2
              have C2 := (cells2 HC.out).2.1
              have C3 := (cells2 HC.out).2.2
              have Cl := blkLt HC.out
              go_wp2_with (refine wpList_bs3 rfl _ _ _ rfl a b c rfl rfl rfl ?_; simp only [Act.put, List.setIfInBounds_toArray, List.set_cons_zero, List.set_cons_succ])
              go_meet
              exact ⟨_, _, rfl, rfl, rfl, Lib.hid (newBlk _ _ _ rfl), Lib.hid (mvAlloc HA.out), Lib.hid (mvAlloc HB.out), Lib.hid (mvAlloc HC.out), Lib.hid (mvAlloc HS.out), Lib.hid (mvAlloc HU.out), Lib.hid (bAlloc HW.out)⟩
            case rest => as_aux_lemma =>
              clear HW HA HB HC HS HU
              obtain ⟨bE, T, rfl, rfl, rfl, HE, HA, HB, HC, HS, HU, HW⟩ := hcut
              go_wp2_with fail
              go_loopg [89] 3 (fun gk i wr => ∃ jj : Nat, jj + gk = 3 ∧ i = .int .i64 jj ∧ Hid (0 < jj → smL a = true) ∧ Hid (1 < jj → smL b = true) ∧ Hid (2 < jj → smL c = true) ∧ Hid (wr.heap[bE]? = some (.cells #[.int .i64 a.n, .int .i64 a.d, .int .i64 b.n, .int .i64 b.d, .int .i64 c.n, .int .i64 c.d] T (0, 0))) ∧ Hid (wr.heap[w.heap.size]? = some (.cells #[.int .i64 (a.n), .int .i64 (a.d)] 23 (0, 0))) ∧ Hid (wr.heap[w.heap.size + 1]? = some (.cells #[.int .i64 (b.n), .int .i64 (b.d)] 23 (0, 0))) ∧ Hid (wr.heap[w.heap.size + 1 + 1]? = some (.cells #[.int .i64 (c.n), .int .i64 (c.d)] 23 (0, 0))) ∧ Hid (wr.heap[bS]? = some (.cells #[.int .i64 (s.n), .int .i64 (s.d)] 23 (0, 0))) ∧ Hid (wr.heap[bU]? = some (.cells #[.int .i64 (u.n), .int .i64 (u.d)] 23 (0, 0))) ∧ Hid (Below w.heap.size w wr))
              case atStart => exact ⟨0, rfl, rfl, Lib.hid (fun h => by omega), Lib.hid (fun h => by omega), Lib.hid (fun h => by omega), HE, HA, HB, HC, HS, HU, HW⟩
              case round =>
                clear HE HA HB HC HS HU HW
                obtain ⟨jj, hj, rfl, s0, s1, s2, HE, HA, HB, HC, HS, HU, HW⟩ := hrel
                match jj, hj with
                | 0, hj =>
                  clear c5 c6 c7 c8 c9 d0 d1 d2 d4 hH
                  obtain rfl : gk = 3 := by omega
                  obtain ⟨E0, E1, E2, E3, E4, E5⟩ := cells6q HE.out
                  have El := blkLt HE.out
                  have hV := Lib.hid (RValid_any a)
                  rcases hq : qB a with _ | _ <;> rw [hq] at hV
                  · go_wp2_with (go_at_call 24; refine (hV.out _).mono ?_; rintro e1 wn ⟨rfl, hbn⟩; replace HW := Lib.hid (bCall (by (repeat with_reducible first | exact HW.out | apply bDrew | apply bAlloc)) hbn); replace HA := Lib.hid (moveX (by (repeat with_reducible first | exact Below.refl _ _ | apply bDrew | apply bAlloc)) hbn HA.out); replace HB := Lib.hid (moveX (by (repeat with_reducible first | exact Below.refl _ _ | apply bDrew | apply bAlloc)) hbn HB.out); replace HC := Lib.hid (moveX (by (repeat with_reducible first | exact Below.refl _ _ | apply bDrew | apply bAlloc)) hbn HC.out); replace HS := Lib.hid (moveX (by (repeat with_reducible first | exact Below.refl _ _ | apply bDrew | apply bAlloc)) hbn HS.out); replace HU := Lib.hid (moveX (by (repeat with_reducible first | exact Below.refl _ _ | apply bDrew | apply bAlloc)) hbn HU.out); replace HE := Lib.hid (moveX (by (repeat with_reducible first | exact Below.refl _ _ | apply bDrew | apply bAlloc)) hbn HE.out); have HN := Lib.hid (moveC hbn (newBlk _ (qb a) _ rfl)); obtain ⟨⟨n0, n1⟩, -⟩ := cells2 HN.out; clear hbn)
                    go_ret
                    exact ⟨rfl, HW.out⟩
                  · by_cases hs : smL a = true
                    · have h4 := smL_iff.1 hs
                      have t1 : decide (a.n < -900) = false := by simp; omega
                      have t2 : decide (900 < a.n) = false := by simp; omega
                      have t3 : decide (900 < a.d) = false := by simp; omega
                      have hs := Lib.hid hs
                      clear h4
                      go_wp2_with (go_at_call 24; refine (hV.out _).mono ?_; rintro e1 wn ⟨rfl, hbn⟩; replace HW := Lib.hid (bCall (by (repeat with_reducible first | exact HW.out | apply bDrew | apply bAlloc)) hbn); replace HA := Lib.hid (moveX (by (repeat with_reducible first | exact Below.refl _ _ | apply bDrew | apply bAlloc)) hbn HA.out); replace HB := Lib.hid (moveX (by (repeat with_reducible first | exact Below.refl _ _ | apply bDrew | apply bAlloc)) hbn HB.out); replace HC := Lib.hid (moveX (by (repeat with_reducible first | exact Below.refl _ _ | apply bDrew | apply bAlloc)) hbn HC.out); replace HS := Lib.hid (moveX (by (repeat with_reducible first | exact Below.refl _ _ | apply bDrew | apply bAlloc)) hbn HS.out); replace HU := Lib.hid (moveX (by (repeat with_reducible first | exact Below.refl _ _ | apply bDrew | apply bAlloc)) hbn HU.out); replace HE := Lib.hid (moveX (by (repeat with_reducible first | exact Below.refl _ _ | apply bDrew | apply bAlloc)) hbn HE.out); have HN := Lib.hid (moveC hbn (newBlk _ (qb a) _ rfl)); obtain ⟨⟨n0, n1⟩, -⟩ := cells2 HN.out; clear hbn)
                      go_roundg 2
                      case measure => omega
                      case rel => exact ⟨1, by omega, by first | rfl | go_num, Lib.hid (fun _ => hs.out), Lib.hid (fun hh => by omega), Lib.hid (fun hh => by omega), HE, HA, HB, HC, HS, HU, HW⟩
                    · go_wp2_with (go_at_call 24; refine (hV.out _).mono ?_; rintro e1 wn ⟨rfl, hbn⟩; replace HW := Lib.hid (bCall (by (repeat with_reducible first | exact HW.out | apply bDrew | apply bAlloc)) hbn); replace HA := Lib.hid (moveX (by (repeat with_reducible first | exact Below.refl _ _ | apply bDrew | apply bAlloc)) hbn HA.out); replace HB := Lib.hid (moveX (by (repeat with_reducible first | exact Below.refl _ _ | apply bDrew | apply bAlloc)) hbn HB.out); replace HC := Lib.hid (moveX (by (repeat with_reducible first | exact Below.refl _ _ | apply bDrew | apply bAlloc)) hbn HC.out); replace HS := Lib.hid (moveX (by (repeat with_reducible first | exact Below.refl _ _ | apply bDrew | apply bAlloc)) hbn HS.out); replace HU := Lib.hid (moveX (by (repeat with_reducible first | exact Below.refl _ _ | apply bDrew | apply bAlloc)) hbn HU.out); replace HE := Lib.hid (moveX (by (repeat with_reducible first | exact Below.refl _ _ | apply bDrew | apply bAlloc)) hbn HE.out); have HN := Lib.hid (moveC hbn (newBlk _ (qb a) _ rfl)); obtain ⟨⟨n0, n1⟩, -⟩ := cells2 HN.out; clear hbn)
                      all_goals first
                        | (go_ret; exact ⟨rfl, HW.out⟩)
                        | (exfalso; exact hs (smL_iff.2 ⟨hq, by omega, by omega, by omega⟩))
                | 1, hj =>
                  clear c5 c6 c7 c8 c9 d0 d1 d2 d4 hH
                  obtain rfl : gk = 2 := by omega
                  obtain ⟨E0, E1, E2, E3, E4, E5⟩ := cells6q HE.out
                  have El := blkLt HE.out
                  have hV := Lib.hid (RValid_any b)
                  rcases hq : qB b with _ | _ <;> rw [hq] at hV
                  · go_wp2_with (go_at_call 24; refine (hV.out _).mono ?_; rintro e1 wn ⟨rfl, hbn⟩; replace HW := Lib.hid (bCall (by (repeat with_reducible first | exact HW.out | apply bDrew | apply bAlloc)) hbn); replace HA := Lib.hid (moveX (by (repeat with_reducible first | exact Below.refl _ _ | apply bDrew | apply bAlloc)) hbn HA.out); replace HB := Lib.hid (moveX (by (repeat with_reducible first | exact Below.refl _ _ | apply bDrew | apply bAlloc)) hbn HB.out); replace HC := Lib.hid (moveX (by (repeat with_reducible first | exact Below.refl _ _ | apply bDrew | apply bAlloc)) hbn HC.out); replace HS := Lib.hid (moveX (by (repeat with_reducible first | exact Below.refl _ _ | apply bDrew | apply bAlloc)) hbn HS.out); replace HU := Lib.hid (moveX (by (repeat with_reducible first | exact Below.refl _ _ | apply bDrew | apply bAlloc)) hbn HU.out); replace HE := Lib.hid (moveX (by (repeat with_reducible first | exact Below.refl _ _ | apply bDrew | apply bAlloc)) hbn HE.out); have HN := Lib.hid (moveC hbn (newBlk _ (qb b) _ rfl)); obtain ⟨⟨n0, n1⟩, -⟩ := cells2 HN.out; clear hbn)
                    go_ret
                    exact ⟨rfl, HW.out⟩
                  · by_cases hs : smL b = true
                    · have h4 := smL_iff.1 hs
                      have t1 : decide (b.n < -900) = false := by simp; omega
                      have t2 : decide (900 < b.n) = false := by simp; omega
                      have t3 : decide (900 < b.d) = false := by simp; omega
                      have hs := Lib.hid hs
                      clear h4
                      go_wp2_with (go_at_call 24; refine (hV.out _).mono ?_; rintro e1 wn ⟨rfl, hbn⟩; replace HW := Lib.hid (bCall (by (repeat with_reducible first | exact HW.out | apply bDrew | apply bAlloc)) hbn); replace HA := Lib.hid (moveX (by (repeat with_reducible first | exact Below.refl _ _ | apply bDrew | apply bAlloc)) hbn HA.out); replace HB := Lib.hid (moveX (by (repeat with_reducible first | exact Below.refl _ _ | apply bDrew | apply bAlloc)) hbn HB.out); replace HC := Lib.hid (moveX (by (repeat with_reducible first | exact Below.refl _ _ | apply bDrew | apply bAlloc)) hbn HC.out); replace HS := Lib.hid (moveX (by (repeat with_reducible first | exact Below.refl _ _ | apply bDrew | apply bAlloc)) hbn HS.out); replace HU := Lib.hid (moveX (by (repeat with_reducible first | exact Below.refl _ _ | apply bDrew | apply bAlloc)) hbn HU.out); replace HE := Lib.hid (moveX (by (repeat with_reducible first | exact Below.refl _ _ | apply bDrew | apply bAlloc)) hbn HE.out); have HN := Lib.hid (moveC hbn (newBlk _ (qb b) _ rfl)); obtain ⟨⟨n0, n1⟩, -⟩ := cells2 HN.out; clear hbn)
                      go_roundg 1
                      case measure => omega
                      case rel => exact ⟨2, by omega, by first | rfl | go_num, Lib.hid (fun _ => s0.out (by omega)), Lib.hid (fun _ => hs.out), Lib.hid (fun hh => by omega), HE, HA, HB, HC, HS, HU, HW⟩
                    · go_wp2_with (go_at_call 24; refine (hV.out _).mono ?_; rintro e1 wn ⟨rfl, hbn⟩; replace HW := Lib.hid (bCall (by (repeat with_reducible first | exact HW.out | apply bDrew | apply bAlloc)) hbn); replace HA := Lib.hid (moveX (by (repeat with_reducible first | exact Below.refl _ _ | apply bDrew | apply bAlloc)) hbn HA.out); replace HB := Lib.hid (moveX (by (repeat with_reducible first | exact Below.refl _ _ | apply bDrew | apply bAlloc)) hbn HB.out); replace HC := Lib.hid (moveX (by (repeat with_reducible first | exact Below.refl _ _ | apply bDrew | apply bAlloc)) hbn HC.out); replace HS := Lib.hid (moveX (by (repeat with_reducible first | exact Below.refl _ _ | apply bDrew | apply bAlloc)) hbn HS.out); replace HU := Lib.hid (moveX (by (repeat with_reducible first | exact Below.refl _ _ | apply bDrew | apply bAlloc)) hbn HU.out); replace HE := Lib.hid (moveX (by (repeat with_reducible first | exact Below.refl _ _ | apply bDrew | apply bAlloc)) hbn HE.out); have HN := Lib.hid (moveC hbn (newBlk _ (qb b) _ rfl)); obtain ⟨⟨n0, n1⟩, -⟩ := cells2 HN.out; clear hbn)
                      all_goals first
                        | (go_ret; exact ⟨rfl, HW.out⟩)
                        | (exfalso; exact hs (smL_iff.2 ⟨hq, by omega, by omega, by omega⟩))
                | 2, hj =>
                  clear c5 c6 c7 c8 c9 d0 d1 d2 d4 hH
                  obtain rfl : gk = 1 := by omega
                  obtain ⟨E0, E1, E2, E3, E4, E5⟩ := cells6q HE.out
                  have El := blkLt HE.out
                  have hV := Lib.hid (RValid_any c)
                  rcases hq : qB c with _ | _ <;> rw [hq] at hV
                  · go_wp2_with (go_at_call 24; refine (hV.out _).mono ?_; rintro e1 wn ⟨rfl, hbn⟩; replace HW := Lib.hid (bCall (by (repeat with_reducible first | exact HW.out | apply bDrew | apply bAlloc)) hbn); replace HA := Lib.hid (moveX (by (repeat with_reducible first | exact Below.refl _ _ | apply bDrew | apply bAlloc)) hbn HA.out); replace HB := Lib.hid (moveX (by (repeat with_reducible first | exact Below.refl _ _ | apply bDrew | apply bAlloc)) hbn HB.out); replace HC := Lib.hid (moveX (by (repeat with_reducible first | exact Below.refl _ _ | apply bDrew | apply bAlloc)) hbn HC.out); replace HS := Lib.hid (moveX (by (repeat with_reducible first | exact Below.refl _ _ | apply bDrew | apply bAlloc)) hbn HS.out); replace HU := Lib.hid (moveX (by (repeat with_reducible first | exact Below.refl _ _ | apply bDrew | apply bAlloc)) hbn HU.out); replace HE := Lib.hid (moveX (by (repeat with_reducible first | exact Below.refl _ _ | apply bDrew | apply bAlloc)) hbn HE.out); have HN := Lib.hid (moveC hbn (newBlk _ (qb c) _ rfl)); obtain ⟨⟨n0, n1⟩, -⟩ := cells2 HN.out; clear hbn)
                    go_ret
                    exact ⟨rfl, HW.out⟩
                  · by_cases hs : smL c = true
                    · have h4 := smL_iff.1 hs
                      have t1 : decide (c.n < -900) = false := by simp; omega
                      have t2 : decide (900 < c.n) = false := by simp; omega
                      have t3 : decide (900 < c.d) = false := by simp; omega
                      have hs := Lib.hid hs
                      clear h4
                      go_wp2_with (go_at_call 24; refine (hV.out _).mono ?_; rintro e1 wn ⟨rfl, hbn⟩; replace HW := Lib.hid (bCall (by (repeat with_reducible first | exact HW.out | apply bDrew | apply bAlloc)) hbn); replace HA := Lib.hid (moveX (by (repeat with_reducible first | exact Below.refl _ _ | apply bDrew | apply bAlloc)) hbn HA.out); replace HB := Lib.hid (moveX (by (repeat with_reducible first | exact Below.refl _ _ | apply bDrew | apply bAlloc)) hbn HB.out); replace HC := Lib.hid (moveX (by (repeat with_reducible first | exact Below.refl _ _ | apply bDrew | apply bAlloc)) hbn HC.out); replace HS := Lib.hid (moveX (by (repeat with_reducible first | exact Below.refl _ _ | apply bDrew | apply bAlloc)) hbn HS.out); replace HU := Lib.hid (moveX (by (repeat with_reducible first | exact Below.refl _ _ | apply bDrew | apply bAlloc)) hbn HU.out); replace HE := Lib.hid (moveX (by (repeat with_reducible first | exact Below.refl _ _ | apply bDrew | apply bAlloc)) hbn HE.out); have HN := Lib.hid (moveC hbn (newBlk _ (qb c) _ rfl)); obtain ⟨⟨n0, n1⟩, -⟩ := cells2 HN.out; clear hbn)
                      go_roundg 0
                      case measure => omega
                      case rel => exact ⟨3, by omega, by first | rfl | go_num, Lib.hid (fun _ => s0.out (by omega)), Lib.hid (fun _ => s1.out (by omega)), Lib.hid (fun _ => hs.out), HE, HA, HB, HC, HS, HU, HW⟩
                    · go_wp2_with (go_at_call 24; refine (hV.out _).mono ?_; rintro e1 wn ⟨rfl, hbn⟩; replace HW := Lib.hid (bCall (by (repeat with_reducible first | exact HW.out | apply bDrew | apply bAlloc)) hbn); replace HA := Lib.hid (moveX (by (repeat with_reducible first | exact Below.refl _ _ | apply bDrew | apply bAlloc)) hbn HA.out); replace HB := Lib.hid (moveX (by (repeat with_reducible first | exact Below.refl _ _ | apply bDrew | apply bAlloc)) hbn HB.out); replace HC := Lib.hid (moveX (by (repeat with_reducible first | exact Below.refl _ _ | apply bDrew | apply bAlloc)) hbn HC.out); replace HS := Lib.hid (moveX (by (repeat with_reducible first | exact Below.refl _ _ | apply bDrew | apply bAlloc)) hbn HS.out); replace HU := Lib.hid (moveX (by (repeat with_reducible first | exact Below.refl _ _ | apply bDrew | apply bAlloc)) hbn HU.out); replace HE := Lib.hid (moveX (by (repeat with_reducible first | exact Below.refl _ _ | apply bDrew | apply bAlloc)) hbn HE.out); have HN := Lib.hid (moveC hbn (newBlk _ (qb c) _ rfl)); obtain ⟨⟨n0, n1⟩, -⟩ := cells2 HN.out; clear hbn)
                      all_goals first
                        | (go_ret; exact ⟨rfl, HW.out⟩)
                        | (exfalso; exact hs (smL_iff.2 ⟨hq, by omega, by omega, by omega⟩))
                | 3, hj =>
                  obtain rfl : gk = 0 := by omega
                  obtain ⟨⟨he, hg⟩, ⟨hk, hz, hh⟩, ⟨hp, ht, hr⟩, ⟨ha, hd, hee⟩⟩ := hH.out (s0.out (by omega)) (s1.out (by omega)) (s2.out (by omega))
                  clear hH s0 s1 s2 HE hj
                  subst he hg hk hz hh hp ht hr ha hd hee
                  go_upto_region 13 with fail
                  go_cut [18, 19] (fun s1 s2 wx => ∃ bX : Nat, s1 = .pointer (some ⟨bX, 0, none⟩) ∧ s2 = .int .i64 i ∧ Hid (wx.heap[w.heap.size]? = some (.cells #[.int .i64 (a.n), .int .i64 (a.d)] 23 (0, 0))) ∧ Hid (wx.heap[w.heap.size + 1]? = some (.cells #[.int .i64 (b.n), .int .i64 (b.d)] 23 (0, 0))) ∧ Hid (wx.heap[w.heap.size + 1 + 1]? = some (.cells #[.int .i64 (c.n), .int .i64 (c.d)] 23 (0, 0))) ∧ Hid (wx.heap[bS]? = some (.cells #[.int .i64 (s.n), .int .i64 (s.d)] 23 (0, 0))) ∧ Hid (wx.heap[bU]? = some (.cells #[.int .i64 (u.n), .int .i64 (u.d)] 23 (0, 0))) ∧ Hid (wx.heap[bX]? = some (.cells #[.int .i64 (x.n), .int .i64 (x.d)] 23 (0, 0))) ∧ Hid (Below w.heap.size w wx))
                  case first => as_aux_lemma =>
                    have A0 := (cells2 HA.out).1.1
                    have A1 := (cells2 HA.out).1.2
                    have A2 := (cells2 HA.out).2.1
                    have A3 := (cells2 HA.out).2.2
                    have Al := blkLt HA.out
                    have B0 := (cells2 HB.out).1.1
                    have B1 := (cells2 HB.out).1.2
                    have B2 := (cells2 HB.out).2.1
                    have B3 := (cells2 HB.out).2.2
                    have Bl := blkLt HB.out
                    have C0 := (cells2 HC.out).1.1
                    have C1 := (cells2 HC.out).1.2
                    have C2 := (cells2 HC.out).2.1
                    have C3 := (cells2 HC.out).2.2
                    have Cl := blkLt HC.out
                    have S0 := (cells2 HS.out).1.1
                    have S1 := (cells2 HS.out).1.2
                    have S2 := (cells2 HS.out).2.1
                    have S3 := (cells2 HS.out).2.2
                    have Sl := blkLt HS.out
                    have U0 := (cells2 HU.out).1.1
                    have U1 := (cells2 HU.out).1.2
                    have U2 := (cells2 HU.out).2.1
                    have U3 := (cells2 HU.out).2.2
                    have Ul := blkLt HU.out
                    go_wp2_with (go_at_call 13; refine (c5.out _).mono ?_; rintro e wn ⟨rfl, hbn⟩; replace HW := Lib.hid (bCall (by (repeat with_reducible first | exact HW.out | apply bDrew | apply bAlloc)) hbn); replace HA := Lib.hid (moveX (by (repeat with_reducible first | exact Below.refl _ _ | apply bDrew | apply bAlloc)) hbn HA.out); replace HB := Lib.hid (moveX (by (repeat with_reducible first | exact Below.refl _ _ | apply bDrew | apply bAlloc)) hbn HB.out); replace HC := Lib.hid (moveX (by (repeat with_reducible first | exact Below.refl _ _ | apply bDrew | apply bAlloc)) hbn HC.out); replace HS := Lib.hid (moveX (by (repeat with_reducible first | exact Below.refl _ _ | apply bDrew | apply bAlloc)) hbn HS.out); replace HU := Lib.hid (moveX (by (repeat with_reducible first | exact Below.refl _ _ | apply bDrew | apply bAlloc)) hbn HU.out); replace A0 := (cells2 HA.out).1.1; replace A1 := (cells2 HA.out).1.2; replace A2 := (cells2 HA.out).2.1; replace A3 := (cells2 HA.out).2.2; replace Al := blkLt HA.out; replace B0 := (cells2 HB.out).1.1; replace B1 := (cells2 HB.out).1.2; replace B2 := (cells2 HB.out).2.1; replace B3 := (cells2 HB.out).2.2; replace Bl := blkLt HB.out; replace C0 := (cells2 HC.out).1.1; replace C1 := (cells2 HC.out).1.2; replace C2 := (cells2 HC.out).2.1; replace C3 := (cells2 HC.out).2.2; replace Cl := blkLt HC.out; replace S0 := (cells2 HS.out).1.1; replace S1 := (cells2 HS.out).1.2; replace S2 := (cells2 HS.out).2.1; replace S3 := (cells2 HS.out).2.2; replace Sl := blkLt HS.out; replace U0 := (cells2 HU.out).1.1; replace U1 := (cells2 HU.out).1.2; replace U2 := (cells2 HU.out).2.1; replace U3 := (cells2 HU.out).2.2; replace Ul := blkLt HU.out; clear hbn)
                    go_meet
                    exact ⟨_, rfl, rfl, Lib.hid (mvAlloc HA.out), Lib.hid (mvAlloc HB.out), Lib.hid (mvAlloc HC.out), Lib.hid (mvAlloc HS.out), Lib.hid (mvAlloc HU.out), Lib.hid (newBlk _ _ _ rfl), Lib.hid (bAlloc HW.out)⟩
                  case rest => as_aux_lemma =>
                    clear HW HA HB HC HS HU
                    obtain ⟨bX, rfl, rfl, HA, HB, HC, HS, HU, HX, HW⟩ := hcut
                    go_upto_region 14 with fail
                    go_cut [20, 21] (fun s1 s2 wx => ∃ bY : Nat, s1 = .pointer (some ⟨bY, 0, none⟩) ∧ s2 = .int .i64 0 ∧ Hid (wx.heap[w.heap.size]? = some (.cells #[.int .i64 (a.n), .int .i64 (a.d)] 23 (0, 0))) ∧ Hid (wx.heap[w.heap.size + 1]? = some (.cells #[.int .i64 (b.n), .int .i64 (b.d)] 23 (0, 0))) ∧ Hid (wx.heap[w.heap.size + 1 + 1]? = some (.cells #[.int .i64 (c.n), .int .i64 (c.d)] 23 (0, 0))) ∧ Hid (wx.heap[bS]? = some (.cells #[.int .i64 (s.n), .int .i64 (s.d)] 23 (0, 0))) ∧ Hid (wx.heap[bU]? = some (.cells #[.int .i64 (u.n), .int .i64 (u.d)] 23 (0, 0))) ∧ Hid (wx.heap[bX]? = some (.cells #[.int .i64 (x.n), .int .i64 (x.d)] 23 (0, 0))) ∧ Hid (wx.heap[bY]? = some (.cells #[.int .i64 (y.n), .int .i64 (y.d)] 23 (0, 0))) ∧ Hid (Below w.heap.size w wx))
                    case first => as_aux_lemma =>
                      have A0 := (cells2 HA.out).1.1
                      have A1 := (cells2 HA.out).1.2
                      have A2 := (cells2 HA.out).2.1
                      have A3 := (cells2 HA.out).2.2
                      have Al := blkLt HA.out
                      have B0 := (cells2 HB.out).1.1
                      have B1 := (cells2 HB.out).1.2
                      have B2 := (cells2 HB.out).2.1
                      have B3 := (cells2 HB.out).2.2
                      have Bl := blkLt HB.out
                      have C0 := (cells2 HC.out).1.1
                      have C1 := (cells2 HC.out).1.2
                      have C2 := (cells2 HC.out).2.1
                      have C3 := (cells2 HC.out).2.2
                      have Cl := blkLt HC.out
                      have S0 := (cells2 HS.out).1.1
                      have S1 := (cells2 HS.out).1.2
                      have S2 := (cells2 HS.out).2.1
                      have S3 := (cells2 HS.out).2.2
                      have Sl := blkLt HS.out
                      have U0 := (cells2 HU.out).1.1
                      have U1 := (cells2 HU.out).1.2
                      have U2 := (cells2 HU.out).2.1
                      have U3 := (cells2 HU.out).2.2
                      have Ul := blkLt HU.out
                      have X0 := (cells2 HX.out).1.1
                      have X1 := (cells2 HX.out).1.2
                      have X2 := (cells2 HX.out).2.1
                      have X3 := (cells2 HX.out).2.2
                      have Xl := blkLt HX.out
                      go_wp2_with (go_at_call 13; refine (c6.out _).mono ?_; rintro e wn ⟨rfl, hbn⟩; replace HW := Lib.hid (bCall (by (repeat with_reducible first | exact HW.out | apply bDrew | apply bAlloc)) hbn); replace HA := Lib.hid (moveX (by (repeat with_reducible first | exact Below.refl _ _ | apply bDrew | apply bAlloc)) hbn HA.out); replace HB := Lib.hid (moveX (by (repeat with_reducible first | exact Below.refl _ _ | apply bDrew | apply bAlloc)) hbn HB.out); replace HC := Lib.hid (moveX (by (repeat with_reducible first | exact Below.refl _ _ | apply bDrew | apply bAlloc)) hbn HC.out); replace HS := Lib.hid (moveX (by (repeat with_reducible first | exact Below.refl _ _ | apply bDrew | apply bAlloc)) hbn HS.out); replace HU := Lib.hid (moveX (by (repeat with_reducible first | exact Below.refl _ _ | apply bDrew | apply bAlloc)) hbn HU.out); replace HX := Lib.hid (moveX (by (repeat with_reducible first | exact Below.refl _ _ | apply bDrew | apply bAlloc)) hbn HX.out); replace A0 := (cells2 HA.out).1.1; replace A1 := (cells2 HA.out).1.2; replace A2 := (cells2 HA.out).2.1; replace A3 := (cells2 HA.out).2.2; replace Al := blkLt HA.out; replace B0 := (cells2 HB.out).1.1; replace B1 := (cells2 HB.out).1.2; replace B2 := (cells2 HB.out).2.1; replace B3 := (cells2 HB.out).2.2; replace Bl := blkLt HB.out; replace C0 := (cells2 HC.out).1.1; replace C1 := (cells2 HC.out).1.2; replace C2 := (cells2 HC.out).2.1; replace C3 := (cells2 HC.out).2.2; replace Cl := blkLt HC.out; replace S0 := (cells2 HS.out).1.1; replace S1 := (cells2 HS.out).1.2; replace S2 := (cells2 HS.out).2.1; replace S3 := (cells2 HS.out).2.2; replace Sl := blkLt HS.out; replace U0 := (cells2 HU.out).1.1; replace U1 := (cells2 HU.out).1.2; replace U2 := (cells2 HU.out).2.1; replace U3 := (cells2 HU.out).2.2; replace Ul := blkLt HU.out; replace X0 := (cells2 HX.out).1.1; replace X1 := (cells2 HX.out).1.2; replace X2 := (cells2 HX.out).2.1; replace X3 := (cells2 HX.out).2.2; replace Xl := blkLt HX.out; clear hbn)
                      go_meet
                      exact ⟨_, rfl, rfl, Lib.hid (mvAlloc HA.out), Lib.hid (mvAlloc HB.out), Lib.hid (mvAlloc HC.out), Lib.hid (mvAlloc HS.out), Lib.hid (mvAlloc HU.out), Lib.hid (mvAlloc HX.out), Lib.hid (newBlk _ _ _ rfl), Lib.hid (bAlloc HW.out)⟩
                    case rest => as_aux_lemma =>
                      clear HW HA HB HC HS HU HX
                      obtain ⟨bY, rfl, rfl, HA, HB, HC, HS, HU, HX, HY, HW⟩ := hcut
                      go_upto_region 15 with fail
                      go_cut [22, 23] (fun s1 s2 wx => ∃ bZ : Nat, s1 = .pointer (some ⟨bZ, 0, none⟩) ∧ s2 = .int .i64 i ∧ Hid (wx.heap[w.heap.size]? = some (.cells #[.int .i64 (a.n), .int .i64 (a.d)] 23 (0, 0))) ∧ Hid (wx.heap[w.heap.size + 1]? = some (.cells #[.int .i64 (b.n), .int .i64 (b.d)] 23 (0, 0))) ∧ Hid (wx.heap[w.heap.size + 1 + 1]? = some (.cells #[.int .i64 (c.n), .int .i64 (c.d)] 23 (0, 0))) ∧ Hid (wx.heap[bS]? = some (.cells #[.int .i64 (s.n), .int .i64 (s.d)] 23 (0, 0))) ∧ Hid (wx.heap[bU]? = some (.cells #[.int .i64 (u.n), .int .i64 (u.d)] 23 (0, 0))) ∧ Hid (wx.heap[bX]? = some (.cells #[.int .i64 (x.n), .int .i64 (x.d)] 23 (0, 0))) ∧ Hid (wx.heap[bY]? = some (.cells #[.int .i64 (y.n), .int .i64 (y.d)] 23 (0, 0))) ∧ Hid (wx.heap[bZ]? = some (.cells #[.int .i64 (x.n), .int .i64 (x.d)] 23 (0, 0))) ∧ Hid (Below w.heap.size w wx))
                      case first => as_aux_lemma =>
                        have A0 := (cells2 HA.out).1.1
                        have A1 := (cells2 HA.out).1.2
                        have A2 := (cells2 HA.out).2.1
                        have A3 := (cells2 HA.out).2.2
                        have Al := blkLt HA.out
                        have B0 := (cells2 HB.out).1.1
                        have B1 := (cells2 HB.out).1.2
                        have B2 := (cells2 HB.out).2.1
                        have B3 := (cells2 HB.out).2.2
                        have Bl := blkLt HB.out
                        have C0 := (cells2 HC.out).1.1
                        have C1 := (cells2 HC.out).1.2
                        have C2 := (cells2 HC.out).2.1
                        have C3 := (cells2 HC.out).2.2
                        have Cl := blkLt HC.out
                        have S0 := (cells2 HS.out).1.1
                        have S1 := (cells2 HS.out).1.2
                        have S2 := (cells2 HS.out).2.1
                        have S3 := (cells2 HS.out).2.2
                        have Sl := blkLt HS.out
                        have U0 := (cells2 HU.out).1.1
                        have U1 := (cells2 HU.out).1.2
                        have U2 := (cells2 HU.out).2.1
                        have U3 := (cells2 HU.out).2.2
                        have Ul := blkLt HU.out
                        have X0 := (cells2 HX.out).1.1
                        have X1 := (cells2 HX.out).1.2
                        have X2 := (cells2 HX.out).2.1
                        have X3 := (cells2 HX.out).2.2
                        have Xl := blkLt HX.out
                        have Y0 := (cells2 HY.out).1.1
                        have Y1 := (cells2 HY.out).1.2
                        have Y2 := (cells2 HY.out).2.1
                        have Y3 := (cells2 HY.out).2.2
                        have Yl := blkLt HY.out
                        go_wp2_with (go_at_call 13; refine (c7.out _).mono ?_; rintro e wn ⟨rfl, hbn⟩; replace HW := Lib.hid (bCall (by (repeat with_reducible first | exact HW.out | apply bDrew | apply bAlloc)) hbn); replace HA := Lib.hid (moveX (by (repeat with_reducible first | exact Below.refl _ _ | apply bDrew | apply bAlloc)) hbn HA.out); replace HB := Lib.hid (moveX (by (repeat with_reducible first | exact Below.refl _ _ | apply bDrew | apply bAlloc)) hbn HB.out); replace HC := Lib.hid (moveX (by (repeat with_reducible first | exact Below.refl _ _ | apply bDrew | apply bAlloc)) hbn HC.out); replace HS := Lib.hid (moveX (by (repeat with_reducible first | exact Below.refl _ _ | apply bDrew | apply bAlloc)) hbn HS.out); replace HU := Lib.hid (moveX (by (repeat with_reducible first | exact Below.refl _ _ | apply bDrew | apply bAlloc)) hbn HU.out); replace HX := Lib.hid (moveX (by (repeat with_reducible first | exact Below.refl _ _ | apply bDrew | apply bAlloc)) hbn HX.out); replace HY := Lib.hid (moveX (by (repeat with_reducible first | exact Below.refl _ _ | apply bDrew | apply bAlloc)) hbn HY.out); replace A0 := (cells2 HA.out).1.1; replace A1 := (cells2 HA.out).1.2; replace A2 := (cells2 HA.out).2.1; replace A3 := (cells2 HA.out).2.2; replace Al := blkLt HA.out; replace B0 := (cells2 HB.out).1.1; replace B1 := (cells2 HB.out).1.2; replace B2 := (cells2 HB.out).2.1; replace B3 := (cells2 HB.out).2.2; replace Bl := blkLt HB.out; replace C0 := (cells2 HC.out).1.1; replace C1 := (cells2 HC.out).1.2; replace C2 := (cells2 HC.out).2.1; replace C3 := (cells2 HC.out).2.2; replace Cl := blkLt HC.out; replace S0 := (cells2 HS.out).1.1; replace S1 := (cells2 HS.out).1.2; replace S2 := (cells2 HS.out).2.1; replace S3 := (cells2 HS.out).2.2; replace Sl := blkLt HS.out; replace U0 := (cells2 HU.out).1.1; replace U1 := (cells2 HU.out).1.2; replace U2 := (cells2 HU.out).2.1; replace U3 := (cells2 HU.out).2.2; replace Ul := blkLt HU.out; replace X0 := (cells2 HX.out).1.1; replace X1 := (cells2 HX.out).1.2; replace X2 := (cells2 HX.out).2.1; replace X3 := (cells2 HX.out).2.2; replace Xl := blkLt HX.out; replace Y0 := (cells2 HY.out).1.1; replace Y1 := (cells2 HY.out).1.2; replace Y2 := (cells2 HY.out).2.1; replace Y3 := (cells2 HY.out).2.2; replace Yl := blkLt HY.out; clear hbn)
                        go_meet
                        exact ⟨_, rfl, rfl, Lib.hid (mvAlloc HA.out), Lib.hid (mvAlloc HB.out), Lib.hid (mvAlloc HC.out), Lib.hid (mvAlloc HS.out), Lib.hid (mvAlloc HU.out), Lib.hid (mvAlloc HX.out), Lib.hid (mvAlloc HY.out), Lib.hid (newBlk _ _ _ rfl), Lib.hid (bAlloc HW.out)⟩
                      case rest => as_aux_lemma =>
                        clear HW HA HB HC HS HU HX HY
                        obtain ⟨bZ, rfl, rfl, HA, HB, HC, HS, HU, HX, HY, HZ, HW⟩ := hcut
                        clear c5 c6 c7
                        go_upto_region 16 with fail
                        go_cut [7] (fun s1 wx => s1 = .bool true ∧ Hid (wx.heap[w.heap.size]? = some (.cells #[.int .i64 (a.n), .int .i64 (a.d)] 23 (0, 0))) ∧ Hid (wx.heap[w.heap.size + 1]? = some (.cells #[.int .i64 (b.n), .int .i64 (b.d)] 23 (0, 0))) ∧ Hid (wx.heap[w.heap.size + 1 + 1]? = some (.cells #[.int .i64 (c.n), .int .i64 (c.d)] 23 (0, 0))) ∧ Hid (wx.heap[bS]? = some (.cells #[.int .i64 (s.n), .int .i64 (s.d)] 23 (0, 0))) ∧ Hid (wx.heap[bU]? = some (.cells #[.int .i64 (u.n), .int .i64 (u.d)] 23 (0, 0))) ∧ Hid (Below w.heap.size w wx))
                        case first => as_aux_lemma =>
                          have X0 := (cells2 HX.out).1.1
                          have X1 := (cells2 HX.out).1.2
                          have X2 := (cells2 HX.out).2.1
                          have X3 := (cells2 HX.out).2.2
                          have Xl := blkLt HX.out
                          have Z0 := (cells2 HZ.out).1.1
                          have Z1 := (cells2 HZ.out).1.2
                          have Z2 := (cells2 HZ.out).2.1
                          have Z3 := (cells2 HZ.out).2.2
                          have Zl := blkLt HZ.out
                          have z1 := fun w => run_q_eq x x w
                          rw [qEq_rfl] at z1
                          go_wp2_with fail
                          go_meet
                          exact ⟨rfl, HA, HB, HC, HS, HU, HW⟩
                        case rest => as_aux_lemma =>
                          clear HW HA HB HC HS HU HX HY HZ
                          obtain ⟨rfl, HA, HB, HC, HS, HU, HW⟩ := hcut
                          go_upto_region 17 with fail
                          go_cut [24, 25] (fun s1 s2 wx => ∃ bM : Nat, s1 = .pointer (some ⟨bM, 0, none⟩) ∧ s2 = .int .i64 n ∧ Hid (wx.heap[w.heap.size]? = some (.cells #[.int .i64 (a.n), .int .i64 (a.d)] 23 (0, 0))) ∧ Hid (wx.heap[w.heap.size + 1]? = some (.cells #[.int .i64 (b.n), .int .i64 (b.d)] 23 (0, 0))) ∧ Hid (wx.heap[w.heap.size + 1 + 1]? = some (.cells #[.int .i64 (c.n), .int .i64 (c.d)] 23 (0, 0))) ∧ Hid (wx.heap[bS]? = some (.cells #[.int .i64 (s.n), .int .i64 (s.d)] 23 (0, 0))) ∧ Hid (wx.heap[bU]? = some (.cells #[.int .i64 (u.n), .int .i64 (u.d)] 23 (0, 0))) ∧ Hid (wx.heap[bM]? = some (.cells #[.int .i64 (m.n), .int .i64 (m.d)] 23 (0, 0))) ∧ Hid (Below w.heap.size w wx))
                          case first => as_aux_lemma =>
                            have A0 := (cells2 HA.out).1.1
                            have A1 := (cells2 HA.out).1.2
                            have A2 := (cells2 HA.out).2.1
                            have A3 := (cells2 HA.out).2.2
                            have Al := blkLt HA.out
                            have B0 := (cells2 HB.out).1.1
                            have B1 := (cells2 HB.out).1.2
                            have B2 := (cells2 HB.out).2.1
                            have B3 := (cells2 HB.out).2.2
                            have Bl := blkLt HB.out
                            have C0 := (cells2 HC.out).1.1
                            have C1 := (cells2 HC.out).1.2
                            have C2 := (cells2 HC.out).2.1
                            have C3 := (cells2 HC.out).2.2
                            have Cl := blkLt HC.out
                            have S0 := (cells2 HS.out).1.1
                            have S1 := (cells2 HS.out).1.2
                            have S2 := (cells2 HS.out).2.1
                            have S3 := (cells2 HS.out).2.2
                            have Sl := blkLt HS.out
                            have U0 := (cells2 HU.out).1.1
                            have U1 := (cells2 HU.out).1.2
                            have U2 := (cells2 HU.out).2.1
                            have U3 := (cells2 HU.out).2.2
                            have Ul := blkLt HU.out
                            go_wp2_with (go_at_call 17; refine (c8.out _).mono ?_; rintro e wn ⟨rfl, hbn⟩; replace HW := Lib.hid (bCall (by (repeat with_reducible first | exact HW.out | apply bDrew | apply bAlloc)) hbn); replace HA := Lib.hid (moveX (by (repeat with_reducible first | exact Below.refl _ _ | apply bDrew | apply bAlloc)) hbn HA.out); replace HB := Lib.hid (moveX (by (repeat with_reducible first | exact Below.refl _ _ | apply bDrew | apply bAlloc)) hbn HB.out); replace HC := Lib.hid (moveX (by (repeat with_reducible first | exact Below.refl _ _ | apply bDrew | apply bAlloc)) hbn HC.out); replace HS := Lib.hid (moveX (by (repeat with_reducible first | exact Below.refl _ _ | apply bDrew | apply bAlloc)) hbn HS.out); replace HU := Lib.hid (moveX (by (repeat with_reducible first | exact Below.refl _ _ | apply bDrew | apply bAlloc)) hbn HU.out); replace A0 := (cells2 HA.out).1.1; replace A1 := (cells2 HA.out).1.2; replace A2 := (cells2 HA.out).2.1; replace A3 := (cells2 HA.out).2.2; replace Al := blkLt HA.out; replace B0 := (cells2 HB.out).1.1; replace B1 := (cells2 HB.out).1.2; replace B2 := (cells2 HB.out).2.1; replace B3 := (cells2 HB.out).2.2; replace Bl := blkLt HB.out; replace C0 := (cells2 HC.out).1.1; replace C1 := (cells2 HC.out).1.2; replace C2 := (cells2 HC.out).2.1; replace C3 := (cells2 HC.out).2.2; replace Cl := blkLt HC.out; replace S0 := (cells2 HS.out).1.1; replace S1 := (cells2 HS.out).1.2; replace S2 := (cells2 HS.out).2.1; replace S3 := (cells2 HS.out).2.2; replace Sl := blkLt HS.out; replace U0 := (cells2 HU.out).1.1; replace U1 := (cells2 HU.out).1.2; replace U2 := (cells2 HU.out).2.1; replace U3 := (cells2 HU.out).2.2; replace Ul := blkLt HU.out; clear hbn)
                            go_meet
                            exact ⟨_, rfl, rfl, Lib.hid (mvAlloc HA.out), Lib.hid (mvAlloc HB.out), Lib.hid (mvAlloc HC.out), Lib.hid (mvAlloc HS.out), Lib.hid (mvAlloc HU.out), Lib.hid (newBlk _ _ _ rfl), Lib.hid (bAlloc HW.out)⟩
                          case rest => as_aux_lemma =>
                            clear HW HA HB HC HS HU
                            obtain ⟨bM, rfl, rfl, HA, HB, HC, HS, HU, HM, HW⟩ := hcut
                            go_upto_region 18 with fail
                            go_cut [26, 27] (fun s1 s2 wx => ∃ bO : Nat, s1 = .pointer (some ⟨bO, 0, none⟩) ∧ s2 = .int .i64 0 ∧ Hid (wx.heap[w.heap.size]? = some (.cells #[.int .i64 (a.n), .int .i64 (a.d)] 23 (0, 0))) ∧ Hid (wx.heap[w.heap.size + 1]? = some (.cells #[.int .i64 (b.n), .int .i64 (b.d)] 23 (0, 0))) ∧ Hid (wx.heap[w.heap.size + 1 + 1]? = some (.cells #[.int .i64 (c.n), .int .i64 (c.d)] 23 (0, 0))) ∧ Hid (wx.heap[bS]? = some (.cells #[.int .i64 (s.n), .int .i64 (s.d)] 23 (0, 0))) ∧ Hid (wx.heap[bU]? = some (.cells #[.int .i64 (u.n), .int .i64 (u.d)] 23 (0, 0))) ∧ Hid (wx.heap[bM]? = some (.cells #[.int .i64 (m.n), .int .i64 (m.d)] 23 (0, 0))) ∧ Hid (wx.heap[bO]? = some (.cells #[.int .i64 (v.n), .int .i64 (v.d)] 23 (0, 0))) ∧ Hid (Below w.heap.size w wx))
                            case first => as_aux_lemma =>
                              have A0 := (cells2 HA.out).1.1
                              have A1 := (cells2 HA.out).1.2
                              have A2 := (cells2 HA.out).2.1
                              have A3 := (cells2 HA.out).2.2
                              have Al := blkLt HA.out
                              have B0 := (cells2 HB.out).1.1
                              have B1 := (cells2 HB.out).1.2
                              have B2 := (cells2 HB.out).2.1
                              have B3 := (cells2 HB.out).2.2
                              have Bl := blkLt HB.out
                              have C0 := (cells2 HC.out).1.1
                              have C1 := (cells2 HC.out).1.2
                              have C2 := (cells2 HC.out).2.1
                              have C3 := (cells2 HC.out).2.2
                              have Cl := blkLt HC.out
                              have S0 := (cells2 HS.out).1.1
                              have S1 := (cells2 HS.out).1.2
                              have S2 := (cells2 HS.out).2.1
                              have S3 := (cells2 HS.out).2.2
                              have Sl := blkLt HS.out
                              have U0 := (cells2 HU.out).1.1
                              have U1 := (cells2 HU.out).1.2
                              have U2 := (cells2 HU.out).2.1
                              have U3 := (cells2 HU.out).2.2
                              have Ul := blkLt HU.out
                              have M0 := (cells2 HM.out).1.1
                              have M1 := (cells2 HM.out).1.2
                              have M2 := (cells2 HM.out).2.1
                              have M3 := (cells2 HM.out).2.2
                              have Ml := blkLt HM.out
                              go_wp2_with (go_at_call 17; refine (c9.out _).mono ?_; rintro e wn ⟨rfl, hbn⟩; replace HW := Lib.hid (bCall (by (repeat with_reducible first | exact HW.out | apply bDrew | apply bAlloc)) hbn); replace HA := Lib.hid (moveX (by (repeat with_reducible first | exact Below.refl _ _ | apply bDrew | apply bAlloc)) hbn HA.out); replace HB := Lib.hid (moveX (by (repeat with_reducible first | exact Below.refl _ _ | apply bDrew | apply bAlloc)) hbn HB.out); replace HC := Lib.hid (moveX (by (repeat with_reducible first | exact Below.refl _ _ | apply bDrew | apply bAlloc)) hbn HC.out); replace HS := Lib.hid (moveX (by (repeat with_reducible first | exact Below.refl _ _ | apply bDrew | apply bAlloc)) hbn HS.out); replace HU := Lib.hid (moveX (by (repeat with_reducible first | exact Below.refl _ _ | apply bDrew | apply bAlloc)) hbn HU.out); replace HM := Lib.hid (moveX (by (repeat with_reducible first | exact Below.refl _ _ | apply bDrew | apply bAlloc)) hbn HM.out); replace A0 := (cells2 HA.out).1.1; replace A1 := (cells2 HA.out).1.2; replace A2 := (cells2 HA.out).2.1; replace A3 := (cells2 HA.out).2.2; replace Al := blkLt HA.out; replace B0 := (cells2 HB.out).1.1; replace B1 := (cells2 HB.out).1.2; replace B2 := (cells2 HB.out).2.1; replace B3 := (cells2 HB.out).2.2; replace Bl := blkLt HB.out; replace C0 := (cells2 HC.out).1.1; replace C1 := (cells2 HC.out).1.2; replace C2 := (cells2 HC.out).2.1; replace C3 := (cells2 HC.out).2.2; replace Cl := blkLt HC.out; replace S0 := (cells2 HS.out).1.1; replace S1 := (cells2 HS.out).1.2; replace S2 := (cells2 HS.out).2.1; replace S3 := (cells2 HS.out).2.2; replace Sl := blkLt HS.out; replace U0 := (cells2 HU.out).1.1; replace U1 := (cells2 HU.out).1.2; replace U2 := (cells2 HU.out).2.1; replace U3 := (cells2 HU.out).2.2; replace Ul := blkLt HU.out; replace M0 := (cells2 HM.out).1.1; replace M1 := (cells2 HM.out).1.2; replace M2 := (cells2 HM.out).2.1; replace M3 := (cells2 HM.out).2.2; replace Ml := blkLt HM.out; clear hbn)
                              go_meet
                              exact ⟨_, rfl, rfl, Lib.hid (mvAlloc HA.out), Lib.hid (mvAlloc HB.out), Lib.hid (mvAlloc HC.out), Lib.hid (mvAlloc HS.out), Lib.hid (mvAlloc HU.out), Lib.hid (mvAlloc HM.out), Lib.hid (newBlk _ _ _ rfl), Lib.hid (bAlloc HW.out)⟩
                            case rest => as_aux_lemma =>
                              clear HW HA HB HC HS HU HM
                              obtain ⟨bO, rfl, rfl, HA, HB, HC, HS, HU, HM, HO, HW⟩ := hcut
                              go_upto_region 19 with fail
                              go_cut [28, 29] (fun s1 s2 wx => ∃ bG : Nat, s1 = .pointer (some ⟨bG, 0, none⟩) ∧ s2 = .int .i64 n ∧ Hid (wx.heap[w.heap.size]? = some (.cells #[.int .i64 (a.n), .int .i64 (a.d)] 23 (0, 0))) ∧ Hid (wx.heap[w.heap.size + 1]? = some (.cells #[.int .i64 (b.n), .int .i64 (b.d)] 23 (0, 0))) ∧ Hid (wx.heap[w.heap.size + 1 + 1]? = some (.cells #[.int .i64 (c.n), .int .i64 (c.d)] 23 (0, 0))) ∧ Hid (wx.heap[bS]? = some (.cells #[.int .i64 (s.n), .int .i64 (s.d)] 23 (0, 0))) ∧ Hid (wx.heap[bU]? = some (.cells #[.int .i64 (u.n), .int .i64 (u.d)] 23 (0, 0))) ∧ Hid (wx.heap[bM]? = some (.cells #[.int .i64 (m.n), .int .i64 (m.d)] 23 (0, 0))) ∧ Hid (wx.heap[bO]? = some (.cells #[.int .i64 (v.n), .int .i64 (v.d)] 23 (0, 0))) ∧ Hid (wx.heap[bG]? = some (.cells #[.int .i64 (m.n), .int .i64 (m.d)] 23 (0, 0))) ∧ Hid (Below w.heap.size w wx))
                              case first => as_aux_lemma =>
                                have A0 := (cells2 HA.out).1.1
                                have A1 := (cells2 HA.out).1.2
                                have A2 := (cells2 HA.out).2.1
                                have A3 := (cells2 HA.out).2.2
                                have Al := blkLt HA.out
                                have B0 := (cells2 HB.out).1.1
                                have B1 := (cells2 HB.out).1.2
                                have B2 := (cells2 HB.out).2.1
                                have B3 := (cells2 HB.out).2.2
                                have Bl := blkLt HB.out
                                have C0 := (cells2 HC.out).1.1
                                have C1 := (cells2 HC.out).1.2
                                have C2 := (cells2 HC.out).2.1
                                have C3 := (cells2 HC.out).2.2
                                have Cl := blkLt HC.out
                                have S0 := (cells2 HS.out).1.1
                                have S1 := (cells2 HS.out).1.2
                                have S2 := (cells2 HS.out).2.1
                                have S3 := (cells2 HS.out).2.2
                                have Sl := blkLt HS.out
                                have U0 := (cells2 HU.out).1.1
                                have U1 := (cells2 HU.out).1.2
                                have U2 := (cells2 HU.out).2.1
                                have U3 := (cells2 HU.out).2.2
                                have Ul := blkLt HU.out
                                have M0 := (cells2 HM.out).1.1
                                have M1 := (cells2 HM.out).1.2
                                have M2 := (cells2 HM.out).2.1
                                have M3 := (cells2 HM.out).2.2
                                have Ml := blkLt HM.out
                                have O0 := (cells2 HO.out).1.1
                                have O1 := (cells2 HO.out).1.2
                                have O2 := (cells2 HO.out).2.1
                                have O3 := (cells2 HO.out).2.2
                                have Ol := blkLt HO.out
                                go_wp2_with (go_at_call 17; refine (d0.out _).mono ?_; rintro e wn ⟨rfl, hbn⟩; replace HW := Lib.hid (bCall (by (repeat with_reducible first | exact HW.out | apply bDrew | apply bAlloc)) hbn); replace HA := Lib.hid (moveX (by (repeat with_reducible first | exact Below.refl _ _ | apply bDrew | apply bAlloc)) hbn HA.out); replace HB := Lib.hid (moveX (by (repeat with_reducible first | exact Below.refl _ _ | apply bDrew | apply bAlloc)) hbn HB.out); replace HC := Lib.hid (moveX (by (repeat with_reducible first | exact Below.refl _ _ | apply bDrew | apply bAlloc)) hbn HC.out); replace HS := Lib.hid (moveX (by (repeat with_reducible first | exact Below.refl _ _ | apply bDrew | apply bAlloc)) hbn HS.out); replace HU := Lib.hid (moveX (by (repeat with_reducible first | exact Below.refl _ _ | apply bDrew | apply bAlloc)) hbn HU.out); replace HM := Lib.hid (moveX (by (repeat with_reducible first | exact Below.refl _ _ | apply bDrew | apply bAlloc)) hbn HM.out); replace HO := Lib.hid (moveX (by (repeat with_reducible first | exact Below.refl _ _ | apply bDrew | apply bAlloc)) hbn HO.out); replace A0 := (cells2 HA.out).1.1; replace A1 := (cells2 HA.out).1.2; replace A2 := (cells2 HA.out).2.1; replace A3 := (cells2 HA.out).2.2; replace Al := blkLt HA.out; replace B0 := (cells2 HB.out).1.1; replace B1 := (cells2 HB.out).1.2; replace B2 := (cells2 HB.out).2.1; replace B3 := (cells2 HB.out).2.2; replace Bl := blkLt HB.out; replace C0 := (cells2 HC.out).1.1; replace C1 := (cells2 HC.out).1.2; replace C2 := (cells2 HC.out).2.1; replace C3 := (cells2 HC.out).2.2; replace Cl := blkLt HC.out; replace S0 := (cells2 HS.out).1.1; replace S1 := (cells2 HS.out).1.2; replace S2 := (cells2 HS.out).2.1; replace S3 := (cells2 HS.out).2.2; replace Sl := blkLt HS.out; replace U0 := (cells2 HU.out).1.1; replace U1 := (cells2 HU.out).1.2; replace U2 := (cells2 HU.out).2.1; replace U3 := (cells2 HU.out).2.2; replace Ul := blkLt HU.out; replace M0 := (cells2 HM.out).1.1; replace M1 := (cells2 HM.out).1.2; replace M2 := (cells2 HM.out).2.1; replace M3 := (cells2 HM.out).2.2; replace Ml := blkLt HM.out; replace O0 := (cells2 HO.out).1.1; replace O1 := (cells2 HO.out).1.2; replace O2 := (cells2 HO.out).2.1; replace O3 := (cells2 HO.out).2.2; replace Ol := blkLt HO.out; clear hbn)
                                go_meet
                                exact ⟨_, rfl, rfl, Lib.hid (mvAlloc HA.out), Lib.hid (mvAlloc HB.out), Lib.hid (mvAlloc HC.out), Lib.hid (mvAlloc HS.out), Lib.hid (mvAlloc HU.out), Lib.hid (mvAlloc HM.out), Lib.hid (mvAlloc HO.out), Lib.hid (newBlk _ _ _ rfl), Lib.hid (bAlloc HW.out)⟩
                              case rest => as_aux_lemma =>
                                clear HW HA HB HC HS HU HM HO
                                obtain ⟨bG, rfl, rfl, HA, HB, HC, HS, HU, HM, HO, HG, HW⟩ := hcut
                                clear c8 d0
                                go_upto_region 20 with fail
                                go_cut [7] (fun s1 wx => s1 = .bool true ∧ Hid (wx.heap[w.heap.size]? = some (.cells #[.int .i64 (a.n), .int .i64 (a.d)] 23 (0, 0))) ∧ Hid (wx.heap[w.heap.size + 1]? = some (.cells #[.int .i64 (b.n), .int .i64 (b.d)] 23 (0, 0))) ∧ Hid (wx.heap[w.heap.size + 1 + 1]? = some (.cells #[.int .i64 (c.n), .int .i64 (c.d)] 23 (0, 0))) ∧ Hid (wx.heap[bS]? = some (.cells #[.int .i64 (s.n), .int .i64 (s.d)] 23 (0, 0))) ∧ Hid (Below w.heap.size w wx))
                                case first => as_aux_lemma =>
                                  have M0 := (cells2 HM.out).1.1
                                  have M1 := (cells2 HM.out).1.2
                                  have M2 := (cells2 HM.out).2.1
                                  have M3 := (cells2 HM.out).2.2
                                  have Ml := blkLt HM.out
                                  have G0 := (cells2 HG.out).1.1
                                  have G1 := (cells2 HG.out).1.2
                                  have G2 := (cells2 HG.out).2.1
                                  have G3 := (cells2 HG.out).2.2
                                  have Gl := blkLt HG.out
                                  have z1 := fun w => run_q_eq m m w
                                  rw [qEq_rfl] at z1
                                  go_wp2_with fail
                                  go_meet
                                  exact ⟨rfl, HA, HB, HC, HS, HW⟩
                                case rest => as_aux_lemma =>
                                  clear HW HA HB HC HS HU HM HO HG
                                  obtain ⟨rfl, HA, HB, HC, HS, HW⟩ := hcut
                                  go_upto_region 21 with fail
                                  go_cut [30, 31] (fun s1 s2 wx => ∃ bD : Nat, s1 = .pointer (some ⟨bD, 0, none⟩) ∧ s2 = .int .i64 j ∧ Hid (wx.heap[w.heap.size]? = some (.cells #[.int .i64 (a.n), .int .i64 (a.d)] 23 (0, 0))) ∧ Hid (wx.heap[w.heap.size + 1]? = some (.cells #[.int .i64 (b.n), .int .i64 (b.d)] 23 (0, 0))) ∧ Hid (wx.heap[w.heap.size + 1 + 1]? = some (.cells #[.int .i64 (c.n), .int .i64 (c.d)] 23 (0, 0))) ∧ Hid (wx.heap[bS]? = some (.cells #[.int .i64 (s.n), .int .i64 (s.d)] 23 (0, 0))) ∧ Hid (wx.heap[bD]? = some (.cells #[.int .i64 (d.n), .int .i64 (d.d)] 23 (0, 0))) ∧ Hid (Below w.heap.size w wx))
                                  case first => as_aux_lemma =>
                                    have A0 := (cells2 HA.out).1.1
                                    have A1 := (cells2 HA.out).1.2
                                    have A2 := (cells2 HA.out).2.1
                                    have A3 := (cells2 HA.out).2.2
                                    have Al := blkLt HA.out
                                    have B0 := (cells2 HB.out).1.1
                                    have B1 := (cells2 HB.out).1.2
                                    have B2 := (cells2 HB.out).2.1
                                    have B3 := (cells2 HB.out).2.2
                                    have Bl := blkLt HB.out
                                    have C0 := (cells2 HC.out).1.1
                                    have C1 := (cells2 HC.out).1.2
                                    have C2 := (cells2 HC.out).2.1
                                    have C3 := (cells2 HC.out).2.2
                                    have Cl := blkLt HC.out
                                    have S0 := (cells2 HS.out).1.1
                                    have S1 := (cells2 HS.out).1.2
                                    have S2 := (cells2 HS.out).2.1
                                    have S3 := (cells2 HS.out).2.2
                                    have Sl := blkLt HS.out
                                    go_wp2_with (go_at_call 17; refine (d1.out _).mono ?_; rintro e wn ⟨rfl, hbn⟩; replace HW := Lib.hid (bCall (by (repeat with_reducible first | exact HW.out | apply bDrew | apply bAlloc)) hbn); replace HA := Lib.hid (moveX (by (repeat with_reducible first | exact Below.refl _ _ | apply bDrew | apply bAlloc)) hbn HA.out); replace HB := Lib.hid (moveX (by (repeat with_reducible first | exact Below.refl _ _ | apply bDrew | apply bAlloc)) hbn HB.out); replace HC := Lib.hid (moveX (by (repeat with_reducible first | exact Below.refl _ _ | apply bDrew | apply bAlloc)) hbn HC.out); replace HS := Lib.hid (moveX (by (repeat with_reducible first | exact Below.refl _ _ | apply bDrew | apply bAlloc)) hbn HS.out); replace A0 := (cells2 HA.out).1.1; replace A1 := (cells2 HA.out).1.2; replace A2 := (cells2 HA.out).2.1; replace A3 := (cells2 HA.out).2.2; replace Al := blkLt HA.out; replace B0 := (cells2 HB.out).1.1; replace B1 := (cells2 HB.out).1.2; replace B2 := (cells2 HB.out).2.1; replace B3 := (cells2 HB.out).2.2; replace Bl := blkLt HB.out; replace C0 := (cells2 HC.out).1.1; replace C1 := (cells2 HC.out).1.2; replace C2 := (cells2 HC.out).2.1; replace C3 := (cells2 HC.out).2.2; replace Cl := blkLt HC.out; replace S0 := (cells2 HS.out).1.1; replace S1 := (cells2 HS.out).1.2; replace S2 := (cells2 HS.out).2.1; replace S3 := (cells2 HS.out).2.2; replace Sl := blkLt HS.out; clear hbn)
                                    go_meet
                                    exact ⟨_, rfl, rfl, Lib.hid (mvAlloc HA.out), Lib.hid (mvAlloc HB.out), Lib.hid (mvAlloc HC.out), Lib.hid (mvAlloc HS.out), Lib.hid (newBlk _ _ _ rfl), Lib.hid (bAlloc HW.out)⟩
                                  case rest => as_aux_lemma =>
                                    clear HW HA HB HC HS
                                    obtain ⟨bD, rfl, rfl, HA, HB, HC, HS, HD, HW⟩ := hcut
                                    go_upto_region 22 with fail
                                    go_cut [32, 33] (fun s1 s2 wx => ∃ bF : Nat, s1 = .pointer (some ⟨bF, 0, none⟩) ∧ s2 = .int .i64 0 ∧ Hid (wx.heap[w.heap.size]? = some (.cells #[.int .i64 (a.n), .int .i64 (a.d)] 23 (0, 0))) ∧ Hid (wx.heap[w.heap.size + 1]? = some (.cells #[.int .i64 (b.n), .int .i64 (b.d)] 23 (0, 0))) ∧ Hid (wx.heap[w.heap.size + 1 + 1]? = some (.cells #[.int .i64 (c.n), .int .i64 (c.d)] 23 (0, 0))) ∧ Hid (wx.heap[bS]? = some (.cells #[.int .i64 (s.n), .int .i64 (s.d)] 23 (0, 0))) ∧ Hid (wx.heap[bD]? = some (.cells #[.int .i64 (d.n), .int .i64 (d.d)] 23 (0, 0))) ∧ Hid (wx.heap[bF]? = some (.cells #[.int .i64 (f.n), .int .i64 (f.d)] 23 (0, 0))) ∧ Hid (Below w.heap.size w wx))
                                    case first => as_aux_lemma =>
                                      have A0 := (cells2 HA.out).1.1
                                      have A1 := (cells2 HA.out).1.2
                                      have A2 := (cells2 HA.out).2.1
                                      have A3 := (cells2 HA.out).2.2
                                      have Al := blkLt HA.out
                                      have B0 := (cells2 HB.out).1.1
                                      have B1 := (cells2 HB.out).1.2
                                      have B2 := (cells2 HB.out).2.1
                                      have B3 := (cells2 HB.out).2.2
                                      have Bl := blkLt HB.out
                                      have C0 := (cells2 HC.out).1.1
                                      have C1 := (cells2 HC.out).1.2
                                      have C2 := (cells2 HC.out).2.1
                                      have C3 := (cells2 HC.out).2.2
                                      have Cl := blkLt HC.out
                                      have S0 := (cells2 HS.out).1.1
                                      have S1 := (cells2 HS.out).1.2
                                      have S2 := (cells2 HS.out).2.1
                                      have S3 := (cells2 HS.out).2.2
                                      have Sl := blkLt HS.out
                                      have D0 := (cells2 HD.out).1.1
                                      have D1 := (cells2 HD.out).1.2
                                      have D2 := (cells2 HD.out).2.1
                                      have D3 := (cells2 HD.out).2.2
                                      have Dl := blkLt HD.out
                                      go_wp2_with (go_at_call 17; refine (d2.out _).mono ?_; rintro e wn ⟨rfl, hbn⟩; replace HW := Lib.hid (bCall (by (repeat with_reducible first | exact HW.out | apply bDrew | apply bAlloc)) hbn); replace HA := Lib.hid (moveX (by (repeat with_reducible first | exact Below.refl _ _ | apply bDrew | apply bAlloc)) hbn HA.out); replace HB := Lib.hid (moveX (by (repeat with_reducible first | exact Below.refl _ _ | apply bDrew | apply bAlloc)) hbn HB.out); replace HC := Lib.hid (moveX (by (repeat with_reducible first | exact Below.refl _ _ | apply bDrew | apply bAlloc)) hbn HC.out); replace HS := Lib.hid (moveX (by (repeat with_reducible first | exact Below.refl _ _ | apply bDrew | apply bAlloc)) hbn HS.out); replace HD := Lib.hid (moveX (by (repeat with_reducible first | exact Below.refl _ _ | apply bDrew | apply bAlloc)) hbn HD.out); replace A0 := (cells2 HA.out).1.1; replace A1 := (cells2 HA.out).1.2; replace A2 := (cells2 HA.out).2.1; replace A3 := (cells2 HA.out).2.2; replace Al := blkLt HA.out; replace B0 := (cells2 HB.out).1.1; replace B1 := (cells2 HB.out).1.2; replace B2 := (cells2 HB.out).2.1; replace B3 := (cells2 HB.out).2.2; replace Bl := blkLt HB.out; replace C0 := (cells2 HC.out).1.1; replace C1 := (cells2 HC.out).1.2; replace C2 := (cells2 HC.out).2.1; replace C3 := (cells2 HC.out).2.2; replace Cl := blkLt HC.out; replace S0 := (cells2 HS.out).1.1; replace S1 := (cells2 HS.out).1.2; replace S2 := (cells2 HS.out).2.1; replace S3 := (cells2 HS.out).2.2; replace Sl := blkLt HS.out; replace D0 := (cells2 HD.out).1.1; replace D1 := (cells2 HD.out).1.2; replace D2 := (cells2 HD.out).2.1; replace D3 := (cells2 HD.out).2.2; replace Dl := blkLt HD.out; clear hbn)
                                      go_meet
                                      exact ⟨_, rfl, rfl, Lib.hid (mvAlloc HA.out), Lib.hid (mvAlloc HB.out), Lib.hid (mvAlloc HC.out), Lib.hid (mvAlloc HS.out), Lib.hid (mvAlloc HD.out), Lib.hid (newBlk _ _ _ rfl), Lib.hid (bAlloc HW.out)⟩
                                    case rest => as_aux_lemma =>
                                      clear HW HA HB HC HS HD
                                      obtain ⟨bF, rfl, rfl, HA, HB, HC, HS, HD, HF, HW⟩ := hcut
                                      go_upto_region 23 with fail
                                      go_cut [34, 35] (fun s1 s2 wx => ∃ bK : Nat, s1 = .pointer (some ⟨bK, 0, none⟩) ∧ s2 = .int .i64 0 ∧ Hid (wx.heap[w.heap.size]? = some (.cells #[.int .i64 (a.n), .int .i64 (a.d)] 23 (0, 0))) ∧ Hid (wx.heap[w.heap.size + 1]? = some (.cells #[.int .i64 (b.n), .int .i64 (b.d)] 23 (0, 0))) ∧ Hid (wx.heap[w.heap.size + 1 + 1]? = some (.cells #[.int .i64 (c.n), .int .i64 (c.d)] 23 (0, 0))) ∧ Hid (wx.heap[bS]? = some (.cells #[.int .i64 (s.n), .int .i64 (s.d)] 23 (0, 0))) ∧ Hid (wx.heap[bD]? = some (.cells #[.int .i64 (d.n), .int .i64 (d.d)] 23 (0, 0))) ∧ Hid (wx.heap[bF]? = some (.cells #[.int .i64 (f.n), .int .i64 (f.d)] 23 (0, 0))) ∧ Hid (wx.heap[bK]? = some (.cells #[.int .i64 (v.n), .int .i64 (v.d)] 23 (0, 0))) ∧ Hid (Below w.heap.size w wx))
                                      case first => as_aux_lemma =>
                                        have A0 := (cells2 HA.out).1.1
                                        have A1 := (cells2 HA.out).1.2
                                        have A2 := (cells2 HA.out).2.1
                                        have A3 := (cells2 HA.out).2.2
                                        have Al := blkLt HA.out
                                        have B0 := (cells2 HB.out).1.1
                                        have B1 := (cells2 HB.out).1.2
                                        have B2 := (cells2 HB.out).2.1
                                        have B3 := (cells2 HB.out).2.2
                                        have Bl := blkLt HB.out
                                        have C0 := (cells2 HC.out).1.1
                                        have C1 := (cells2 HC.out).1.2
                                        have C2 := (cells2 HC.out).2.1
                                        have C3 := (cells2 HC.out).2.2
                                        have Cl := blkLt HC.out
                                        have S0 := (cells2 HS.out).1.1
                                        have S1 := (cells2 HS.out).1.2
                                        have S2 := (cells2 HS.out).2.1
                                        have S3 := (cells2 HS.out).2.2
                                        have Sl := blkLt HS.out
                                        have D0 := (cells2 HD.out).1.1
                                        have D1 := (cells2 HD.out).1.2
                                        have D2 := (cells2 HD.out).2.1
                                        have D3 := (cells2 HD.out).2.2
                                        have Dl := blkLt HD.out
                                        have F0 := (cells2 HF.out).1.1
                                        have F1 := (cells2 HF.out).1.2
                                        have F2 := (cells2 HF.out).2.1
                                        have F3 := (cells2 HF.out).2.2
                                        have Fl := blkLt HF.out
                                        go_wp2_with (go_at_call 17; refine (c9.out _).mono ?_; rintro e wn ⟨rfl, hbn⟩; replace HW := Lib.hid (bCall (by (repeat with_reducible first | exact HW.out | apply bDrew | apply bAlloc)) hbn); replace HA := Lib.hid (moveX (by (repeat with_reducible first | exact Below.refl _ _ | apply bDrew | apply bAlloc)) hbn HA.out); replace HB := Lib.hid (moveX (by (repeat with_reducible first | exact Below.refl _ _ | apply bDrew | apply bAlloc)) hbn HB.out); replace HC := Lib.hid (moveX (by (repeat with_reducible first | exact Below.refl _ _ | apply bDrew | apply bAlloc)) hbn HC.out); replace HS := Lib.hid (moveX (by (repeat with_reducible first | exact Below.refl _ _ | apply bDrew | apply bAlloc)) hbn HS.out); replace HD := Lib.hid (moveX (by (repeat with_reducible first | exact Below.refl _ _ | apply bDrew | apply bAlloc)) hbn HD.out); replace HF := Lib.hid (moveX (by (repeat with_reducible first | exact Below.refl _ _ | apply bDrew | apply bAlloc)) hbn HF.out); replace A0 := (cells2 HA.out).1.1; replace A1 := (cells2 HA.out).1.2; replace A2 := (cells2 HA.out).2.1; replace A3 := (cells2 HA.out).2.2; replace Al := blkLt HA.out; replace B0 := (cells2 HB.out).1.1; replace B1 := (cells2 HB.out).1.2; replace B2 := (cells2 HB.out).2.1; replace B3 := (cells2 HB.out).2.2; replace Bl := blkLt HB.out; replace C0 := (cells2 HC.out).1.1; replace C1 := (cells2 HC.out).1.2; replace C2 := (cells2 HC.out).2.1; replace C3 := (cells2 HC.out).2.2; replace Cl := blkLt HC.out; replace S0 := (cells2 HS.out).1.1; replace S1 := (cells2 HS.out).1.2; replace S2 := (cells2 HS.out).2.1; replace S3 := (cells2 HS.out).2.2; replace Sl := blkLt HS.out; replace D0 := (cells2 HD.out).1.1; replace D1 := (cells2 HD.out).1.2; replace D2 := (cells2 HD.out).2.1; replace D3 := (cells2 HD.out).2.2; replace Dl := blkLt HD.out; replace F0 := (cells2 HF.out).1.1; replace F1 := (cells2 HF.out).1.2; replace F2 := (cells2 HF.out).2.1; replace F3 := (cells2 HF.out).2.2; replace Fl := blkLt HF.out; clear hbn)
                                        go_meet
                                        exact ⟨_, rfl, rfl, Lib.hid (mvAlloc HA.out), Lib.hid (mvAlloc HB.out), Lib.hid (mvAlloc HC.out), Lib.hid (mvAlloc HS.out), Lib.hid (mvAlloc HD.out), Lib.hid (mvAlloc HF.out), Lib.hid (newBlk _ _ _ rfl), Lib.hid (bAlloc HW.out)⟩
                                      case rest => as_aux_lemma =>
                                        clear HW HA HB HC HS HD HF
                                        obtain ⟨bK, rfl, rfl, HA, HB, HC, HS, HD, HF, HK, HW⟩ := hcut
                                        go_upto_region 24 with fail
                                        go_cut [36, 37] (fun s1 s2 wx => ∃ bI : Nat, s1 = .pointer (some ⟨bI, 0, none⟩) ∧ s2 = .int .i64 j ∧ Hid (wx.heap[w.heap.size]? = some (.cells #[.int .i64 (a.n), .int .i64 (a.d)] 23 (0, 0))) ∧ Hid (wx.heap[w.heap.size + 1]? = some (.cells #[.int .i64 (b.n), .int .i64 (b.d)] 23 (0, 0))) ∧ Hid (wx.heap[w.heap.size + 1 + 1]? = some (.cells #[.int .i64 (c.n), .int .i64 (c.d)] 23 (0, 0))) ∧ Hid (wx.heap[bS]? = some (.cells #[.int .i64 (s.n), .int .i64 (s.d)] 23 (0, 0))) ∧ Hid (wx.heap[bD]? = some (.cells #[.int .i64 (d.n), .int .i64 (d.d)] 23 (0, 0))) ∧ Hid (wx.heap[bF]? = some (.cells #[.int .i64 (f.n), .int .i64 (f.d)] 23 (0, 0))) ∧ Hid (wx.heap[bK]? = some (.cells #[.int .i64 (v.n), .int .i64 (v.d)] 23 (0, 0))) ∧ Hid (wx.heap[bI]? = some (.cells #[.int .i64 (d.n), .int .i64 (d.d)] 23 (0, 0))) ∧ Hid (Below w.heap.size w wx))
                                        case first => as_aux_lemma =>
                                          have A0 := (cells2 HA.out).1.1
                                          have A1 := (cells2 HA.out).1.2
                                          have A2 := (cells2 HA.out).2.1
                                          have A3 := (cells2 HA.out).2.2
                                          have Al := blkLt HA.out
                                          have B0 := (cells2 HB.out).1.1
                                          have B1 := (cells2 HB.out).1.2
                                          have B2 := (cells2 HB.out).2.1
                                          have B3 := (cells2 HB.out).2.2
                                          have Bl := blkLt HB.out
                                          have C0 := (cells2 HC.out).1.1
                                          have C1 := (cells2 HC.out).1.2
                                          have C2 := (cells2 HC.out).2.1
                                          have C3 := (cells2 HC.out).2.2
                                          have Cl := blkLt HC.out
                                          have S0 := (cells2 HS.out).1.1
                                          have S1 := (cells2 HS.out).1.2
                                          have S2 := (cells2 HS.out).2.1
                                          have S3 := (cells2 HS.out).2.2
                                          have Sl := blkLt HS.out
                                          have D0 := (cells2 HD.out).1.1
                                          have D1 := (cells2 HD.out).1.2
                                          have D2 := (cells2 HD.out).2.1
                                          have D3 := (cells2 HD.out).2.2
                                          have Dl := blkLt HD.out
                                          have F0 := (cells2 HF.out).1.1
                                          have F1 := (cells2 HF.out).1.2
                                          have F2 := (cells2 HF.out).2.1
                                          have F3 := (cells2 HF.out).2.2
                                          have Fl := blkLt HF.out
                                          have K0 := (cells2 HK.out).1.1
                                          have K1 := (cells2 HK.out).1.2
                                          have K2 := (cells2 HK.out).2.1
                                          have K3 := (cells2 HK.out).2.2
                                          have Kl := blkLt HK.out
                                          go_wp2_with (go_at_call 13; refine (d4.out _).mono ?_; rintro e wn ⟨rfl, hbn⟩; replace HW := Lib.hid (bCall (by (repeat with_reducible first | exact HW.out | apply bDrew | apply bAlloc)) hbn); replace HA := Lib.hid (moveX (by (repeat with_reducible first | exact Below.refl _ _ | apply bDrew | apply bAlloc)) hbn HA.out); replace HB := Lib.hid (moveX (by (repeat with_reducible first | exact Below.refl _ _ | apply bDrew | apply bAlloc)) hbn HB.out); replace HC := Lib.hid (moveX (by (repeat with_reducible first | exact Below.refl _ _ | apply bDrew | apply bAlloc)) hbn HC.out); replace HS := Lib.hid (moveX (by (repeat with_reducible first | exact Below.refl _ _ | apply bDrew | apply bAlloc)) hbn HS.out); replace HD := Lib.hid (moveX (by (repeat with_reducible first | exact Below.refl _ _ | apply bDrew | apply bAlloc)) hbn HD.out); replace HF := Lib.hid (moveX (by (repeat with_reducible first | exact Below.refl _ _ | apply bDrew | apply bAlloc)) hbn HF.out); replace HK := Lib.hid (moveX (by (repeat with_reducible first | exact Below.refl _ _ | apply bDrew | apply bAlloc)) hbn HK.out); replace A0 := (cells2 HA.out).1.1; replace A1 := (cells2 HA.out).1.2; replace A2 := (cells2 HA.out).2.1; replace A3 := (cells2 HA.out).2.2; replace Al := blkLt HA.out; replace B0 := (cells2 HB.out).1.1; replace B1 := (cells2 HB.out).1.2; replace B2 := (cells2 HB.out).2.1; replace B3 := (cells2 HB.out).2.2; replace Bl := blkLt HB.out; replace C0 := (cells2 HC.out).1.1; replace C1 := (cells2 HC.out).1.2; replace C2 := (cells2 HC.out).2.1; replace C3 := (cells2 HC.out).2.2; replace Cl := blkLt HC.out; replace S0 := (cells2 HS.out).1.1; replace S1 := (cells2 HS.out).1.2; replace S2 := (cells2 HS.out).2.1; replace S3 := (cells2 HS.out).2.2; replace Sl := blkLt HS.out; replace D0 := (cells2 HD.out).1.1; replace D1 := (cells2 HD.out).1.2; replace D2 := (cells2 HD.out).2.1; replace D3 := (cells2 HD.out).2.2; replace Dl := blkLt HD.out; replace F0 := (cells2 HF.out).1.1; replace F1 := (cells2 HF.out).1.2; replace F2 := (cells2 HF.out).2.1; replace F3 := (cells2 HF.out).2.2; replace Fl := blkLt HF.out; replace K0 := (cells2 HK.out).1.1; replace K1 := (cells2 HK.out).1.2; replace K2 := (cells2 HK.out).2.1; replace K3 := (cells2 HK.out).2.2; replace Kl := blkLt HK.out; clear hbn)
                                          go_meet
                                          exact ⟨_, rfl, rfl, Lib.hid (mvAlloc HA.out), Lib.hid (mvAlloc HB.out), Lib.hid (mvAlloc HC.out), Lib.hid (mvAlloc HS.out), Lib.hid (mvAlloc HD.out), Lib.hid (mvAlloc HF.out), Lib.hid (mvAlloc HK.out), Lib.hid (newBlk _ _ _ rfl), Lib.hid (bAlloc HW.out)⟩
                                        case rest => as_aux_lemma =>
                                          clear HW HA HB HC HS HD HF HK
                                          obtain ⟨bI, rfl, rfl, HA, HB, HC, HS, HD, HF, HK, HI, HW⟩ := hcut
                                          clear c9 d1 d2 d4
                                          go_upto_region 25 with fail
                                          have D0 := (cells2 HD.out).1.1
                                          have D1 := (cells2 HD.out).1.2
                                          have D2 := (cells2 HD.out).2.1
                                          have D3 := (cells2 HD.out).2.2
                                          have Dl := blkLt HD.out
                                          have I0 := (cells2 HI.out).1.1
                                          have I1 := (cells2 HI.out).1.2
                                          have I2 := (cells2 HI.out).2.1
                                          have I3 := (cells2 HI.out).2.2
                                          have Il := blkLt HI.out
                                          have z1 := fun w => run_q_eq d d w
                                          rw [qEq_rfl] at z1
                                          go_wp2_with fail
                                          go_ret
                                          exact ⟨rfl, HW.out⟩
                                        | (jx + 4), hj => exact absurd hj (by omega)
theorem laws_any (a b c : Q) (w : World) : Calls Try.prog 5 #[qv a, qv b, qv c] w (BB true w) := by
  have sm : ∀ q, smL q = true → qB q = true ∧ smB 900 q := fun q h => by have := smL_iff.1 h; exact ⟨this.1, this.2.1, this.2.2.1, this.2.2.2⟩
  have kk : (900 : Int) * 900 + 900 * 900 ≤ 1000000000 := by decide
  refine laws_go a b c (addM a b).1 (mulM a b).1 (addM (addM a b).1 c).1 (addM b c).1 (addM a (addM b c).1).1 (mulM (mulM a b).1 c).1 (mulM b c).1 (mulM a (mulM b c).1).1 (mulM (addM a b).1 c).1 (mulM a c).1 (addM (mulM a c).1 (mulM b c).1).1
    (addM a b).2 (mulM a b).2 (addM (addM a b).1 c).2 (addM b c).2 (addM a (addM b c).1).2 (mulM (mulM a b).1 c).2 (mulM b c).2 (mulM a (mulM b c).1).2 (mulM (addM a b).1 c).2 (mulM a c).2 (addM (mulM a c).1 (mulM b c).1).2
    (Lib.hid (Add_any a b)) (Lib.hid (by rw [add_comm' a b]; exact Add_any b a)) (Lib.hid (Mul_any a b)) (Lib.hid (by rw [mul_comm' a b]; exact Mul_any b a)) (Lib.hid (Add_any _ c)) (Lib.hid (Add_any b c)) (Lib.hid (Add_any a _)) (Lib.hid (Mul_any _ c)) (Lib.hid (Mul_any b c)) (Lib.hid (Mul_any a _)) (Lib.hid (Mul_any _ c)) (Lib.hid (Mul_any a c)) (Lib.hid (Add_any _ _)) (Lib.hid fun ha hb hc => ?_) w
  obtain ⟨va, sa⟩ := sm a ha
  obtain ⟨vb, sb⟩ := sm b hb
  obtain ⟨vc, sc⟩ := sm c hc
  have e1 := add_sm 900 kk va vb sa sb
  have e2 := add_sm 900 kk vb vc sb sc
  have e3 := mul_sm 900 kk va vb sa sb
  have e4 := mul_sm 900 kk vb vc sb sc
  have e5 := mul_sm 900 kk va vc sa sc
  have f1 := add_assoc' e1 vc e2
  have f2 := mul_assoc' e3 vc e4
  have f3 := dist' e1 e5 e4
  exact ⟨⟨congrArg Prod.snd e1, congrArg Prod.snd e3⟩, ⟨congrArg Prod.snd e2, by rw [f1], by rw [f1]⟩, ⟨congrArg Prod.snd e4, by rw [f2], by rw [f2]⟩, ⟨congrArg Prod.snd e5, by rw [f3], by rw [f3]⟩⟩
end Go.Proofs.Ytinmplilejnafaa
