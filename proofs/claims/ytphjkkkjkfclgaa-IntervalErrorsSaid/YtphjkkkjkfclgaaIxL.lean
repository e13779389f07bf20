/- Law package 06: equality of intervals, and the examples. -/
import Derived.Test.YtphjkkkjkfclgaaIxK
namespace Go.Proofs.Ytphjkkkjkfclgaa
open Go.RowKit
set_option linter.unusedVariables false
set_option linter.unusedSimpArgs false
def spEq (s t : Sp) : Bool := decide (s.lo = t.lo) && decide (s.hi = t.hi)
theorem spEq_rfl (s : Sp) : spEq s s = true := by simp [spEq]
theorem spEq_iff {s t : Sp} : spEq s t = true ↔ s = t := by cases s; cases t; simp [spEq]
theorem run_sp_eq (s t : Sp) (w : World) : (Op.equalIn 10000 23 (.agg #[.int .i64 s.lo, .int .i64 s.hi]) (.agg #[.int .i64 t.lo, .int .i64 t.hi])).run Try.prog w = .ok (spEq s t) w := by
  have hk : Try.prog.plainKey 3 = true := by kernel_rfl
  have he : ∀ x y : Int, (Op.equalIn 9999 3 (.int .i64 x) (.int .i64 y)).run Try.prog w = .ok (x == y) w := fun x y => run_equalIn_int w 9998 3 .i64 .i64 x y Try.underlying3
  have hp : ∀ x y : Value, (part 3 #[x, y] 0).run Try.prog w = .ok x w ∧ (part 3 #[x, y] 1).run Try.prog w = .ok y w :=
    fun x y => ⟨run_part_plain w hk rfl, run_part_plain w hk rfl⟩
  rw [show (10000 : Nat) = 9999 + 1 from rfl, run_equalIn_struct w 9999 _ _ _ (by kernel_rfl) (by kernel_rfl)]
  simp only [Program.fieldsOf, Try.underlying23]
  obtain ⟨a, b⟩ := s
  obtain ⟨a', b'⟩ := t
  have h0 := (hp (.int .i64 a) (.int .i64 b))
  have h1 := (hp (.int .i64 a') (.int .i64 b'))
  by_cases ea : a = a'
  · subst ea
    by_cases eb : b = b'
    · subst eb
      simp [Op.eqFields, Sem.run_bind, h0, h1, he, spEq]
    · simp [Op.eqFields, Sem.run_bind, h0, h1, he, eb, spEq]
  · simp [Op.eqFields, Sem.run_bind, h0, h1, he, ea, spEq]
theorem ex0 (w : World) : Calls Try.prog 12 #[sv ⟨-2, 3⟩, sv ⟨-5, 4⟩] w (VV (rv (⟨-15, 12⟩, 0)) w) := by
  have h := Mul_any ⟨-2, 3⟩ ⟨-5, 4⟩ w
  rw [show mulM ⟨-2, 3⟩ ⟨-5, 4⟩ = (⟨-15, 12⟩, 0) by kernel_rfl] at h
  exact h
theorem ex1 (w : World) : Calls Try.prog 13 #[sv ⟨-7, 7⟩, sv ⟨2, 3⟩] w (VV (rv (⟨-4, 3⟩, 0)) w) := by
  have h := Div_any ⟨-7, 7⟩ ⟨2, 3⟩ w
  rw [show dvM ⟨-7, 7⟩ ⟨2, 3⟩ = (⟨-4, 3⟩, 0) by kernel_rfl] at h
  exact h
theorem ex2 (w : World) : Calls Try.prog 14 #[sv ⟨-7, 7⟩, sv ⟨2, 3⟩] w (VV (rv (⟨-3, 4⟩, 0)) w) := by
  have h := Up_any ⟨-7, 7⟩ ⟨2, 3⟩ w
  rw [show upM ⟨-7, 7⟩ ⟨2, 3⟩ = (⟨-3, 4⟩, 0) by kernel_rfl] at h
  exact h
theorem ex3 (w : World) : Calls Try.prog 13 #[sv ⟨1, 5⟩, sv ⟨-1, 1⟩] w (VV (rv (⟨0, 0⟩, 14)) w) := by
  have h := Div_any ⟨1, 5⟩ ⟨-1, 1⟩ w
  rw [show dvM ⟨1, 5⟩ ⟨-1, 1⟩ = (⟨0, 0⟩, 14) by kernel_rfl] at h
  exact h
theorem ex4 (w : World) : Calls Try.prog 9 #[sv ⟨1000000000000, 1000000000000⟩, sv ⟨0, 1⟩] w (VV (rv (⟨0, 0⟩, 3)) w) := by
  have h := Add_any ⟨1000000000000, 1000000000000⟩ ⟨0, 1⟩ w
  rw [show addM ⟨1000000000000, 1000000000000⟩ ⟨0, 1⟩ = (⟨0, 0⟩, 3) by kernel_rfl] at h
  exact h
theorem ex5 (w : World) : Calls Try.prog 12 #[sv ⟨1000001, 1000001⟩, sv ⟨-1000000, 0⟩] w (VV (rv (⟨0, 0⟩, 3)) w) := by
  have h := Mul_any ⟨1000001, 1000001⟩ ⟨-1000000, 0⟩ w
  rw [show mulM ⟨1000001, 1000001⟩ ⟨-1000000, 0⟩ = (⟨0, 0⟩, 3) by kernel_rfl] at h
  exact h
theorem ex6 (w : World) : Calls Try.prog 11 #[sv ⟨1, 2⟩, sv ⟨5, 9⟩] w (VV (rv (⟨-8, -3⟩, 0)) w) := by
  have h := Sub_any ⟨1, 2⟩ ⟨5, 9⟩ w
  rw [show subM ⟨1, 2⟩ ⟨5, 9⟩ = (⟨-8, -3⟩, 0) by kernel_rfl] at h
  exact h
theorem ex7 (w : World) : Calls Try.prog 15 #[sv ⟨1, 9⟩, sv ⟨3, 4⟩] w (VV (rv (⟨1, 4⟩, 0)) w) := by
  have h := Min_any ⟨1, 9⟩ ⟨3, 4⟩ w
  rw [show minM ⟨1, 9⟩ ⟨3, 4⟩ = (⟨1, 4⟩, 0) by kernel_rfl] at h
  exact h
theorem ex8 (w : World) : Calls Try.prog 17 #[sv ⟨1, 2⟩, sv ⟨8, 9⟩] w (VV (rv (⟨1, 9⟩, 0)) w) := by
  have h := Join_any ⟨1, 2⟩ ⟨8, 9⟩ w
  rw [show joinM ⟨1, 2⟩ ⟨8, 9⟩ = (⟨1, 9⟩, 0) by kernel_rfl] at h
  exact h
theorem ex9 (w : World) : Calls Try.prog 16 #[sv ⟨2, 1⟩, sv ⟨0, 0⟩] w (VV (rv (⟨0, 0⟩, 1)) w) := by
  have h := Max_any ⟨2, 1⟩ ⟨0, 0⟩ w
  rw [show maxM ⟨2, 1⟩ ⟨0, 0⟩ = (⟨0, 0⟩, 1) by kernel_rfl] at h
  exact h
theorem exV1 (w : World) : Calls Try.prog 20 #[sv ⟨3, 3⟩] w (BB true w) := by
  have h := Valid_any ⟨3, 3⟩ w
  rw [show vB ⟨3, 3⟩ = true by kernel_rfl] at h
  exact h
theorem exV2 (w : World) : Calls Try.prog 20 #[sv ⟨0, 1000000000001⟩] w (BB false w) := by
  have h := Valid_any ⟨0, 1000000000001⟩ w
  rw [show vB ⟨0, 1000000000001⟩ = false by kernel_rfl] at h
  exact h
theorem moveX {w X w1 : World} {x : Obj} {b : Nat} (h0 : Below w.heap.size w X) (h : Below X.heap.size X w1) (H : w.heap[b]? = some x) : w1.heap[b]? = some x :=
  moveC h (moveC h0 H)
set_option maxHeartbeats 8000000 in
set_option maxRecDepth 100000 in
theorem head_any (w : World) : Calls Try.prog 5 #[] w (BB true w) := by
  have HW := Lib.hid (Below.refl w.heap.size w)
  go_enter Try.func5, Try.ntmps5
  go_upto_region 1 with fail
  go_cut [1, 2] (fun s1 s2 wx => ∃ b : Nat, s1 = .pointer (some ⟨b, 0, none⟩) ∧ s2 = .int .i64 0 ∧ Hid (wx.heap[b]? = some (.cells #[.int .i64 (-15), .int .i64 (12)] 23 (0, 0))) ∧ Hid (Below w.heap.size w wx))
  case first => as_aux_lemma =>
    have HB := Lib.hid (Below.refl w.heap.size w)
    go_wp2_with (first
      | (go_at_call 7; refine (span_any _ _ _).mono ?_; rintro e wn ⟨rfl, hbn⟩; have HB := Lib.hid (bCall (by (repeat with_reducible first | exact HB.out | apply bDrew | apply bAlloc)) hbn))
      | (go_at_call 12; refine (ex0 _).mono ?_; rintro e wn ⟨rfl, hbn⟩; have HB := Lib.hid (bCall (by (repeat with_reducible first | exact HB.out | apply bDrew | apply bAlloc)) hbn)))
    go_meet
    exact ⟨_, rfl, rfl, Lib.hid (newBlk _ _ _ rfl), Lib.hid (bAlloc HB.out)⟩
  case rest => as_aux_lemma =>
    obtain ⟨b0, rfl, rfl, Ka, HBc⟩ := hcut
    have HW := Lib.hid (bCall HW.out HBc.out)
    clear HBc
    go_upto_region 2 with fail
    go_cut [3, 4] (fun s1 s2 wx => ∃ b : Nat, s1 = .pointer (some ⟨b, 0, none⟩) ∧ s2 = .int .i64 0 ∧ Hid (wx.heap[b]? = some (.cells #[.int .i64 (-4), .int .i64 (3)] 23 (0, 0))) ∧ Hid (Below wc.heap.size wc wx))
    case first => as_aux_lemma =>
      have HB := Lib.hid (Below.refl wc.heap.size wc)
      go_wp2_with (first
        | (go_at_call 7; refine (span_any _ _ _).mono ?_; rintro e wn ⟨rfl, hbn⟩; have HB := Lib.hid (bCall (by (repeat with_reducible first | exact HB.out | apply bDrew | apply bAlloc)) hbn))
        | (go_at_call 13; refine (ex1 _).mono ?_; rintro e wn ⟨rfl, hbn⟩; have HB := Lib.hid (bCall (by (repeat with_reducible first | exact HB.out | apply bDrew | apply bAlloc)) hbn)))
      go_meet
      exact ⟨_, rfl, rfl, Lib.hid (newBlk _ _ _ rfl), Lib.hid (bAlloc HB.out)⟩
    case rest => as_aux_lemma =>
      obtain ⟨b1, rfl, rfl, Kb, HBc⟩ := hcut
      have Ka := Lib.hid (moveC HBc.out Ka.out)
      have HW := Lib.hid (bCall HW.out HBc.out)
      clear HBc
      go_upto_region 3 with fail
      go_cut [5, 6] (fun s1 s2 wx => ∃ b : Nat, s1 = .pointer (some ⟨b, 0, none⟩) ∧ s2 = .int .i64 0 ∧ Hid (wx.heap[b]? = some (.cells #[.int .i64 (-3), .int .i64 (4)] 23 (0, 0))) ∧ Hid (Below wc.heap.size wc wx))
      case first => as_aux_lemma =>
        have HB := Lib.hid (Below.refl wc.heap.size wc)
        go_wp2_with (first
          | (go_at_call 7; refine (span_any _ _ _).mono ?_; rintro e wn ⟨rfl, hbn⟩; have HB := Lib.hid (bCall (by (repeat with_reducible first | exact HB.out | apply bDrew | apply bAlloc)) hbn))
          | (go_at_call 14; refine (ex2 _).mono ?_; rintro e wn ⟨rfl, hbn⟩; have HB := Lib.hid (bCall (by (repeat with_reducible first | exact HB.out | apply bDrew | apply bAlloc)) hbn)))
        go_meet
        exact ⟨_, rfl, rfl, Lib.hid (newBlk _ _ _ rfl), Lib.hid (bAlloc HB.out)⟩
      case rest => as_aux_lemma =>
        obtain ⟨b2, rfl, rfl, Kc, HBc⟩ := hcut
        have Ka := Lib.hid (moveC HBc.out Ka.out)
        have Kb := Lib.hid (moveC HBc.out Kb.out)
        have HW := Lib.hid (bCall HW.out HBc.out)
        clear HBc
        go_upto_region 4 with fail
        go_cut [8] (fun s2 wx => s2 = .int .i64 14 ∧ Hid (Below wc.heap.size wc wx))
        case first => as_aux_lemma =>
          have HB := Lib.hid (Below.refl wc.heap.size wc)
          go_wp2_with (first
            | (go_at_call 7; refine (span_any _ _ _).mono ?_; rintro e wn ⟨rfl, hbn⟩; have HB := Lib.hid (bCall (by (repeat with_reducible first | exact HB.out | apply bDrew | apply bAlloc)) hbn))
            | (go_at_call 13; refine (ex3 _).mono ?_; rintro e wn ⟨rfl, hbn⟩; have HB := Lib.hid (bCall (by (repeat with_reducible first | exact HB.out | apply bDrew | apply bAlloc)) hbn)))
          go_meet
          exact ⟨rfl, Lib.hid (bAlloc HB.out)⟩
        case rest => as_aux_lemma =>
          obtain ⟨rfl, HBc⟩ := hcut
          have Ka := Lib.hid (moveC HBc.out Ka.out)
          have Kb := Lib.hid (moveC HBc.out Kb.out)
          have Kc := Lib.hid (moveC HBc.out Kc.out)
          have HW := Lib.hid (bCall HW.out HBc.out)
          clear HBc
          go_upto_region 5 with fail
          go_cut [10] (fun s2 wx => s2 = .int .i64 3 ∧ Hid (Below wc.heap.size wc wx))
          case first => as_aux_lemma =>
            have HB := Lib.hid (Below.refl wc.heap.size wc)
            go_wp2_with (first
              | (go_at_call 7; refine (span_any _ _ _).mono ?_; rintro e wn ⟨rfl, hbn⟩; have HB := Lib.hid (bCall (by (repeat with_reducible first | exact HB.out | apply bDrew | apply bAlloc)) hbn))
              | (go_at_call 9; refine (ex4 _).mono ?_; rintro e wn ⟨rfl, hbn⟩; have HB := Lib.hid (bCall (by (repeat with_reducible first | exact HB.out | apply bDrew | apply bAlloc)) hbn)))
            go_meet
            exact ⟨rfl, Lib.hid (bAlloc HB.out)⟩
          case rest => as_aux_lemma =>
            obtain ⟨rfl, HBc⟩ := hcut
            have Ka := Lib.hid (moveC HBc.out Ka.out)
            have Kb := Lib.hid (moveC HBc.out Kb.out)
            have Kc := Lib.hid (moveC HBc.out Kc.out)
            have HW := Lib.hid (bCall HW.out HBc.out)
            clear HBc
            go_upto_region 6 with fail
            go_cut [12] (fun s2 wx => s2 = .int .i64 3 ∧ Hid (Below wc.heap.size wc wx))
            case first => as_aux_lemma =>
              have HB := Lib.hid (Below.refl wc.heap.size wc)
              go_wp2_with (first
                | (go_at_call 7; refine (span_any _ _ _).mono ?_; rintro e wn ⟨rfl, hbn⟩; have HB := Lib.hid (bCall (by (repeat with_reducible first | exact HB.out | apply bDrew | apply bAlloc)) hbn))
                | (go_at_call 12; refine (ex5 _).mono ?_; rintro e wn ⟨rfl, hbn⟩; have HB := Lib.hid (bCall (by (repeat with_reducible first | exact HB.out | apply bDrew | apply bAlloc)) hbn)))
              go_meet
              exact ⟨rfl, Lib.hid (bAlloc HB.out)⟩
            case rest => as_aux_lemma =>
              obtain ⟨rfl, HBc⟩ := hcut
              have Ka := Lib.hid (moveC HBc.out Ka.out)
              have Kb := Lib.hid (moveC HBc.out Kb.out)
              have Kc := Lib.hid (moveC HBc.out Kc.out)
              have HW := Lib.hid (bCall HW.out HBc.out)
              clear HBc
              go_upto_region 7 with fail
              go_cut [13, 14] (fun s1 s2 wx => ∃ b : Nat, s1 = .pointer (some ⟨b, 0, none⟩) ∧ s2 = .int .i64 0 ∧ Hid (wx.heap[b]? = some (.cells #[.int .i64 (-8), .int .i64 (-3)] 23 (0, 0))) ∧ Hid (Below wc.heap.size wc wx))
              case first => as_aux_lemma =>
                have HB := Lib.hid (Below.refl wc.heap.size wc)
                go_wp2_with (first
                  | (go_at_call 7; refine (span_any _ _ _).mono ?_; rintro e wn ⟨rfl, hbn⟩; have HB := Lib.hid (bCall (by (repeat with_reducible first | exact HB.out | apply bDrew | apply bAlloc)) hbn))
                  | (go_at_call 11; refine (ex6 _).mono ?_; rintro e wn ⟨rfl, hbn⟩; have HB := Lib.hid (bCall (by (repeat with_reducible first | exact HB.out | apply bDrew | apply bAlloc)) hbn)))
                go_meet
                exact ⟨_, rfl, rfl, Lib.hid (newBlk _ _ _ rfl), Lib.hid (bAlloc HB.out)⟩
              case rest => as_aux_lemma =>
                obtain ⟨b6, rfl, rfl, Kd, HBc⟩ := hcut
                have Ka := Lib.hid (moveC HBc.out Ka.out)
                have Kb := Lib.hid (moveC HBc.out Kb.out)
                have Kc := Lib.hid (moveC HBc.out Kc.out)
                have HW := Lib.hid (bCall HW.out HBc.out)
                clear HBc
                go_upto_region 8 with fail
                go_cut [15, 16] (fun s1 s2 wx => ∃ b : Nat, s1 = .pointer (some ⟨b, 0, none⟩) ∧ s2 = .int .i64 0 ∧ Hid (wx.heap[b]? = some (.cells #[.int .i64 (1), .int .i64 (4)] 23 (0, 0))) ∧ Hid (Below wc.heap.size wc wx))
                case first => as_aux_lemma =>
                  have HB := Lib.hid (Below.refl wc.heap.size wc)
                  go_wp2_with (first
                    | (go_at_call 7; refine (span_any _ _ _).mono ?_; rintro e wn ⟨rfl, hbn⟩; have HB := Lib.hid (bCall (by (repeat with_reducible first | exact HB.out | apply bDrew | apply bAlloc)) hbn))
                    | (go_at_call 15; refine (ex7 _).mono ?_; rintro e wn ⟨rfl, hbn⟩; have HB := Lib.hid (bCall (by (repeat with_reducible first | exact HB.out | apply bDrew | apply bAlloc)) hbn)))
                  go_meet
                  exact ⟨_, rfl, rfl, Lib.hid (newBlk _ _ _ rfl), Lib.hid (bAlloc HB.out)⟩
                case rest => as_aux_lemma =>
                  obtain ⟨b7, rfl, rfl, Km, HBc⟩ := hcut
                  have Ka := Lib.hid (moveC HBc.out Ka.out)
                  have Kb := Lib.hid (moveC HBc.out Kb.out)
                  have Kc := Lib.hid (moveC HBc.out Kc.out)
                  have Kd := Lib.hid (moveC HBc.out Kd.out)
                  have HW := Lib.hid (bCall HW.out HBc.out)
                  clear HBc
                  go_upto_region 9 with fail
                  go_cut [17, 18] (fun s1 s2 wx => ∃ b : Nat, s1 = .pointer (some ⟨b, 0, none⟩) ∧ s2 = .int .i64 0 ∧ Hid (wx.heap[b]? = some (.cells #[.int .i64 (1), .int .i64 (9)] 23 (0, 0))) ∧ Hid (Below wc.heap.size wc wx))
                  case first => as_aux_lemma =>
                    have HB := Lib.hid (Below.refl wc.heap.size wc)
                    go_wp2_with (first
                      | (go_at_call 7; refine (span_any _ _ _).mono ?_; rintro e wn ⟨rfl, hbn⟩; have HB := Lib.hid (bCall (by (repeat with_reducible first | exact HB.out | apply bDrew | apply bAlloc)) hbn))
                      | (go_at_call 17; refine (ex8 _).mono ?_; rintro e wn ⟨rfl, hbn⟩; have HB := Lib.hid (bCall (by (repeat with_reducible first | exact HB.out | apply bDrew | apply bAlloc)) hbn)))
                    go_meet
                    exact ⟨_, rfl, rfl, Lib.hid (newBlk _ _ _ rfl), Lib.hid (bAlloc HB.out)⟩
                  case rest => as_aux_lemma =>
                    obtain ⟨b8, rfl, rfl, Ko, HBc⟩ := hcut
                    have Ka := Lib.hid (moveC HBc.out Ka.out)
                    have Kb := Lib.hid (moveC HBc.out Kb.out)
                    have Kc := Lib.hid (moveC HBc.out Kc.out)
                    have Kd := Lib.hid (moveC HBc.out Kd.out)
                    have Km := Lib.hid (moveC HBc.out Km.out)
                    have HW := Lib.hid (bCall HW.out HBc.out)
                    clear HBc
                    have HB := HW
                    have Kac := cells2 Ka.out
                    have Kal := blkLt Ka.out
                    have Kbc := cells2 Kb.out
                    have Kbl := blkLt Kb.out
                    have Kcc := cells2 Kc.out
                    have Kcl := blkLt Kc.out
                    have Kdc := cells2 Kd.out
                    have Kdl := blkLt Kd.out
                    have Kmc := cells2 Km.out
                    have Kml := blkLt Km.out
                    have Koc := cells2 Ko.out
                    have Kol := blkLt Ko.out
                    have z0 := fun w => run_sp_eq ⟨-15, 12⟩ ⟨-15, 12⟩ w
                    rw [spEq_rfl] at z0
                    have z1 := fun w => run_sp_eq ⟨-4, 3⟩ ⟨-4, 3⟩ w
                    rw [spEq_rfl] at z1
                    have z2 := fun w => run_sp_eq ⟨-3, 4⟩ ⟨-3, 4⟩ w
                    rw [spEq_rfl] at z2
                    have z3 := fun w => run_sp_eq ⟨-8, -3⟩ ⟨-8, -3⟩ w
                    rw [spEq_rfl] at z3
                    have z4 := fun w => run_sp_eq ⟨1, 4⟩ ⟨1, 4⟩ w
                    rw [spEq_rfl] at z4
                    have z5 := fun w => run_sp_eq ⟨1, 9⟩ ⟨1, 9⟩ w
                    rw [spEq_rfl] at z5
                    have v1 := Lib.hid exV1
                    have v2 := Lib.hid exV2
                    go_wp2_with (first
                      | (go_at_call 7; refine (span_any _ _ _).mono ?_; rintro e wn ⟨rfl, hbn⟩; have HB := Lib.hid (bCall (by (repeat with_reducible first | exact HB.out | apply bDrew | apply bAlloc)) hbn); have Ka := Lib.hid (moveX (by (repeat with_reducible first | exact Below.refl _ _ | apply bDrew | apply bAlloc)) hbn Ka.out); have Kac := cells2 Ka.out; have Kal := blkLt Ka.out; have Kb := Lib.hid (moveX (by (repeat with_reducible first | exact Below.refl _ _ | apply bDrew | apply bAlloc)) hbn Kb.out); have Kbc := cells2 Kb.out; have Kbl := blkLt Kb.out; have Kc := Lib.hid (moveX (by (repeat with_reducible first | exact Below.refl _ _ | apply bDrew | apply bAlloc)) hbn Kc.out); have Kcc := cells2 Kc.out; have Kcl := blkLt Kc.out; have Kd := Lib.hid (moveX (by (repeat with_reducible first | exact Below.refl _ _ | apply bDrew | apply bAlloc)) hbn Kd.out); have Kdc := cells2 Kd.out; have Kdl := blkLt Kd.out; have Km := Lib.hid (moveX (by (repeat with_reducible first | exact Below.refl _ _ | apply bDrew | apply bAlloc)) hbn Km.out); have Kmc := cells2 Km.out; have Kml := blkLt Km.out; have Ko := Lib.hid (moveX (by (repeat with_reducible first | exact Below.refl _ _ | apply bDrew | apply bAlloc)) hbn Ko.out); have Koc := cells2 Ko.out; have Kol := blkLt Ko.out)
                      | (go_at_call 16; refine (ex9 _).mono ?_; rintro e wn ⟨rfl, hbn⟩; have HB := Lib.hid (bCall (by (repeat with_reducible first | exact HB.out | apply bDrew | apply bAlloc)) hbn); have Ka := Lib.hid (moveX (by (repeat with_reducible first | exact Below.refl _ _ | apply bDrew | apply bAlloc)) hbn Ka.out); have Kac := cells2 Ka.out; have Kal := blkLt Ka.out; have Kb := Lib.hid (moveX (by (repeat with_reducible first | exact Below.refl _ _ | apply bDrew | apply bAlloc)) hbn Kb.out); have Kbc := cells2 Kb.out; have Kbl := blkLt Kb.out; have Kc := Lib.hid (moveX (by (repeat with_reducible first | exact Below.refl _ _ | apply bDrew | apply bAlloc)) hbn Kc.out); have Kcc := cells2 Kc.out; have Kcl := blkLt Kc.out; have Kd := Lib.hid (moveX (by (repeat with_reducible first | exact Below.refl _ _ | apply bDrew | apply bAlloc)) hbn Kd.out); have Kdc := cells2 Kd.out; have Kdl := blkLt Kd.out; have Km := Lib.hid (moveX (by (repeat with_reducible first | exact Below.refl _ _ | apply bDrew | apply bAlloc)) hbn Km.out); have Kmc := cells2 Km.out; have Kml := blkLt Km.out; have Ko := Lib.hid (moveX (by (repeat with_reducible first | exact Below.refl _ _ | apply bDrew | apply bAlloc)) hbn Ko.out); have Koc := cells2 Ko.out; have Kol := blkLt Ko.out))
                    have Ka := Lib.hid (moveC (bAlloc (o := (.cells #[.int .i64 0, .int .i64 0] 23)) (Below.refl wn.heap.size wn)) Ka.out)
                    have Kb := Lib.hid (moveC (bAlloc (o := (.cells #[.int .i64 0, .int .i64 0] 23)) (Below.refl wn.heap.size wn)) Kb.out)
                    have Kc := Lib.hid (moveC (bAlloc (o := (.cells #[.int .i64 0, .int .i64 0] 23)) (Below.refl wn.heap.size wn)) Kc.out)
                    have Kd := Lib.hid (moveC (bAlloc (o := (.cells #[.int .i64 0, .int .i64 0] 23)) (Below.refl wn.heap.size wn)) Kd.out)
                    have Km := Lib.hid (moveC (bAlloc (o := (.cells #[.int .i64 0, .int .i64 0] 23)) (Below.refl wn.heap.size wn)) Km.out)
                    have Ko := Lib.hid (moveC (bAlloc (o := (.cells #[.int .i64 0, .int .i64 0] 23)) (Below.refl wn.heap.size wn)) Ko.out)
                    have HB := Lib.hid (bAlloc (o := (.cells #[.int .i64 0, .int .i64 0] 23)) HB.out)
                    generalize hW2 : wn.alloc (.cells #[.int .i64 0, .int .i64 0] 23) = W2 at *
                    clear hW2 Kac Kal Kbc Kbl Kcc Kcl Kdc Kdl Kmc Kml Koc Kol
                    have Ka0 := (cells2 Ka.out).1.1
                    have Ka1 := (cells2 Ka.out).1.2
                    have Kb0 := (cells2 Kb.out).1.1
                    have Kb1 := (cells2 Kb.out).1.2
                    have Kc0 := (cells2 Kc.out).1.1
                    have Kc1 := (cells2 Kc.out).1.2
                    have Kd0 := (cells2 Kd.out).1.1
                    have Kd1 := (cells2 Kd.out).1.2
                    have Km0 := (cells2 Km.out).1.1
                    have Km1 := (cells2 Km.out).1.2
                    have Ko0 := (cells2 Ko.out).1.1
                    have Ko1 := (cells2 Ko.out).1.2
                    simp only [List.append, List.append_eq, List.cons_append, List.nil_append]
                    go_region_held3 (fun w' => w'.cell? ⟨b0, 0, none⟩ = some (.int .i64 (-15)) ∧ w'.cell? ⟨b0, 1, none⟩ = some (.int .i64 (12)) ∧ w'.cell? ⟨b1, 0, none⟩ = some (.int .i64 (-4)) ∧ w'.cell? ⟨b1, 1, none⟩ = some (.int .i64 (3)) ∧ w'.cell? ⟨b2, 0, none⟩ = some (.int .i64 (-3)) ∧ w'.cell? ⟨b2, 1, none⟩ = some (.int .i64 (4)) ∧ w'.cell? ⟨b6, 0, none⟩ = some (.int .i64 (-8)) ∧ w'.cell? ⟨b6, 1, none⟩ = some (.int .i64 (-3)) ∧ w'.cell? ⟨b7, 0, none⟩ = some (.int .i64 (1)) ∧ w'.cell? ⟨b7, 1, none⟩ = some (.int .i64 (4)) ∧ w'.cell? ⟨b8, 0, none⟩ = some (.int .i64 (1)) ∧ w'.cell? ⟨b8, 1, none⟩ = some (.int .i64 (9)))
                      (first | (with_reducible exact ⟨Ka0, Ka1, Kb0, Kb1, Kc0, Kc1, Kd0, Kd1, Km0, Km1, Ko0, Ko1⟩) | go_keep)
                      (first
                      | (go_at_call 7; refine (span_any _ _ _).mono ?_; rintro e wn ⟨rfl, hbn⟩; replace HB := Lib.hid (bCall (by (repeat with_reducible first | exact HB.out | apply bDrew | apply bAlloc)) hbn); replace Ka := Lib.hid (moveX (by (repeat with_reducible first | exact Below.refl _ _ | apply bDrew | apply bAlloc)) hbn Ka.out); replace Ka0 := (cells2 Ka.out).1.1; replace Ka1 := (cells2 Ka.out).1.2; replace Kb := Lib.hid (moveX (by (repeat with_reducible first | exact Below.refl _ _ | apply bDrew | apply bAlloc)) hbn Kb.out); replace Kb0 := (cells2 Kb.out).1.1; replace Kb1 := (cells2 Kb.out).1.2; replace Kc := Lib.hid (moveX (by (repeat with_reducible first | exact Below.refl _ _ | apply bDrew | apply bAlloc)) hbn Kc.out); replace Kc0 := (cells2 Kc.out).1.1; replace Kc1 := (cells2 Kc.out).1.2; replace Kd := Lib.hid (moveX (by (repeat with_reducible first | exact Below.refl _ _ | apply bDrew | apply bAlloc)) hbn Kd.out); replace Kd0 := (cells2 Kd.out).1.1; replace Kd1 := (cells2 Kd.out).1.2; replace Km := Lib.hid (moveX (by (repeat with_reducible first | exact Below.refl _ _ | apply bDrew | apply bAlloc)) hbn Km.out); replace Km0 := (cells2 Km.out).1.1; replace Km1 := (cells2 Km.out).1.2; replace Ko := Lib.hid (moveX (by (repeat with_reducible first | exact Below.refl _ _ | apply bDrew | apply bAlloc)) hbn Ko.out); replace Ko0 := (cells2 Ko.out).1.1; replace Ko1 := (cells2 Ko.out).1.2; clear hbn)
                      | (go_at_call 20; first | ((with_reducible refine (v1.out _).mono ?_); rintro e wn ⟨rfl, hbn⟩; replace HB := Lib.hid (bCall (by (repeat with_reducible first | exact HB.out | apply bDrew | apply bAlloc)) hbn); replace Ka := Lib.hid (moveX (by (repeat with_reducible first | exact Below.refl _ _ | apply bDrew | apply bAlloc)) hbn Ka.out); replace Ka0 := (cells2 Ka.out).1.1; replace Ka1 := (cells2 Ka.out).1.2; replace Kb := Lib.hid (moveX (by (repeat with_reducible first | exact Below.refl _ _ | apply bDrew | apply bAlloc)) hbn Kb.out); replace Kb0 := (cells2 Kb.out).1.1; replace Kb1 := (cells2 Kb.out).1.2; replace Kc := Lib.hid (moveX (by (repeat with_reducible first | exact Below.refl _ _ | apply bDrew | apply bAlloc)) hbn Kc.out); replace Kc0 := (cells2 Kc.out).1.1; replace Kc1 := (cells2 Kc.out).1.2; replace Kd := Lib.hid (moveX (by (repeat with_reducible first | exact Below.refl _ _ | apply bDrew | apply bAlloc)) hbn Kd.out); replace Kd0 := (cells2 Kd.out).1.1; replace Kd1 := (cells2 Kd.out).1.2; replace Km := Lib.hid (moveX (by (repeat with_reducible first | exact Below.refl _ _ | apply bDrew | apply bAlloc)) hbn Km.out); replace Km0 := (cells2 Km.out).1.1; replace Km1 := (cells2 Km.out).1.2; replace Ko := Lib.hid (moveX (by (repeat with_reducible first | exact Below.refl _ _ | apply bDrew | apply bAlloc)) hbn Ko.out); replace Ko0 := (cells2 Ko.out).1.1; replace Ko1 := (cells2 Ko.out).1.2; clear hbn) | ((with_reducible refine (v2.out _).mono ?_); rintro e wn ⟨rfl, hbn⟩; replace HB := Lib.hid (bCall (by (repeat with_reducible first | exact HB.out | apply bDrew | apply bAlloc)) hbn); replace Ka := Lib.hid (moveX (by (repeat with_reducible first | exact Below.refl _ _ | apply bDrew | apply bAlloc)) hbn Ka.out); replace Ka0 := (cells2 Ka.out).1.1; replace Ka1 := (cells2 Ka.out).1.2; replace Kb := Lib.hid (moveX (by (repeat with_reducible first | exact Below.refl _ _ | apply bDrew | apply bAlloc)) hbn Kb.out); replace Kb0 := (cells2 Kb.out).1.1; replace Kb1 := (cells2 Kb.out).1.2; replace Kc := Lib.hid (moveX (by (repeat with_reducible first | exact Below.refl _ _ | apply bDrew | apply bAlloc)) hbn Kc.out); replace Kc0 := (cells2 Kc.out).1.1; replace Kc1 := (cells2 Kc.out).1.2; replace Kd := Lib.hid (moveX (by (repeat with_reducible first | exact Below.refl _ _ | apply bDrew | apply bAlloc)) hbn Kd.out); replace Kd0 := (cells2 Kd.out).1.1; replace Kd1 := (cells2 Kd.out).1.2; replace Km := Lib.hid (moveX (by (repeat with_reducible first | exact Below.refl _ _ | apply bDrew | apply bAlloc)) hbn Km.out); replace Km0 := (cells2 Km.out).1.1; replace Km1 := (cells2 Km.out).1.2; replace Ko := Lib.hid (moveX (by (repeat with_reducible first | exact Below.refl _ _ | apply bDrew | apply bAlloc)) hbn Ko.out); replace Ko0 := (cells2 Ko.out).1.1; replace Ko1 := (cells2 Ko.out).1.2; clear hbn)))
                    all_goals go_wp2
                    go_ret
                    exact ⟨rfl, HB.out⟩
end Go.Proofs.Ytphjkkkjkfclgaa
