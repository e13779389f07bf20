/- Texts of one proof: PxZ. -/
import Derived.Test.YtdaghppcomckbaaGreatDoorPxY
import Derived.BigQuiet
import Derived.Deep.QuietTactic
import Derived.IntWalk
/- The parser: what is left of an item is skipped. -/
namespace Go.Proofs.YtdaghppcomckbaaGreatDoor
open Go.RowKit
set_option linter.unusedVariables false
set_option linter.unusedSimpArgs false

def brace (o : Int) (t : Tk) : Int := if (t.x.toList == [123]) = true then o + 1 else if (t.x.toList == [125]) = true then o - 1 else o
def skipF : Nat → Int → List Tk → List Tk
  | 0, _, l => l
  | f + 1, o, l => if l.length ≤ 1 then l
    else if ((hd l).x.toList == [123]) = true then skipF f (o + 1) l.tail
    else if ((hd l).x.toList == [125]) = true then (if o ≤ 1 then l.tail else skipF f (o - 1) l.tail)
    else if ((hd l).x.toList == [59]) = true then (if o = 0 then l.tail else skipF f o l.tail)
    else skipF f o l.tail
theorem belowDrewN (w : World) (n : Nat) : Below w.heap.size w (w.drewN n) := ⟨rfl, rfl, rfl, Nat.le_refl _, fun _ _ => rfl⟩
set_option maxHeartbeats 2000000 in
set_option maxRecDepth 100000 in
theorem leave_any (C : Cx) (w : World) (nx first : Nat) (dv : Value) (ds : List (Int × Int)) (hfi : first ≤ nx) (hcap : C.ts.length ≤ C.tc) (hcm : C.tc ≤ maxLen) (h : PS C w nx dv ds) :
    Calls Tryz.prog 21 #[.pointer (some ⟨C.R, 0, none⟩), .int .i64 first] w (Out C nx dv ds w VUnit (.ok () (skipF (C.l nx).length (((C.ts.drop first).take (nx - first)).foldl brace 0) (C.l nx)))) := by
  have h0 := Lib.hid h
  have hR0 := h.RLt
  have c0 := h.c0
  have c1 := h.c1
  have hlt := h.lt
  have hle := h.le
  have hTg := h.tgLt
  unfold maxLen at hcm
  have hne : ¬ C.tc = first := by omega
  clear h
  obtain ⟨T, hT⟩ : ∃ T, skipF (C.l nx).length (((C.ts.drop first).take (nx - first)).foldl brace 0) (C.l nx) = T := ⟨_, rfl⟩
  rw [hT]
  have hTH := Lib.hid hT
  have f1 := tfield1
  clear hT
  go_enter Tryz.func21, Tryz.ntmps21
  go_wp2
  go_quiet (fail)
  go_wp2
  obtain ⟨total, htot⟩ : ∃ t, ((C.ts.drop first).take (nx - first)).foldl brace 0 = t := ⟨_, rfl⟩
  have hTH2 := hTH.out
  rw [htot] at hTH2
  clear hTH
  have hTH := Lib.hid hTH2
  have hTot := Lib.hid htot
  clear hTH2
  clear htot c0 c1
  go_loopg [4, 19] (nx - first) (fun gk o i wr => ∃ (k : Nat) (ov : Int), k + gk = nx - first ∧ i = .int .i64 k ∧ o = .int .i64 ov ∧ -(k : Int) ≤ ov ∧ ov ≤ k ∧ Hid ((((C.ts.drop first).take (nx - first)).drop k).foldl brace ov = total) ∧ Hid (Below w.heap.size w wr))
  case atStart => exact ⟨0, 0, by omega, rfl, rfl, by omega, by omega, hTot.out, ⟨rfl, rfl, rfl, Nat.le_refl _, fun _ _ => rfl⟩⟩
  case round =>
    obtain ⟨k, ov, hk, rfl, rfl, ho1, ho2, hF, hB⟩ := hrel
    have hTw : C.tg < wr.heap.size := Nat.lt_of_lt_of_le hTg hB.out.size
    by_cases hlt2 : k < nx - first
    · obtain ⟨g, rfl⟩ : ∃ g, gk = g + 1 := ⟨gk - 1, by omega⟩
      have hidx : first + k < C.ts.length := by omega
      have hrest : ((C.ts.drop first).take (nx - first)).drop k = C.ts[first + k] :: ((C.ts.drop first).take (nx - first)).drop (k + 1) := by
        rw [List.drop_eq_getElem_cons (by simp; omega)]
        congr 1
        simp
      have hF2 : (((C.ts.drop first).take (nx - first)).drop (k + 1)).foldl brace (brace ov C.ts[first + k]) = total := by have := hF.out; rw [hrest, List.foldl_cons] at this; exact this
      have hF2 := Lib.hid hF2
      obtain ⟨t0, t1, t2, t3⟩ := (((h0.out.below hB.out).tok (first + k) _ (List.getElem?_eq_getElem hidx)) : TkAt wr C.tg (first + k) C.ts[first + k])
      rw [show (first + k) * 4 = first * 4 + k * 4 by omega] at t0 t1 t2 t3
      clear hrest hF
      generalize C.ts[first + k] = t at *
      have hlt3 : k < nx - first := hlt2
      rcases q1 : (t.x.toList == [123]) with _ | _
      · rcases q2 : (t.x.toList == [125]) with _ | _
        · have hF3 : Hid ((((C.ts.drop first).take (nx - first)).drop (k + 1)).foldl brace ov = total) := by have := hF2.out; unfold brace at this; rw [q1, q2, if_neg (by simp), if_neg (by simp)] at this; exact this
          go_wp2
          go_roundg g
          case measure => omega
          case rel => exact ⟨k + 1, ov, by omega, by go_num, rfl, by omega, by omega, hF3, hB.out.alloc hB.out.size _⟩
        · have hF3 : Hid ((((C.ts.drop first).take (nx - first)).drop (k + 1)).foldl brace (ov - 1) = total) := by have := hF2.out; unfold brace at this; rw [q1, q2, if_neg (by simp), if_pos rfl] at this; exact this
          go_wp2
          go_roundg g
          case measure => omega
          case rel => exact ⟨k + 1, ov - 1, by omega, by go_num, rfl, by omega, by omega, hF3, hB.out.alloc hB.out.size _⟩
      · have hF3 : Hid ((((C.ts.drop first).take (nx - first)).drop (k + 1)).foldl brace (ov + 1) = total) := by have := hF2.out; unfold brace at this; rw [q1, if_pos rfl] at this; exact this
        have q2 : (t.x.toList == [125]) = false := (by have e : t.x.toList = [123] := (by simpa using q1); rw [e]; rfl)
        go_wp2
        go_roundg g
        case measure => omega
        case rel => exact ⟨k + 1, ov + 1, by omega, by go_num, rfl, by omega, by omega, hF3, hB.out.alloc hB.out.size _⟩
    · have hov : Hid (ov = total) := by have := hF.out; rw [List.drop_eq_nil_of_le (by simp; omega)] at this; exact this
      have hP0 := Lib.hid (h0.out.below hB.out)
      have hK0 := Lib.hid (Below.kp (R := C.R) (o := none) hB.out)
      go_wp2
      obtain ⟨wo, rfl⟩ : ∃ wo : World, wo = wr := ⟨_, rfl⟩
      go_loopg [4] ((C.l nx).length) (fun gk o wr => ∃ (nx2 : Nat) (o2 : Int), o = .int .i64 o2 ∧ -(3001 + (nx2 : Int)) ≤ o2 ∧ o2 ≤ 3001 + (nx2 : Int) ∧ nx ≤ nx2 ∧ (C.l nx2).length ≤ gk ∧ Hid (skipF gk o2 (C.l nx2) = T) ∧ Hid (PS C wr nx2 dv ds) ∧ Hid (Kp C.R none w wr))
      case atStart => exact ⟨nx, ov, rfl, by omega, by omega, Nat.le_refl _, Nat.le_refl _, by rw [hov.out]; exact hTH, hP0, hK0⟩
      case round =>
        obtain ⟨nx2, o2, rfl, hb1, hb2, hn2, hgk, hS, hP2, hK2⟩ := hrel
        have c0 := hP2.out.c0
        have c1 := hP2.out.c1
        have hl2 := hP2.out.lt
        have hr2 := hP2.out.RLt
        have hll : (C.l nx2).length = C.ts.length - nx2 := Cx.llen C nx2
        have hllH := Lib.hid hll
        have q0 : IntKind.i64.wrap ((C.ts.length : Int) - 1) = (C.ts.length : Int) - 1 := IntWalk.i64_in _ (by omega)
        by_cases hmore : nx2 + 1 < C.ts.length
        · obtain ⟨g, rfl⟩ : ∃ g, gk = g + 1 := ⟨gk - 1, by omega⟩
          have hd1 : decide ((nx2 : Int) < (C.ts.length : Int) - 1) = true := by simp; omega
          have hS1 := hS.out
          rw [skipF, if_neg (by omega), ← l_tail] at hS1
          have hS1 := Lib.hid hS1
          have hlen : (C.l (nx2 + 1)).length ≤ g := by rw [Cx.llen]; omega
          have hmoreH := Lib.hid hmore
          clear hS hll hmore hgk
          have hPd := Lib.hid (fun n => hP2.out.below (belowDrewN wr n))
          go_wp2_with fail
          go_quiet (fail)
          clear q0
          go_wp2_with fail
          refine (token_any C _ nx2 dv ds (hPd.out _)).mono ?_
          rintro e w3 ⟨rfl, hb3⟩
          have hP3 := Lib.hid ((hPd.out _).below hb3)
          have hb3' : Below wr.heap.size wr w3 := ⟨hb3.os, hb3.tape, hb3.output, hb3.size, hb3.block⟩
          have hK3 := Lib.hid ((hK2.out.trans (Below.kp hb3')).setCell (i := 1) (.inl rfl) (.int .i64 ((nx2 : Nat) + 1)))
          have hP4 := Lib.hid (hP3.out.bump hmoreH.out)
          have d1 := hP3.out.c1
          have d2 := hP3.out.fz 1
          have hr3 := hP3.out.RLt
          have hle2 : nx2 ≤ 3001 := by omega
          clear hb3 hb3' c0 c1
          generalize hd (C.l nx2) = t at *
          rcases q1 : (t.x.toList == [123]) with _ | _
          · rcases q2 : (t.x.toList == [125]) with _ | _
            · rcases q3 : (t.x.toList == [59]) with _ | _
              · have hS2 : Hid (skipF g o2 (C.l (nx2 + 1)) = T) := by have := hS1.out; rw [q1, q2, q3, if_neg (by simp), if_neg (by simp), if_neg (by simp)] at this; exact this
                go_wp2
                go_roundg g
                case measure => omega
                case rel => exact ⟨nx2 + 1, o2, rfl, by omega, by omega, by omega, hlen, hS2, hP4, hK3⟩
              · by_cases ho : o2 = 0
                · have hS2 : Hid (C.l (nx2 + 1) = T) := by have := hS1.out; rw [q1, q2, q3, if_neg (by simp), if_neg (by simp), if_pos rfl, if_pos ho] at this; exact this
                  have hF := Lib.hid (Out.ret (C := C) (nx := nx) (w := w) (V := VUnit) (v := .tuple #[]) (r := Res.ok () T) rfl hS2.out (by omega) rfl ⟨hP4.out, hK3.out⟩)
                  have hob : (o2 == 0) = true := by simp [ho]
                  clear ho
                  go_wp2
                  go_end0
                  exact hF.out
                · have hS2 : Hid (skipF g o2 (C.l (nx2 + 1)) = T) := by have := hS1.out; rw [q1, q2, q3, if_neg (by simp), if_neg (by simp), if_pos rfl, if_neg ho] at this; exact this
                  have hob : (o2 == 0) = false := by simp [ho]
                  clear ho
                  go_wp2
                  go_roundg g
                  case measure => omega
                  case rel => exact ⟨nx2 + 1, o2, rfl, by omega, by omega, by omega, hlen, hS2, hP4, hK3⟩
            · have q3 : (t.x.toList == [59]) = false := (by have e : t.x.toList = [125] := (by simpa using q2); rw [e]; rfl)
              by_cases ho : o2 ≤ 1
              · have hS2 : Hid (C.l (nx2 + 1) = T) := by have := hS1.out; rw [q1, q2, if_neg (by simp), if_pos rfl, if_pos ho] at this; exact this
                have hF := Lib.hid (Out.ret (C := C) (nx := nx) (w := w) (V := VUnit) (v := .tuple #[]) (r := Res.ok () T) rfl hS2.out (by omega) rfl ⟨hP4.out, hK3.out⟩)
                go_wp2
                go_end0
                exact hF.out
              · have hS2 : Hid (skipF g (o2 - 1) (C.l (nx2 + 1)) = T) := by have := hS1.out; rw [q1, q2, if_neg (by simp), if_pos rfl, if_neg ho] at this; exact this
                have hob : decide (o2 ≤ 1) = false := by simp; omega
                go_wp2
                go_roundg g
                case measure => omega
                case rel => exact ⟨nx2 + 1, o2 - 1, rfl, by omega, by omega, by omega, hlen, hS2, hP4, hK3⟩
          · have hS2 : Hid (skipF g (o2 + 1) (C.l (nx2 + 1)) = T) := by have := hS1.out; rw [q1, if_pos rfl] at this; exact this
            go_wp2
            go_roundg g
            case measure => omega
            case rel => exact ⟨nx2 + 1, o2 + 1, rfl, by omega, by omega, by omega, hlen, hS2, hP4, hK3⟩
        · have hd1 : decide ((nx2 : Int) < (C.ts.length : Int) - 1) = false := by simp; omega
          have hS2 : Hid (C.l nx2 = T) := by
            have := hS.out
            cases gk with
            | zero => exact this
            | succ g => rw [skipF, if_pos (by omega)] at this; exact this
          clear hll hmore hgk hS
          go_wp2_with fail
          go_quiet (fail)
          clear q0
          have hF := Lib.hid (fun n => Out.ret (C := C) (nx := nx) (dv := dv) (ds := ds) (w := w) (wr := wr.drewN n) (V := VUnit) (v := .tuple #[]) (r := Res.ok () T) rfl hS2.out (by omega) rfl ⟨hP2.out.below ⟨rfl, rfl, rfl, Nat.le_refl _, fun _ _ => rfl⟩, hK2.out.trans ⟨rfl, rfl, rfl, Nat.le_refl _, fun _ _ _ _ => rfl⟩⟩)
          go_wp2
          go_end0
          exact hF.out _
end Go.Proofs.YtdaghppcomckbaaGreatDoor
