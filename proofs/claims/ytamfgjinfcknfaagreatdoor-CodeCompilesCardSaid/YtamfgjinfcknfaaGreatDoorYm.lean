/- Texts of one proof: VxC. -/
import Derived.Test.YtamfgjinfcknfaaGreatDoorYi
set_option linter.unusedVariables false
set_option linter.unusedSimpArgs false
set_option maxRecDepth 100000
set_option maxHeartbeats 8000000
namespace Go.Proofs.YtamfgjinfcknfaaGreatDoor
open Go.RowKit
namespace C
open U (Vr VarsR VrAt newBlk blkLt)
abbrev vrC5 (v : Vr) : Array Value := #[.string v.x, .int .i64 v.u, .int .i64 v.lo, .int .i64 v.hi, .int .i64 v.i]
theorem cells5v {w : World} {b : Nat} {v0 v1 v2 v3 v4 : Value} {T : TypeId} (h : w.heap[b]? = some (.cells #[v0, v1, v2, v3, v4] T (0, 0))) :
  w.cell? ⟨b, 0, none⟩ = some v0 ∧ w.cell? ⟨b, 1, none⟩ = some v1 ∧ w.cell? ⟨b, 2, none⟩ = some v2 ∧ w.cell? ⟨b, 3, none⟩ = some v3 ∧ w.cell? ⟨b, 4, none⟩ = some v4 := by
 have e : ∀ j, w.cell? ⟨b, j, none⟩ = (#[v0, v1, v2, v3, v4] : Array Value)[j]? := fun j => cell_of_row _ _ j _ _ (0, 0) h
 exact ⟨e 0, e 1, e 2, e 3, e 4⟩
theorem RVar_any (v : Vr) (w : World) (hx : v.x.size ≤ maxLen) : Calls Tryz.prog 19 #[.agg (vrC5 v)] w (V1 (.bool (varB nm5 v)) w) := by
 have HB := Lib.hid (grAlloc w (.cells (vrC5 v) 45))
 have HX := Lib.hid (newBlk w (.cells (vrC5 v) 45) _ rfl)
 have HN := Lib.hid (fun wx => RName_any v.x wx hx)
 obtain ⟨e0, e1, e2, e3, e4⟩ := cells5v HX.out
 obtain ⟨r, hr⟩ : ∃ r, varB nm5 v = r := ⟨_, rfl⟩
 rw [hr]
 have HR : Hid ((nm5 v.x && (decide (0 ≤ v.u) && (decide (v.u ≤ 4) && (decide (0 ≤ v.lo) && (decide (v.lo ≤ v.i) && (decide (v.i ≤ v.hi) && decide (v.hi ≤ 1000000000))))))) = r) := Lib.hid hr
 clear hr hx
 generalize nm5 v.x = bn at *
 cases bn with
 | false =>
  obtain rfl : false = r := HR.out
  clear HR
  go_enter Tryz.func19, Tryz.ntmps19
  go_wp2_with (go_at_call 18; refine (HN.out _).mono ?_; rintro e w1 ⟨rfl, hb1⟩; have HB := Lib.hid (Gr.tr HB.out hb1); have HX := Lib.hid (grBlk hb1 HX.out); clear hb1 e0 e1 e2 e3 e4; obtain ⟨e0, e1, e2, e3, e4⟩ := cells5v HX.out)
  go_ret
  exact ⟨rfl, HB.out⟩
 | true =>
  by_cases q0 : 0 ≤ v.u
  ·by_cases q1 : v.u ≤ 4
   ·by_cases q2 : 0 ≤ v.lo
    ·by_cases q3 : v.lo ≤ v.i
     ·by_cases q4 : v.i ≤ v.hi
      ·by_cases q5 : v.hi ≤ 1000000000
       ·obtain rfl : true = r := by have h := HR.out; simpa [q0, q1, q2, q3, q4, q5] using h
        clear HR
        have t0 : decide (v.u ≥ 0) = true := by simpa using q0
        have t1 : decide (v.u ≤ 4) = true := by simpa using q1
        have t2 : decide (v.lo ≥ 0) = true := by simpa using q2
        have t3 : decide (v.lo ≤ v.i) = true := by simpa using q3
        have t4 : decide (v.i ≤ v.hi) = true := by simpa using q4
        have t5 : decide (v.hi ≤ 1000000000) = true := by simpa using q5
        clear q0 q1 q2 q3 q4 q5
        go_enter Tryz.func19, Tryz.ntmps19
        go_wp2_with (go_at_call 18; refine (HN.out _).mono ?_; rintro e w1 ⟨rfl, hb1⟩; have HB := Lib.hid (Gr.tr HB.out hb1); have HX := Lib.hid (grBlk hb1 HX.out); clear hb1 e0 e1 e2 e3 e4; obtain ⟨e0, e1, e2, e3, e4⟩ := cells5v HX.out)
        go_ret
        exact ⟨rfl, HB.out⟩
       ·obtain rfl : false = r := by have h := HR.out; simpa [q0, q1, q2, q3, q4, q5] using h
        clear HR
        have t0 : decide (v.u ≥ 0) = true := by simpa using q0
        have t1 : decide (v.u ≤ 4) = true := by simpa using q1
        have t2 : decide (v.lo ≥ 0) = true := by simpa using q2
        have t3 : decide (v.lo ≤ v.i) = true := by simpa using q3
        have t4 : decide (v.i ≤ v.hi) = true := by simpa using q4
        have t5 : decide (v.hi ≤ 1000000000) = false := by simpa using q5
        clear q0 q1 q2 q3 q4 q5
        go_enter Tryz.func19, Tryz.ntmps19
        go_wp2_with (go_at_call 18; refine (HN.out _).mono ?_; rintro e w1 ⟨rfl, hb1⟩; have HB := Lib.hid (Gr.tr HB.out hb1); have HX := Lib.hid (grBlk hb1 HX.out); clear hb1 e0 e1 e2 e3 e4; obtain ⟨e0, e1, e2, e3, e4⟩ := cells5v HX.out)
        go_ret
        exact ⟨rfl, HB.out⟩
      ·obtain rfl : false = r := by have h := HR.out; simpa [q0, q1, q2, q3, q4] using h
       clear HR
       have t0 : decide (v.u ≥ 0) = true := by simpa using q0
       have t1 : decide (v.u ≤ 4) = true := by simpa using q1
       have t2 : decide (v.lo ≥ 0) = true := by simpa using q2
       have t3 : decide (v.lo ≤ v.i) = true := by simpa using q3
       have t4 : decide (v.i ≤ v.hi) = false := by simpa using q4
       clear q0 q1 q2 q3 q4
       go_enter Tryz.func19, Tryz.ntmps19
       go_wp2_with (go_at_call 18; refine (HN.out _).mono ?_; rintro e w1 ⟨rfl, hb1⟩; have HB := Lib.hid (Gr.tr HB.out hb1); have HX := Lib.hid (grBlk hb1 HX.out); clear hb1 e0 e1 e2 e3 e4; obtain ⟨e0, e1, e2, e3, e4⟩ := cells5v HX.out)
       go_ret
       exact ⟨rfl, HB.out⟩
     ·obtain rfl : false = r := by have h := HR.out; simpa [q0, q1, q2, q3] using h
      clear HR
      have t0 : decide (v.u ≥ 0) = true := by simpa using q0
      have t1 : decide (v.u ≤ 4) = true := by simpa using q1
      have t2 : decide (v.lo ≥ 0) = true := by simpa using q2
      have t3 : decide (v.lo ≤ v.i) = false := by simpa using q3
      clear q0 q1 q2 q3
      go_enter Tryz.func19, Tryz.ntmps19
      go_wp2_with (go_at_call 18; refine (HN.out _).mono ?_; rintro e w1 ⟨rfl, hb1⟩; have HB := Lib.hid (Gr.tr HB.out hb1); have HX := Lib.hid (grBlk hb1 HX.out); clear hb1 e0 e1 e2 e3 e4; obtain ⟨e0, e1, e2, e3, e4⟩ := cells5v HX.out)
      go_ret
      exact ⟨rfl, HB.out⟩
    ·obtain rfl : false = r := by have h := HR.out; simpa [q0, q1, q2] using h
     clear HR
     have t0 : decide (v.u ≥ 0) = true := by simpa using q0
     have t1 : decide (v.u ≤ 4) = true := by simpa using q1
     have t2 : decide (v.lo ≥ 0) = false := by simpa using q2
     clear q0 q1 q2
     go_enter Tryz.func19, Tryz.ntmps19
     go_wp2_with (go_at_call 18; refine (HN.out _).mono ?_; rintro e w1 ⟨rfl, hb1⟩; have HB := Lib.hid (Gr.tr HB.out hb1); have HX := Lib.hid (grBlk hb1 HX.out); clear hb1 e0 e1 e2 e3 e4; obtain ⟨e0, e1, e2, e3, e4⟩ := cells5v HX.out)
     go_ret
     exact ⟨rfl, HB.out⟩
   ·obtain rfl : false = r := by have h := HR.out; simpa [q0, q1] using h
    clear HR
    have t0 : decide (v.u ≥ 0) = true := by simpa using q0
    have t1 : decide (v.u ≤ 4) = false := by simpa using q1
    clear q0 q1
    go_enter Tryz.func19, Tryz.ntmps19
    go_wp2_with (go_at_call 18; refine (HN.out _).mono ?_; rintro e w1 ⟨rfl, hb1⟩; have HB := Lib.hid (Gr.tr HB.out hb1); have HX := Lib.hid (grBlk hb1 HX.out); clear hb1 e0 e1 e2 e3 e4; obtain ⟨e0, e1, e2, e3, e4⟩ := cells5v HX.out)
    go_ret
    exact ⟨rfl, HB.out⟩
  ·obtain rfl : false = r := by have h := HR.out; simpa [q0] using h
   clear HR
   have t0 : decide (v.u ≥ 0) = false := by simpa using q0
   clear q0
   go_enter Tryz.func19, Tryz.ntmps19
   go_wp2_with (go_at_call 18; refine (HN.out _).mono ?_; rintro e w1 ⟨rfl, hb1⟩; have HB := Lib.hid (Gr.tr HB.out hb1); have HX := Lib.hid (grBlk hb1 HX.out); clear hb1 e0 e1 e2 e3 e4; obtain ⟨e0, e1, e2, e3, e4⟩ := cells5v HX.out)
   go_ret
   exact ⟨rfl, HB.out⟩
theorem RFind_any (vs : List Vr) (VA : Option Addr) (vm : Nat) (x : ByteArray) (w : World) (hV : VarsR w vs VA) (hlen : vs.length ≤ maxLen) :
  Calls Tryz.prog 20 #[.slice VA vs.length vm, .string x] w (fun e w' => e = .returned (.int .i64 (idx (vs.map (·.x)) x)) ∧ w = w') := by
 have HV := Lib.hid hV
 clear hV
 go_enter Tryz.func20, Tryz.ntmps20
 go_wp2
 go_loopg [5] (vs.length) (fun gk i wr => ∃ k : Nat, k + gk = vs.length ∧ i = .int .i64 k ∧ Hid (idxF x ((vs.map (·.x)).drop k) k = idx (vs.map (·.x)) x) ∧ wr = w)
 case atStart => exact ⟨0, by omega, rfl, Lib.hid rfl, rfl⟩
 case round =>
  obtain ⟨k, hk, rfl, hI, rfl⟩ := hrel
  by_cases hlt : k < vs.length
  ·obtain ⟨gq, rfl⟩ : ∃ g, gk = g + 1 := ⟨gk - 1, by omega⟩
   have hk64 : (k : Int) + 1 < 9223372036854775808 := by unfold maxLen at hlen; omega
   obtain ⟨ga, oa, rfl, hat⟩ := HV.out.addr (by omega)
   obtain ⟨e0, -, -, -, -⟩ := hat _ _ (List.getElem?_eq_getElem hlt)
   have hl : k < (vs.map (·.x)).length := by simpa using hlt
   have hy : (vs.map (·.x))[k] = vs[k].x := by simp
   have h1 := Lib.hid (idxF_drop_hit x (vs.map (·.x)) k k hl)
   have h2 := Lib.hid (idxF_drop_miss x (vs.map (·.x)) k k hl)
   rw [hy] at h1 h2
   clear hat hy hl
   generalize vs[k].x = y at *
   by_cases hxy : x = y
   ·subst hxy
    have h3 := Lib.hid ((h1.out rfl).symm.trans hI.out)
    clear h1 h2
    go_wp2
    go_ret
    exact ⟨ret_i h3.out, rfl⟩
   ·have h3 := Lib.hid ((h2.out hxy).symm.trans hI.out)
    have hne := bne_of y x (fun e => hxy e.symm)
    clear hxy h1 h2
    go_wp2
    go_roundg gq
    case measure => omega
    case rel => exact ⟨k + 1, by omega, by go_num, h3, rfl⟩
  ·have h3 := Lib.hid ((idxF_drop_end x (vs.map (·.x)) k k (by simp; omega)).symm.trans hI.out)
   go_wp2
   go_ret
   exact ⟨ret_i h3.out, rfl⟩
theorem RUses_any (vs : List Vr) (VA : Option Addr) (vm : Nat) (k un : Int) (w : World) (hV : VarsR w vs VA) :
  Calls Tryz.prog 22 #[.slice VA vs.length vm, .int .i64 k, .int .i64 un] w (fun e w' => e = .returned (.bool (usesB vs k un)) ∧ w = w') := by
 have HV := Lib.hid hV
 clear hV
 by_cases h0 : 0 ≤ k
 ·obtain ⟨j, rfl⟩ : ∃ j : Nat, k = j := ⟨k.toNat, by omega⟩
  by_cases h1 : j < vs.length
  ·obtain ⟨ga, oa, rfl, hat⟩ := HV.out.addr (by omega)
   obtain ⟨-, e1, -, -, -⟩ := hat _ _ (List.getElem?_eq_getElem h1)
   have hq : usesB vs j un = decide (vs[j].u = un) := by unfold usesB; simp [h1]
   rw [hq]
   clear hq hat
   generalize vs[j].u = u at *
   by_cases h2 : u = un
   ·subst h2
    rw [decide_eq_true rfl]
    go_enter Tryz.func22, Tryz.ntmps22
    go_wp2
    go_ret
    exact ⟨rfl, rfl⟩
   ·rw [decide_eq_false h2]
    have h3 : (u == un) = false := by simp [h2]
    go_enter Tryz.func22, Tryz.ntmps22
    go_wp2
    go_ret
    exact ⟨rfl, rfl⟩
  ·have hq : usesB vs j un = false := by unfold usesB; simp [h1]
   rw [hq]
   clear hq
   have h3 : decide ((j : Int) < (vs.length : Int)) = false := by simp; omega
   go_enter Tryz.func22, Tryz.ntmps22
   go_wp2
   go_ret
   exact ⟨rfl, rfl⟩
 ·have hq : usesB vs k un = false := by unfold usesB; rw [decide_eq_false h0]; rfl
  rw [hq]
  clear hq
  have h3 : decide (k ≥ 0) = false := by simp; omega
  go_enter Tryz.func22, Tryz.ntmps22
  go_wp2
  go_ret
  exact ⟨rfl, rfl⟩
end C
end Go.Proofs.YtamfgjinfcknfaaGreatDoor
