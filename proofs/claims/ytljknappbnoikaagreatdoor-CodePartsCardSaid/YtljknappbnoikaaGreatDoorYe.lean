/- Texts of one proof: VxC, UxN, UxP, UxR, VxO. -/
import Derived.Test.YtljknappbnoikaaGreatDoorYd
import Derived.Test.YtljknappbnoikaaGreatDoorZd
import Derived.Deep.RegionHeld3
import Derived.Test.YtljknappbnoikaaGreatDoorZa
import Derived.ChangeArms
import Derived.DataReads
import Derived.ChangeSlices
import Derived.Test.YtljknappbnoikaaGreatDoorZp
import Derived.OpenShut
set_option linter.unusedVariables false
set_option linter.unusedSimpArgs false
set_option maxRecDepth 100000
set_option maxHeartbeats 8000000
namespace Go.Proofs.YtljknappbnoikaaGreatDoor
open Go.RowKit
namespace C
open U (Vr VarsR VrAt newBlk blkLt)
abbrev vrC5 (v : Vr) : Array Value := #[.string v.x, .int .i64 v.u, .int .i64 v.lo, .int .i64 v.hi, .int .i64 v.i]
theorem cells5v {w : World} {b : Nat} {v0 v1 v2 v3 v4 : Value} {T : TypeId} (h : w.heap[b]? = some (.cells #[v0, v1, v2, v3, v4] T (0, 0))) :
  w.cell? ⟨b, 0, none⟩ = some v0 ∧ w.cell? ⟨b, 1, none⟩ = some v1 ∧ w.cell? ⟨b, 2, none⟩ = some v2 ∧ w.cell? ⟨b, 3, none⟩ = some v3 ∧ w.cell? ⟨b, 4, none⟩ = some v4 := by
 have e : ∀ j, w.cell? ⟨b, j, none⟩ = (#[v0, v1, v2, v3, v4] : Array Value)[j]? := fun j => cell_of_row _ _ j _ _ (0, 0) h
 exact ⟨e 0, e 1, e 2, e 3, e 4⟩
theorem RVar_any (v : Vr) (w : World) (hx : v.x.size ≤ maxLen) : Calls Tryz.prog 26 #[.agg (vrC5 v)] w (V1 (.bool (varB nm5 v)) w) := by
 have HB := Lib.hid (grAlloc w (.cells (vrC5 v) 46))
 have HX := Lib.hid (newBlk w (.cells (vrC5 v) 46) _ rfl)
 have HN := Lib.hid (fun wx => RName_any v.x wx hx)
 obtain ⟨e0, e1, e2, e3, e4⟩ := cells5v HX.out
 obtain ⟨r, hr⟩ : ∃ r, varB nm5 v = r := ⟨_, rfl⟩
 rw [hr]
 have HR : Hid ((nm5 v.x && (decide (0 ≤ v.u) && (decide (v.u ≤ 4) && (decide (0 ≤ v.lo) && (decide (v.lo ≤ v.i) && (decide (v.i ≤ v.hi) && decide (v.hi ≤ 1000000000))))))) = r) := Lib.hid hr
 clear hr hx
 generalize nm5 v.x = bn at *
 cases bn with
 | false =>
  obtain rfl : false = r := HR.out
  clear HR
  go_enter Tryz.func26, Tryz.ntmps26
  go_wp2_with (go_at_call 25; refine (HN.out _).mono ?_; rintro e w1 ⟨rfl, hb1⟩; have HB := Lib.hid (Gr.tr HB.out hb1); have HX := Lib.hid (grBlk hb1 HX.out); clear hb1 e0 e1 e2 e3 e4; obtain ⟨e0, e1, e2, e3, e4⟩ := cells5v HX.out)
  go_ret
  exact ⟨rfl, HB.out⟩
 | true =>
  by_cases q0 : 0 ≤ v.u
  ·by_cases q1 : v.u ≤ 4
   ·by_cases q2 : 0 ≤ v.lo
    ·by_cases q3 : v.lo ≤ v.i
     ·by_cases q4 : v.i ≤ v.hi
      ·by_cases q5 : v.hi ≤ 1000000000
       ·obtain rfl : true = r := by have h := HR.out; simpa [q0, q1, q2, q3, q4, q5] using h
        clear HR
        have t0 : decide (v.u ≥ 0) = true := by simpa using q0
        have t1 : decide (v.u ≤ 4) = true := by simpa using q1
        have t2 : decide (v.lo ≥ 0) = true := by simpa using q2
        have t3 : decide (v.lo ≤ v.i) = true := by simpa using q3
        have t4 : decide (v.i ≤ v.hi) = true := by simpa using q4
        have t5 : decide (v.hi ≤ 1000000000) = true := by simpa using q5
        clear q0 q1 q2 q3 q4 q5
        go_enter Tryz.func26, Tryz.ntmps26
        go_wp2_with (go_at_call 25; refine (HN.out _).mono ?_; rintro e w1 ⟨rfl, hb1⟩; have HB := Lib.hid (Gr.tr HB.out hb1); have HX := Lib.hid (grBlk hb1 HX.out); clear hb1 e0 e1 e2 e3 e4; obtain ⟨e0, e1, e2, e3, e4⟩ := cells5v HX.out)
        go_ret
        exact ⟨rfl, HB.out⟩
       ·obtain rfl : false = r := by have h := HR.out; simpa [q0, q1, q2, q3, q4, q5] using h
        clear HR
        have t0 : decide (v.u ≥ 0) = true := by simpa using q0
        have t1 : decide (v.u ≤ 4) = true := by simpa using q1
        have t2 : decide (v.lo ≥ 0) = true := by simpa using q2
        have t3 : decide (v.lo ≤ v.i) = true := by simpa using q3
        have t4 : decide (v.i ≤ v.hi) = true := by simpa using q4
        have t5 : decide (v.hi ≤ 1000000000) = false := by simpa using q5
        clear q0 q1 q2 q3 q4 q5
        go_enter Tryz.func26, Tryz.ntmps26
        go_wp2_with (go_at_call 25; refine (HN.out _).mono ?_; rintro e w1 ⟨rfl, hb1⟩; have HB := Lib.hid (Gr.tr HB.out hb1); have HX := Lib.hid (grBlk hb1 HX.out); clear hb1 e0 e1 e2 e3 e4; obtain ⟨e0, e1, e2, e3, e4⟩ := cells5v HX.out)
        go_ret
        exact ⟨rfl, HB.out⟩
      ·obtain rfl : false = r := by have h := HR.out; simpa [q0, q1, q2, q3, q4] using h
       clear HR
       have t0 : decide (v.u ≥ 0) = true := by simpa using q0
       have t1 : decide (v.u ≤ 4) = true := by simpa using q1
       have t2 : decide (v.lo ≥ 0) = true := by simpa using q2
       have t3 : decide (v.lo ≤ v.i) = true := by simpa using q3
       have t4 : decide (v.i ≤ v.hi) = false := by simpa using q4
       clear q0 q1 q2 q3 q4
       go_enter Tryz.func26, Tryz.ntmps26
       go_wp2_with (go_at_call 25; refine (HN.out _).mono ?_; rintro e w1 ⟨rfl, hb1⟩; have HB := Lib.hid (Gr.tr HB.out hb1); have HX := Lib.hid (grBlk hb1 HX.out); clear hb1 e0 e1 e2 e3 e4; obtain ⟨e0, e1, e2, e3, e4⟩ := cells5v HX.out)
       go_ret
       exact ⟨rfl, HB.out⟩
     ·obtain rfl : false = r := by have h := HR.out; simpa [q0, q1, q2, q3] using h
      clear HR
      have t0 : decide (v.u ≥ 0) = true := by simpa using q0
      have t1 : decide (v.u ≤ 4) = true := by simpa using q1
      have t2 : decide (v.lo ≥ 0) = true := by simpa using q2
      have t3 : decide (v.lo ≤ v.i) = false := by simpa using q3
      clear q0 q1 q2 q3
      go_enter Tryz.func26, Tryz.ntmps26
      go_wp2_with (go_at_call 25; refine (HN.out _).mono ?_; rintro e w1 ⟨rfl, hb1⟩; have HB := Lib.hid (Gr.tr HB.out hb1); have HX := Lib.hid (grBlk hb1 HX.out); clear hb1 e0 e1 e2 e3 e4; obtain ⟨e0, e1, e2, e3, e4⟩ := cells5v HX.out)
      go_ret
      exact ⟨rfl, HB.out⟩
    ·obtain rfl : false = r := by have h := HR.out; simpa [q0, q1, q2] using h
     clear HR
     have t0 : decide (v.u ≥ 0) = true := by simpa using q0
     have t1 : decide (v.u ≤ 4) = true := by simpa using q1
     have t2 : decide (v.lo ≥ 0) = false := by simpa using q2
     clear q0 q1 q2
     go_enter Tryz.func26, Tryz.ntmps26
     go_wp2_with (go_at_call 25; refine (HN.out _).mono ?_; rintro e w1 ⟨rfl, hb1⟩; have HB := Lib.hid (Gr.tr HB.out hb1); have HX := Lib.hid (grBlk hb1 HX.out); clear hb1 e0 e1 e2 e3 e4; obtain ⟨e0, e1, e2, e3, e4⟩ := cells5v HX.out)
     go_ret
     exact ⟨rfl, HB.out⟩
   ·obtain rfl : false = r := by have h := HR.out; simpa [q0, q1] using h
    clear HR
    have t0 : decide (v.u ≥ 0) = true := by simpa using q0
    have t1 : decide (v.u ≤ 4) = false := by simpa using q1
    clear q0 q1
    go_enter Tryz.func26, Tryz.ntmps26
    go_wp2_with (go_at_call 25; refine (HN.out _).mono ?_; rintro e w1 ⟨rfl, hb1⟩; have HB := Lib.hid (Gr.tr HB.out hb1); have HX := Lib.hid (grBlk hb1 HX.out); clear hb1 e0 e1 e2 e3 e4; obtain ⟨e0, e1, e2, e3, e4⟩ := cells5v HX.out)
    go_ret
    exact ⟨rfl, HB.out⟩
  ·obtain rfl : false = r := by have h := HR.out; simpa [q0] using h
   clear HR
   have t0 : decide (v.u ≥ 0) = false := by simpa using q0
   clear q0
   go_enter Tryz.func26, Tryz.ntmps26
   go_wp2_with (go_at_call 25; refine (HN.out _).mono ?_; rintro e w1 ⟨rfl, hb1⟩; have HB := Lib.hid (Gr.tr HB.out hb1); have HX := Lib.hid (grBlk hb1 HX.out); clear hb1 e0 e1 e2 e3 e4; obtain ⟨e0, e1, e2, e3, e4⟩ := cells5v HX.out)
   go_ret
   exact ⟨rfl, HB.out⟩
theorem RFind_any (vs : List Vr) (VA : Option Addr) (vm : Nat) (x : ByteArray) (w : World) (hV : VarsR w vs VA) (hlen : vs.length ≤ maxLen) :
  Calls Tryz.prog 27 #[.slice VA vs.length vm, .string x] w (fun e w' => e = .returned (.int .i64 (idx (vs.map (·.x)) x)) ∧ w = w') := by
 have HV := Lib.hid hV
 clear hV
 go_enter Tryz.func27, Tryz.ntmps27
 go_wp2
 go_loopg [5] (vs.length) (fun gk i wr => ∃ k : Nat, k + gk = vs.length ∧ i = .int .i64 k ∧ Hid (idxF x ((vs.map (·.x)).drop k) k = idx (vs.map (·.x)) x) ∧ wr = w)
 case atStart => exact ⟨0, by omega, rfl, Lib.hid rfl, rfl⟩
 case round =>
  obtain ⟨k, hk, rfl, hI, rfl⟩ := hrel
  by_cases hlt : k < vs.length
  ·obtain ⟨gq, rfl⟩ : ∃ g, gk = g + 1 := ⟨gk - 1, by omega⟩
   have hk64 : (k : Int) + 1 < 9223372036854775808 := by unfold maxLen at hlen; omega
   obtain ⟨ga, oa, rfl, hat⟩ := HV.out.addr (by omega)
   obtain ⟨e0, -, -, -, -⟩ := hat _ _ (List.getElem?_eq_getElem hlt)
   have hl : k < (vs.map (·.x)).length := by simpa using hlt
   have hy : (vs.map (·.x))[k] = vs[k].x := by simp
   have h1 := Lib.hid (idxF_drop_hit x (vs.map (·.x)) k k hl)
   have h2 := Lib.hid (idxF_drop_miss x (vs.map (·.x)) k k hl)
   rw [hy] at h1 h2
   clear hat hy hl
   generalize vs[k].x = y at *
   by_cases hxy : x = y
   ·subst hxy
    have h3 := Lib.hid ((h1.out rfl).symm.trans hI.out)
    clear h1 h2
    go_wp2
    go_ret
    exact ⟨ret_i h3.out, rfl⟩
   ·have h3 := Lib.hid ((h2.out hxy).symm.trans hI.out)
    have hne := bne_of y x (fun e => hxy e.symm)
    clear hxy h1 h2
    go_wp2
    go_roundg gq
    case measure => omega
    case rel => exact ⟨k + 1, by omega, by go_num, h3, rfl⟩
  ·have h3 := Lib.hid ((idxF_drop_end x (vs.map (·.x)) k k (by simp; omega)).symm.trans hI.out)
   go_wp2
   go_ret
   exact ⟨ret_i h3.out, rfl⟩
theorem RUses_any (vs : List Vr) (VA : Option Addr) (vm : Nat) (k un : Int) (w : World) (hV : VarsR w vs VA) :
  Calls Tryz.prog 29 #[.slice VA vs.length vm, .int .i64 k, .int .i64 un] w (fun e w' => e = .returned (.bool (usesB vs k un)) ∧ w = w') := by
 have HV := Lib.hid hV
 clear hV
 by_cases h0 : 0 ≤ k
 ·obtain ⟨j, rfl⟩ : ∃ j : Nat, k = j := ⟨k.toNat, by omega⟩
  by_cases h1 : j < vs.length
  ·obtain ⟨ga, oa, rfl, hat⟩ := HV.out.addr (by omega)
   obtain ⟨-, e1, -, -, -⟩ := hat _ _ (List.getElem?_eq_getElem h1)
   have hq : usesB vs j un = decide (vs[j].u = un) := by unfold usesB; simp [h1]
   rw [hq]
   clear hq hat
   generalize vs[j].u = u at *
   by_cases h2 : u = un
   ·subst h2
    rw [decide_eq_true rfl]
    go_enter Tryz.func29, Tryz.ntmps29
    go_wp2
    go_ret
    exact ⟨rfl, rfl⟩
   ·rw [decide_eq_false h2]
    have h3 : (u == un) = false := by simp [h2]
    go_enter Tryz.func29, Tryz.ntmps29
    go_wp2
    go_ret
    exact ⟨rfl, rfl⟩
  ·have hq : usesB vs j un = false := by unfold usesB; simp [h1]
   rw [hq]
   clear hq
   have h3 : decide ((j : Int) < (vs.length : Int)) = false := by simp; omega
   go_enter Tryz.func29, Tryz.ntmps29
   go_wp2
   go_ret
   exact ⟨rfl, rfl⟩
 ·have hq : usesB vs k un = false := by unfold usesB; rw [decide_eq_false h0]; rfl
  rw [hq]
  clear hq
  have h3 : decide (k ≥ 0) = false := by simp; omega
  go_enter Tryz.func29, Tryz.ntmps29
  go_wp2
  go_ret
  exact ⟨rfl, rfl⟩
end C
end Go.Proofs.YtljknappbnoikaaGreatDoor
namespace Go.Proofs.YtljknappbnoikaaGreatDoor.U
open Go.RowKit
theorem bAlloc {w X : World} {o : Obj} (h : Below w.heap.size w X) : Below w.heap.size w (X.alloc o) := h.alloc h.size o
theorem bDrew {w X : World} (h : Below w.heap.size w X) : Below w.heap.size w X.drew := h.drew
theorem bCall {w X w1 : World} (h : Below w.heap.size w X) (hb : Below X.heap.size X w1) : Below w.heap.size w w1 := h.trans (hb.mono h.size)
end Go.Proofs.YtljknappbnoikaaGreatDoor.U
namespace Go.Proofs.YtljknappbnoikaaGreatDoor.U
open Go.RowKit
theorem rsK_drop (ts : List Ex) (k : Nat) (hk : k < ts.length) (b n : Int) (h : n ≤ b) : rsK (ts.drop k) b n = rsK (ts.drop (k + 1)) b (n + rsE ts[k] (b - n)) := by
 rw [List.drop_eq_getElem_cons hk, rsK, if_pos h]
theorem rsK_stop (ts : List Ex) (k : Nat) (b n : Int) (h : b < n) : rsK (ts.drop k) b n = n := by
 cases hd : ts.drop k with
 | nil => rfl
 | cons t us => rw [rsK, if_neg (by omega)]
theorem rsE_range (t : Ex) (b : Int) (h : 0 ≤ b) : 1 ≤ rsE t b ∧ rsE t b ≤ b + 1 := by
 have := rsE_min t b h
 have := t.size_pos
 omega
theorem Size_step (t : Ex) (ih : ∀ u ∈ t.kids, ∀ (w : World) (b : Int) (A : Option Addr) (c : Nat), 0 ≤ b → b ≤ 10000 → KidsE w u.kids A → Calls Tryz.prog 33 #[ev u A c, .int .i64 b] w (VV (.int .i64 (rsE u b)) w))
  (w : World) (b : Int) (A : Option Addr) (c : Nat) (h0 : 0 ≤ b) (h1 : b ≤ 10000) (hK : KidsE w t.kids A) :
  Calls Tryz.prog 33 #[ev t A c, .int .i64 b] w (VV (.int .i64 (rsE t b)) w) := by
 obtain ⟨r, hr⟩ : ∃ r, rsE t b = r := ⟨_, rfl⟩
 rw [hr]
 have hr' : rsK t.kids b 1 = r := by rw [← hr]; cases t; rfl
 have hR := Lib.hid hr'
 have IH := Lib.hid ih
 have hKH := Lib.hid hK
 clear hr hr' ih hK
 go_enter Tryz.func33, Tryz.ntmps33
 go_wp2
 go_loopg [5, 6] (t.kids.length) (fun gk m i wr => ∃ (k : Nat) (mv : Int), k + gk = t.kids.length ∧ i = .int .i64 k ∧ m = .int .i64 mv ∧ (k : Int) + 1 ≤ mv ∧ mv ≤ b + 1 ∧ Hid (rsK (t.kids.drop k) b mv = r) ∧ Hid (wr.heap[w.heap.size]? = some (.cells (eArr t A c) 66 (0, 0))) ∧ Hid (Below w.heap.size w wr))
 case atStart => exact ⟨0, 1, by omega, rfl, rfl, by omega, by omega, hR.out, newBlk _ _ _ rfl, (Below.refl _ _).alloc (Nat.le_refl _) _⟩
 case round =>
  obtain ⟨k, mv, hk, rfl, rfl, hm1, hm2, hS, hB, hW⟩ := hrel
  obtain ⟨⟨b0, b1, b2, b3⟩, -⟩ := cells4 hB.out
  have hxb := blkLt hB.out
  clear b0 b1 b2
  by_cases hneg : mv ≤ b
  ·by_cases hlt : k < t.kids.length
   ·obtain ⟨g, rfl⟩ : ∃ g, gk = g + 1 := ⟨gk - 1, by omega⟩
    have hS1 := hS.out
    rw [rsK_drop _ _ hlt _ _ hneg] at hS1
    have hS1 := Lib.hid hS1
    have hKw : KidsE wr t.kids A := hKH.out.below hW.out
    obtain ⟨ga, oa, rfl⟩ := hKw.addr (by omega)
    obtain ⟨A1, c1, ⟨e0, e1, e2, e3⟩, -, hK1⟩ := (hKw.get _ _ _ k _ (List.getElem?_eq_getElem hlt)).cells
    have hmem : t.kids[k] ∈ t.kids := List.getElem_mem hlt
    have hI := Lib.hid (IH.out _ hmem wr (b - mv) A1 c1 (by omega) (by omega) hK1)
    have hsp := rsE_range t.kids[k] (b - mv) (by omega)
    clear hS hK1 hKw hmem
    generalize t.kids[k] = u at *
    have q0 : IntKind.i64.wrap (b - mv) = b - mv := IntWalk.i64_in _ (by omega)
    generalize hv : rsE u (b - mv) = rv at *
    have q1 : IntKind.i64.wrap (mv + rv) = mv + rv := IntWalk.i64_in _ (by omega)
    have hlt2 : k < t.kids.length := hlt
    go_wp2_with fail
    refine hI.out.mono ?_
    rintro e w2 ⟨rfl, hb2⟩
    have hB2 := Lib.hid ((hb2.block _ hxb).trans hB.out)
    have hW2 := Lib.hid (hW.out.trans (hb2.mono hW.out.size))
    clear hb2 e0 e1 e2 e3
    go_wp2
    clear q0 q1
    go_roundg g
    case measure => omega
    case rel => exact ⟨k + 1, mv + rv, by omega, by go_num, rfl, by omega, by omega, hS1, hB2, hW2⟩
   ·have hF : Hid (mv = r) := by have := hS.out; rw [List.drop_eq_nil_of_le (by omega)] at this; exact this
    clear hS
    go_wp2
    go_ret
    exact ⟨ret_i hF.out, hW.out⟩
  ·have hF : Hid (mv = r) := by have := hS.out; rw [rsK_stop _ _ _ _ (by omega)] at this; exact this
   have hng : decide (mv ≤ b) = false := by simp; omega
   clear hS
   by_cases hlt : k < t.kids.length
   all_goals
    go_wp2
    go_ret
    exact ⟨ret_i hF.out, hW.out⟩
mutual
theorem Size_any : ∀ (t : Ex) (w : World) (b : Int) (A : Option Addr) (c : Nat), 0 ≤ b → b ≤ 10000 → KidsE w t.kids A → Calls Tryz.prog 33 #[ev t A c, .int .i64 b] w (VV (.int .i64 (rsE t b)) w)
 | .mk k x m kids => fun w n A c h0 h1 hK => Size_step (.mk k x m kids) (Size_all kids) w n A c h0 h1 hK
theorem Size_all : ∀ (ts : List Ex), ∀ u ∈ ts, ∀ (w : World) (b : Int) (A : Option Addr) (c : Nat), 0 ≤ b → b ≤ 10000 → KidsE w u.kids A → Calls Tryz.prog 33 #[ev u A c, .int .i64 b] w (VV (.int .i64 (rsE u b)) w)
 | [], u, hu => by cases hu
 | t :: ts, u, hu => by
  rcases List.mem_cons.1 hu with h | h
  ·rw [h]; exact Size_any t
  ·exact Size_all ts u h
end
end Go.Proofs.YtljknappbnoikaaGreatDoor.U
namespace Go.Proofs.YtljknappbnoikaaGreatDoor.U
open Go.RowKit
theorem cellsEx : Tryz.prog.cellsOf 66 = 4 := by kernel_rfl
theorem cellsVr : Tryz.prog.cellsOf 46 = 5 := by kernel_rfl
theorem cellsI : Tryz.prog.cellsOf 3 = 1 := by kernel_rfl
theorem cellsS : Tryz.prog.cellsOf 9 = 1 := by kernel_rfl
theorem cellsKids : Tryz.prog.cellsOf 64 = 1 := by kernel_rfl
theorem kids_of {w : World} {g o len : Nat} (h : ∀ i, i < len → ∃ t, OneE w t g (o + i * 4)) : ∀ k, k ≤ len → ∃ ts : List Ex, ts.length = k ∧ KidsE w ts (some ⟨g, o + (len - k) * 4, none⟩)
 | 0, _ => ⟨[], rfl, by unfold KidsE; trivial⟩
 | k + 1, hk => by
  obtain ⟨ts, hl, hK⟩ := kids_of h k (by omega)
  obtain ⟨t, ht⟩ := h (len - (k + 1)) (by omega)
  refine ⟨t :: ts, by simp [hl], ?_⟩
  unfold KidsE
  refine ⟨g, o + (len - (k + 1)) * 4, rfl, ht, ?_⟩
  rw [show o + (len - (k + 1)) * 4 + 4 = o + (len - k) * 4 by omega]
  exact hK
theorem spot_none {w : World} {a : Addr} {v : Value} (h : w.cell? ((a.add (0 * 4)).add 0) = some v) : a.spot = none := by
 have := World.cell?_spot h
 simpa [Addr.add] using this
theorem spot_none5 {w : World} {a : Addr} {v : Value} (h : w.cell? ((a.add (0 * 5)).add 0) = some v) : a.spot = none := by
 have := World.cell?_spot h
 simpa [Addr.add] using this
section
variable {H : Type} {enc : TypeId × Value → H} {W : World}
theorem open_ex : ∀ (fuel : Nat) (cs : List Value) (x : DataW H × List MemPlace), DataW.trod enc Tryz.prog W 0 (fun _ => true) true fuel 66 cs = some x →
  ∃ (t : Ex) (A : Option Addr) (c : Nat), cs = [.int .i64 t.op, .int .i64 t.n, .int .i64 t.unit, .slice A t.kids.length (t.kids.length + c)] ∧ KidsE W t.kids A ∧ t.kids.length ≤ maxLen := by
 intro fuel
 induction fuel using Nat.strongRecOn with
 | ind fuel ih =>
  intro cs x h
  obtain ⟨xs, n, rfl, -, hl, hlen, hf⟩ := DataW.trod_struct Tryz.underlying66 h
  rw [cellsEx] at hl
  match cs, hl with
  | [c0, c1, c2, c3], _ =>
   match xs, hlen with
   | [y0, y1, y2, y3], _ =>
    have h0 := hf 0 _ rfl
    have h1 := hf 1 _ rfl
    have h2 := hf 2 _ rfl
    have h3 := hf 3 _ rfl
    simp [cellsI, cellsKids] at h0 h1 h2 h3
    obtain ⟨a, e0, -, -⟩ := DataW.trod_int Tryz.underlying3 h0
    obtain ⟨b, e1, -, -⟩ := DataW.trod_int Tryz.underlying3 h1
    obtain ⟨u, e2, -, -⟩ := DataW.trod_int Tryz.underlying3 h2
    simp only [List.cons.injEq, and_true] at e0 e1 e2
    subst e0 e1 e2
    rcases DataW.trod_slice Tryz.underlying64 h3 with ⟨e3, -⟩ | ⟨ad, len, cap, elems, rest, m, hm, e3, -, -, hlc, hcap, hel, hall, -, -⟩
    ·simp only [List.cons.injEq, and_true] at e3
     subst e3
     exact ⟨.mk a b u [], none, 0, rfl, by unfold Ex.kids KidsE; trivial, Nat.zero_le _⟩
    ·simp only [List.cons.injEq, and_true] at e3
     subst e3
     have hraw : ∀ i, i < len → ∃ (t : Ex) (A : Option Addr) (c : Nat), W.cell? ((ad.add (i * 4)).add 0) = some (.int .i64 t.op) ∧ W.cell? ((ad.add (i * 4)).add 1) = some (.int .i64 t.n) ∧ W.cell? ((ad.add (i * 4)).add 2) = some (.int .i64 t.unit) ∧
       W.cell? ((ad.add (i * 4)).add 3) = some (.slice A t.kids.length (t.kids.length + c)) ∧ t.kids.length ≤ maxLen ∧ KidsE W t.kids A := by
      intro i hi
      have hb := hall i hi
      rw [List.getElem?_eq_getElem (by omega), cellsEx] at hb
      obtain ⟨cs', hc', ht'⟩ := Option.bind_eq_some_iff.1 hb
      obtain ⟨t, A, c, rfl, hK, hkl⟩ := ih m (by omega) cs' _ ht'
      obtain ⟨-, -, hcell⟩ := World.cells?_some hc'
      exact ⟨t, A, c, hcell 0 (by omega), hcell 1 (by omega), hcell 2 (by omega), hcell 3 (by omega), hkl, hK⟩
     obtain ⟨ts, hts, hK⟩ : ∃ ts : List Ex, ts.length = len ∧ KidsE W ts (some ad) := by
      by_cases h0 : len = 0
      ·subst h0
       exact ⟨[], rfl, by unfold KidsE; trivial⟩
      ·obtain ⟨_, _, _, hk0, -⟩ := hraw 0 (by omega)
       have hsp := spot_none hk0
       obtain ⟨g, o, sp⟩ := ad
       simp only at hsp
       subst hsp
       have hadd : ∀ p q : Nat, ((⟨g, o, none⟩ : Addr).add p).add q = ⟨g, o + p + q, none⟩ := fun p q => by rw [Go.WideShapes.add_plain, Go.WideShapes.add_plain]
       have hone : ∀ i, i < len → ∃ t, OneE W t g (o + i * 4) := by
        intro i hi
        obtain ⟨t, A, c, k0, k1, k2, k3, hkl, hK⟩ := hraw i hi
        rw [hadd] at k0 k1 k2 k3
        exact ⟨t, OneE.mk' (A := A) (c := c) k0 k1 k2 k3 hkl hK⟩
       obtain ⟨ts, hts, hK⟩ := kids_of hone len (Nat.le_refl _)
       exact ⟨ts, hts, by simpa using hK⟩
     refine ⟨.mk a b u ts, some ad, cap - len, ?_, hK, by show ts.length ≤ maxLen; omega⟩
     show _ = [Value.int .i64 a, .int .i64 b, .int .i64 u, .slice (some ad) ts.length (ts.length + (cap - len))]
     rw [hts, Nat.add_sub_cancel' hlc]
end
end Go.Proofs.YtljknappbnoikaaGreatDoor.U
namespace Go.Proofs.YtljknappbnoikaaGreatDoor.U
open Go.RowKit
theorem cellsSt : Tryz.prog.cellsOf 69 = 13 := by kernel_rfl
theorem cellsSts : Tryz.prog.cellsOf 23 = 1 := by kernel_rfl
theorem cellsOn : Tryz.prog.cellsOf 24 = 5 := by kernel_rfl
theorem cellsVars : Tryz.prog.cellsOf 22 = 1 := by kernel_rfl
theorem cellsPg : Tryz.prog.cellsOf 26 = 9 := by kernel_rfl
mutual
def kbS : St → Prop
 | .mk _ _ _ a b th el => a.kids.length ≤ maxLen ∧ b.kids.length ≤ maxLen ∧ kbL th ∧ kbL el
def kbL : List St → Prop
 | [] => True
 | x :: xs => kbS x ∧ kbL xs
end
theorem kbS_mk {x : St} (h : kbS x) : x.a.kids.length ≤ maxLen ∧ x.b.kids.length ≤ maxLen ∧ kbL x.th ∧ kbL x.el := by
 cases x; unfold kbS at h; exact h
theorem kbL_mem : ∀ {l : List St}, kbL l → ∀ x ∈ l, kbS x
 | [], _, x, hx => by cases hx
 | y :: ys, h, x, hx => by
  unfold kbL at h
  rcases List.mem_cons.1 hx with e | e
  ·rw [e]; exact h.1
  ·exact kbL_mem h.2 x e
theorem sts_of {w : World} {g o len : Nat} (h : ∀ i, i < len → ∃ t, StR w t g (o + i * 13) ∧ kbS t) : ∀ k, k ≤ len → ∃ ts : List St, ts.length = k ∧ StsR w ts (some ⟨g, o + (len - k) * 13, none⟩) ∧ kbL ts
 | 0, _ => ⟨[], rfl, by unfold StsR; trivial, by unfold kbL; trivial⟩
 | k + 1, hk => by
  obtain ⟨ts, hl, hK, hb⟩ := sts_of h k (by omega)
  obtain ⟨t, ht, hb1⟩ := h (len - (k + 1)) (by omega)
  refine ⟨t :: ts, by simp [hl], ?_, by unfold kbL; exact ⟨hb1, hb⟩⟩
  unfold StsR
  refine ⟨g, o + (len - (k + 1)) * 13, rfl, ht, ?_⟩
  rw [show o + (len - (k + 1)) * 13 + 13 = o + (len - k) * 13 by omega]
  exact hK
theorem spot_none13 {w : World} {a : Addr} {v : Value} (h : w.cell? ((a.add (0 * 13)).add 0) = some v) : a.spot = none := by
 have := World.cell?_spot h
 simpa [Addr.add] using this
def StX (W : World) (cs : List Value) : Prop :=
 ∃ (t : St) (A : Option Addr) (c : Nat) (B : Option Addr) (d : Nat) (T : Option Addr) (m : Nat) (E : Option Addr) (n : Nat), cs = (sArr t A c B d T m E n).toList ∧
  KidsE W t.a.kids A ∧ KidsE W t.b.kids B ∧ StsR W t.th T ∧ StsR W t.el E ∧ t.th.length ≤ maxLen ∧ t.el.length ≤ maxLen ∧ kbS t
section
variable {H : Type} {enc : TypeId × Value → H} {W : World}
theorem open_sts (n : Nat) (ih : ∀ m, m < n → ∀ (cs : List Value) (x : DataW H × List MemPlace), DataW.trod enc Tryz.prog W 0 (fun _ => true) true m 69 cs = some x → StX W cs)
  (cs : List Value) (x : DataW H × List MemPlace) (h : DataW.trod enc Tryz.prog W 0 (fun _ => true) true n 23 cs = some x) :
  ∃ (l : List St) (A : Option Addr) (m : Nat), cs = [.slice A l.length m] ∧ StsR W l A ∧ l.length ≤ maxLen ∧ kbL l := by
 rcases DataW.trod_slice Tryz.underlying23 h with ⟨e3, -⟩ | ⟨ad, len, cap, elems, rest, m, hm, e3, -, -, hlc, hcap, hel, hall, -, -⟩
 ·exact ⟨[], none, 0, e3, by unfold StsR; trivial, Nat.zero_le _, by unfold kbL; trivial⟩
 ·have hraw : ∀ i, i < len → ∃ cs', W.cells? 0 (ad.add (i * 13)) 13 = some cs' ∧ StX W cs' := by
   intro i hi
   have hb := hall i hi
   rw [List.getElem?_eq_getElem (by omega), cellsSt] at hb
   obtain ⟨cs', hc', ht'⟩ := Option.bind_eq_some_iff.1 hb
   exact ⟨cs', hc', ih m (by omega) cs' _ ht'⟩
  by_cases h0 : len = 0
  ·subst h0
   exact ⟨[], some ad, cap, e3, by unfold StsR; trivial, Nat.zero_le _, by unfold kbL; trivial⟩
  ·obtain ⟨cs0, hc0, t0, _, _, _, _, _, _, _, _, rfl, -⟩ := hraw 0 (by omega)
   obtain ⟨-, -, hcell0⟩ := World.cells?_some hc0
   have hsp := spot_none13 (hcell0 0 (by omega))
   obtain ⟨g, o, sp⟩ := ad
   simp only at hsp
   subst hsp
   have hadd : ∀ p q : Nat, ((⟨g, o, none⟩ : Addr).add p).add q = ⟨g, o + p + q, none⟩ := fun p q => by rw [Go.WideShapes.add_plain, Go.WideShapes.add_plain]
   have hone : ∀ i, i < len → ∃ t, StR W t g (o + i * 13) ∧ kbS t := by
    intro i hi
    obtain ⟨cs', hc', t, A, c, B, d, T, m, E, n, rfl, k1, k2, k3, k4, k5, k6, k7⟩ := hraw i hi
    obtain ⟨-, -, hcell⟩ := World.cells?_some hc'
    have hc : ∀ j, j < 13 → W.cell? ⟨g, o + i * 13 + j, none⟩ = (sArr t A c B d T m E n).toList[j]? := fun j hj => by
     have := hcell j hj
     rw [hadd] at this
     rw [this]
    refine ⟨t, ?_, k7⟩
    obtain ⟨tk, tv, tr, ta, tb, tt, te⟩ := t
    unfold StR
    refine ⟨A, c, B, d, T, m, E, n, ⟨hc 0 (by decide), hc 1 (by decide), hc 2 (by decide), hc 3 (by decide), hc 4 (by decide), hc 5 (by decide), hc 6 (by decide), hc 7 (by decide), hc 8 (by decide), hc 9 (by decide), hc 10 (by decide), hc 11 (by decide), hc 12 (by decide)⟩, k1, k2, k3, k4, k5, k6⟩
   obtain ⟨ts, hts, hK, hkb⟩ := sts_of hone len (Nat.le_refl _)
   exact ⟨ts, some ⟨g, o, none⟩, cap, by rw [hts]; exact e3, by simpa using hK, by omega, hkb⟩
theorem open_st : ∀ (fuel : Nat) (cs : List Value) (x : DataW H × List MemPlace), DataW.trod enc Tryz.prog W 0 (fun _ => true) true fuel 69 cs = some x → StX W cs := by
 intro fuel
 induction fuel using Nat.strongRecOn with
 | ind fuel ih =>
  intro cs x h
  obtain ⟨xs, n, rfl, -, hl, hlen, hf⟩ := DataW.trod_struct Tryz.underlying69 h
  rw [cellsSt] at hl
  match cs, hl with
  | [c0, c1, c2, c3, c4, c5, c6, c7, c8, c9, c10, c11, c12], _ =>
   match xs, hlen with
   | [y0, y1, y2, y3, y4, y5, y6], _ =>
    have h0 := hf 0 _ rfl
    have h1 := hf 1 _ rfl
    have h2 := hf 2 _ rfl
    have h3 := hf 3 _ rfl
    have h4 := hf 4 _ rfl
    have h5 := hf 5 _ rfl
    have h6 := hf 6 _ rfl
    simp [cellsI, cellsEx, cellsSts] at h0 h1 h2 h3 h4 h5 h6
    obtain ⟨i0, e0, -, -⟩ := DataW.trod_int Tryz.underlying3 h0
    obtain ⟨i1, e1, -, -⟩ := DataW.trod_int Tryz.underlying3 h1
    obtain ⟨i2, e2, -, -⟩ := DataW.trod_int Tryz.underlying3 h2
    obtain ⟨a, A, c, ea, hKa, hla⟩ := open_ex _ _ _ h3
    obtain ⟨b, B, d, eb, hKb, hlb⟩ := open_ex _ _ _ h4
    obtain ⟨th, T, m, et, hT, hlT, hbT⟩ := open_sts n (fun m hm => ih m (by omega)) _ _ h5
    obtain ⟨el, E, k, ee, hE, hlE, hbE⟩ := open_sts n (fun m hm => ih m (by omega)) _ _ h6
    simp only [List.cons.injEq, and_true] at e0 e1 e2 ea eb et ee
    obtain ⟨rfl, rfl, rfl, rfl⟩ := ea
    obtain ⟨rfl, rfl, rfl, rfl⟩ := eb
    subst e0 e1 e2 et ee
    exact ⟨.mk i0 i1 i2 a b th el, A, c, B, d, T, m, E, k, rfl, hKa, hKb, hT, hE, hlT, hlE, by unfold kbS; exact ⟨hla, hlb, hbT, hbE⟩⟩
theorem open_stsF (n : Nat) (cs : List Value) (x : DataW H × List MemPlace) (h : DataW.trod enc Tryz.prog W 0 (fun _ => true) true n 23 cs = some x) :
  ∃ (l : List St) (A : Option Addr) (m : Nat), cs = [.slice A l.length m] ∧ StsR W l A ∧ l.length ≤ maxLen ∧ kbL l := open_sts n (fun m _ => open_st m) cs x h
theorem open_on (n : Nat) (cs : List Value) (x : DataW H × List MemPlace) (h : DataW.trod enc Tryz.prog W 0 (fun _ => true) true n 24 cs = some x) :
  ∃ (o : On) (a : OnA), cs = [.slice a.a0 o.l0.length a.m0, .slice a.a1 o.l1.length a.m1, .slice a.a2 o.l2.length a.m2, .slice a.a3 o.l3.length a.m3, .slice a.a4 o.l4.length a.m4] ∧ OnR W o a ∧ ∀ l ∈ o.list, kbL l := by
 obtain ⟨xs, m, rfl, -, hl, hlen, hf⟩ := DataW.trod_array Tryz.underlying24 h
 rw [cellsOn] at hl
 simp only [cellsSts] at hf
 match cs, hl with
 | [c0, c1, c2, c3, c4], _ =>
  match xs, hlen with
  | [y0, y1, y2, y3, y4], _ =>
   obtain ⟨l0, A0, m0, e0, k0, n0, b0⟩ := open_stsF m _ _ (by simpa using hf 0 (by decide))
   obtain ⟨l1, A1, m1, e1, k1, n1, b1⟩ := open_stsF m _ _ (by simpa using hf 1 (by decide))
   obtain ⟨l2, A2, m2, e2, k2, n2, b2⟩ := open_stsF m _ _ (by simpa using hf 2 (by decide))
   obtain ⟨l3, A3, m3, e3, k3, n3, b3⟩ := open_stsF m _ _ (by simpa using hf 3 (by decide))
   obtain ⟨l4, A4, m4, e4, k4, n4, b4⟩ := open_stsF m _ _ (by simpa using hf 4 (by decide))
   simp only [List.cons.injEq, and_true] at e0 e1 e2 e3 e4
   subst e0 e1 e2 e3 e4
   exact ⟨⟨l0, l1, l2, l3, l4⟩, ⟨A0, A1, A2, A3, A4, m0, m1, m2, m3, m4⟩, rfl, ⟨k0, k1, k2, k3, k4, n0, n1, n2, n3, n4⟩, by intro l hl; simp only [On.list, List.mem_cons, List.not_mem_nil, or_false] at hl; rcases hl with rfl | rfl | rfl | rfl | rfl <;> assumption⟩
theorem open_vr2 (fuel : Nat) (cs : List Value) (x : DataW H × List MemPlace) (h : DataW.trod enc Tryz.prog W 0 (fun _ => true) true fuel 46 cs = some x) :
  ∃ v : Vr, cs = [.string v.x, .int .i64 v.u, .int .i64 v.lo, .int .i64 v.hi, .int .i64 v.i] ∧ v.x.size ≤ maxLen := by
 obtain ⟨xs, n, rfl, -, hl, hlen, hf⟩ := DataW.trod_struct Tryz.underlying46 h
 rw [cellsVr] at hl
 match cs, hl with
 | [c0, c1, c2, c3, c4], _ =>
  match xs, hlen with
  | [y0, y1, y2, y3, y4], _ =>
   have h0 := hf 0 _ rfl
   have h1 := hf 1 _ rfl
   have h2 := hf 2 _ rfl
   have h3 := hf 3 _ rfl
   have h4 := hf 4 _ rfl
   simp [cellsI, cellsS] at h0 h1 h2 h3 h4
   obtain ⟨s, e0, -, hsz⟩ := DataW.trod_string Tryz.underlying9 h0
   obtain ⟨a, e1, -, -⟩ := DataW.trod_int Tryz.underlying3 h1
   obtain ⟨b, e2, -, -⟩ := DataW.trod_int Tryz.underlying3 h2
   obtain ⟨c, e3, -, -⟩ := DataW.trod_int Tryz.underlying3 h3
   obtain ⟨d, e4, -, -⟩ := DataW.trod_int Tryz.underlying3 h4
   simp only [List.cons.injEq, and_true] at e0 e1 e2 e3 e4
   subst e0 e1 e2 e3 e4
   exact ⟨⟨s, a, b, c, d⟩, rfl, hsz⟩
theorem open_vars2 (fuel : Nat) (cs : List Value) (x : DataW H × List MemPlace) (h : DataW.trod enc Tryz.prog W 0 (fun _ => true) true fuel 22 cs = some x) :
  ∃ (l : List Vr) (A : Option Addr) (m : Nat), cs = [.slice A l.length m] ∧ VarsR W l A ∧ l.length ≤ maxLen ∧ ∀ v ∈ l, v.x.size ≤ maxLen := by
 rcases DataW.trod_slice Tryz.underlying22 h with ⟨e3, -⟩ | ⟨ad, len, cap, elems, rest, m, hm, e3, -, -, hlc, hcap, hel, hall, -, -⟩
 ·exact ⟨[], none, 0, e3, .inl rfl, Nat.zero_le _, by simp⟩
 ·have hraw : ∀ i, i < len → ∃ v : Vr, W.cell? ((ad.add (i * 5)).add 0) = some (.string v.x) ∧ W.cell? ((ad.add (i * 5)).add 1) = some (.int .i64 v.u) ∧ W.cell? ((ad.add (i * 5)).add 2) = some (.int .i64 v.lo) ∧ W.cell? ((ad.add (i * 5)).add 3) = some (.int .i64 v.hi) ∧ W.cell? ((ad.add (i * 5)).add 4) = some (.int .i64 v.i) ∧ v.x.size ≤ maxLen := by
   intro i hi
   have hb := hall i hi
   rw [List.getElem?_eq_getElem (by omega), cellsVr] at hb
   obtain ⟨cs', hc', ht'⟩ := Option.bind_eq_some_iff.1 hb
   obtain ⟨v, rfl, hsz⟩ := open_vr2 m cs' _ ht'
   obtain ⟨-, -, hcell⟩ := World.cells?_some hc'
   exact ⟨v, hcell 0 (by omega), hcell 1 (by omega), hcell 2 (by omega), hcell 3 (by omega), hcell 4 (by omega), hsz⟩
  by_cases h0 : len = 0
  ·subst h0
   exact ⟨[], some ad, cap, e3, .inl rfl, Nat.zero_le _, by simp⟩
  ·obtain ⟨_, hk0, -⟩ := hraw 0 (by omega)
   have hsp := spot_none5 hk0
   obtain ⟨g, o, sp⟩ := ad
   simp only at hsp
   subst hsp
   have hadd : ∀ p q : Nat, ((⟨g, o, none⟩ : Addr).add p).add q = ⟨g, o + p + q, none⟩ := fun p q => by rw [Go.WideShapes.add_plain, Go.WideShapes.add_plain]
   have hone : ∀ i, i < len → ∃ v, VrAt W g (o + i * 5) v ∧ v.x.size ≤ maxLen := by
    intro i hi
    obtain ⟨v, k0, k1, k2, k3, k4, k5⟩ := hraw i hi
    rw [hadd] at k0 k1 k2 k3 k4
    exact ⟨v, ⟨k0, k1, k2, k3, k4⟩, k5⟩
   have hch : ∃ f : Nat → Vr, ∀ i, i < len → VrAt W g (o + i * 5) (f i) ∧ (f i).x.size ≤ maxLen := by
    classical
    refine ⟨fun i => if hi : i < len then Classical.choose (hone i hi) else ⟨⟨#[]⟩, 0, 0, 0, 0⟩, fun i hi => ?_⟩
    simp only [dif_pos hi]
    exact Classical.choose_spec (hone i hi)
   obtain ⟨f, hfv⟩ := hch
   refine ⟨(List.range len).map f, some ⟨g, o, none⟩, cap, by simpa using e3, .inr ⟨g, o, rfl, fun i v hv => ?_⟩, by simp; omega, fun v hv => by obtain ⟨i, hi, rfl⟩ := List.mem_map.1 hv; exact (hfv i (List.mem_range.1 hi)).2⟩
   simp only [List.getElem?_map, Option.map_eq_some_iff] at hv
   obtain ⟨j, hj, rfl⟩ := hv
   obtain ⟨hlt, rfl⟩ : i < len ∧ i = j := by
    rw [List.getElem?_eq_some_iff] at hj
    obtain ⟨h1, h2⟩ := hj
    simp at h1 h2
    exact ⟨h1, h2⟩
   exact (hfv i hlt).1
theorem open_prog (fuel : Nat) (cs : List Value) (x : DataW H × List MemPlace) (h : DataW.trod enc Tryz.prog W 0 (fun _ => true) true fuel 26 cs = some x) :
  ∃ (s : ByteArray) (l : List Vr) (A : Option Addr) (m : Nat) (o : On) (a : OnA) (wi pa : Int), cs = (pgArr s A l.length m o a wi pa).toList ∧ VarsR W l A ∧ l.length ≤ maxLen ∧ OnR W o a ∧ (∀ l ∈ o.list, kbL l) ∧ s.size ≤ maxLen ∧ ∀ v ∈ l, v.x.size ≤ maxLen := by
 obtain ⟨xs, n, rfl, -, hl, hlen, hf⟩ := DataW.trod_struct Tryz.underlying26 h
 rw [cellsPg] at hl
 match cs, hl with
 | [c0, c1, c2, c3, c4, c5, c6, c7, c8], _ =>
  match xs, hlen with
  | [y0, y1, y2, y3, y4], _ =>
   have h0 := hf 0 _ rfl
   have h1 := hf 1 _ rfl
   have h2 := hf 2 _ rfl
   have h3 := hf 3 _ rfl
   have h4 := hf 4 _ rfl
   simp [cellsI, cellsS, cellsVars, cellsOn] at h0 h1 h2 h3 h4
   obtain ⟨s, e0, -, hsz⟩ := DataW.trod_string Tryz.underlying9 h0
   obtain ⟨l, A, m, e1, hV, hlv, hvx⟩ := open_vars2 _ _ _ h1
   obtain ⟨o, a, e2, hO, hkb⟩ := open_on _ _ _ h2
   obtain ⟨wi, e3, -, -⟩ := DataW.trod_int Tryz.underlying3 h3
   obtain ⟨pa, e4, -, -⟩ := DataW.trod_int Tryz.underlying3 h4
   simp only [List.cons.injEq, and_true] at e0 e1 e2 e3 e4
   obtain ⟨rfl, rfl, rfl, rfl, rfl⟩ := e2
   subst e0 e1 e3 e4
   exact ⟨s, l, A, m, o, a, wi, pa, rfl, hV, hlv, hO, hkb, hsz, hvx⟩
end
end Go.Proofs.YtljknappbnoikaaGreatDoor.U
