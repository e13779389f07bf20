/- Texts of one proof: UxR, UxN, UxP, UxT. -/
import Derived.Test.YtamfgjinfcknfaaGreatDoorZb
import Derived.ChangeArms
import Derived.DataReads
import Derived.ChangeSlices
import Derived.Test.YtamfgjinfcknfaaGreatDoorZi
import Derived.Deep.RegionHeld3
import Derived.Laws.StructEq
set_option linter.unusedVariables false
set_option linter.unusedSimpArgs false
set_option maxRecDepth 100000
set_option maxHeartbeats 8000000
namespace Go.Proofs.YtamfgjinfcknfaaGreatDoor.U
open Go.RowKit
theorem cellsEx : Tryz.prog.cellsOf 63 = 4 := by kernel_rfl
theorem cellsVr : Tryz.prog.cellsOf 45 = 5 := by kernel_rfl
theorem cellsI : Tryz.prog.cellsOf 3 = 1 := by kernel_rfl
theorem cellsS : Tryz.prog.cellsOf 9 = 1 := by kernel_rfl
theorem cellsKids : Tryz.prog.cellsOf 61 = 1 := by kernel_rfl
theorem kids_of {w : World} {g o len : Nat} (h : ∀ i, i < len → ∃ t, OneE w t g (o + i * 4)) : ∀ k, k ≤ len → ∃ ts : List Ex, ts.length = k ∧ KidsE w ts (some ⟨g, o + (len - k) * 4, none⟩)
 | 0, _ => ⟨[], rfl, by unfold KidsE; trivial⟩
 | k + 1, hk => by
  obtain ⟨ts, hl, hK⟩ := kids_of h k (by omega)
  obtain ⟨t, ht⟩ := h (len - (k + 1)) (by omega)
  refine ⟨t :: ts, by simp [hl], ?_⟩
  unfold KidsE
  refine ⟨g, o + (len - (k + 1)) * 4, rfl, ht, ?_⟩
  rw [show o + (len - (k + 1)) * 4 + 4 = o + (len - k) * 4 by omega]
  exact hK
theorem spot_none {w : World} {a : Addr} {v : Value} (h : w.cell? ((a.add (0 * 4)).add 0) = some v) : a.spot = none := by
 have := World.cell?_spot h
 simpa [Addr.add] using this
theorem spot_none5 {w : World} {a : Addr} {v : Value} (h : w.cell? ((a.add (0 * 5)).add 0) = some v) : a.spot = none := by
 have := World.cell?_spot h
 simpa [Addr.add] using this
section
variable {H : Type} {enc : TypeId × Value → H} {W : World}
theorem open_ex : ∀ (fuel : Nat) (cs : List Value) (x : DataW H × List MemPlace), DataW.trod enc Tryz.prog W 0 (fun _ => true) true fuel 63 cs = some x →
  ∃ (t : Ex) (A : Option Addr) (c : Nat), cs = [.int .i64 t.op, .int .i64 t.n, .int .i64 t.unit, .slice A t.kids.length (t.kids.length + c)] ∧ KidsE W t.kids A ∧ t.kids.length ≤ maxLen := by
 intro fuel
 induction fuel using Nat.strongRecOn with
 | ind fuel ih =>
  intro cs x h
  obtain ⟨xs, n, rfl, -, hl, hlen, hf⟩ := DataW.trod_struct Tryz.underlying63 h
  rw [cellsEx] at hl
  match cs, hl with
  | [c0, c1, c2, c3], _ =>
   match xs, hlen with
   | [y0, y1, y2, y3], _ =>
    have h0 := hf 0 _ rfl
    have h1 := hf 1 _ rfl
    have h2 := hf 2 _ rfl
    have h3 := hf 3 _ rfl
    simp [cellsI, cellsKids] at h0 h1 h2 h3
    obtain ⟨a, e0, -, -⟩ := DataW.trod_int Tryz.underlying3 h0
    obtain ⟨b, e1, -, -⟩ := DataW.trod_int Tryz.underlying3 h1
    obtain ⟨u, e2, -, -⟩ := DataW.trod_int Tryz.underlying3 h2
    simp only [List.cons.injEq, and_true] at e0 e1 e2
    subst e0 e1 e2
    rcases DataW.trod_slice Tryz.underlying61 h3 with ⟨e3, -⟩ | ⟨ad, len, cap, elems, rest, m, hm, e3, -, -, hlc, hcap, hel, hall, -, -⟩
    ·simp only [List.cons.injEq, and_true] at e3
     subst e3
     exact ⟨.mk a b u [], none, 0, rfl, by unfold Ex.kids KidsE; trivial, Nat.zero_le _⟩
    ·simp only [List.cons.injEq, and_true] at e3
     subst e3
     have hraw : ∀ i, i < len → ∃ (t : Ex) (A : Option Addr) (c : Nat), W.cell? ((ad.add (i * 4)).add 0) = some (.int .i64 t.op) ∧ W.cell? ((ad.add (i * 4)).add 1) = some (.int .i64 t.n) ∧ W.cell? ((ad.add (i * 4)).add 2) = some (.int .i64 t.unit) ∧
       W.cell? ((ad.add (i * 4)).add 3) = some (.slice A t.kids.length (t.kids.length + c)) ∧ t.kids.length ≤ maxLen ∧ KidsE W t.kids A := by
      intro i hi
      have hb := hall i hi
      rw [List.getElem?_eq_getElem (by omega), cellsEx] at hb
      obtain ⟨cs', hc', ht'⟩ := Option.bind_eq_some_iff.1 hb
      obtain ⟨t, A, c, rfl, hK, hkl⟩ := ih m (by omega) cs' _ ht'
      obtain ⟨-, -, hcell⟩ := World.cells?_some hc'
      exact ⟨t, A, c, hcell 0 (by omega), hcell 1 (by omega), hcell 2 (by omega), hcell 3 (by omega), hkl, hK⟩
     obtain ⟨ts, hts, hK⟩ : ∃ ts : List Ex, ts.length = len ∧ KidsE W ts (some ad) := by
      by_cases h0 : len = 0
      ·subst h0
       exact ⟨[], rfl, by unfold KidsE; trivial⟩
      ·obtain ⟨_, _, _, hk0, -⟩ := hraw 0 (by omega)
       have hsp := spot_none hk0
       obtain ⟨g, o, sp⟩ := ad
       simp only at hsp
       subst hsp
       have hadd : ∀ p q : Nat, ((⟨g, o, none⟩ : Addr).add p).add q = ⟨g, o + p + q, none⟩ := fun p q => by rw [Go.WideShapes.add_plain, Go.WideShapes.add_plain]
       have hone : ∀ i, i < len → ∃ t, OneE W t g (o + i * 4) := by
        intro i hi
        obtain ⟨t, A, c, k0, k1, k2, k3, hkl, hK⟩ := hraw i hi
        rw [hadd] at k0 k1 k2 k3
        exact ⟨t, OneE.mk' (A := A) (c := c) k0 k1 k2 k3 hkl hK⟩
       obtain ⟨ts, hts, hK⟩ := kids_of hone len (Nat.le_refl _)
       exact ⟨ts, hts, by simpa using hK⟩
     refine ⟨.mk a b u ts, some ad, cap - len, ?_, hK, by show ts.length ≤ maxLen; omega⟩
     show _ = [Value.int .i64 a, .int .i64 b, .int .i64 u, .slice (some ad) ts.length (ts.length + (cap - len))]
     rw [hts, Nat.add_sub_cancel' hlc]
end
end Go.Proofs.YtamfgjinfcknfaaGreatDoor.U
namespace Go.Proofs.YtamfgjinfcknfaaGreatDoor.U
open Go.RowKit
theorem bAlloc {w X : World} {o : Obj} (h : Below w.heap.size w X) : Below w.heap.size w (X.alloc o) := h.alloc h.size o
theorem bDrew {w X : World} (h : Below w.heap.size w X) : Below w.heap.size w X.drew := h.drew
theorem bCall {w X w1 : World} (h : Below w.heap.size w X) (hb : Below X.heap.size X w1) : Below w.heap.size w w1 := h.trans (hb.mono h.size)
end Go.Proofs.YtamfgjinfcknfaaGreatDoor.U
namespace Go.Proofs.YtamfgjinfcknfaaGreatDoor.U
open Go.RowKit
theorem rsK_drop (ts : List Ex) (k : Nat) (hk : k < ts.length) (b n : Int) (h : n ≤ b) : rsK (ts.drop k) b n = rsK (ts.drop (k + 1)) b (n + rsE ts[k] (b - n)) := by
 rw [List.drop_eq_getElem_cons hk, rsK, if_pos h]
theorem rsK_stop (ts : List Ex) (k : Nat) (b n : Int) (h : b < n) : rsK (ts.drop k) b n = n := by
 cases hd : ts.drop k with
 | nil => rfl
 | cons t us => rw [rsK, if_neg (by omega)]
theorem rsE_range (t : Ex) (b : Int) (h : 0 ≤ b) : 1 ≤ rsE t b ∧ rsE t b ≤ b + 1 := by
 have := rsE_min t b h
 have := t.size_pos
 omega
theorem Size_step (t : Ex) (ih : ∀ u ∈ t.kids, ∀ (w : World) (b : Int) (A : Option Addr) (c : Nat), 0 ≤ b → b ≤ 10000 → KidsE w u.kids A → Calls Tryz.prog 30 #[ev u A c, .int .i64 b] w (VV (.int .i64 (rsE u b)) w))
  (w : World) (b : Int) (A : Option Addr) (c : Nat) (h0 : 0 ≤ b) (h1 : b ≤ 10000) (hK : KidsE w t.kids A) :
  Calls Tryz.prog 30 #[ev t A c, .int .i64 b] w (VV (.int .i64 (rsE t b)) w) := by
 obtain ⟨r, hr⟩ : ∃ r, rsE t b = r := ⟨_, rfl⟩
 rw [hr]
 have hr' : rsK t.kids b 1 = r := by rw [← hr]; cases t; rfl
 have hR := Lib.hid hr'
 have IH := Lib.hid ih
 have hKH := Lib.hid hK
 clear hr hr' ih hK
 go_enter Tryz.func30, Tryz.ntmps30
 go_wp2
 go_loopg [5, 6] (t.kids.length) (fun gk m i wr => ∃ (k : Nat) (mv : Int), k + gk = t.kids.length ∧ i = .int .i64 k ∧ m = .int .i64 mv ∧ (k : Int) + 1 ≤ mv ∧ mv ≤ b + 1 ∧ Hid (rsK (t.kids.drop k) b mv = r) ∧ Hid (wr.heap[w.heap.size]? = some (.cells (eArr t A c) 63 (0, 0))) ∧ Hid (Below w.heap.size w wr))
 case atStart => exact ⟨0, 1, by omega, rfl, rfl, by omega, by omega, hR.out, newBlk _ _ _ rfl, (Below.refl _ _).alloc (Nat.le_refl _) _⟩
 case round =>
  obtain ⟨k, mv, hk, rfl, rfl, hm1, hm2, hS, hB, hW⟩ := hrel
  obtain ⟨⟨b0, b1, b2, b3⟩, -⟩ := cells4 hB.out
  have hxb := blkLt hB.out
  clear b0 b1 b2
  by_cases hneg : mv ≤ b
  ·by_cases hlt : k < t.kids.length
   ·obtain ⟨g, rfl⟩ : ∃ g, gk = g + 1 := ⟨gk - 1, by omega⟩
    have hS1 := hS.out
    rw [rsK_drop _ _ hlt _ _ hneg] at hS1
    have hS1 := Lib.hid hS1
    have hKw : KidsE wr t.kids A := hKH.out.below hW.out
    obtain ⟨ga, oa, rfl⟩ := hKw.addr (by omega)
    obtain ⟨A1, c1, ⟨e0, e1, e2, e3⟩, -, hK1⟩ := (hKw.get _ _ _ k _ (List.getElem?_eq_getElem hlt)).cells
    have hmem : t.kids[k] ∈ t.kids := List.getElem_mem hlt
    have hI := Lib.hid (IH.out _ hmem wr (b - mv) A1 c1 (by omega) (by omega) hK1)
    have hsp := rsE_range t.kids[k] (b - mv) (by omega)
    clear hS hK1 hKw hmem
    generalize t.kids[k] = u at *
    have q0 : IntKind.i64.wrap (b - mv) = b - mv := IntWalk.i64_in _ (by omega)
    generalize hv : rsE u (b - mv) = rv at *
    have q1 : IntKind.i64.wrap (mv + rv) = mv + rv := IntWalk.i64_in _ (by omega)
    have hlt2 : k < t.kids.length := hlt
    go_wp2_with fail
    refine hI.out.mono ?_
    rintro e w2 ⟨rfl, hb2⟩
    have hB2 := Lib.hid ((hb2.block _ hxb).trans hB.out)
    have hW2 := Lib.hid (hW.out.trans (hb2.mono hW.out.size))
    clear hb2 e0 e1 e2 e3
    go_wp2
    clear q0 q1
    go_roundg g
    case measure => omega
    case rel => exact ⟨k + 1, mv + rv, by omega, by go_num, rfl, by omega, by omega, hS1, hB2, hW2⟩
   ·have hF : Hid (mv = r) := by have := hS.out; rw [List.drop_eq_nil_of_le (by omega)] at this; exact this
    clear hS
    go_wp2
    go_ret
    exact ⟨ret_i hF.out, hW.out⟩
  ·have hF : Hid (mv = r) := by have := hS.out; rw [rsK_stop _ _ _ _ (by omega)] at this; exact this
   have hng : decide (mv ≤ b) = false := by simp; omega
   clear hS
   by_cases hlt : k < t.kids.length
   all_goals
    go_wp2
    go_ret
    exact ⟨ret_i hF.out, hW.out⟩
mutual
theorem Size_any : ∀ (t : Ex) (w : World) (b : Int) (A : Option Addr) (c : Nat), 0 ≤ b → b ≤ 10000 → KidsE w t.kids A → Calls Tryz.prog 30 #[ev t A c, .int .i64 b] w (VV (.int .i64 (rsE t b)) w)
 | .mk k x m kids => fun w n A c h0 h1 hK => Size_step (.mk k x m kids) (Size_all kids) w n A c h0 h1 hK
theorem Size_all : ∀ (ts : List Ex), ∀ u ∈ ts, ∀ (w : World) (b : Int) (A : Option Addr) (c : Nat), 0 ≤ b → b ≤ 10000 → KidsE w u.kids A → Calls Tryz.prog 30 #[ev u A c, .int .i64 b] w (VV (.int .i64 (rsE u b)) w)
 | [], u, hu => by cases hu
 | t :: ts, u, hu => by
  rcases List.mem_cons.1 hu with h | h
  ·rw [h]; exact Size_any t
  ·exact Size_all ts u h
end
end Go.Proofs.YtamfgjinfcknfaaGreatDoor.U
namespace Go.Proofs.YtamfgjinfcknfaaGreatDoor.U
open Go.RowKit
theorem run_u_eq (p q : Pw) (w : World) : (Op.equalIn 10000 109 (.agg #[.int .i64 p.a, .int .i64 p.b, .int .i64 p.c]) (.agg #[.int .i64 q.a, .int .i64 q.b, .int .i64 q.c])).run Tryz.prog w = .ok (decide (p = q)) w := by
 have hk : Tryz.prog.plainKey 3 = true := by kernel_rfl
 have he : ∀ x y : Int, (Op.equalIn 9999 3 (.int .i64 x) (.int .i64 y)).run Tryz.prog w = .ok (x == y) w := fun x y => run_equalIn_int w 9998 3 .i64 .i64 x y Tryz.underlying3
 have hp : ∀ x y z : Value, (part 3 #[x, y, z] 0).run Tryz.prog w = .ok x w ∧ (part 3 #[x, y, z] 1).run Tryz.prog w = .ok y w ∧ (part 3 #[x, y, z] 2).run Tryz.prog w = .ok z w :=
  fun x y z => ⟨run_part_plain w hk rfl, run_part_plain w hk rfl, run_part_plain w hk rfl⟩
 rw [show (10000 : Nat) = 9999 + 1 from rfl, run_equalIn_struct w 9999 _ _ _ (by kernel_rfl) (by kernel_rfl)]
 simp only [Program.fieldsOf, Tryz.underlying109]
 obtain ⟨a, b, c⟩ := p
 obtain ⟨a', b', c'⟩ := q
 have h0 := (hp (.int .i64 a) (.int .i64 b) (.int .i64 c))
 have h1 := (hp (.int .i64 a') (.int .i64 b') (.int .i64 c'))
 by_cases ea : a = a'
 ·subst ea
  by_cases eb : b = b'
  ·subst eb
   by_cases ec : c = c'
   ·subst ec
    simp [Op.eqFields, Sem.run_bind, h0, h1, he]
   ·simp [Op.eqFields, Sem.run_bind, h0, h1, he, ec]
  ·simp [Op.eqFields, Sem.run_bind, h0, h1, he, eb]
 ·simp [Op.eqFields, Sem.run_bind, h0, h1, he, ea]
end Go.Proofs.YtamfgjinfcknfaaGreatDoor.U
