/- Texts of one proof: VxO, VxD, VxA. -/
import Derived.Test.YtamfgjinfcknfaaGreatDoorZr
import Derived.Test.YtamfgjinfcknfaaGreatDoorZf
import Derived.OpenShut
import Derived.Test.YtamfgjinfcknfaaGreatDoorZp
import Derived.Test.YtamfgjinfcknfaaGreatDoorZa
import Derived.Test.YtamfgjinfcknfaaGreatDoorYh
set_option linter.unusedVariables false
set_option linter.unusedSimpArgs false
set_option maxRecDepth 100000
set_option maxHeartbeats 8000000
namespace Go.Proofs.YtamfgjinfcknfaaGreatDoor.U
open Go.RowKit
theorem cellsSt : Tryz.prog.cellsOf 65 = 13 := by kernel_rfl
theorem cellsSts : Tryz.prog.cellsOf 23 = 1 := by kernel_rfl
theorem cellsOn : Tryz.prog.cellsOf 24 = 5 := by kernel_rfl
theorem cellsVars : Tryz.prog.cellsOf 22 = 1 := by kernel_rfl
theorem cellsPg : Tryz.prog.cellsOf 26 = 9 := by kernel_rfl
mutual
def kbS : St → Prop
 | .mk _ _ _ a b th el => a.kids.length ≤ maxLen ∧ b.kids.length ≤ maxLen ∧ kbL th ∧ kbL el
def kbL : List St → Prop
 | [] => True
 | x :: xs => kbS x ∧ kbL xs
end
theorem kbS_mk {x : St} (h : kbS x) : x.a.kids.length ≤ maxLen ∧ x.b.kids.length ≤ maxLen ∧ kbL x.th ∧ kbL x.el := by
 cases x; unfold kbS at h; exact h
theorem kbL_mem : ∀ {l : List St}, kbL l → ∀ x ∈ l, kbS x
 | [], _, x, hx => by cases hx
 | y :: ys, h, x, hx => by
  unfold kbL at h
  rcases List.mem_cons.1 hx with e | e
  ·rw [e]; exact h.1
  ·exact kbL_mem h.2 x e
theorem sts_of {w : World} {g o len : Nat} (h : ∀ i, i < len → ∃ t, StR w t g (o + i * 13) ∧ kbS t) : ∀ k, k ≤ len → ∃ ts : List St, ts.length = k ∧ StsR w ts (some ⟨g, o + (len - k) * 13, none⟩) ∧ kbL ts
 | 0, _ => ⟨[], rfl, by unfold StsR; trivial, by unfold kbL; trivial⟩
 | k + 1, hk => by
  obtain ⟨ts, hl, hK, hb⟩ := sts_of h k (by omega)
  obtain ⟨t, ht, hb1⟩ := h (len - (k + 1)) (by omega)
  refine ⟨t :: ts, by simp [hl], ?_, by unfold kbL; exact ⟨hb1, hb⟩⟩
  unfold StsR
  refine ⟨g, o + (len - (k + 1)) * 13, rfl, ht, ?_⟩
  rw [show o + (len - (k + 1)) * 13 + 13 = o + (len - k) * 13 by omega]
  exact hK
theorem spot_none13 {w : World} {a : Addr} {v : Value} (h : w.cell? ((a.add (0 * 13)).add 0) = some v) : a.spot = none := by
 have := World.cell?_spot h
 simpa [Addr.add] using this
def StX (W : World) (cs : List Value) : Prop :=
 ∃ (t : St) (A : Option Addr) (c : Nat) (B : Option Addr) (d : Nat) (T : Option Addr) (m : Nat) (E : Option Addr) (n : Nat), cs = (sArr t A c B d T m E n).toList ∧
  KidsE W t.a.kids A ∧ KidsE W t.b.kids B ∧ StsR W t.th T ∧ StsR W t.el E ∧ t.th.length ≤ maxLen ∧ t.el.length ≤ maxLen ∧ kbS t
section
variable {H : Type} {enc : TypeId × Value → H} {W : World}
theorem open_sts (n : Nat) (ih : ∀ m, m < n → ∀ (cs : List Value) (x : DataW H × List MemPlace), DataW.trod enc Tryz.prog W 0 (fun _ => true) true m 65 cs = some x → StX W cs)
  (cs : List Value) (x : DataW H × List MemPlace) (h : DataW.trod enc Tryz.prog W 0 (fun _ => true) true n 23 cs = some x) :
  ∃ (l : List St) (A : Option Addr) (m : Nat), cs = [.slice A l.length m] ∧ StsR W l A ∧ l.length ≤ maxLen ∧ kbL l := by
 rcases DataW.trod_slice Tryz.underlying23 h with ⟨e3, -⟩ | ⟨ad, len, cap, elems, rest, m, hm, e3, -, -, hlc, hcap, hel, hall, -, -⟩
 ·exact ⟨[], none, 0, e3, by unfold StsR; trivial, Nat.zero_le _, by unfold kbL; trivial⟩
 ·have hraw : ∀ i, i < len → ∃ cs', W.cells? 0 (ad.add (i * 13)) 13 = some cs' ∧ StX W cs' := by
   intro i hi
   have hb := hall i hi
   rw [List.getElem?_eq_getElem (by omega), cellsSt] at hb
   obtain ⟨cs', hc', ht'⟩ := Option.bind_eq_some_iff.1 hb
   exact ⟨cs', hc', ih m (by omega) cs' _ ht'⟩
  by_cases h0 : len = 0
  ·subst h0
   exact ⟨[], some ad, cap, e3, by unfold StsR; trivial, Nat.zero_le _, by unfold kbL; trivial⟩
  ·obtain ⟨cs0, hc0, t0, _, _, _, _, _, _, _, _, rfl, -⟩ := hraw 0 (by omega)
   obtain ⟨-, -, hcell0⟩ := World.cells?_some hc0
   have hsp := spot_none13 (hcell0 0 (by omega))
   obtain ⟨g, o, sp⟩ := ad
   simp only at hsp
   subst hsp
   have hadd : ∀ p q : Nat, ((⟨g, o, none⟩ : Addr).add p).add q = ⟨g, o + p + q, none⟩ := fun p q => by rw [Go.WideShapes.add_plain, Go.WideShapes.add_plain]
   have hone : ∀ i, i < len → ∃ t, StR W t g (o + i * 13) ∧ kbS t := by
    intro i hi
    obtain ⟨cs', hc', t, A, c, B, d, T, m, E, n, rfl, k1, k2, k3, k4, k5, k6, k7⟩ := hraw i hi
    obtain ⟨-, -, hcell⟩ := World.cells?_some hc'
    have hc : ∀ j, j < 13 → W.cell? ⟨g, o + i * 13 + j, none⟩ = (sArr t A c B d T m E n).toList[j]? := fun j hj => by
     have := hcell j hj
     rw [hadd] at this
     rw [this]
    refine ⟨t, ?_, k7⟩
    obtain ⟨tk, tv, tr, ta, tb, tt, te⟩ := t
    unfold StR
    refine ⟨A, c, B, d, T, m, E, n, ⟨hc 0 (by decide), hc 1 (by decide), hc 2 (by decide), hc 3 (by decide), hc 4 (by decide), hc 5 (by decide), hc 6 (by decide), hc 7 (by decide), hc 8 (by decide), hc 9 (by decide), hc 10 (by decide), hc 11 (by decide), hc 12 (by decide)⟩, k1, k2, k3, k4, k5, k6⟩
   obtain ⟨ts, hts, hK, hkb⟩ := sts_of hone len (Nat.le_refl _)
   exact ⟨ts, some ⟨g, o, none⟩, cap, by rw [hts]; exact e3, by simpa using hK, by omega, hkb⟩
theorem open_st : ∀ (fuel : Nat) (cs : List Value) (x : DataW H × List MemPlace), DataW.trod enc Tryz.prog W 0 (fun _ => true) true fuel 65 cs = some x → StX W cs := by
 intro fuel
 induction fuel using Nat.strongRecOn with
 | ind fuel ih =>
  intro cs x h
  obtain ⟨xs, n, rfl, -, hl, hlen, hf⟩ := DataW.trod_struct Tryz.underlying65 h
  rw [cellsSt] at hl
  match cs, hl with
  | [c0, c1, c2, c3, c4, c5, c6, c7, c8, c9, c10, c11, c12], _ =>
   match xs, hlen with
   | [y0, y1, y2, y3, y4, y5, y6], _ =>
    have h0 := hf 0 _ rfl
    have h1 := hf 1 _ rfl
    have h2 := hf 2 _ rfl
    have h3 := hf 3 _ rfl
    have h4 := hf 4 _ rfl
    have h5 := hf 5 _ rfl
    have h6 := hf 6 _ rfl
    simp [cellsI, cellsEx, cellsSts] at h0 h1 h2 h3 h4 h5 h6
    obtain ⟨i0, e0, -, -⟩ := DataW.trod_int Tryz.underlying3 h0
    obtain ⟨i1, e1, -, -⟩ := DataW.trod_int Tryz.underlying3 h1
    obtain ⟨i2, e2, -, -⟩ := DataW.trod_int Tryz.underlying3 h2
    obtain ⟨a, A, c, ea, hKa, hla⟩ := open_ex _ _ _ h3
    obtain ⟨b, B, d, eb, hKb, hlb⟩ := open_ex _ _ _ h4
    obtain ⟨th, T, m, et, hT, hlT, hbT⟩ := open_sts n (fun m hm => ih m (by omega)) _ _ h5
    obtain ⟨el, E, k, ee, hE, hlE, hbE⟩ := open_sts n (fun m hm => ih m (by omega)) _ _ h6
    simp only [List.cons.injEq, and_true] at e0 e1 e2 ea eb et ee
    obtain ⟨rfl, rfl, rfl, rfl⟩ := ea
    obtain ⟨rfl, rfl, rfl, rfl⟩ := eb
    subst e0 e1 e2 et ee
    exact ⟨.mk i0 i1 i2 a b th el, A, c, B, d, T, m, E, k, rfl, hKa, hKb, hT, hE, hlT, hlE, by unfold kbS; exact ⟨hla, hlb, hbT, hbE⟩⟩
theorem open_stsF (n : Nat) (cs : List Value) (x : DataW H × List MemPlace) (h : DataW.trod enc Tryz.prog W 0 (fun _ => true) true n 23 cs = some x) :
  ∃ (l : List St) (A : Option Addr) (m : Nat), cs = [.slice A l.length m] ∧ StsR W l A ∧ l.length ≤ maxLen ∧ kbL l := open_sts n (fun m _ => open_st m) cs x h
theorem open_on (n : Nat) (cs : List Value) (x : DataW H × List MemPlace) (h : DataW.trod enc Tryz.prog W 0 (fun _ => true) true n 24 cs = some x) :
  ∃ (o : On) (a : OnA), cs = [.slice a.a0 o.l0.length a.m0, .slice a.a1 o.l1.length a.m1, .slice a.a2 o.l2.length a.m2, .slice a.a3 o.l3.length a.m3, .slice a.a4 o.l4.length a.m4] ∧ OnR W o a ∧ ∀ l ∈ o.list, kbL l := by
 obtain ⟨xs, m, rfl, -, hl, hlen, hf⟩ := DataW.trod_array Tryz.underlying24 h
 rw [cellsOn] at hl
 simp only [cellsSts] at hf
 match cs, hl with
 | [c0, c1, c2, c3, c4], _ =>
  match xs, hlen with
  | [y0, y1, y2, y3, y4], _ =>
   obtain ⟨l0, A0, m0, e0, k0, n0, b0⟩ := open_stsF m _ _ (by simpa using hf 0 (by decide))
   obtain ⟨l1, A1, m1, e1, k1, n1, b1⟩ := open_stsF m _ _ (by simpa using hf 1 (by decide))
   obtain ⟨l2, A2, m2, e2, k2, n2, b2⟩ := open_stsF m _ _ (by simpa using hf 2 (by decide))
   obtain ⟨l3, A3, m3, e3, k3, n3, b3⟩ := open_stsF m _ _ (by simpa using hf 3 (by decide))
   obtain ⟨l4, A4, m4, e4, k4, n4, b4⟩ := open_stsF m _ _ (by simpa using hf 4 (by decide))
   simp only [List.cons.injEq, and_true] at e0 e1 e2 e3 e4
   subst e0 e1 e2 e3 e4
   exact ⟨⟨l0, l1, l2, l3, l4⟩, ⟨A0, A1, A2, A3, A4, m0, m1, m2, m3, m4⟩, rfl, ⟨k0, k1, k2, k3, k4, n0, n1, n2, n3, n4⟩, by intro l hl; simp only [On.list, List.mem_cons, List.not_mem_nil, or_false] at hl; rcases hl with rfl | rfl | rfl | rfl | rfl <;> assumption⟩
theorem open_vr2 (fuel : Nat) (cs : List Value) (x : DataW H × List MemPlace) (h : DataW.trod enc Tryz.prog W 0 (fun _ => true) true fuel 45 cs = some x) :
  ∃ v : Vr, cs = [.string v.x, .int .i64 v.u, .int .i64 v.lo, .int .i64 v.hi, .int .i64 v.i] ∧ v.x.size ≤ maxLen := by
 obtain ⟨xs, n, rfl, -, hl, hlen, hf⟩ := DataW.trod_struct Tryz.underlying45 h
 rw [cellsVr] at hl
 match cs, hl with
 | [c0, c1, c2, c3, c4], _ =>
  match xs, hlen with
  | [y0, y1, y2, y3, y4], _ =>
   have h0 := hf 0 _ rfl
   have h1 := hf 1 _ rfl
   have h2 := hf 2 _ rfl
   have h3 := hf 3 _ rfl
   have h4 := hf 4 _ rfl
   simp [cellsI, cellsS] at h0 h1 h2 h3 h4
   obtain ⟨s, e0, -, hsz⟩ := DataW.trod_string Tryz.underlying9 h0
   obtain ⟨a, e1, -, -⟩ := DataW.trod_int Tryz.underlying3 h1
   obtain ⟨b, e2, -, -⟩ := DataW.trod_int Tryz.underlying3 h2
   obtain ⟨c, e3, -, -⟩ := DataW.trod_int Tryz.underlying3 h3
   obtain ⟨d, e4, -, -⟩ := DataW.trod_int Tryz.underlying3 h4
   simp only [List.cons.injEq, and_true] at e0 e1 e2 e3 e4
   subst e0 e1 e2 e3 e4
   exact ⟨⟨s, a, b, c, d⟩, rfl, hsz⟩
theorem open_vars2 (fuel : Nat) (cs : List Value) (x : DataW H × List MemPlace) (h : DataW.trod enc Tryz.prog W 0 (fun _ => true) true fuel 22 cs = some x) :
  ∃ (l : List Vr) (A : Option Addr) (m : Nat), cs = [.slice A l.length m] ∧ VarsR W l A ∧ l.length ≤ maxLen ∧ ∀ v ∈ l, v.x.size ≤ maxLen := by
 rcases DataW.trod_slice Tryz.underlying22 h with ⟨e3, -⟩ | ⟨ad, len, cap, elems, rest, m, hm, e3, -, -, hlc, hcap, hel, hall, -, -⟩
 ·exact ⟨[], none, 0, e3, .inl rfl, Nat.zero_le _, by simp⟩
 ·have hraw : ∀ i, i < len → ∃ v : Vr, W.cell? ((ad.add (i * 5)).add 0) = some (.string v.x) ∧ W.cell? ((ad.add (i * 5)).add 1) = some (.int .i64 v.u) ∧ W.cell? ((ad.add (i * 5)).add 2) = some (.int .i64 v.lo) ∧ W.cell? ((ad.add (i * 5)).add 3) = some (.int .i64 v.hi) ∧ W.cell? ((ad.add (i * 5)).add 4) = some (.int .i64 v.i) ∧ v.x.size ≤ maxLen := by
   intro i hi
   have hb := hall i hi
   rw [List.getElem?_eq_getElem (by omega), cellsVr] at hb
   obtain ⟨cs', hc', ht'⟩ := Option.bind_eq_some_iff.1 hb
   obtain ⟨v, rfl, hsz⟩ := open_vr2 m cs' _ ht'
   obtain ⟨-, -, hcell⟩ := World.cells?_some hc'
   exact ⟨v, hcell 0 (by omega), hcell 1 (by omega), hcell 2 (by omega), hcell 3 (by omega), hcell 4 (by omega), hsz⟩
  by_cases h0 : len = 0
  ·subst h0
   exact ⟨[], some ad, cap, e3, .inl rfl, Nat.zero_le _, by simp⟩
  ·obtain ⟨_, hk0, -⟩ := hraw 0 (by omega)
   have hsp := spot_none5 hk0
   obtain ⟨g, o, sp⟩ := ad
   simp only at hsp
   subst hsp
   have hadd : ∀ p q : Nat, ((⟨g, o, none⟩ : Addr).add p).add q = ⟨g, o + p + q, none⟩ := fun p q => by rw [Go.WideShapes.add_plain, Go.WideShapes.add_plain]
   have hone : ∀ i, i < len → ∃ v, VrAt W g (o + i * 5) v ∧ v.x.size ≤ maxLen := by
    intro i hi
    obtain ⟨v, k0, k1, k2, k3, k4, k5⟩ := hraw i hi
    rw [hadd] at k0 k1 k2 k3 k4
    exact ⟨v, ⟨k0, k1, k2, k3, k4⟩, k5⟩
   have hch : ∃ f : Nat → Vr, ∀ i, i < len → VrAt W g (o + i * 5) (f i) ∧ (f i).x.size ≤ maxLen := by
    classical
    refine ⟨fun i => if hi : i < len then Classical.choose (hone i hi) else ⟨⟨#[]⟩, 0, 0, 0, 0⟩, fun i hi => ?_⟩
    simp only [dif_pos hi]
    exact Classical.choose_spec (hone i hi)
   obtain ⟨f, hfv⟩ := hch
   refine ⟨(List.range len).map f, some ⟨g, o, none⟩, cap, by simpa using e3, .inr ⟨g, o, rfl, fun i v hv => ?_⟩, by simp; omega, fun v hv => by obtain ⟨i, hi, rfl⟩ := List.mem_map.1 hv; exact (hfv i (List.mem_range.1 hi)).2⟩
   simp only [List.getElem?_map, Option.map_eq_some_iff] at hv
   obtain ⟨j, hj, rfl⟩ := hv
   obtain ⟨hlt, rfl⟩ : i < len ∧ i = j := by
    rw [List.getElem?_eq_some_iff] at hj
    obtain ⟨h1, h2⟩ := hj
    simp at h1 h2
    exact ⟨h1, h2⟩
   exact (hfv i hlt).1
theorem open_prog (fuel : Nat) (cs : List Value) (x : DataW H × List MemPlace) (h : DataW.trod enc Tryz.prog W 0 (fun _ => true) true fuel 26 cs = some x) :
  ∃ (s : ByteArray) (l : List Vr) (A : Option Addr) (m : Nat) (o : On) (a : OnA) (wi pa : Int), cs = (pgArr s A l.length m o a wi pa).toList ∧ VarsR W l A ∧ l.length ≤ maxLen ∧ OnR W o a ∧ (∀ l ∈ o.list, kbL l) ∧ s.size ≤ maxLen ∧ ∀ v ∈ l, v.x.size ≤ maxLen := by
 obtain ⟨xs, n, rfl, -, hl, hlen, hf⟩ := DataW.trod_struct Tryz.underlying26 h
 rw [cellsPg] at hl
 match cs, hl with
 | [c0, c1, c2, c3, c4, c5, c6, c7, c8], _ =>
  match xs, hlen with
  | [y0, y1, y2, y3, y4], _ =>
   have h0 := hf 0 _ rfl
   have h1 := hf 1 _ rfl
   have h2 := hf 2 _ rfl
   have h3 := hf 3 _ rfl
   have h4 := hf 4 _ rfl
   simp [cellsI, cellsS, cellsVars, cellsOn] at h0 h1 h2 h3 h4
   obtain ⟨s, e0, -, hsz⟩ := DataW.trod_string Tryz.underlying9 h0
   obtain ⟨l, A, m, e1, hV, hlv, hvx⟩ := open_vars2 _ _ _ h1
   obtain ⟨o, a, e2, hO, hkb⟩ := open_on _ _ _ h2
   obtain ⟨wi, e3, -, -⟩ := DataW.trod_int Tryz.underlying3 h3
   obtain ⟨pa, e4, -, -⟩ := DataW.trod_int Tryz.underlying3 h4
   simp only [List.cons.injEq, and_true] at e0 e1 e2 e3 e4
   obtain ⟨rfl, rfl, rfl, rfl, rfl⟩ := e2
   subst e0 e1 e3 e4
   exact ⟨s, l, A, m, o, a, wi, pa, rfl, hV, hlv, hO, hkb, hsz, hvx⟩
end
end Go.Proofs.YtamfgjinfcknfaaGreatDoor.U
namespace Go.Proofs.YtamfgjinfcknfaaGreatDoor
open Go.RowKit
namespace C
open U (Ex St StsR StR StAt ev eArr KidsE newBlk blkLt rsE rsE_range Size_any kbS kbL kbS_mk kbL_mem)
theorem ret_bz {a b : Bool} (h : a = b) : Ending.returned (.bool a) = .returned (.bool b) := by rw [h]
def SomeI (lo hi : Int) (w : World) (e : Ending) (w' : World) : Prop := (∃ n, e = .returned (.int .i64 n) ∧ lo ≤ n ∧ n ≤ hi) ∧ Below w.heap.size w w'
mutual
def flE : Ex → Int → Bool
 | .mk _ _ _ ks, d => !decide (d = 0) && flK ks (d - 1)
def flK : List Ex → Int → Bool
 | [], _ => true
 | t :: ts, d => flE t d && flK ts d
end
theorem flE_eq (t : Ex) (d : Int) : flE t d = (!decide (d = 0) && flK t.kids (d - 1)) := by cases t; rw [flE]; rfl
def FlatC (t : Ex) : Prop := ∀ (w : World) (d : Int) (A : Option Addr) (c : Nat), 0 ≤ d → d ≤ 1000 → t.kids.length ≤ maxLen → KidsE w t.kids A → Calls Tryz.prog 29 #[ev t A c, .int .i64 d] w (V1 (.bool (flE t d)) w)
theorem flat_step (t : Ex) (ih : ∀ u ∈ t.kids, FlatC u) : FlatC t := by
 intro w d A c h0 h1 hkl hK
 have IH := Lib.hid ih
 have hKH := Lib.hid hK
 have HX := Lib.hid (newBlk w (.cells (eArr t A c) 63) _ rfl)
 have HB0 := Lib.hid (grAlloc w (.cells (eArr t A c) 63))
 rw [flE_eq]
 clear ih hK
 by_cases hd : d = 0
 ·subst hd
  rw [decide_eq_true rfl]
  go_enter Tryz.func29, Tryz.ntmps29
  go_wp2
  go_ret
  exact ⟨rfl, HB0.out⟩
 ·rw [decide_eq_false hd]
  have hdf : (d == 0) = false := by simp [hd]
  have q0 : IntKind.i64.wrap (d - 1) = d - 1 := IntWalk.i64_in _ (by omega)
  obtain ⟨r, hr⟩ : ∃ r, (!false && flK t.kids (d - 1)) = r := ⟨_, rfl⟩
  rw [hr]
  have HR : Hid (flK (t.kids.drop 0) (d - 1) = r) := Lib.hid (by simpa using hr)
  clear hr
  go_enter Tryz.func29, Tryz.ntmps29
  go_wp2
  go_loopg [5] (t.kids.length) (fun gk i wr => ∃ (k : Nat), k + gk = t.kids.length ∧ i = .int .i64 k ∧ Hid (flK (t.kids.drop k) (d - 1) = r) ∧ Hid (wr.heap[w.heap.size]? = some (.cells (eArr t A c) 63 (0, 0))) ∧ Hid (Below w.heap.size w wr))
  case atStart => exact ⟨0, by omega, rfl, HR, HX, HB0⟩
  case round =>
   obtain ⟨k, hk, rfl, hM, hB, hW⟩ := hrel
   obtain ⟨⟨b0, b1, b2, b3⟩, -⟩ := C.cells4C hB.out
   have hxb := blkLt hB.out
   clear b0 b1 b2 HX HB0 HR
   by_cases hlt : k < t.kids.length
   ·obtain ⟨g, rfl⟩ : ∃ g, gk = g + 1 := ⟨gk - 1, by omega⟩
    have hKw : KidsE wr t.kids A := hKH.out.below hW.out
    have hk64 : (k : Int) + 1 < 9223372036854775808 := by unfold maxLen at hkl; omega
    obtain ⟨ga, oa, rfl⟩ := hKw.addr (by omega)
    obtain ⟨A1, c1, ⟨e0, e1, e2, e3⟩, hkl1, hK1⟩ := (hKw.get _ _ _ k _ (List.getElem?_eq_getElem hlt)).cells
    have hmem : t.kids[k] ∈ t.kids := List.getElem_mem hlt
    have hI := Lib.hid (IH.out _ hmem wr (d - 1) A1 c1 (by omega) (by omega) hkl1 hK1)
    have hM1 := hM.out
    rw [List.drop_eq_getElem_cons hlt, flK] at hM1
    clear hK1 hKw hmem hM
    generalize t.kids[k] = u at *
    have hlt2 : k < t.kids.length := hlt
    cases hf : flE u (d - 1) with
    | false =>
     rw [hf] at hI hM1
     obtain rfl : false = r := by simpa using hM1
     clear hf hM1
     go_wp2_with (go_at_call 29; refine hI.out.mono ?_; rintro e w2 ⟨rfl, hb2⟩; have hW2 := Lib.hid (Gr.tr hW.out hb2); clear hb2 e0 e1 e2 e3)
     go_ret
     exact ⟨rfl, hW2.out⟩
    | true =>
     rw [hf] at hI hM1
     have hM2 := Lib.hid (by rw [Bool.true_and] at hM1; exact hM1)
     clear hf hM1
     go_wp2_with (go_at_call 29; refine hI.out.mono ?_; rintro e w2 ⟨rfl, hb2⟩; have hB2 := Lib.hid (grBlk hb2 hB.out); have hW2 := Lib.hid (Gr.tr hW.out hb2); clear hb2 e0 e1 e2 e3)
     go_roundg g
     case measure => omega
     case rel => exact ⟨k + 1, by omega, by go_num, hM2, hB2, hW2⟩
   ·have hF : Hid (true = r) := Lib.hid (by have := hM.out; rw [List.drop_eq_nil_of_le (by omega), flK] at this; exact this)
    clear hM
    go_wp2
    go_ret
    exact ⟨ret_bz hF.out, hW.out⟩
mutual
theorem flat_any : ∀ t : Ex, FlatC t
 | .mk _ _ _ kids => flat_step _ (flat_all kids)
theorem flat_all : ∀ (ts : List Ex), ∀ u ∈ ts, FlatC u
 | [], u, hu => by cases hu
 | t :: ts, u, hu => by
  rcases List.mem_cons.1 hu with h | h
  ·rw [h]; exact flat_any t
  ·exact flat_all ts u h
end
def hiZ (b : Int) : Int := if 0 ≤ b then 3 * b + 3 else 0
theorem hiZ_pos {b : Int} (h : 0 ≤ b) : hiZ b = 3 * b + 3 := if_pos h
def SizeC (l : List St) : Prop := ∀ (w : World) (A : Option Addr) (m : Nat) (b d : Int), StsR w l A → l.length ≤ maxLen → kbL l → -100000 ≤ b → b ≤ 3000 → 0 ≤ d → d ≤ 200 →
  Calls Tryz.prog 15 #[.slice A l.length m, .int .i64 b, .int .i64 d] w (SomeI 0 (hiZ b) w)
theorem z_next {b n1 n2 n3 v1 v2 : Int} (h0 : 0 ≤ b) (h1 : 3 ≤ n1) (h2 : n1 ≤ 3 * b + 3) (k1 : 0 ≤ v1) (k2 : v1 ≤ hiZ (b - n1)) (e2 : n2 = n1 + v1) (l1 : 0 ≤ v2) (l2 : v2 ≤ hiZ (b - n2)) (e3 : n3 = n2 + v2) : 0 ≤ n3 ∧ n3 ≤ 3 * b + 3 := by
 unfold hiZ at k2 l2
 split at k2 <;> split at l2 <;> omega
theorem z_mid {b n1 v1 : Int} (h0 : 0 ≤ b) (h1 : 3 ≤ n1) (h2 : n1 ≤ 3 * b + 3) (k1 : 0 ≤ v1) (k2 : v1 ≤ hiZ (b - n1)) : 0 ≤ n1 + v1 ∧ n1 + v1 ≤ 3 * b + 3 := by
 unfold hiZ at k2
 split at k2 <;> omega
theorem size_step (l : List St) (ih : ∀ x ∈ l, SizeC x.th ∧ SizeC x.el) : SizeC l := by
 intro w A m b d hR hlen hkb hb0 hb1 hd0 hd1
 have IH := Lib.hid ih
 have HR := Lib.hid hR
 have HK := Lib.hid hkb
 have q1 : IntKind.i64.wrap (b + 1) = b + 1 := IntWalk.i64_in _ (by omega)
 have q2 : IntKind.i64.wrap (d - 1) = d - 1 := IntWalk.i64_in _ (by omega)
 clear ih hR hkb
 go_enter Tryz.func15, Tryz.ntmps15
 go_wp2
 go_loopg [7, 8] (l.length) (fun gk n i wr => ∃ (k : Nat) (mv : Int), k + gk = l.length ∧ i = .int .i64 k ∧ n = .int .i64 mv ∧ 0 ≤ mv ∧ mv ≤ hiZ b ∧ Hid (Below w.heap.size w wr))
 case atStart => exact ⟨0, 0, by omega, rfl, rfl, by omega, by unfold hiZ; split <;> omega, Lib.hid (Below.refl _ _)⟩
 case round =>
  obtain ⟨k, mv, hk, rfl, rfl, hm0, hm1, hW⟩ := hrel
  by_cases hneg : mv ≤ b
  ·have hbp : 0 ≤ b := by omega
   rw [hiZ_pos hbp] at hm1
   by_cases hlt : k < l.length
   ·obtain ⟨g, rfl⟩ : ∃ g, gk = g + 1 := ⟨gk - 1, by omega⟩
    have hk64 : (k : Int) + 1 < 9223372036854775808 := by unfold maxLen at hlen; omega
    have hRw : StsR wr l A := HR.out.below hW.out
    obtain ⟨ga, oa, rfl⟩ := hRw.addr (by omega)
    obtain ⟨A1, c1, B1, d1, T1, m1, E1, n1, hS, hKA, hKB, hT, hE, hlt1, hle1⟩ := (hRw.get _ _ _ k _ (List.getElem?_eq_getElem hlt)).cells
    have hI := IH.out _ (List.getElem_mem hlt)
    obtain ⟨ka, kb, kt, ke⟩ := kbS_mk (kbL_mem HK.out _ (List.getElem_mem hlt))
    have HFA := Lib.hid (fun (w2 : World) (h : Gr wr w2) => flat_any l[k].a w2 200 A1 c1 (by decide) (by decide) ka (hKA.below h))
    have HFB := Lib.hid (fun (w2 : World) (h : Gr wr w2) => flat_any l[k].b w2 200 B1 d1 (by decide) (by decide) kb (hKB.below h))
    have HSA := Lib.hid (fun (w2 : World) (h : Gr wr w2) => Size_any l[k].a w2 b A1 c1 hbp (by omega) (hKA.below h))
    have HSB := Lib.hid (fun (w2 : World) (h : Gr wr w2) => Size_any l[k].b w2 b B1 d1 hbp (by omega) (hKB.below h))
    have HT := Lib.hid (fun (w2 : World) (h : Gr wr w2) (b' d' : Int) (h1 : -100000 ≤ b') (h2 : b' ≤ 3000) (h3 : 0 ≤ d') (h4 : d' ≤ 200) => hI.1 w2 T1 m1 b' d' (hT.below h) hlt1 kt h1 h2 h3 h4)
    have HE := Lib.hid (fun (w2 : World) (h : Gr wr w2) (b' d' : Int) (h1 : -100000 ≤ b') (h2 : b' ≤ 3000) (h3 : 0 ≤ d') (h4 : d' ≤ 200) => hI.2 w2 E1 n1 b' d' (hE.below h) hle1 ke h1 h2 h3 h4)
    have hra := rsE_range l[k].a b hbp
    have hrb := rsE_range l[k].b b hbp
    have HS := Lib.hid hS
    clear hI hKA hKB hT hE ka kb kt ke hRw
    generalize l[k] = u at *
    generalize rsE u.a b = ra at *
    generalize rsE u.b b = rb at *
    generalize flE u.a 200 = fa at *
    generalize flE u.b 200 = fb at *
    obtain ⟨f0, f1, f2, f3, f4, f5, f6, f7, f8, f9, f10, f11, f12⟩ := hS
    have hgl := World.block_lt_of_cell? _ _ f0
    clear f0 f1 f2
    by_cases hdz : d = 0
    ·subst hdz
     clear f3 f4 f5 f6 f7 f8 f9 f10 f11 f12
     go_wp2
     go_ret
     exact ⟨⟨b + 1, rfl, by omega, by rw [hiZ_pos hbp]; omega⟩, hW.out⟩
    ·have hdf : (d == 0) = false := by simp [hdz]
     cases fa with
     | false =>
      clear f7 f8 f9 f10 f11 f12
      go_wp2_with (go_at_call 29; refine (HFA.out _ (Below.refl _ _)).mono ?_; rintro e w2 ⟨rfl, hb2⟩; have hW2 := Lib.hid (Gr.tr hW.out hb2); clear hb2 f3 f4 f5 f6)
      go_ret
      exact ⟨⟨b + 1, rfl, by omega, by rw [hiZ_pos hbp]; omega⟩, hW2.out⟩
     | true =>
      cases fb with
      | false =>
       go_wp2_with (first
        | (go_at_call_of 29 (Value.slice A1 u.a.kids.length (u.a.kids.length + c1)); refine (HFA.out _ (Below.refl _ _)).mono ?_; rintro e w2 ⟨rfl, hb2⟩; have hW2 := Lib.hid (Gr.tr hW.out hb2); have hG2 := Lib.hid hb2; have hSS := HS.out.keep (hb2.block _ hgl); obtain ⟨-, -, -, -, -, -, -, y7, y8, y9, y10, -, -⟩ := hSS; clear hb2)
        | (go_at_call_of 29 (Value.slice B1 u.b.kids.length (u.b.kids.length + d1)); refine (HFB.out _ hG2.out).mono ?_; rintro e w3 ⟨rfl, hb3⟩; have hW3 := Lib.hid (Gr.tr hW2.out hb3); clear hb3))
       go_ret
       exact ⟨⟨b + 1, rfl, by omega, by rw [hiZ_pos hbp]; omega⟩, hW3.out⟩
      | true =>
       go_upto_region 7 with (first
        | (go_at_call_of 29 (Value.slice A1 u.a.kids.length (u.a.kids.length + c1)); refine (HFA.out _ (Below.refl _ _)).mono ?_; rintro e w2 ⟨rfl, hb2⟩; have hG2 := Lib.hid hb2; have hSS := HS.out.keep (hb2.block _ hgl); obtain ⟨-, -, -, -, -, -, -, y7, y8, y9, y10, -, -⟩ := hSS; clear hb2)
        | (go_at_call_of 29 (Value.slice B1 u.b.kids.length (u.b.kids.length + d1)); refine (HFB.out _ hG2.out).mono ?_; rintro e w3 ⟨rfl, hb3⟩; have hG3 := Lib.hid (Gr.tr hG2.out hb3); have hSS := HS.out.keep (hG3.out.block _ hgl); clear hb3 y7 y8 y9 y10))
       clear f3 f4 f5 f6 f7 f8 f9 f10 f11 f12
       obtain ⟨-, -, -, f3, f4, f5, f6, f7, f8, f9, f10, -, -⟩ := hSS
       have q3 : IntKind.i64.wrap (mv + 1) = mv + 1 := IntWalk.i64_in _ (by omega)
       have q4 : IntKind.i64.wrap (mv + 1 + ra) = mv + 1 + ra := IntWalk.i64_in _ (by omega)
       have q5 : IntKind.i64.wrap (mv + 1 + ra + rb) = mv + 1 + ra + rb := IntWalk.i64_in _ (by omega)
       refine wp_region_G (S := fun wq => Gr w3 wq) (by kernel_rfl) (grDrew _) (fun hHeld => ?_)
       have hSG : Hid (∀ wp wq : World, Gr w3 wp → Gr wp wq → Gr w3 wq) := Lib.hid (fun _ _ h k => h.tr k)
       have hmv := Lib.hid (fun (wq : World) (hq : Gr w3 wq) => And.intro (grCell hq f3) (And.intro (grCell hq f4) (And.intro (grCell hq f5) (And.intro (grCell hq f6) (And.intro (grCell hq f7) (And.intro (grCell hq f8) (And.intro (grCell hq f9) (grCell hq f10))))))))
       first
        | (refine tk hSG 0 (v := ?_) rfl (by kernel_rfl) (fun _ _ _ h => h) (by rfl) ?_ hHeld ?_; rotate_left; focus (intro w' hSw; obtain ⟨f3, f4, f5, f6, f7, f8, f9, f10⟩ := hmv.out _ hSw; go_simp; (try with_reducible rfl)))
        | refine tn hSG 0 rfl (by kernel_rfl) (fun _ _ _ h => h) (by rfl) hHeld ?_
       (try simp only [zq1, zq2, zq3, Act.put, zq4, zq5, zq6])
       first
        | (refine tk hSG 1 (v := ?_) rfl (by kernel_rfl) (fun _ _ _ h => h) (by rfl) ?_ hHeld ?_; rotate_left; focus (intro w' hSw; obtain ⟨f3, f4, f5, f6, f7, f8, f9, f10⟩ := hmv.out _ hSw; go_simp; (try with_reducible rfl)))
        | refine tn hSG 1 rfl (by kernel_rfl) (fun _ _ _ h => h) (by rfl) hHeld ?_
       (try simp only [zq1, zq2, zq3, Act.put, zq4, zq5, zq6])
       first
        | (refine tk hSG 2 (v := ?_) rfl (by kernel_rfl) (fun _ _ _ h => h) (by rfl) ?_ hHeld ?_; rotate_left; focus (intro w' hSw; obtain ⟨f3, f4, f5, f6, f7, f8, f9, f10⟩ := hmv.out _ hSw; go_simp; (try with_reducible rfl)))
        | refine tn hSG 2 rfl (by kernel_rfl) (fun _ _ _ h => h) (by rfl) hHeld ?_
       (try simp only [zq1, zq2, zq3, Act.put, zq4, zq5, zq6])
       first
        | (refine tk hSG 3 (v := ?_) rfl (by kernel_rfl) (fun _ _ _ h => h) (by rfl) ?_ hHeld ?_; rotate_left; focus (intro w' hSw; obtain ⟨f3, f4, f5, f6, f7, f8, f9, f10⟩ := hmv.out _ hSw; go_simp; (try with_reducible rfl)))
        | refine tn hSG 3 rfl (by kernel_rfl) (fun _ _ _ h => h) (by rfl) hHeld ?_
       (try simp only [zq1, zq2, zq3, Act.put, zq4, zq5, zq6])
       refine tk hSG 4 (v := .pointer (some ⟨ga, oa + k * 13, none⟩)) rfl (by kernel_rfl) (fun _ _ _ h => h) (by rfl) ?_ hHeld ?_
       focus (intro w' hSw; obtain ⟨f3, f4, f5, f6, f7, f8, f9, f10⟩ := hmv.out _ hSw; go_simp; (try (intro hq; omega)))
       (try simp only [zq1, zq2, zq3, Act.put, zq4, zq5, zq6])
       first
        | (refine tk hSG 5 (v := ?_) rfl (by kernel_rfl) (fun _ _ _ h => h) (by rfl) ?_ hHeld ?_; rotate_left; focus (intro w' hSw; obtain ⟨f3, f4, f5, f6, f7, f8, f9, f10⟩ := hmv.out _ hSw; go_simp; (try with_reducible rfl)))
        | refine tn hSG 5 rfl (by kernel_rfl) (fun _ _ _ h => h) (by rfl) hHeld ?_
       (try simp only [zq1, zq2, zq3, Act.put, zq4, zq5, zq6])
       first
        | (refine tk hSG 6 (v := ?_) rfl (by kernel_rfl) (fun _ _ _ h => h) (by rfl) ?_ hHeld ?_; rotate_left; focus (intro w' hSw; obtain ⟨f3, f4, f5, f6, f7, f8, f9, f10⟩ := hmv.out _ hSw; go_simp; (try with_reducible rfl)))
        | refine tn hSG 6 rfl (by kernel_rfl) (fun _ _ _ h => h) (by rfl) hHeld ?_
       (try simp only [zq1, zq2, zq3, Act.put, zq4, zq5, zq6])
       first
        | (refine tk hSG 7 (v := ?_) rfl (by kernel_rfl) (fun _ _ _ h => h) (by rfl) ?_ hHeld ?_; rotate_left; focus (intro w' hSw; obtain ⟨f3, f4, f5, f6, f7, f8, f9, f10⟩ := hmv.out _ hSw; go_simp; (try with_reducible rfl)))
        | refine tn hSG 7 rfl (by kernel_rfl) (fun _ _ _ h => h) (by rfl) hHeld ?_
       (try simp only [zq1, zq2, zq3, Act.put, zq4, zq5, zq6])
       refine tc hSG 8 (v := .int .i64 ra) rfl (by kernel_rfl) (fun _ _ _ h => h) (by rfl) ?_ hHeld ?_
       focus (intro wz hSw K hK; obtain ⟨f3, f4, f5, f6, f7, f8, f9, f10⟩ := hmv.out _ hSw; go_simp; go_at_call 30; refine (HSA.out _ (Gr.tr hG3.out hSw)).mono ?_; rintro e w2 ⟨rfl, hb2⟩; exact hK.out _ hb2)
       (try simp only [zq1, zq2, zq3, Act.put, zq4, zq5, zq6])
       first
        | (refine tk hSG 9 (v := ?_) rfl (by kernel_rfl) (fun _ _ _ h => h) (by rfl) ?_ hHeld ?_; rotate_left; focus (intro w' hSw; obtain ⟨f3, f4, f5, f6, f7, f8, f9, f10⟩ := hmv.out _ hSw; go_simp; (try with_reducible rfl)))
        | refine tn hSG 9 rfl (by kernel_rfl) (fun _ _ _ h => h) (by rfl) hHeld ?_
       (try simp only [zq1, zq2, zq3, Act.put, zq4, zq5, zq6])
       first
        | (refine tk hSG 10 (v := ?_) rfl (by kernel_rfl) (fun _ _ _ h => h) (by rfl) ?_ hHeld ?_; rotate_left; focus (intro w' hSw; obtain ⟨f3, f4, f5, f6, f7, f8, f9, f10⟩ := hmv.out _ hSw; go_simp; (try with_reducible rfl)))
        | refine tn hSG 10 rfl (by kernel_rfl) (fun _ _ _ h => h) (by rfl) hHeld ?_
       (try simp only [zq1, zq2, zq3, Act.put, zq4, zq5, zq6])
       first
        | (refine tk hSG 11 (v := ?_) rfl (by kernel_rfl) (fun _ _ _ h => h) (by rfl) ?_ hHeld ?_; rotate_left; focus (intro w' hSw; obtain ⟨f3, f4, f5, f6, f7, f8, f9, f10⟩ := hmv.out _ hSw; go_simp; (try with_reducible rfl)))
        | refine tn hSG 11 rfl (by kernel_rfl) (fun _ _ _ h => h) (by rfl) hHeld ?_
       (try simp only [zq1, zq2, zq3, Act.put, zq4, zq5, zq6])
       refine tk hSG 12 (v := .pointer (some ⟨ga, oa + k * 13, none⟩)) rfl (by kernel_rfl) (fun _ _ _ h => h) (by rfl) ?_ hHeld ?_
       focus (intro w' hSw; obtain ⟨f3, f4, f5, f6, f7, f8, f9, f10⟩ := hmv.out _ hSw; go_simp; (try (intro hq; omega)))
       (try simp only [zq1, zq2, zq3, Act.put, zq4, zq5, zq6])
       first
        | (refine tk hSG 13 (v := ?_) rfl (by kernel_rfl) (fun _ _ _ h => h) (by rfl) ?_ hHeld ?_; rotate_left; focus (intro w' hSw; obtain ⟨f3, f4, f5, f6, f7, f8, f9, f10⟩ := hmv.out _ hSw; go_simp; (try with_reducible rfl)))
        | refine tn hSG 13 rfl (by kernel_rfl) (fun _ _ _ h => h) (by rfl) hHeld ?_
       (try simp only [zq1, zq2, zq3, Act.put, zq4, zq5, zq6])
       first
        | (refine tk hSG 14 (v := ?_) rfl (by kernel_rfl) (fun _ _ _ h => h) (by rfl) ?_ hHeld ?_; rotate_left; focus (intro w' hSw; obtain ⟨f3, f4, f5, f6, f7, f8, f9, f10⟩ := hmv.out _ hSw; go_simp; (try with_reducible rfl)))
        | refine tn hSG 14 rfl (by kernel_rfl) (fun _ _ _ h => h) (by rfl) hHeld ?_
       (try simp only [zq1, zq2, zq3, Act.put, zq4, zq5, zq6])
       first
        | (refine tk hSG 15 (v := ?_) rfl (by kernel_rfl) (fun _ _ _ h => h) (by rfl) ?_ hHeld ?_; rotate_left; focus (intro w' hSw; obtain ⟨f3, f4, f5, f6, f7, f8, f9, f10⟩ := hmv.out _ hSw; go_simp; (try with_reducible rfl)))
        | refine tn hSG 15 rfl (by kernel_rfl) (fun _ _ _ h => h) (by rfl) hHeld ?_
       (try simp only [zq1, zq2, zq3, Act.put, zq4, zq5, zq6])
       refine tc hSG 16 (v := .int .i64 rb) rfl (by kernel_rfl) (fun _ _ _ h => h) (by rfl) ?_ hHeld ?_
       focus (intro wz hSw K hK; obtain ⟨f3, f4, f5, f6, f7, f8, f9, f10⟩ := hmv.out _ hSw; go_simp; go_at_call 30; refine (HSB.out _ (Gr.tr hG3.out hSw)).mono ?_; rintro e w2 ⟨rfl, hb2⟩; exact hK.out _ hb2)
       (try simp only [zq1, zq2, zq3, Act.put, zq4, zq5, zq6])
       first
        | (refine tk hSG 17 (v := ?_) rfl (by kernel_rfl) (fun _ _ _ h => h) (by rfl) ?_ hHeld ?_; rotate_left; focus (intro w' hSw; obtain ⟨f3, f4, f5, f6, f7, f8, f9, f10⟩ := hmv.out _ hSw; go_simp; (try with_reducible rfl)))
        | refine tn hSG 17 rfl (by kernel_rfl) (fun _ _ _ h => h) (by rfl) hHeld ?_
       (try simp only [zq1, zq2, zq3, Act.put, zq4, zq5, zq6])
       first
        | (refine tk hSG 18 (v := ?_) rfl (by kernel_rfl) (fun _ _ _ h => h) (by rfl) ?_ hHeld ?_; rotate_left; focus (intro w' hSw; obtain ⟨f3, f4, f5, f6, f7, f8, f9, f10⟩ := hmv.out _ hSw; go_simp; (try with_reducible rfl)))
        | refine tn hSG 18 rfl (by kernel_rfl) (fun _ _ _ h => h) (by rfl) hHeld ?_
       (try simp only [zq1, zq2, zq3, Act.put, zq4, zq5, zq6])
       refine wpAnyG_done (by kernel_rfl) (fun w5 hgD => ?_) _
       have hg5 : Gr w3 w5 := (grDrew w3).tr hgD
       clear hgD hSG hHeld
       have hG5 := Lib.hid (Gr.tr hG3.out hg5)
       have hSS := HS.out.keep (hG5.out.block _ hgl)
       clear f3 f4 f5 f6 f7 f8 f9 f10 hg5
       obtain ⟨-, -, -, -, -, -, -, -, -, -, -, f11, -⟩ := hSS
       have hN0 : 3 ≤ mv + 1 + ra + rb ∧ mv + 1 + ra + rb ≤ 3 * b + 3 := by omega
       clear q3 q4 q5
       generalize mv + 1 + ra + rb = N1 at *
       have q6 : IntKind.i64.wrap (b - N1) = b - N1 := IntWalk.i64_in _ (by omega)
       go_wp2_with (first
        | (go_at_call_of 15 (Value.slice T1 u.th.length m1); refine (HT.out _ hG5.out (b - N1) (d - 1) (by omega) (by omega) (by omega) (by omega)).mono ?_; rintro e w6 ⟨⟨v1, rfl, hv0, hv1⟩, hb6⟩; have hz1 := z_mid hbp hN0.1 hN0.2 hv0 hv1; have q7 : IntKind.i64.wrap (N1 + v1) = N1 + v1 := IntWalk.i64_in _ (by omega); have q8 : IntKind.i64.wrap (b - (N1 + v1)) = b - (N1 + v1) := IntWalk.i64_in _ (by omega); have hG6 := Lib.hid (Gr.tr hG5.out hb6); have hSS := HS.out.keep (hG6.out.block _ hgl); clear hb6 f11; obtain ⟨-, -, -, -, -, -, -, -, -, -, -, -, f12⟩ := hSS)
        | (go_at_call_of 15 (Value.slice E1 u.el.length n1); refine (HE.out _ hG6.out (b - (N1 + v1)) (d - 1) (by omega) (by omega) (by omega) (by omega)).mono ?_; rintro e w7 ⟨⟨v2, rfl, hu0, hu1⟩, hb7⟩; have hz2 := z_next hbp hN0.1 hN0.2 hv0 hv1 rfl hu0 hu1 rfl; have q9 : IntKind.i64.wrap (N1 + v1 + v2) = N1 + v1 + v2 := IntWalk.i64_in _ (by omega); have hW7 := Lib.hid (Gr.tr hW.out (Gr.tr hG6.out hb7)); clear hb7 f12))
       go_roundg g
       case measure => omega
       case rel => exact ⟨k + 1, N1 + v1 + v2, by omega, by go_num, rfl, hz2.1, by rw [hiZ_pos hbp]; exact hz2.2, hW7⟩
   ·clear HR HK IH
    have hzb : mv ≤ hiZ b := by rw [hiZ_pos hbp]; exact hm1
    go_wp2
    go_ret
    exact ⟨⟨mv, rfl, hm0, hzb⟩, hW.out⟩
  ·have hng : decide (mv ≤ b) = false := by simp; omega
   by_cases hlt : k < l.length
   all_goals
    go_wp2
    go_ret
    exact ⟨⟨mv, rfl, hm0, hm1⟩, hW.out⟩
mutual
theorem size_any : ∀ x : St, SizeC x.th ∧ SizeC x.el
 | .mk _ _ _ _ _ th el => ⟨size_step th (size_all th), size_step el (size_all el)⟩
theorem size_all : ∀ (l : List St), ∀ x ∈ l, SizeC x.th ∧ SizeC x.el
 | [], x, hx => by cases hx
 | y :: ys, x, hx => by
  rcases List.mem_cons.1 hx with h | h
  ·rw [h]; exact size_any y
  ·exact size_all ys x h
end
theorem size_of (l : List St) : SizeC l := size_step l (size_all l)
end C
end Go.Proofs.YtamfgjinfcknfaaGreatDoor
namespace Go.Proofs.YtamfgjinfcknfaaGreatDoor
open Go.RowKit
def lowB (b : UInt8) : Bool := decide (97 ≤ b.toNat) && decide (b.toNat ≤ 122)
def tailB (b : UInt8) : Bool := lowB b || ((decide (48 ≤ b.toNat) && decide (b.toNat ≤ 57)) || decide (b.toNat = 95))
def nmBytes : List UInt8 → Bool
 | [] => true
 | b :: r => lowB b && r.all tailB
def refU : List ByteArray := [⟨#[110, 111, 110, 101]⟩, ⟨#[112, 97, 99, 107, 101, 116, 115]⟩, ⟨#[98, 121, 116, 101, 115]⟩, ⟨#[116, 105, 109, 101]⟩, ⟨#[114, 97, 116, 101]⟩]
def refE : List ByteArray := [⟨#[97, 99, 107]⟩, ⟨#[108, 111, 115, 115]⟩, ⟨#[109, 97, 114, 107]⟩, ⟨#[116, 105, 109, 101, 111, 117, 116]⟩, ⟨#[112, 97, 116, 104]⟩]
def refP : List ByteArray := [⟨#[116, 97, 105, 108]⟩, ⟨#[101, 97, 114, 108, 121]⟩, ⟨#[115, 111, 106, 111, 117, 114, 110]⟩, ⟨#[105, 110, 116, 101, 103, 114, 97, 108]⟩, ⟨#[100, 101, 102, 105, 99, 105, 116]⟩, ⟨#[100, 117, 97, 108]⟩]
def refI : List ByteArray := [⟨#[97, 99, 107, 101, 100]⟩, ⟨#[114, 116, 116]⟩, ⟨#[115, 105, 122, 101]⟩, ⟨#[116, 111, 116, 97, 108]⟩]
def refO : List ByteArray := [⟨#[108, 105, 110, 107]⟩, ⟨#[112, 97, 116, 104]⟩, ⟨#[102, 108, 111, 119]⟩, ⟨#[112, 114, 111, 103, 114, 97, 109]⟩, ⟨#[100, 101, 108, 97, 121]⟩, ⟨#[114, 111, 111, 109]⟩, ⟨#[98, 97, 99, 107]⟩, ⟨#[112, 97, 116, 104, 115]⟩, ⟨#[119, 105, 110, 100, 111, 119]⟩, ⟨#[115, 116, 97, 114, 116]⟩, ⟨#[112, 97, 99, 101]⟩, ⟨#[118, 97, 114]⟩, ⟨#[111, 110]⟩, ⟨#[105, 102]⟩, ⟨#[101, 108, 115, 101]⟩, ⟨#[109, 105, 110]⟩, ⟨#[109, 97, 120]⟩, ⟨#[117, 112]⟩]
def key5 (x : ByteArray) : Bool := decide (0 ≤ idx refU x) || (decide (0 ≤ idx refE x) || (decide (0 ≤ idx refP x) || (decide (0 ≤ idx refI x) || decide (0 ≤ idx refO x))))
def nm5 (x : ByteArray) : Bool := nmBytes x.data.toList && (decide (1 ≤ x.size) && (decide (x.size ≤ 12) && !key5 x))
theorem idxF_mem (x : ByteArray) : ∀ (l : List ByteArray) (k : Nat), x ∈ l → (k : Int) ≤ idxF x l k
 | [], k, h => by cases h
 | y :: l, k, h => by
  rw [idxF]
  split
  ·exact Int.le_refl _
  ·rename_i hne
   rcases List.mem_cons.1 h with h | h
   ·exact absurd h hne
   ·have := idxF_mem x l (k + 1) h
    omega
theorem ba_ext {x y : ByteArray} (h : x.data.toList = y.data.toList) : x = y := by
 cases x; cases y
 simp only [ByteArray.mk.injEq]
 exact Array.ext' h
theorem key_subB : (keyL ++ inpL).all (fun l => (refU ++ (refE ++ (refP ++ (refI ++ refO)))).any (fun y => decide (y = ⟨l.toArray⟩))) = true := by decide +kernel
theorem key_sub (l : List UInt8) (h : l ∈ keyL ++ inpL) : (⟨l.toArray⟩ : ByteArray) ∈ refU ∨ (⟨l.toArray⟩ : ByteArray) ∈ refE ∨ (⟨l.toArray⟩ : ByteArray) ∈ refP ∨ (⟨l.toArray⟩ : ByteArray) ∈ refI ∨ (⟨l.toArray⟩ : ByteArray) ∈ refO := by
 obtain ⟨y, hy, e⟩ := List.any_eq_true.1 (List.all_eq_true.1 key_subB l h)
 obtain rfl := of_decide_eq_true e
 simpa [List.mem_append] using hy
theorem key5_of {x : ByteArray} (h : keyB x = true) : key5 x = true := by
 have hm : x.toList ∈ keyL ++ inpL := by
  unfold keyB at h
  rcases (Bool.or_eq_true _ _).mp h with h | h
  ·obtain ⟨y, hy, e⟩ := List.any_eq_true.1 h
   rw [beq_iff_eq] at e
   rw [e]
   exact List.mem_append_left _ hy
  ·unfold inpB at h
   obtain ⟨y, hy, e⟩ := List.any_eq_true.1 h
   rw [beq_iff_eq] at e
   rw [e]
   exact List.mem_append_right _ hy
 have hx : (⟨x.toList.toArray⟩ : ByteArray) = x := ba_ext (by rw [ByteArray.toList_eq])
 have hk := key_sub _ hm
 rw [hx] at hk
 unfold key5 idx
 simp only [Bool.or_eq_true, decide_eq_true_eq]
 rcases hk with h | h | h | h | h
 ·exact .inl (idxF_mem x _ 0 h)
 ·exact .inr (.inl (idxF_mem x _ 0 h))
 ·exact .inr (.inr (.inl (idxF_mem x _ 0 h)))
 ·exact .inr (.inr (.inr (.inl (idxF_mem x _ 0 h))))
 ·exact .inr (.inr (.inr (.inr (idxF_mem x _ 0 h))))
theorem cls_low {b : UInt8} (h : lowB b = true) : cls b.toNat = 4 := by
 have k : ∀ n, n < 256 → 97 ≤ n → n ≤ 122 → cls n = 4 := by decide +kernel
 unfold lowB at h
 simp only [Bool.and_eq_true, decide_eq_true_eq] at h
 exact k _ b.toNat_lt h.1 h.2
theorem cls_tail {b : UInt8} (h : tailB b = true) : nameB (cls b.toNat) = true := by
 have k : ∀ n, n < 256 → (48 ≤ n ∧ n ≤ 57) ∨ n = 95 → nameB (cls n) = true := by decide +kernel
 unfold tailB at h
 simp only [Bool.or_eq_true, Bool.and_eq_true, decide_eq_true_eq] at h
 rcases h with h | h
 ·rw [cls_low h]; rfl
 ·exact k _ b.toNat_lt h
theorem run_tail : ∀ l : List UInt8, l.all tailB = true → runLen nameB l = l.length
 | [], _ => rfl
 | b :: r, h => by
  simp only [List.all_cons, Bool.and_eq_true] at h
  rw [runLen, if_pos (cls_tail h.1), run_tail r h.2]
  rfl
theorem nm5_name {x : ByteArray} (h : nm5 x = true) : nameB1 x = true := by
 unfold nm5 at h
 simp only [Bool.and_eq_true, decide_eq_true_eq, Bool.not_eq_true'] at h
 obtain ⟨hb, h1, h2, hk⟩ := h
 have hsz : x.data.toList.length = x.size := by simp
 have hkey : keyB x = false := by
  rcases hq : keyB x with _ | _
  ·rfl
  ·rw [key5_of hq] at hk; cases hk
 rcases hl : x.data.toList with _ | ⟨b, r⟩
 ·rw [hl] at hsz; simp at hsz; omega
 rw [hl] at hb hsz
 simp only [nmBytes, Bool.and_eq_true] at hb
 simp only [List.length_cons] at hsz
 have hc := cls_low hb.1
 have hrun : runLen nameB (b :: r) = r.length + 1 := by rw [runLen, if_pos (by rw [hc]; rfl), run_tail r hb.2]
 have hd : x.data.toList.drop 0 = b :: r := by rw [hl]; rfl
 have htl : tokLen (b :: r) = r.length + 1 := by unfold tokLen; simp only; rw [if_pos hc, hrun]
 have hte : tokErr (b :: r) = 0 := by unfold tokErr; simp only; rw [if_pos hc, if_neg (by simp; omega)]
 have htk : (b :: r).take (r.length + 1) = b :: r := List.take_of_length_le (by simp)
 have hext : x.extract 0 (0 + (r.length + 1)) = x := ba_ext (by
  rw [show (x.extract 0 (0 + (r.length + 1))).data.toList = (x.data.toList.drop 0).take (r.length + 1) from by simp [ByteArray.data_extract]]
  rw [hd, htk, hl])
 have hto : tokOf x 0 = ⟨1, x, 0, 0⟩ := by unfold tokOf; rw [hl]; simp only; rw [if_pos hc]; rfl
 have hrd : rd x 0 = (⟨1, x, 0, 0⟩, r.length + 1, 0) := by
  unfold rd
  rw [hd, htl, if_neg (by omega), htk, hte, if_neg (by simp), hext, hto]
  simp
 have hg0 : gapE x 0 = 0 := by
  unfold gapE
  rw [hd]
  have hng : gapLen false (b :: r) = 0 := by
   have k : ∀ n, n < 256 → cls n = 4 → n ≠ 35 ∧ n ≠ 32 ∧ n ≠ 9 ∧ n ≠ 10 := by decide +kernel
   obtain ⟨k1, k2, k3, k4⟩ := k _ b.toNat_lt hc
   rw [gapLen, if_pos]
   refine ⟨?_, ?_, ?_, ?_⟩
   ·have : (b == 35) = false := by rw [beq_eq_false_iff_ne]; rintro rfl; exact k1 rfl
    rw [this]; rfl
   ·rintro rfl; exact k2 rfl
   ·rintro rfl; exact k3 rfl
   ·rintro rfl; exact k4 rfl
  rw [hng]
 have hge : x.size ≤ gapE x (r.length + 1) := by unfold gapE; omega
 have hlx : lexF x (x.size + 1) 0 0 = ([⟨1, x, 0, 0⟩], 0, 0) := by
  rw [lexF_tok x x.size 0 0 _ _ (by omega) (by decide) hrd]
  obtain ⟨s, hs⟩ : ∃ s, x.size = s + 1 := ⟨x.size - 1, by omega⟩
  have := lexF_done x s (gapE x (r.length + 1)) (0 + 1) hge
  rw [hs] at hge ⊢
  rw [this]
 have : lx x = ([⟨1, x, 0, 0⟩], 0, 0) := by
  unfold lx
  rw [if_neg (by omega), hg0, hlx]
  rfl
 unfold nameB1
 rw [this]
 simp [hkey]
namespace C
def varB (nm : ByteArray → Bool) (v : U.Vr) : Bool := nm v.x && (decide (0 ≤ v.u) && (decide (v.u ≤ 4) && (decide (0 ≤ v.lo) && (decide (v.lo ≤ v.i) && (decide (v.i ≤ v.hi) && decide (v.hi ≤ 1000000000))))))
def okVars (nm : ByteArray → Bool) (all : List U.Vr) : List U.Vr → Nat → Bool
 | [], _ => true
 | v :: vs, k => varB nm v && decide (idx (all.map (·.x)) v.x = (k : Int)) && okVars nm all vs (k + 1)
def usesB (vs : List U.Vr) (k un : Int) : Bool := decide (0 ≤ k) && (decide (k < vs.length) && decide (((vs[k.toNat]?).map (·.u)).getD 9 = un))
def v5 (nm : ByteArray → Bool) (x : ByteArray) (vs : List U.Vr) (on : List (List U.St)) (wi pa : Int) : Bool :=
 (nm x && (decide (1 ≤ vs.length) && decide (vs.length ≤ 12))) && (okVars nm vs vs 0 && (decide ((U.checkM (vs.map (·.u)) on).1 = -1) && (decide ((U.checkM (vs.map (·.u)) on).2 = 0) && (usesB vs wi 1 && (decide (pa = -1) || usesB vs pa 4)))))
theorem okVars_mem {nm : ByteArray → Bool} {all : List U.Vr} : ∀ {l : List U.Vr} {k : Nat}, okVars nm all l k = true → ∀ v ∈ l, varB nm v = true
 | [], _, _, v, h => by cases h
 | u :: l, k, h, v, hv => by
  rw [okVars] at h
  simp only [Bool.and_eq_true] at h
  rcases List.mem_cons.1 hv with rfl | hv
  ·exact h.1.1
  ·exact okVars_mem h.2 v hv
theorem okVars_idx {nm : ByteArray → Bool} {all : List U.Vr} : ∀ {l : List U.Vr} {k : Nat}, okVars nm all l k = true → ∀ (i : Nat) (v : U.Vr), l[i]? = some v → idx (all.map (·.x)) v.x = ((k + i : Nat) : Int)
 | [], _, _, i, v, h => by simp at h
 | u :: l, k, h, 0, v, hv => by
  rw [okVars] at h
  simp only [Bool.and_eq_true, decide_eq_true_eq] at h
  simp at hv
  subst hv
  exact h.1.2
 | u :: l, k, h, i + 1, v, hv => by
  rw [okVars] at h
  simp only [Bool.and_eq_true] at h
  have := okVars_idx h.2 i v (by simpa using hv)
  rw [this]
  congr 1
  omega
theorem idxF_first (x : ByteArray) : ∀ (l : List ByteArray) (k i : Nat), l[i]? = some x → idxF x l k ≤ ((k + i : Nat) : Int) ∧ (k : Int) ≤ idxF x l k
 | [], k, i, h => by simp at h
 | y :: l, k, 0, h => by
  simp at h
  subst h
  rw [idxF, if_pos rfl]
  omega
 | y :: l, k, i + 1, h => by
  rw [idxF]
  split
  ·omega
  ·have := idxF_first x l (k + 1) i (by simpa using h)
   omega
theorem ba_nil : (⟨#[]⟩ : ByteArray).toList = [] := by unfold ByteArray.toList ByteArray.toList.loop; rfl
theorem spareL_leaf : ∀ (ts : List Nd) (n : Int), (∀ t ∈ ts, ∀ m : Int, 10 ≤ m → m - 4 ≤ spareN t m) → 4 * (ts.length : Int) + 10 ≤ n → n - 4 * ts.length ≤ spareL ts n
 | [], n, _, _ => by simp [spareL]
 | t :: ts, n, h, hn => by
  simp only [List.length_cons] at hn ⊢
  rw [spareL, if_pos (by omega)]
  have h1 := h t (by simp) n (by omega)
  have h2 := spareL_leaf ts (spareN t n) (fun u hu => h u (List.mem_cons_of_mem _ hu)) (by omega)
  omega
theorem spare_num (k m : Int) : spareN (numNd k) m = m - 1 := by rw [numNd, spareN, spareL]
theorem spare_vNd (v : U.Vr) (m : Int) (h : 10 ≤ m) : m - 4 ≤ spareN (vNd v) m := by
 rw [vNd, spareN, spareL, if_pos (by omega), spare_num, spareL, if_pos (by omega), spare_num, spareL, if_pos (by omega), spare_num, spareL]
 omega
theorem spare_use (n : Int) (y : ByteArray) (m : Int) (h : 10 ≤ m) : m - 4 ≤ spareN (useNd n y) m := by
 rw [useNd, spareN, spareL]; omega
theorem declKids_len (vs : List U.Vr) (wi pa : Int) : (declKids vs wi pa).length ≤ vs.length + 2 := by
 unfold declKids
 by_cases h : pa = -1 <;> simp [h]
theorem spare_decl (x : ByteArray) (vs : List U.Vr) (wi pa : Int) (hl : vs.length ≤ 12) : 0 ≤ spareN (declNd x vs wi pa) 2500 := by
 have hk := declKids_len vs wi pa
 have h := spareL_leaf (declKids vs wi pa) 2498 (by
  intro t ht m hm
  unfold declKids at ht
  rcases List.mem_append.1 ht with ht | ht
  ·obtain ⟨v, -, rfl⟩ := List.mem_map.1 ht; exact spare_vNd v m hm
  ·rcases List.mem_cons.1 ht with rfl | ht
   ·exact spare_use _ _ _ hm
   ·by_cases h : pa = -1
    ·rw [if_pos h] at ht; cases ht
    ·rw [if_neg h] at ht; obtain rfl := List.mem_singleton.1 ht; exact spare_use _ _ _ hm) (by omega)
 have e : spareN (declNd x vs wi pa) 2500 = spareL (declKids vs wi pa) 2498 := by
  rw [declNd, spareN, spareL, if_pos (by omega), spareN, spareL]
  rfl
 rw [e]
 omega
theorem vVar_vNd {nm : ByteArray → Bool} (hn : ∀ y, nm y = true → nameB1 y = true) {v : U.Vr} (h : varB nm v = true) : vVar (vNd v) = true := by
 unfold varB at h
 simp only [Bool.and_eq_true, decide_eq_true_eq] at h
 obtain ⟨h1, h2, h3, h4, h5, h6, h7⟩ := h
 have hnum : ∀ k : Int, 0 ≤ k → k ≤ 1000000000 → vNumber (numNd k) = true := fun k h0 h1 => by
  simp [vNumber, numNd, btw, plainB, zn, Nd.n, Nd.kind, Nd.name, Nd.unit, Nd.kids, h0, h1, ba_nil]
 simp only [vVar, vNd, btw, namedB, zn, vNumbers, Go.Proofs.YtamfgjinfcknfaaGreatDoor.allB, Nd.n, Nd.kind, Nd.name, Nd.unit, Nd.kids, hn _ h1, hnum v.lo h4 (by omega), hnum v.hi (by omega) h7, hnum v.i (by omega) (by omega)]
 simp [h2, h3]
theorem vVar_use (n : Int) (y : ByteArray) : vVar (useNd n y) = false := by
 simp [vVar, useNd, namedB, zn, Nd.n, Nd.kind]
theorem vHandler_use (n : Int) (y : ByteArray) : vHandler (useNd n y) = false := by
 simp [vHandler, useNd, plainB, zn, Nd.n, Nd.kind]
theorem lead_app (P : Nd → Bool) : ∀ (l r : List Nd), (∀ t ∈ l, P t = true) → lead P (l ++ r) = l.length + lead P r
 | [], r, _ => by simp
 | t :: l, r, h => by
  rw [List.cons_append, lead, if_pos (h t (by simp)), lead_app P l r (fun u hu => h u (List.mem_cons_of_mem _ hu))]
  simp only [List.length_cons]
  omega
theorem vProg_decl {nm : ByteArray → Bool} (hn : ∀ y, nm y = true → nameB1 y = true) {vs : List U.Vr} (hv : ∀ v ∈ vs, varB nm v = true) {wi pa : Int} (hw : nameB1 (nameAt vs wi) = true) (hp : pa = -1 ∨ nameB1 (nameAt vs pa) = true) : vProg (declKids vs wi pa) = true := by
 have h1 : lead vVar (declKids vs wi pa) = vs.length := by
  unfold declKids
  rw [lead_app _ _ _ (by intro t ht; obtain ⟨v, hm, rfl⟩ := List.mem_map.1 ht; exact vVar_vNd hn (hv v hm)), lead, if_neg (by rw [vVar_use]; simp)]
  simp
 have h2 : (declKids vs wi pa).drop vs.length = useNd 0 (nameAt vs wi) :: usesM vs pa := by
  unfold declKids usesM
  rw [List.drop_append_of_le_length (by simp)]
  simp
 have h3 : vRest (declKids vs wi pa) = useNd 0 (nameAt vs wi) :: usesM vs pa := by
  unfold vRest
  rw [h1, h2, lead, if_neg (by rw [vHandler_use]; simp)]
  rfl
 unfold vProg
 rw [h3]
 unfold usesM
 rcases hp with rfl | hp
 ·rw [if_pos rfl]
  simp [vUses, useNd, namedB, zn, Nd.n, Nd.kind, Nd.name, Nd.unit, Nd.kids, hw, btw]
 ·by_cases h : pa = -1
  ·rw [if_pos h]
   simp [vUses, useNd, namedB, zn, Nd.n, Nd.kind, Nd.name, Nd.unit, Nd.kids, hw, btw]
  ·rw [if_neg h]
   simp [vUses, useNd, namedB, zn, Nd.n, Nd.kind, Nd.name, Nd.unit, Nd.kids, hw, hp, btw]
theorem vrOf_vNd (v : U.Vr) : vrOf (vNd v) = v := by
 cases v
 rfl
theorem vsM_ok {nm : ByteArray → Bool} {all : List U.Vr} (hall : okVars nm all all 0 = true) (hl : all.length ≤ 12) : ∀ (rest pre : List U.Vr), pre ++ rest = all → vsM (pre.map vNd) (rest.map vNd) pre = .ok all
 | [], pre, h => by simp at h; subst h; rfl
 | v :: rest, pre, h => by
  have hlen : pre.length + (rest.length + 1) = all.length := by rw [← h]; simp
  have hat : all[pre.length]? = some v := by rw [← h]; simp
  have hidx := okVars_idx hall pre.length v hat
  have hvb := okVars_mem hall v (List.mem_of_getElem? hat)
  unfold varB at hvb
  simp only [Bool.and_eq_true, decide_eq_true_eq] at hvb
  rw [List.map_cons, vsM, if_pos (by simp; omega), if_neg, if_pos]
  ·rw [vrOf_vNd]
   have := vsM_ok hall hl rest (pre ++ [v]) (by simpa using h)
   rw [List.map_append] at this
   exact this
  ·show (decide (v.lo ≤ v.i) && decide (v.i ≤ v.hi)) = true
   simp [hvb.2.2.2.2.1, hvb.2.2.2.2.2.1]
  ·intro hany
   obtain ⟨t, ht, he⟩ := List.any_eq_true.1 hany
   obtain ⟨u, hu, rfl⟩ := List.mem_map.1 ht
   have he2 : v.x = u.x := of_decide_eq_true he
   obtain ⟨i, hi, hui⟩ := List.getElem_of_mem hu
   have h2 : (all.map (·.x))[i]? = some v.x := by
    rw [← h, List.map_append, List.getElem?_append_left (by simpa using hi), List.getElem?_map, List.getElem?_eq_getElem hi, hui]
    simp [he2]
   have := (idxF_first v.x (all.map (·.x)) 0 i h2).1
   unfold idx at hidx
   rw [hidx] at this
   omega
theorem useM_ok {nm : ByteArray → Bool} {vs : List U.Vr} (hall : okVars nm vs vs 0 = true) {k un n : Int} (hu : usesB vs k un = true) : useM vs (useNd n (nameAt vs k)) un = .ok k := by
 unfold usesB at hu
 simp only [Bool.and_eq_true, decide_eq_true_eq] at hu
 obtain ⟨h0, h1, h2⟩ := hu
 have hlt : k.toNat < vs.length := by omega
 rw [List.getElem?_eq_getElem hlt] at h2
 have hi := okVars_idx hall k.toNat _ (List.getElem?_eq_getElem hlt)
 have hn : nameAt vs k = vs[k.toNat].x := by unfold nameAt; rw [List.getElem?_eq_getElem hlt]; rfl
 have hi2 : idx (vs.map (·.x)) (nameAt vs k) = k := by rw [hn, hi]; omega
 have hnm : (useNd n (nameAt vs k)).name = nameAt vs k := rfl
 unfold useM
 rw [hnm, hi2, if_pos h0, List.getElem?_eq_getElem hlt]
 simp only
 rw [if_pos (by simpa using h2)]
theorem uses_name {nm : ByteArray → Bool} (hn : ∀ y, nm y = true → nameB1 y = true) {vs : List U.Vr} (hv : ∀ v ∈ vs, varB nm v = true) {k un : Int} (hu : usesB vs k un = true) : nameB1 (nameAt vs k) = true := by
 unfold usesB at hu
 simp only [Bool.and_eq_true, decide_eq_true_eq] at hu
 have hlt : k.toNat < vs.length := by omega
 have hb := hv _ (List.getElem_mem hlt)
 unfold varB at hb
 simp only [Bool.and_eq_true] at hb
 unfold nameAt
 rw [List.getElem?_eq_getElem hlt]
 exact hn _ hb.1
theorem v5_val {nm : ByteArray → Bool} (hn : ∀ y, nm y = true → nameB1 y = true) {x : ByteArray} {vs : List U.Vr} {on : List (List U.St)} {wi pa : Int} (h : v5 nm x vs on wi pa = true) : valPM x vs on wi pa = true := by
 unfold v5 at h
 simp only [Bool.and_eq_true, Bool.or_eq_true, decide_eq_true_eq] at h
 obtain ⟨⟨h1, h2, h3⟩, h4, h5, h6, h7, h8⟩ := h
 have hv := okVars_mem h4
 have hw := uses_name hn hv h7
 have hp : pa = -1 ∨ nameB1 (nameAt vs pa) = true := h8.imp id (uses_name hn hv)
 have e1 : inB wi vs.length = true := by unfold usesB at h7; simp only [Bool.and_eq_true] at h7; simp only [inB, h7.1, h7.2.1, Bool.and_self]
 have e2 : (decide (pa = -1) || inB pa vs.length) = true := by
  rcases h8 with h8 | h8
  ·simp [h8]
  ·unfold usesB at h8; simp only [Bool.and_eq_true] at h8; simp only [inB, h8.1, h8.2.1, Bool.and_self, Bool.or_true]
 have e3 : validN (declNd x vs wi pa) = true := by
  unfold validN
  rw [decide_eq_true (spare_decl x vs wi pa h3), Bool.true_and]
  have ep : plainB (declNd x vs wi pa) 1 = true := by simp [plainB, declNd, Nd.kind, Nd.name, Nd.n, Nd.unit, ba_nil]
  rw [ep, Bool.true_and]
  show (vItem _ && true) = true
  rw [Bool.and_true]
  unfold vItem
  have := vProg_decl hn hv (wi := wi) (pa := pa) hw hp
  simp [namedB, Nd.kind, Nd.name, Nd.n, Nd.unit, Nd.kids, hn _ h1, this]
 have e4 : okE (progM [] (.mk 6 x 0 0 0 (declKids vs wi pa)) (useNd 0 (nameAt vs wi)) (usesM vs pa) (vs.map vNd)) = true := by
  have g1 := vsM_ok h4 h3 vs [] rfl
  have g2 := useM_ok h4 (n := 0) h7
  have g3 : paM vs (usesM vs pa) = .ok pa := by
   unfold usesM
   by_cases hq : pa = -1
   ·rw [if_pos hq, hq]; rfl
   ·rw [if_neg hq]
    exact useM_ok h4 (n := 1) (h8.resolve_left hq)
  unfold progM
  simp only [List.any_nil, Bool.false_eq_true, if_false, List.length_nil]
  rw [if_pos (by decide)]
  simp only [List.map_nil] at g1
  rw [g1]
  simp only
  rw [g2]
  simp only
  rw [g3]
  rfl
 unfold valPM declB
 rw [h6, e1, e2, e3, e4]
 rfl
end C
end Go.Proofs.YtamfgjinfcknfaaGreatDoor
