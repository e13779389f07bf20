/- Texts of one proof: VxP. -/
import Derived.Test.YtdlebaiamdbneaaGreatDoorYq
import Derived.Test.YtdlebaiamdbneaaGreatDoorZw
import Derived.OpenShut
set_option linter.unusedVariables false
set_option linter.unusedSimpArgs false
set_option maxRecDepth 100000
set_option maxHeartbeats 8000000
namespace Go.Proofs.YtdlebaiamdbneaaGreatDoor
open Go.RowKit
namespace M
open I
theorem cellsIn4 : Tryz.prog.cellsOf 28 = 4 := by kernel_rfl
theorem cellsOne : Tryz.prog.cellsOf 3 = 1 := by kernel_rfl
theorem cellsCl : Tryz.prog.cellsOf 30 = 5 := by kernel_rfl
theorem spot_none0 {w : World} {a : Addr} {v : Value} (h : w.cell? ((a.add (0 * 1)).add 0) = some v) : a.spot = none := by
 have := World.cell?_spot h
 simpa [Addr.add] using this
section
variable {H : Type} {enc : TypeId × Value → H} {W : World}
theorem open_ints (fuel : Nat) (cs : List Value) (x : DataW H × List MemPlace) (h : DataW.trod enc Tryz.prog W 0 (fun _ => true) true fuel 27 cs = some x) :
  ∃ (l : List Int) (A : Option Addr) (m : Nat), cs = [.slice A l.length m] ∧ IntsR W l A ∧ l.length ≤ maxLen := by
 rcases DataW.trod_slice Tryz.underlying27 h with ⟨e3, -⟩ | ⟨ad, len, cap, elems, rest, m, hm, e3, -, -, hlc, hcap, hel, hall, -, -⟩
 ·exact ⟨[], none, 0, e3, .inl rfl, Nat.zero_le _⟩
 ·have hraw : ∀ i, i < len → ∃ b : Int, W.cell? ((ad.add (i * 1)).add 0) = some (.int .i64 b) := by
   intro i hi
   have hb := hall i hi
   rw [List.getElem?_eq_getElem (by omega), cellsOne] at hb
   obtain ⟨cs', hc', ht'⟩ := Option.bind_eq_some_iff.1 hb
   obtain ⟨b, rfl, -, hw⟩ := DataW.trod_int Tryz.underlying3 ht'
   obtain ⟨-, -, hcell⟩ := World.cells?_some hc'
   exact ⟨b, hcell 0 (by omega)⟩
  by_cases h0 : len = 0
  ·subst h0
   exact ⟨[], some ad, cap, e3, .inl rfl, Nat.zero_le _⟩
  ·obtain ⟨_, hk0⟩ := hraw 0 (by omega)
   have hsp := spot_none0 hk0
   obtain ⟨g, o, sp⟩ := ad
   simp only at hsp
   subst hsp
   have hadd : ∀ p q : Nat, ((⟨g, o, none⟩ : Addr).add p).add q = ⟨g, o + p + q, none⟩ := fun p q => by rw [Go.WideShapes.add_plain, Go.WideShapes.add_plain]
   have hone : ∀ i, i < len → ∃ b, W.cell? ⟨g, o + i, none⟩ = some (.int .i64 b) := by
    intro i hi
    obtain ⟨b, k0⟩ := hraw i hi
    rw [hadd] at k0
    exact ⟨b, by simpa using k0⟩
   have hch : ∃ f : Nat → Int, ∀ i, i < len → W.cell? ⟨g, o + i, none⟩ = some (.int .i64 (f i)) := by
    classical
    refine ⟨fun i => if hi : i < len then Classical.choose (hone i hi) else 0, fun i hi => ?_⟩
    simp only [dif_pos hi]
    exact Classical.choose_spec (hone i hi)
   obtain ⟨f, hfv⟩ := hch
   refine ⟨(List.range len).map f, some ⟨g, o, none⟩, cap, by simpa using e3, .inr ⟨g, o, rfl, fun i v hv => ?_⟩, by simp; omega⟩
   simp only [List.getElem?_map, Option.map_eq_some_iff] at hv
   obtain ⟨j, hj, rfl⟩ := hv
   obtain ⟨hlt, rfl⟩ : i < len ∧ i = j := by
    rw [List.getElem?_eq_some_iff] at hj
    obtain ⟨h1, h2⟩ := hj
    simp at h1 h2
    exact ⟨h1, h2⟩
   exact hfv i hlt
theorem open_call (fuel : Nat) (cs : List Value) (x : DataW H × List MemPlace) (h : DataW.trod enc Tryz.prog W 0 (fun _ => true) true fuel 30 cs = some x) :
  ∃ e i0 i1 i2 i3 : Int, cs = (clA e i0 i1 i2 i3).toList := by
 obtain ⟨xs, n, rfl, -, hl, hlen, hf⟩ := DataW.trod_struct Tryz.underlying30 h
 rw [cellsCl] at hl
 match cs, hl with
 | [c0, c1, c2, c3, c4], _ =>
  match xs, hlen with
  | [y0, y1], _ =>
   have h0 := hf 0 _ rfl
   have h1 := hf 1 _ rfl
   simp [cellsOne, cellsIn4] at h0 h1
   obtain ⟨e, e0, -, -⟩ := DataW.trod_int Tryz.underlying3 h0
   obtain ⟨zs, m, -, -, -, zlen, zf⟩ := DataW.trod_array Tryz.underlying28 h1
   simp only [cellsOne] at zf
   match zs, zlen with
   | [z0, z1, z2, z3], _ =>
    obtain ⟨i0, a0, -, -⟩ := DataW.trod_int Tryz.underlying3 (by simpa using zf 0 (by decide))
    obtain ⟨i1, a1, -, -⟩ := DataW.trod_int Tryz.underlying3 (by simpa using zf 1 (by decide))
    obtain ⟨i2, a2, -, -⟩ := DataW.trod_int Tryz.underlying3 (by simpa using zf 2 (by decide))
    obtain ⟨i3, a3, -, -⟩ := DataW.trod_int Tryz.underlying3 (by simpa using zf 3 (by decide))
    simp only [List.cons.injEq, and_true] at e0 a0 a1 a2 a3
    subst e0 a0 a1 a2 a3
    exact ⟨e, i0, i1, i2, i3, rfl⟩
end
end M
end Go.Proofs.YtdlebaiamdbneaaGreatDoor
