/- Slices and arrays of bytes that come in as arguments, opened from their reading. -/
import Derived.Test.YtmofclpheioepaaDoorUyA
import Derived.Test.YtmofclpheioepaaDoorUxR
import Derived.OpenShut
import Derived.WideShapes
namespace Go.Proofs.YtmofclpheioepaaDoor
open Go.RowKit
set_option linter.unusedVariables false
set_option linter.unusedSimpArgs false

theorem cellsU8 : Tryd.prog.cellsOf 5 = 1 := by kernel_rfl
theorem cellsIn : Tryd.prog.cellsOf 45 = 4 := by kernel_rfl
theorem u8_wf {n : Int} (h : (Lit.int .u8 n).wf = true) : u8 n := by
  simp [Lit.wf, IntKind.min, IntKind.max, IntKind.signed, IntKind.bits] at h
  exact ⟨by omega, by omega⟩
theorem spot_none1 {w : World} {a : Addr} {v : Value} (h : w.cell? ((a.add (0 * 1)).add 0) = some v) : a.spot = none := by
  have := World.cell?_spot h
  simpa [Addr.add] using this
section
variable {H : Type} {enc : TypeId × Value → H} {W : World}
theorem open_bys (fuel : Nat) (cs : List Value) (x : DataW H × List MemPlace) (h : DataW.trod enc Tryd.prog W 0 (fun _ => true) true fuel 44 cs = some x) :
    ∃ (l : List Int) (A : Option Addr) (m : Nat), cs = [.slice A l.length m] ∧ BysR W l A ∧ l.length ≤ maxLen ∧ ∀ b ∈ l, u8 b := by
  rcases DataW.trod_slice Tryd.underlying44 h with ⟨e3, -⟩ | ⟨ad, len, cap, elems, rest, m, hm, e3, -, -, hlc, hcap, hel, hall, -, -⟩
  · exact ⟨[], none, 0, e3, .inl rfl, Nat.zero_le _, fun b hb => by cases hb⟩
  · have hraw : ∀ i, i < len → ∃ b : Int, W.cell? ((ad.add (i * 1)).add 0) = some (.int .u8 b) ∧ u8 b := by
      intro i hi
      have hb := hall i hi
      rw [List.getElem?_eq_getElem (by omega), cellsU8] at hb
      obtain ⟨cs', hc', ht'⟩ := Option.bind_eq_some_iff.1 hb
      obtain ⟨b, rfl, -, hw⟩ := DataW.trod_int Tryd.underlying5 ht'
      obtain ⟨-, -, hcell⟩ := World.cells?_some hc'
      exact ⟨b, hcell 0 (by omega), u8_wf hw⟩
    by_cases h0 : len = 0
    · subst h0
      exact ⟨[], some ad, cap, e3, .inl rfl, Nat.zero_le _, fun b hb => by cases hb⟩
    · obtain ⟨_, hk0, -⟩ := hraw 0 (by omega)
      have hsp := spot_none1 hk0
      obtain ⟨g, o, sp⟩ := ad
      simp only at hsp
      subst hsp
      have hadd : ∀ p q : Nat, ((⟨g, o, none⟩ : Addr).add p).add q = ⟨g, o + p + q, none⟩ := fun p q => by rw [Go.WideShapes.add_plain, Go.WideShapes.add_plain]
      have hone : ∀ i, i < len → ∃ b, W.cell? ⟨g, o + i, none⟩ = some (.int .u8 b) ∧ u8 b := by
        intro i hi
        obtain ⟨b, k0, hb⟩ := hraw i hi
        rw [hadd] at k0
        exact ⟨b, by simpa using k0, hb⟩
      have hch : ∃ f : Nat → Int, ∀ i, i < len → W.cell? ⟨g, o + i, none⟩ = some (.int .u8 (f i)) ∧ u8 (f i) := by
        classical
        refine ⟨fun i => if hi : i < len then Classical.choose (hone i hi) else 0, fun i hi => ?_⟩
        simp only [dif_pos hi]
        exact Classical.choose_spec (hone i hi)
      obtain ⟨f, hfv⟩ := hch
      refine ⟨(List.range len).map f, some ⟨g, o, none⟩, cap, by simpa using e3, .inr ⟨g, o, rfl, fun i v hv => ?_⟩, by simp; omega, fun b hb => ?_⟩
      · simp only [List.getElem?_map, Option.map_eq_some_iff] at hv
        obtain ⟨j, hj, rfl⟩ := hv
        obtain ⟨hlt, rfl⟩ : i < len ∧ i = j := by
          rw [List.getElem?_eq_some_iff] at hj
          obtain ⟨h1, h2⟩ := hj
          simp at h1 h2
          exact ⟨h1, h2⟩
        exact hfv i hlt
      · obtain ⟨j, hj, rfl⟩ := List.mem_map.1 hb
        exact (hfv j (by simpa using hj)).2
theorem open_in (fuel : Nat) (cs : List Value) (x : DataW H × List MemPlace) (h : DataW.trod enc Tryd.prog W 0 (fun _ => true) true fuel 45 cs = some x) :
    ∃ i : Inp, cs = (inArr i).toList ∧ i.ok := by
  obtain ⟨xs, m, rfl, -, hl, hlen, hf⟩ := DataW.trod_array Tryd.underlying45 h
  rw [cellsIn] at hl
  simp only [cellsU8] at hf
  match cs, hl with
  | [c0, c1, c2, c3], _ =>
    match xs, hlen with
    | [y0, y1, y2, y3], _ =>
      have g0 := hf 0 (by decide)
      have g1 := hf 1 (by decide)
      have g2 := hf 2 (by decide)
      have g3 := hf 3 (by decide)
      simp at g0 g1 g2 g3
      obtain ⟨b0, e0, -, w0⟩ := DataW.trod_int Tryd.underlying5 g0
      obtain ⟨b1, e1, -, w1⟩ := DataW.trod_int Tryd.underlying5 g1
      obtain ⟨b2, e2, -, w2⟩ := DataW.trod_int Tryd.underlying5 g2
      obtain ⟨b3, e3, -, w3⟩ := DataW.trod_int Tryd.underlying5 g3
      simp only [List.cons.injEq, and_true] at e0 e1 e2 e3
      subst e0 e1 e2 e3
      exact ⟨⟨b0, b1, b2, b3⟩, rfl, u8_wf w0, u8_wf w1, u8_wf w2, u8_wf w3⟩
end
theorem okWide_arr {P : Program} {w : World} {r : Reach} {base : Nat} {t : TypeId} {v : Value} {n : Nat} {e : TypeId} (ht : P.underlying t = some (.array n e)) (h : Value.okWide P w r base t v) : ∃ cs, v = .agg cs ∧ cs.size = P.cellsOf t := by
  simp only [Value.okWide, ht] at h
  obtain ⟨cs, h1, h2, _⟩ := h
  exact ⟨cs, h1, h2⟩
end Go.Proofs.YtmofclpheioepaaDoor
