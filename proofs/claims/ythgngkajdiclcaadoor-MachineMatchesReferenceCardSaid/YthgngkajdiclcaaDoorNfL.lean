/- What the laid package-level variables give the contracts of law package 10. -/
import Derived.Test.YthgngkajdiclcaaDoorNfO
import Derived.Stop.LaidErr
namespace Go.Proofs.YthgngkajdiclcaaDoor
open Go.RowKit Go.ChangeShapes Go.WideShapes
set_option linter.unusedVariables false
set_option linter.unusedSimpArgs false
namespace N
open K
theorem gM : Tryd.prog.globalNamed "queuelab/machine.inputs" = some 0 := by kernel_rfl
theorem gMT : (Tryd.prog.globals[0]?).map (·.type) = some 76 := by kernel_rfl
theorem gF : Tryd.prog.globalNamed "queuelab/code.effects" = some 1 := by kernel_rfl
theorem gFT : (Tryd.prog.globals[1]?).map (·.type) = some 83 := by kernel_rfl
theorem cellsSp2 : Tryd.prog.cellsOf 75 = 2 := by kernel_rfl
theorem cellsEf2 : Tryd.prog.cellsOf 82 = 2 := by kernel_rfl
section
variable {H : Type} {enc : TypeId × Value → H} {W : World} {sp : Nat → Bool} {held : Bool}
theorem int_of {fuel : Nat} {cs : List Value} {y : DataW H × List MemPlace} {a : Int} (h : DataW.trod enc Tryd.prog W 0 sp held fuel 3 cs = some y) (hy : y.1 = .lit (.int .i64 a)) : cs = [.int .i64 a] := by
  obtain ⟨n, e, hx, -⟩ := DataW.trod_int Tryd.underlying3 h
  rw [hx] at hy
  simp at hy
  rw [e, hy]
set_option maxRecDepth 100000 in
theorem span_of {fuel : Nat} {cs : List Value} {y : DataW H × List MemPlace} {a b : Int} (h : DataW.trod enc Tryd.prog W 0 sp held fuel 75 cs = some y) (hy : y.1 = .agg [.lit (.int .i64 a), .lit (.int .i64 b)]) : cs = [.int .i64 a, .int .i64 b] := by
  obtain ⟨xs, n, rfl, hx, hl, hlen, hf⟩ := DataW.trod_struct Tryd.underlying75 h
  rw [cellsSp2] at hl
  rw [hx] at hy
  match cs, hl with
  | [c0, c1], _ =>
    match xs, hlen with
    | [y0, y1], _ =>
      simp at hy
      obtain ⟨e0, e1⟩ := hy
      have h0 := hf 0 _ rfl
      have h1 := hf 1 _ rfl
      simp [cellsOne] at h0 h1
      have k0 := int_of h0 e0
      have k1 := int_of h1 e1
      simp at k0 k1
      rw [k0, k1]
set_option maxRecDepth 100000 in
theorem eff_of {fuel : Nat} {cs : List Value} {y : DataW H × List MemPlace} {a b : Int} (h : DataW.trod enc Tryd.prog W 0 sp held fuel 82 cs = some y) (hy : y.1 = .agg [.lit (.int .i64 a), .lit (.int .i64 b)]) : cs = [.int .i64 a, .int .i64 b] := by
  obtain ⟨xs, n, rfl, hx, hl, hlen, hf⟩ := DataW.trod_struct Tryd.underlying82 h
  rw [cellsEf2] at hl
  rw [hx] at hy
  match cs, hl with
  | [c0, c1], _ =>
    match xs, hlen with
    | [y0, y1], _ =>
      simp at hy
      obtain ⟨e0, e1⟩ := hy
      have h0 := hf 0 _ rfl
      have h1 := hf 1 _ rfl
      simp [cellsOne] at h0 h1
      have k0 := int_of h0 e0
      have k1 := int_of h1 e1
      simp at k0 k1
      rw [k0, k1]
end
theorem take2 {cs : Array Value} {i : Nat} {a b : Value} (h : (cs.toList.drop (i * 2)).take 2 = [a, b]) : cs[i * 2]? = some a ∧ cs[i * 2 + 1]? = some b := by
  have e : ∀ j, j < 2 → cs[i * 2 + j]? = ([a, b] : List Value)[j]? := fun j hj => by
    rw [← h, List.getElem?_take_of_lt hj, List.getElem?_drop]
    simp
  exact ⟨e 0 (by decide), e 1 (by decide)⟩
set_option maxRecDepth 100000 in
theorem inputs_laid {W : World} {r : List (String × DataW Unit)} (h : laidMet Tryd.prog (("queuelab/machine.inputs", Rows.laid_queuelab_machine_inputs) :: r) W) : LaidI W := by
  obtain ⟨ps, ⟨g', t', cs, fuel, p, q, hg', ht', hvar, hd, _, _⟩, _⟩ := h
  obtain rfl := Option.some.inj (gM.symm.trans hg')
  obtain rfl := Option.some.inj (gMT.symm.trans ht')
  obtain ⟨xs, m, rfl, hx, hl, hlen, hf⟩ := DataW.trod_array Tryd.underlying76 hd
  simp only [cellsSp2] at hf
  match xs, hlen with
  | [y0, y1, y2, y3], _ =>
    simp [Rows.laid_queuelab_machine_inputs] at hx
    obtain ⟨⟨e0, e1, e2, e3⟩, -⟩ := hx
    have r0 := take2 (i := 0) (span_of (by simpa using hf 0 (by decide)) e0.symm)
    have r1 := take2 (i := 1) (span_of (by simpa using hf 1 (by decide)) e1.symm)
    have r2 := take2 (i := 2) (span_of (by simpa using hf 2 (by decide)) e2.symm)
    have r3 := take2 (i := 3) (span_of (by simpa using hf 3 (by decide)) e3.symm)
    have hc : ∀ i, W.cell? ⟨0, i, none⟩ = cs[i]? := fun i => by simpa using World.var?_cell gM hvar i
    intro k s hs
    rw [hc, hc]
    match k, hs with
    | 0, hs => cases hs; exact r0
    | 1, hs => cases hs; exact r1
    | 2, hs => cases hs; exact r2
    | 3, hs => cases hs; exact r3
    | k + 4, hs => simp [insR] at hs
set_option maxRecDepth 100000 in
theorem effects_laid {W : World} {r : List (String × DataW Unit)} (h : laidMet Tryd.prog (("queuelab/code.effects", Rows.laid_queuelab_code_effects) :: r) W) : LaidE W := by
  obtain ⟨ps, ⟨g', t', cs, fuel, p, q, hg', ht', hvar, hd, _, _⟩, _⟩ := h
  obtain rfl := Option.some.inj (gF.symm.trans hg')
  obtain rfl := Option.some.inj (gFT.symm.trans ht')
  obtain ⟨xs, m, rfl, hx, hl, hlen, hf⟩ := DataW.trod_array Tryd.underlying83 hd
  simp only [cellsEf2] at hf
  match xs, hlen with
  | [y0, y1, y2, y3, y4, y5, y6, y7, y8, y9, y10, y11, y12, y13], _ =>
    simp [Rows.laid_queuelab_code_effects] at hx
    obtain ⟨⟨e0, e1, e2, e3, e4, e5, e6, e7, e8, e9, e10, e11, e12, e13⟩, -⟩ := hx
    have r0 := take2 (i := 0) (eff_of (by simpa using hf 0 (by decide)) e0.symm)
    have r1 := take2 (i := 1) (eff_of (by simpa using hf 1 (by decide)) e1.symm)
    have r2 := take2 (i := 2) (eff_of (by simpa using hf 2 (by decide)) e2.symm)
    have r3 := take2 (i := 3) (eff_of (by simpa using hf 3 (by decide)) e3.symm)
    have r4 := take2 (i := 4) (eff_of (by simpa using hf 4 (by decide)) e4.symm)
    have r5 := take2 (i := 5) (eff_of (by simpa using hf 5 (by decide)) e5.symm)
    have r6 := take2 (i := 6) (eff_of (by simpa using hf 6 (by decide)) e6.symm)
    have r7 := take2 (i := 7) (eff_of (by simpa using hf 7 (by decide)) e7.symm)
    have r8 := take2 (i := 8) (eff_of (by simpa using hf 8 (by decide)) e8.symm)
    have r9 := take2 (i := 9) (eff_of (by simpa using hf 9 (by decide)) e9.symm)
    have r10 := take2 (i := 10) (eff_of (by simpa using hf 10 (by decide)) e10.symm)
    have r11 := take2 (i := 11) (eff_of (by simpa using hf 11 (by decide)) e11.symm)
    have r12 := take2 (i := 12) (eff_of (by simpa using hf 12 (by decide)) e12.symm)
    have r13 := take2 (i := 13) (eff_of (by simpa using hf 13 (by decide)) e13.symm)
    have hc : ∀ i, W.cell? ⟨1, i, none⟩ = cs[i]? := fun i => by simpa using World.var?_cell gF hvar i
    intro k h1 h2
    rw [hc, hc]
    match k, h1, h2 with
    | 1, _, _ => exact r1
    | 2, _, _ => exact r2
    | 3, _, _ => exact r3
    | 4, _, _ => exact r4
    | 5, _, _ => exact r5
    | 6, _, _ => exact r6
    | 7, _, _ => exact r7
    | 8, _, _ => exact r8
    | 9, _, _ => exact r9
    | 10, _, _ => exact r10
    | 11, _, _ => exact r11
    | 12, _, _ => exact r12
    | 13, _, _ => exact r13
theorem of_laidN {W : World} (h : laidMetH Tryd.prog Rows.machineAloneRow.laid W) : LaidE W ∧ LaidI W := by
  rw [MakeChecks.laidMetH_plain _ _ _ (by kernel_rfl)] at h
  exact ⟨effects_laid h, inputs_laid (laidMet.tail h)⟩
end N
end Go.Proofs.YthgngkajdiclcaaDoor
