/- What the laid package-level variables give the contracts: the units of the kinds, the kinds of the inputs. -/
import Derived.Test.YtmofclpheioepaaDoorUxC
import Derived.OpenShut
import Derived.ChangeArms
import Derived.Lib.LaidTab
import Derived.Stop.LaidErr
import Derived.MakeChecks
import Derived.LaidMore
namespace Go.Proofs.YtmofclpheioepaaDoor
open Go.RowKit Go.ChangeShapes Go.WideShapes
set_option linter.unusedVariables false
set_option linter.unusedSimpArgs false

theorem gK : Tryd.prog.globalNamed "queuelab/units.kinds" = some 0 := by kernel_rfl
theorem gKT : (Tryd.prog.globals[0]?).map (·.type) = some 75 := by kernel_rfl
theorem gI : Tryd.prog.globalNamed "queuelab/units.inputs" = some 1 := by kernel_rfl
theorem gIT : (Tryd.prog.globals[1]?).map (·.type) = some 82 := by kernel_rfl
theorem cellsI4 : Tryd.prog.cellsOf 82 = 4 := by kernel_rfl
theorem cellsInt : Tryd.prog.cellsOf 3 = 1 := by kernel_rfl
theorem cellsP3 : Tryd.prog.cellsOf 67 = 3 := by kernel_rfl
theorem cellsK15 : Tryd.prog.cellsOf 75 = 15 := by kernel_rfl
section
variable {H : Type} {enc : TypeId × Value → H} {W : World} {sp : Nat → Bool} {held : Bool}
theorem int_of {fuel : Nat} {cs : List Value} {y : DataW H × List MemPlace} {a : Int} (h : DataW.trod enc Tryd.prog W 0 sp held fuel 3 cs = some y) (hy : y.1 = .lit (.int .i64 a)) : cs = [.int .i64 a] := by
  obtain ⟨n, e, hx, -⟩ := DataW.trod_int Tryd.underlying3 h
  rw [hx] at hy
  simp at hy
  rw [e, hy]
theorem row_of {fuel : Nat} {cs : List Value} {y : DataW H × List MemPlace} {a b c : Int} (h : DataW.trod enc Tryd.prog W 0 sp held fuel 67 cs = some y) (hy : y.1 = .agg [.lit (.int .i64 a), .lit (.int .i64 b), .lit (.int .i64 c)]) : cs = [.int .i64 a, .int .i64 b, .int .i64 c] := by
  obtain ⟨xs, m, rfl, hx, hl, hlen, hf⟩ := DataW.trod_array Tryd.underlying67 h
  rw [cellsP3] at hl
  rw [hx] at hy
  simp only [cellsInt] at hf
  match cs, hl with
  | [c0, c1, c2], _ =>
    match xs, hlen with
    | [y0, y1, y2], _ =>
      simp at hy
      obtain ⟨e0, e1, e2⟩ := hy
      have h0 := int_of (by simpa using hf 0 (by decide)) e0
      have h1 := int_of (by simpa using hf 1 (by decide)) e1
      have h2 := int_of (by simpa using hf 2 (by decide)) e2
      simp at h0 h1 h2
      rw [h0, h1, h2]
end
theorem take3 {cs : Array Value} {i : Nat} {a b c : Value} (h : (cs.toList.drop (i * 3)).take 3 = [a, b, c]) : cs[i * 3]? = some a ∧ cs[i * 3 + 1]? = some b ∧ cs[i * 3 + 2]? = some c := by
  have e : ∀ j, j < 3 → cs[i * 3 + j]? = ([a, b, c] : List Value)[j]? := fun j hj => by
    rw [← h, List.getElem?_take_of_lt hj, List.getElem?_drop]
    simp
  exact ⟨e 0 (by decide), e 1 (by decide), e 2 (by decide)⟩
set_option maxRecDepth 100000 in
theorem of_laid {W : World} (h : laidMetH Tryd.prog Rows.unitsOperationsRow.laid W) : LaidW W := by
  rw [MakeChecks.laidMetH_plain _ _ _ (by kernel_rfl)] at h
  have h2 := laidMet.tail h
  have hin := Lib.tabIs_of_head (zs := [1, 3, 2, 1]) gI gIT Tryd.underlying82 Tryd.underlying3 cellsInt cellsI4 h2
  obtain ⟨ps, ⟨g', t', cs, fuel, p, q, hg', ht', hvar, hd, _, _⟩, _⟩ := h
  obtain rfl := Option.some.inj (gK.symm.trans hg')
  obtain rfl := Option.some.inj (gKT.symm.trans ht')
  obtain ⟨xs, m, rfl, hx, hl, hlen, hf⟩ := DataW.trod_array Tryd.underlying75 hd
  simp only [cellsP3] at hf
  match xs, hlen with
  | [y0, y1, y2, y3, y4], _ =>
    simp [Rows.laid_queuelab_units_kinds] at hx
    obtain ⟨⟨e0, e1, e2, e3, e4⟩, -⟩ := hx
    have r0 := take3 (i := 0) (row_of (by simpa using hf 0 (by decide)) e0.symm)
    have r1 := take3 (i := 1) (row_of (by simpa using hf 1 (by decide)) e1.symm)
    have r2 := take3 (i := 2) (row_of (by simpa using hf 2 (by decide)) e2.symm)
    have r3 := take3 (i := 3) (row_of (by simpa using hf 3 (by decide)) e3.symm)
    have r4 := take3 (i := 4) (row_of (by simpa using hf 4 (by decide)) e4.symm)
    have hc : ∀ i, W.cell? ⟨0, i, none⟩ = cs[i]? := fun i => by simpa using World.var?_cell gK hvar i
    refine ⟨fun k hk => ?_, fun k hk => ?_⟩
    · unfold PwAt
      rw [hc, hc, hc]
      match k, hk with
      | 0, _ => exact r0
      | 1, _ => exact r1
      | 2, _ => exact r2
      | 3, _ => exact r3
      | 4, _ => exact r4
    · have := hin.cell gI k hk
      rw [this]
      match k, hk with
      | 0, _ => rfl
      | 1, _ => rfl
      | 2, _ => rfl
      | 3, _ => rfl
end Go.Proofs.YtmofclpheioepaaDoor
