/- Texts of one proof: VxV. -/
import Derived.Test.YtdlebaiamdbneaaGreatDoorYq
import Derived.Test.YtdlebaiamdbneaaGreatDoorRows
import Derived.OpenShut
import Derived.ChangeArms
import Derived.ChangeSame
import Derived.Lib.LaidTab
import Derived.Stop.LaidErr
import Derived.MakeChecks
import Derived.LaidMore
set_option linter.unusedVariables false
set_option linter.unusedSimpArgs false
set_option maxRecDepth 100000
set_option maxHeartbeats 8000000
namespace Go.Proofs.YtdlebaiamdbneaaGreatDoor
open Go.RowKit Go.ChangeShapes Go.WideShapes
namespace L8
open U (PwAt)
theorem gClasses : Tryz.prog.globalNamed "queuelab/lexer.classes" = some 3 := by kernel_rfl
theorem gClassesT : (Tryz.prog.globals[3]?).map (·.type) = some 173 := by kernel_rfl
theorem cellsArr : Tryz.prog.cellsOf 173 = 128 := by kernel_rfl
theorem cellsCls : Tryz.prog.cellsOf 166 = 1 := by kernel_rfl
theorem gES : Tryz.prog.globalNamed "strconv.ErrSyntax" = some 6 := by kernel_rfl
theorem gEST : (Tryz.prog.globals[6]?).map (·.type) = some 175 := by kernel_rfl
theorem gER : Tryz.prog.globalNamed "strconv.ErrRange" = some 7 := by kernel_rfl
theorem gERT : (Tryz.prog.globals[7]?).map (·.type) = some 175 := by kernel_rfl
theorem cellsES : Tryz.prog.cellsOf 201 = 1 := by kernel_rfl
theorem cellsStr : Tryz.prog.cellsOf 9 = 1 := by kernel_rfl
theorem starES : "*" ++ "errors.errorString" = "*errors.errorString" := by decide
theorem rowES (u : TypeId) (h : Tryz.prog.typeName? 3 u = some "*errors.errorString") : u = 199 :=
 typeName_ptr_named (nm := "errors.errorString") (by rw [starES]; kernel_rfl) (by kernel_rfl) (by decide) u (by rw [starES]; exact h)
theorem gLast : Tryz.prog.globalNamed "math/bits.deBruijn64tab" = some 10 := by kernel_rfl
theorem gLastT : (Tryz.prog.globals[10]?).map (·.type) = some 215 := by kernel_rfl
theorem cells64 : Tryz.prog.cellsOf 215 = 64 := by kernel_rfl
theorem cellsU8 : Tryz.prog.cellsOf 5 = 1 := by kernel_rfl
theorem gK : Tryz.prog.globalNamed "queuelab/units.kinds" = some 1 := by kernel_rfl
theorem gKT : (Tryz.prog.globals[1]?).map (·.type) = some 121 := by kernel_rfl
theorem gI : Tryz.prog.globalNamed "queuelab/units.inputs" = some 2 := by kernel_rfl
theorem gIT : (Tryz.prog.globals[2]?).map (·.type) = some 28 := by kernel_rfl
theorem cellsI4 : Tryz.prog.cellsOf 28 = 4 := by kernel_rfl
theorem cellsInt : Tryz.prog.cellsOf 3 = 1 := by kernel_rfl
theorem cellsP3 : Tryz.prog.cellsOf 120 = 3 := by kernel_rfl
section
variable {H : Type} {enc : TypeId × Value → H} {W : World} {sp : Nat → Bool} {held : Bool}
theorem int_of {fuel : Nat} {cs : List Value} {y : DataW H × List MemPlace} {a : Int} (h : DataW.trod enc Tryz.prog W 0 sp held fuel 3 cs = some y) (hy : y.1 = .lit (.int .i64 a)) : cs = [.int .i64 a] := by
 obtain ⟨n, e, hx, -⟩ := DataW.trod_int Tryz.underlying3 h
 rw [hx] at hy
 simp at hy
 rw [e, hy]
theorem row_of {fuel : Nat} {cs : List Value} {y : DataW H × List MemPlace} {a b c : Int} (h : DataW.trod enc Tryz.prog W 0 sp held fuel 120 cs = some y) (hy : y.1 = .agg [.lit (.int .i64 a), .lit (.int .i64 b), .lit (.int .i64 c)]) : cs = [.int .i64 a, .int .i64 b, .int .i64 c] := by
 obtain ⟨xs, m, rfl, hx, hl, hlen, hf⟩ := DataW.trod_array Tryz.underlying120 h
 rw [cellsP3] at hl
 rw [hx] at hy
 simp only [cellsInt] at hf
 match cs, hl with
 | [c0, c1, c2], _ =>
  match xs, hlen with
  | [y0, y1, y2], _ =>
   simp at hy
   obtain ⟨e0, e1, e2⟩ := hy
   have h0 := int_of (by simpa using hf 0 (by decide)) e0
   have h1 := int_of (by simpa using hf 1 (by decide)) e1
   have h2 := int_of (by simpa using hf 2 (by decide)) e2
   simp at h0 h1 h2
   rw [h0, h1, h2]
end
theorem take3 {cs : Array Value} {i : Nat} {a b c : Value} (h : (cs.toList.drop (i * 3)).take 3 = [a, b, c]) : cs[i * 3]? = some a ∧ cs[i * 3 + 1]? = some b ∧ cs[i * 3 + 2]? = some c := by
 have e : ∀ j, j < 3 → cs[i * 3 + j]? = ([a, b, c] : List Value)[j]? := fun j hj => by
  rw [← h, List.getElem?_take_of_lt hj, List.getElem?_drop]
  simp
 exact ⟨e 0 (by decide), e 1 (by decide), e 2 (by decide)⟩
theorem gM : Tryz.prog.globalNamed "queuelab/meaning.inputs" = some 0 := by kernel_rfl
theorem gMT : (Tryz.prog.globals[0]?).map (·.type) = some 87 := by kernel_rfl
theorem cellsSp2 : Tryz.prog.cellsOf 86 = 2 := by kernel_rfl
section
variable {H : Type} {enc : TypeId × Value → H} {W : World} {sp : Nat → Bool} {held : Bool}
theorem span_of {fuel : Nat} {cs : List Value} {y : DataW H × List MemPlace} {a b : Int} (h : DataW.trod enc Tryz.prog W 0 sp held fuel 86 cs = some y) (hy : y.1 = .agg [.lit (.int .i64 a), .lit (.int .i64 b)]) : cs = [.int .i64 a, .int .i64 b] := by
 obtain ⟨xs, n, rfl, hx, hl, hlen, hf⟩ := DataW.trod_struct Tryz.underlying86 h
 rw [cellsSp2] at hl
 rw [hx] at hy
 match cs, hl with
 | [c0, c1], _ =>
  match xs, hlen with
  | [y0, y1], _ =>
   simp at hy
   obtain ⟨e0, e1⟩ := hy
   have h0 := hf 0 _ rfl
   have h1 := hf 1 _ rfl
   simp [cellsInt] at h0 h1
   have k0 := int_of h0 e0
   have k1 := int_of h1 e1
   simp at k0 k1
   rw [k0, k1]
end
theorem take2 {cs : Array Value} {i : Nat} {a b : Value} (h : (cs.toList.drop (i * 2)).take 2 = [a, b]) : cs[i * 2]? = some a ∧ cs[i * 2 + 1]? = some b := by
 have e : ∀ j, j < 2 → cs[i * 2 + j]? = ([a, b] : List Value)[j]? := fun j hj => by
  rw [← h, List.getElem?_take_of_lt hj, List.getElem?_drop]
  simp
 exact ⟨e 0 (by decide), e 1 (by decide)⟩
theorem lexer_laid {W : World} {r : List (String × DataW Unit)} (h : laidMet Tryz.prog (("math/bits.deBruijn32tab", Rows.laid_math_bits_deBruijn32tab) :: ("math/bits.deBruijn64tab", Rows.laid_math_bits_deBruijn64tab) :: ("internal/strconv.uint64pow10", Rows.laid_internal_strconv_uint64pow10) :: ("strconv.ErrRange", Rows.laid_strconv_ErrRange) :: ("strconv.ErrSyntax", Rows.laid_strconv_ErrSyntax) :: ("queuelab/lexer.classes", Rows.laid_queuelab_lexer_classes) :: r) W) : LaidW W ∧ 7 < W.heap.size := by
 have h2 := laidMet.tail h
 have h3 := laidMet.tail h2
 have h4 := laidMet.tail h3
 have h5 := laidMet.tail h4
 have h6 := laidMet.tail h5
 obtain ⟨a0, s0, hv0, -, -, -⟩ := laid_sentinel h4 gER gERT Tryz.underlying175 rowES Tryz.underlying199 Tryz.underlying201 rfl rfl Tryz.underlying9 cellsES cellsStr
 obtain ⟨a1, s1, hv1, -, -, -⟩ := laid_sentinel h5 gES gEST Tryz.underlying175 rowES Tryz.underlying199 Tryz.underlying201 rfl rfl Tryz.underlying9 cellsES cellsStr
 have ht : Lib.TabIs Tryz.prog W "queuelab/lexer.classes" .u8 clsTab :=
  Lib.tabIs_of_head (rest := r) gClasses gClassesT Tryz.underlying173 Tryz.underlying166 cellsCls cellsArr h6
 have hl := Lib.tabIs_of_head (zs := [0, 1, 56, 2, 57, 49, 28, 3, 61, 58, 42, 50, 38, 29, 17, 4, 62, 47, 59, 36, 45, 43, 51, 22, 53, 39, 33, 30, 24, 18, 12, 5, 63, 55, 48, 27, 60, 41, 37, 16, 46, 35, 44, 21, 52, 32, 23, 11, 54, 26, 40, 15, 34, 20, 31, 10, 25, 14, 19, 9, 13, 8, 7, 6]) gLast gLastT Tryz.underlying215 Tryz.underlying5 cellsU8 cells64 h2
 have hpos : ∀ i, i < 128 → clsTab.getD i 0 = ((cls i : Nat) : Int) := by decide +kernel
 refine ⟨⟨fun i hi => ?_, ⟨199, .pointer (some a1), ?_⟩, ⟨199, .pointer (some a0), ?_⟩⟩, ?_⟩
 ·have := ht.cell gClasses i hi
  rw [this, hpos i hi]
 ·have := World.var?_cell gES hv1 0
  simpa using this
 ·have := World.var?_cell gER hv0 0
  simpa using this
 ·have := hl.cell gLast 0 (by decide)
  exact Nat.lt_of_le_of_lt (by decide) (World.block_lt_of_cell? W _ this)
theorem units_laid {W : World} {r : List (String × DataW Unit)} (h : laidMet Tryz.prog (("queuelab/units.kinds", Rows.laid_queuelab_units_kinds) :: ("queuelab/units.inputs", Rows.laid_queuelab_units_inputs) :: r) W) : U.LaidW W := by
 have h2 := laidMet.tail h
 have hin := Lib.tabIs_of_head (zs := [1, 3, 2, 1]) gI gIT Tryz.underlying28 Tryz.underlying3 cellsInt cellsI4 h2
 obtain ⟨ps, ⟨g', t', cs, fuel, p, q, hg', ht', hvar, hd, _, _⟩, _⟩ := h
 obtain rfl := Option.some.inj (gK.symm.trans hg')
 obtain rfl := Option.some.inj (gKT.symm.trans ht')
 obtain ⟨xs, m, rfl, hx, hl, hlen, hf⟩ := DataW.trod_array Tryz.underlying121 hd
 simp only [cellsP3] at hf
 match xs, hlen with
 | [y0, y1, y2, y3, y4], _ =>
  simp [Rows.laid_queuelab_units_kinds] at hx
  obtain ⟨⟨e0, e1, e2, e3, e4⟩, -⟩ := hx
  have r0 := take3 (i := 0) (row_of (by simpa using hf 0 (by decide)) e0.symm)
  have r1 := take3 (i := 1) (row_of (by simpa using hf 1 (by decide)) e1.symm)
  have r2 := take3 (i := 2) (row_of (by simpa using hf 2 (by decide)) e2.symm)
  have r3 := take3 (i := 3) (row_of (by simpa using hf 3 (by decide)) e3.symm)
  have r4 := take3 (i := 4) (row_of (by simpa using hf 4 (by decide)) e4.symm)
  have hc : ∀ i, W.cell? ⟨1, i, none⟩ = cs[i]? := fun i => by simpa using World.var?_cell gK hvar i
  refine ⟨fun k hk => ?_, fun k hk => ?_⟩
  ·unfold PwAt
   rw [hc, hc, hc]
   match k, hk with
   | 0, _ => exact r0
   | 1, _ => exact r1
   | 2, _ => exact r2
   | 3, _ => exact r3
   | 4, _ => exact r4
  ·have := hin.cell gI k hk
   rw [this]
   match k, hk with
   | 0, _ => rfl
   | 1, _ => rfl
   | 2, _ => rfl
   | 3, _ => rfl
theorem inputs_laid {W : World} {r : List (String × DataW Unit)} (h : laidMet Tryz.prog (("queuelab/meaning.inputs", Rows.laid_queuelab_meaning_inputs) :: r) W) : M.LaidI W := by
 obtain ⟨ps, ⟨g', t', cs, fuel, p, q, hg', ht', hvar, hd, _, _⟩, _⟩ := h
 obtain rfl := Option.some.inj (gM.symm.trans hg')
 obtain rfl := Option.some.inj (gMT.symm.trans ht')
 obtain ⟨xs, m, rfl, hx, hl, hlen, hf⟩ := DataW.trod_array Tryz.underlying87 hd
 simp only [cellsSp2] at hf
 match xs, hlen with
 | [y0, y1, y2, y3], _ =>
  simp [Rows.laid_queuelab_meaning_inputs] at hx
  obtain ⟨⟨e0, e1, e2, e3⟩, -⟩ := hx
  have r0 := take2 (i := 0) (span_of (by simpa using hf 0 (by decide)) e0.symm)
  have r1 := take2 (i := 1) (span_of (by simpa using hf 1 (by decide)) e1.symm)
  have r2 := take2 (i := 2) (span_of (by simpa using hf 2 (by decide)) e2.symm)
  have r3 := take2 (i := 3) (span_of (by simpa using hf 3 (by decide)) e3.symm)
  have hc : ∀ i, W.cell? ⟨0, i, none⟩ = cs[i]? := fun i => by simpa using World.var?_cell gM hvar i
  intro k s hs
  rw [hc, hc]
  match k, hs with
  | 0, hs => cases hs; exact r0
  | 1, hs => cases hs; exact r1
  | 2, hs => cases hs; exact r2
  | 3, hs => cases hs; exact r3
  | k + 4, hs => simp [R.insR] at hs
theorem of_laidM {W : World} (h : laidMetH Tryz.prog Rows.meaningStatesRow.laid W) : M.LaidM W := by
 rw [MakeChecks.laidMetH_plain _ _ _ (by kernel_rfl)] at h
 have h7 := laidMet.tail (laidMet.tail (laidMet.tail (laidMet.tail (laidMet.tail (laidMet.tail h)))))
 have h11 := laidMet.tail (laidMet.tail (laidMet.tail (laidMet.tail h7)))
 obtain ⟨a, b⟩ := lexer_laid h
 exact ⟨a, b, units_laid h7, inputs_laid h11⟩
end L8
end Go.Proofs.YtdlebaiamdbneaaGreatDoor
