/- Texts of one proof: KxF, KzV, JCParts. -/
import Derived.Test.YtljknappbnoikaaGreatDoorYb
import Derived.Test.YtljknappbnoikaaGreatDoorRows
import Derived.OpenShut
import Derived.ChangeArms
import Derived.ChangeSame
import Derived.Lib.LaidTab
import Derived.Stop.LaidErr
import Derived.MakeChecks
import Derived.LaidMore
import Derived.Stop.Joined
import Derived.SevenTiedAt
import Derived.ProofKit
set_option linter.unusedVariables false
set_option linter.unusedSimpArgs false
set_option maxRecDepth 100000
set_option maxHeartbeats 8000000
namespace Go.Proofs.YtljknappbnoikaaGreatDoor
open Go.RowKit
namespace K
theorem u8_rg {n : Int} (h : (Lit.int .u8 n).wf = true) : 0 ≤ n ∧ n < 256 := by
 simp [Lit.wf, IntKind.min, IntKind.max, IntKind.signed, IntKind.bits] at h
 exact ⟨by omega, by omega⟩
end K
end Go.Proofs.YtljknappbnoikaaGreatDoor
namespace Go.Proofs.YtljknappbnoikaaGreatDoor
open Go.RowKit Go.ChangeShapes Go.WideShapes
namespace L8
open U (PwAt)
theorem gClasses : Tryz.prog.globalNamed "queuelab/lexer.classes" = some 4 := by kernel_rfl
theorem gClassesT : (Tryz.prog.globals[4]?).map (·.type) = some 186 := by kernel_rfl
theorem cellsArr : Tryz.prog.cellsOf 186 = 128 := by kernel_rfl
theorem cellsCls : Tryz.prog.cellsOf 181 = 1 := by kernel_rfl
theorem gES : Tryz.prog.globalNamed "strconv.ErrSyntax" = some 7 := by kernel_rfl
theorem gEST : (Tryz.prog.globals[7]?).map (·.type) = some 188 := by kernel_rfl
theorem gER : Tryz.prog.globalNamed "strconv.ErrRange" = some 8 := by kernel_rfl
theorem gERT : (Tryz.prog.globals[8]?).map (·.type) = some 188 := by kernel_rfl
theorem cellsES : Tryz.prog.cellsOf 212 = 1 := by kernel_rfl
theorem cellsStr : Tryz.prog.cellsOf 9 = 1 := by kernel_rfl
theorem starES : "*" ++ "errors.errorString" = "*errors.errorString" := by decide
theorem rowES (u : TypeId) (h : Tryz.prog.typeName? 3 u = some "*errors.errorString") : u = 210 :=
 typeName_ptr_named (nm := "errors.errorString") (by rw [starES]; kernel_rfl) (by kernel_rfl) (by decide) u (by rw [starES]; exact h)
theorem gLast : Tryz.prog.globalNamed "math/bits.deBruijn64tab" = some 11 := by kernel_rfl
theorem gLastT : (Tryz.prog.globals[11]?).map (·.type) = some 225 := by kernel_rfl
theorem cells64 : Tryz.prog.cellsOf 225 = 64 := by kernel_rfl
theorem cellsU8 : Tryz.prog.cellsOf 5 = 1 := by kernel_rfl
theorem gK : Tryz.prog.globalNamed "queuelab/units.kinds" = some 1 := by kernel_rfl
theorem gKT : (Tryz.prog.globals[1]?).map (·.type) = some 126 := by kernel_rfl
theorem gI : Tryz.prog.globalNamed "queuelab/units.inputs" = some 3 := by kernel_rfl
theorem gIT : (Tryz.prog.globals[3]?).map (·.type) = some 178 := by kernel_rfl
theorem cellsI4 : Tryz.prog.cellsOf 178 = 4 := by kernel_rfl
theorem cellsInt : Tryz.prog.cellsOf 3 = 1 := by kernel_rfl
theorem cellsP3 : Tryz.prog.cellsOf 125 = 3 := by kernel_rfl
section
variable {H : Type} {enc : TypeId × Value → H} {W : World} {sp : Nat → Bool} {held : Bool}
theorem int_of {fuel : Nat} {cs : List Value} {y : DataW H × List MemPlace} {a : Int} (h : DataW.trod enc Tryz.prog W 0 sp held fuel 3 cs = some y) (hy : y.1 = .lit (.int .i64 a)) : cs = [.int .i64 a] := by
 obtain ⟨n, e, hx, -⟩ := DataW.trod_int Tryz.underlying3 h
 rw [hx] at hy
 simp at hy
 rw [e, hy]
theorem row_of {fuel : Nat} {cs : List Value} {y : DataW H × List MemPlace} {a b c : Int} (h : DataW.trod enc Tryz.prog W 0 sp held fuel 125 cs = some y) (hy : y.1 = .agg [.lit (.int .i64 a), .lit (.int .i64 b), .lit (.int .i64 c)]) : cs = [.int .i64 a, .int .i64 b, .int .i64 c] := by
 obtain ⟨xs, m, rfl, hx, hl, hlen, hf⟩ := DataW.trod_array Tryz.underlying125 h
 rw [cellsP3] at hl
 rw [hx] at hy
 simp only [cellsInt] at hf
 match cs, hl with
 | [c0, c1, c2], _ =>
  match xs, hlen with
  | [y0, y1, y2], _ =>
   simp at hy
   obtain ⟨e0, e1, e2⟩ := hy
   have h0 := int_of (by simpa using hf 0 (by decide)) e0
   have h1 := int_of (by simpa using hf 1 (by decide)) e1
   have h2 := int_of (by simpa using hf 2 (by decide)) e2
   simp at h0 h1 h2
   rw [h0, h1, h2]
end
theorem take3 {cs : Array Value} {i : Nat} {a b c : Value} (h : (cs.toList.drop (i * 3)).take 3 = [a, b, c]) : cs[i * 3]? = some a ∧ cs[i * 3 + 1]? = some b ∧ cs[i * 3 + 2]? = some c := by
 have e : ∀ j, j < 3 → cs[i * 3 + j]? = ([a, b, c] : List Value)[j]? := fun j hj => by
  rw [← h, List.getElem?_take_of_lt hj, List.getElem?_drop]
  simp
 exact ⟨e 0 (by decide), e 1 (by decide), e 2 (by decide)⟩
theorem gF : Tryz.prog.globalNamed "queuelab/code.effects" = some 0 := by kernel_rfl
theorem gFT : (Tryz.prog.globals[0]?).map (·.type) = some 90 := by kernel_rfl
theorem cellsEf2 : Tryz.prog.cellsOf 89 = 2 := by kernel_rfl
theorem gO : Tryz.prog.globalNamed "queuelab/code.operations" = some 2 := by kernel_rfl
theorem gOT : (Tryz.prog.globals[2]?).map (·.type) = some 132 := by kernel_rfl
section
variable {H : Type} {enc : TypeId × Value → H} {W : World} {sp : Nat → Bool} {held : Bool}
theorem eff_of {fuel : Nat} {cs : List Value} {y : DataW H × List MemPlace} {a b : Int} (h : DataW.trod enc Tryz.prog W 0 sp held fuel 89 cs = some y) (hy : y.1 = .agg [.lit (.int .i64 a), .lit (.int .i64 b)]) : cs = [.int .i64 a, .int .i64 b] := by
 obtain ⟨xs, n, rfl, hx, hl, hlen, hf⟩ := DataW.trod_struct Tryz.underlying89 h
 rw [cellsEf2] at hl
 rw [hx] at hy
 match cs, hl with
 | [c0, c1], _ =>
  match xs, hlen with
  | [y0, y1], _ =>
   simp at hy
   obtain ⟨e0, e1⟩ := hy
   have h0 := hf 0 _ rfl
   have h1 := hf 1 _ rfl
   simp [cellsInt] at h0 h1
   have k0 := int_of h0 e0
   have k1 := int_of h1 e1
   simp at k0 k1
   rw [k0, k1]
end
theorem take2 {cs : Array Value} {i : Nat} {a b : Value} (h : (cs.toList.drop (i * 2)).take 2 = [a, b]) : cs[i * 2]? = some a ∧ cs[i * 2 + 1]? = some b := by
 have e : ∀ j, j < 2 → cs[i * 2 + j]? = ([a, b] : List Value)[j]? := fun j hj => by
  rw [← h, List.getElem?_take_of_lt hj, List.getElem?_drop]
  simp
 exact ⟨e 0 (by decide), e 1 (by decide)⟩
theorem lexer_laid {W : World} {r : List (String × DataW Unit)} (h : laidMet Tryz.prog (("math/bits.deBruijn32tab", Rows.laid_math_bits_deBruijn32tab) :: ("math/bits.deBruijn64tab", Rows.laid_math_bits_deBruijn64tab) :: ("internal/strconv.uint64pow10", Rows.laid_internal_strconv_uint64pow10) :: ("strconv.ErrRange", Rows.laid_strconv_ErrRange) :: ("strconv.ErrSyntax", Rows.laid_strconv_ErrSyntax) :: ("queuelab/lexer.classes", Rows.laid_queuelab_lexer_classes) :: r) W) : LaidW W ∧ 8 < W.heap.size := by
 have h2 := laidMet.tail h
 have h3 := laidMet.tail h2
 have h4 := laidMet.tail h3
 have h5 := laidMet.tail h4
 have h6 := laidMet.tail h5
 obtain ⟨a0, s0, hv0, -, -, -⟩ := laid_sentinel h4 gER gERT Tryz.underlying188 rowES Tryz.underlying210 Tryz.underlying212 rfl rfl Tryz.underlying9 cellsES cellsStr
 obtain ⟨a1, s1, hv1, -, -, -⟩ := laid_sentinel h5 gES gEST Tryz.underlying188 rowES Tryz.underlying210 Tryz.underlying212 rfl rfl Tryz.underlying9 cellsES cellsStr
 have ht : Lib.TabIs Tryz.prog W "queuelab/lexer.classes" .u8 clsTab :=
  Lib.tabIs_of_head (rest := r) gClasses gClassesT Tryz.underlying186 Tryz.underlying181 cellsCls cellsArr h6
 have hl := Lib.tabIs_of_head (zs := [0, 1, 56, 2, 57, 49, 28, 3, 61, 58, 42, 50, 38, 29, 17, 4, 62, 47, 59, 36, 45, 43, 51, 22, 53, 39, 33, 30, 24, 18, 12, 5, 63, 55, 48, 27, 60, 41, 37, 16, 46, 35, 44, 21, 52, 32, 23, 11, 54, 26, 40, 15, 34, 20, 31, 10, 25, 14, 19, 9, 13, 8, 7, 6]) gLast gLastT Tryz.underlying225 Tryz.underlying5 cellsU8 cells64 h2
 have hpos : ∀ i, i < 128 → clsTab.getD i 0 = ((cls i : Nat) : Int) := by decide +kernel
 refine ⟨⟨fun i hi => ?_, ⟨210, .pointer (some a1), ?_⟩, ⟨210, .pointer (some a0), ?_⟩⟩, ?_⟩
 ·have := ht.cell gClasses i hi
  rw [this, hpos i hi]
 ·have := World.var?_cell gES hv1 0
  simpa using this
 ·have := World.var?_cell gER hv0 0
  simpa using this
 ·have := hl.cell gLast 0 (by decide)
  exact Nat.lt_of_le_of_lt (by decide) (World.block_lt_of_cell? W _ this)
theorem units_laid {W : World} {r : List (String × DataW Unit)} (h : laidMet Tryz.prog (("queuelab/units.kinds", Rows.laid_queuelab_units_kinds) :: ("queuelab/units.inputs", Rows.laid_queuelab_units_inputs) :: r) W) : U.LaidW W := by
 have h2 := laidMet.tail h
 have hin := Lib.tabIs_of_head (zs := [1, 3, 2, 1]) gI gIT Tryz.underlying178 Tryz.underlying3 cellsInt cellsI4 h2
 obtain ⟨ps, ⟨g', t', cs, fuel, p, q, hg', ht', hvar, hd, _, _⟩, _⟩ := h
 obtain rfl := Option.some.inj (gK.symm.trans hg')
 obtain rfl := Option.some.inj (gKT.symm.trans ht')
 obtain ⟨xs, m, rfl, hx, hl, hlen, hf⟩ := DataW.trod_array Tryz.underlying126 hd
 simp only [cellsP3] at hf
 match xs, hlen with
 | [y0, y1, y2, y3, y4], _ =>
  simp [Rows.laid_queuelab_units_kinds] at hx
  obtain ⟨⟨e0, e1, e2, e3, e4⟩, -⟩ := hx
  have r0 := take3 (i := 0) (row_of (by simpa using hf 0 (by decide)) e0.symm)
  have r1 := take3 (i := 1) (row_of (by simpa using hf 1 (by decide)) e1.symm)
  have r2 := take3 (i := 2) (row_of (by simpa using hf 2 (by decide)) e2.symm)
  have r3 := take3 (i := 3) (row_of (by simpa using hf 3 (by decide)) e3.symm)
  have r4 := take3 (i := 4) (row_of (by simpa using hf 4 (by decide)) e4.symm)
  have hc : ∀ i, W.cell? ⟨1, i, none⟩ = cs[i]? := fun i => by simpa using World.var?_cell gK hvar i
  refine ⟨fun k hk => ?_, fun k hk => ?_⟩
  ·unfold PwAt
   rw [hc, hc, hc]
   match k, hk with
   | 0, _ => exact r0
   | 1, _ => exact r1
   | 2, _ => exact r2
   | 3, _ => exact r3
   | 4, _ => exact r4
  ·have := hin.cell gI k hk
   rw [this]
   match k, hk with
   | 0, _ => rfl
   | 1, _ => rfl
   | 2, _ => rfl
   | 3, _ => rfl
theorem effects_laid {W : World} {r : List (String × DataW Unit)} (h : laidMet Tryz.prog (("queuelab/code.effects", Rows.laid_queuelab_code_effects) :: r) W) : K.LaidE W := by
 obtain ⟨ps, ⟨g', t', cs, fuel, p, q, hg', ht', hvar, hd, _, _⟩, _⟩ := h
 obtain rfl := Option.some.inj (gF.symm.trans hg')
 obtain rfl := Option.some.inj (gFT.symm.trans ht')
 obtain ⟨xs, m, rfl, hx, hl, hlen, hf⟩ := DataW.trod_array Tryz.underlying90 hd
 simp only [cellsEf2] at hf
 match xs, hlen with
 | [y0, y1, y2, y3, y4, y5, y6, y7, y8, y9, y10, y11, y12, y13], _ =>
  simp [Rows.laid_queuelab_code_effects] at hx
  obtain ⟨⟨e0, e1, e2, e3, e4, e5, e6, e7, e8, e9, e10, e11, e12, e13⟩, -⟩ := hx
  have r0 := take2 (i := 0) (eff_of (by simpa using hf 0 (by decide)) e0.symm)
  have r1 := take2 (i := 1) (eff_of (by simpa using hf 1 (by decide)) e1.symm)
  have r2 := take2 (i := 2) (eff_of (by simpa using hf 2 (by decide)) e2.symm)
  have r3 := take2 (i := 3) (eff_of (by simpa using hf 3 (by decide)) e3.symm)
  have r4 := take2 (i := 4) (eff_of (by simpa using hf 4 (by decide)) e4.symm)
  have r5 := take2 (i := 5) (eff_of (by simpa using hf 5 (by decide)) e5.symm)
  have r6 := take2 (i := 6) (eff_of (by simpa using hf 6 (by decide)) e6.symm)
  have r7 := take2 (i := 7) (eff_of (by simpa using hf 7 (by decide)) e7.symm)
  have r8 := take2 (i := 8) (eff_of (by simpa using hf 8 (by decide)) e8.symm)
  have r9 := take2 (i := 9) (eff_of (by simpa using hf 9 (by decide)) e9.symm)
  have r10 := take2 (i := 10) (eff_of (by simpa using hf 10 (by decide)) e10.symm)
  have r11 := take2 (i := 11) (eff_of (by simpa using hf 11 (by decide)) e11.symm)
  have r12 := take2 (i := 12) (eff_of (by simpa using hf 12 (by decide)) e12.symm)
  have r13 := take2 (i := 13) (eff_of (by simpa using hf 13 (by decide)) e13.symm)
  have hc : ∀ i, W.cell? ⟨0, i, none⟩ = cs[i]? := fun i => by simpa using World.var?_cell gF hvar i
  intro k h1 h2
  rw [hc, hc]
  match k, h1, h2 with
  | 1, _, _ => exact r1
  | 2, _, _ => exact r2
  | 3, _, _ => exact r3
  | 4, _, _ => exact r4
  | 5, _, _ => exact r5
  | 6, _, _ => exact r6
  | 7, _, _ => exact r7
  | 8, _, _ => exact r8
  | 9, _, _ => exact r9
  | 10, _, _ => exact r10
  | 11, _, _ => exact r11
  | 12, _, _ => exact r12
  | 13, _, _ => exact r13
theorem operations_laid {W : World} {r : List (String × DataW Unit)} (h : laidMet Tryz.prog (("queuelab/code.operations", Rows.laid_queuelab_code_operations) :: r) W) : K.LaidO W := by
 obtain ⟨ps, ⟨g', t', cs, fuel, p, q, hg', ht', hvar, hd, _, _⟩, _⟩ := h
 obtain rfl := Option.some.inj (gO.symm.trans hg')
 obtain rfl := Option.some.inj (gOT.symm.trans ht')
 obtain ⟨xs, m, rfl, hx, hl, hlen, hf⟩ := DataW.trod_array Tryz.underlying132 hd
 simp only [cellsInt] at hf
 match xs, hlen with
 | [y0, y1, y2, y3, y4, y5, y6, y7, y8, y9, y10], _ =>
  simp [Rows.laid_queuelab_code_operations] at hx
  obtain ⟨⟨e0, e1, e2, e3, e4, e5, e6, e7, e8, e9, e10⟩, -⟩ := hx
  have hc : ∀ i, W.cell? ⟨2, i, none⟩ = cs[i]? := fun i => by simpa using World.var?_cell gO hvar i
  have take1 : ∀ (i : Nat) (a : Value), (cs.toList.drop i).take 1 = [a] → cs[i]? = some a := fun i a h => by
   have : cs.toList[i]? = ([a] : List Value)[0]? := by rw [← h, List.getElem?_take_of_lt (by decide), List.getElem?_drop]; simp
   simpa using this
  have r1 := take1 1 _ (int_of (by simpa using hf 1 (by decide)) e1.symm)
  have r2 := take1 2 _ (int_of (by simpa using hf 2 (by decide)) e2.symm)
  have r3 := take1 3 _ (int_of (by simpa using hf 3 (by decide)) e3.symm)
  have r4 := take1 4 _ (int_of (by simpa using hf 4 (by decide)) e4.symm)
  have r5 := take1 5 _ (int_of (by simpa using hf 5 (by decide)) e5.symm)
  have r6 := take1 6 _ (int_of (by simpa using hf 6 (by decide)) e6.symm)
  have r7 := take1 7 _ (int_of (by simpa using hf 7 (by decide)) e7.symm)
  have r8 := take1 8 _ (int_of (by simpa using hf 8 (by decide)) e8.symm)
  have r9 := take1 9 _ (int_of (by simpa using hf 9 (by decide)) e9.symm)
  have r10 := take1 10 _ (int_of (by simpa using hf 10 (by decide)) e10.symm)
  intro k h1 h2
  rw [hc]
  match k, h1, h2 with
  | 1, _, _ => exact r1
  | 2, _, _ => exact r2
  | 3, _, _ => exact r3
  | 4, _, _ => exact r4
  | 5, _, _ => exact r5
  | 6, _, _ => exact r6
  | 7, _, _ => exact r7
  | 8, _, _ => exact r8
  | 9, _, _ => exact r9
  | 10, _, _ => exact r10
theorem of_laidK {W : World} (h : laidMetH Tryz.prog Rows.codePartsRow.laid W) : (LaidW W ∧ 8 < W.heap.size) ∧ U.LaidW W ∧ K.LaidO W ∧ K.LaidE W := by
 rw [MakeChecks.laidMetH_plain _ _ _ (by kernel_rfl)] at h
 have h7 := laidMet.tail (laidMet.tail (laidMet.tail (laidMet.tail (laidMet.tail (laidMet.tail h)))))
 have h11 := laidMet.tail (laidMet.tail (laidMet.tail (laidMet.tail h7)))
 exact ⟨lexer_laid h, units_laid h7, operations_laid (laidMet.tail h11), effects_laid h11⟩
end L8
end Go.Proofs.YtljknappbnoikaaGreatDoor
namespace Go.Proofs.YtljknappbnoikaaGreatDoor.codeParts
open Go.ChangeShapes Go.WideShapes Go.ChangeAt Go.RowKit
theorem and2 {a b : Bool} (h : a = true) (k : b = true) : (a && b) = true := by rw [h, k]; rfl
theorem j0 : (Rows.codePartsRow.wf (OpenSpec.ofChange Rows.codePartsSpec)) = true := by kernel_rfl
theorem j1 : (laidOutB Tryz.pinned.checked.prog) = true := by kernel_rfl
theorem j2 : (mapsRowed Tryz.pinned.checked.prog) = true := by kernel_rfl
theorem j3 : (Tryz.f4.params.all (Tryz.pinned.checked.prog.readableRec ·)) = true := by kernel_rfl
theorem j4 : (namedTie Tryz.pinned.checked.prog Rows.codePartsRow.named Rows.codePartsSpec.vars) = true := by kernel_rfl
theorem j5 : ((Rows.codePartsRow.stops == [])) = true := by kernel_rfl
theorem j6 : ((Tryz.pinned.checked.prog.stops == [])) = true := by kernel_rfl
theorem j7 : ((Rows.codePartsRow.knobs == [])) = true := by kernel_rfl
theorem j8 : ((Tryz.pinned.checked.prog.stopKnobs == [])) = true := by kernel_rfl
theorem j9 : ((Rows.codePartsRow.inPlace == Tryz.pinned.checked.prog.inPlace 4)) = true := by kernel_rfl
theorem j10 : ((Rows.codePartsRow.unfollowed == Tryz.pinned.checked.prog.unfollowed 4)) = true := by kernel_rfl
theorem j11 : ((Rows.codePartsRow.recurses == Tryz.pinned.checked.prog.recurses 4)) = true := by kernel_rfl
theorem j12 : ((Rows.codePartsRow.named == Tryz.pinned.checked.prog.varsNamed 4)) = true := by kernel_rfl
theorem j13 : ((Rows.codePartsRow.maps == (Tryz.f4.params.toList ++ Rows.codePartsSpec.plain.varTypes Tryz.pinned.checked.prog).any (Tryz.pinned.checked.prog.mapsRec ·))) = true := by kernel_rfl
theorem j14 : ((Rows.codePartsRow.ifaces == (Tryz.f4.params.toList ++ Rows.codePartsSpec.plain.varTypes Tryz.pinned.checked.prog).any (Tryz.pinned.checked.prog.ifacesRec ·))) = true := by kernel_rfl
theorem j15 : ((Rows.codePartsRow.mapsOut == Tryz.pinned.checked.prog.mapsAmong Tryz.f4.resultTypes.toList)) = true := by kernel_rfl
theorem j16 : ((Rows.codePartsRow.loops == (Tryz.f4.params.toList ++ Rows.codePartsSpec.plain.varTypes Tryz.pinned.checked.prog).any (Tryz.pinned.checked.prog.loopsFrom ·))) = true := by kernel_rfl
theorem j17 : ((Rows.codePartsRow.wideKeys == (Tryz.f4.params.toList ++ Rows.codePartsSpec.plain.varTypes Tryz.pinned.checked.prog ++ Tryz.f4.resultTypes.toList).any (Tryz.pinned.checked.prog.wideKeysFrom ·))) = true := by kernel_rfl
theorem j18 : (Rows.codePartsSpec.vars.all (Tryz.pinned.checked.prog.varReadable ·)) = true := by kernel_rfl
theorem j19 : (Tryz.f4.resultTypes.all (fun t => Tryz.pinned.checked.prog.readableRec t && decide (t < Tryz.pinned.checked.prog.types.size))) = true := by kernel_rfl
theorem j20 : ((Rows.codePartsRow.ifacesOut == Tryz.f4.resultTypes.toList.any (Tryz.pinned.checked.prog.ifacesRec ·))) = true := by kernel_rfl
theorem j21 : ((Rows.codePartsRow.loopsOut == Tryz.f4.resultTypes.toList.any (Tryz.pinned.checked.prog.loopsFrom ·))) = true := by kernel_rfl
theorem j22 : ((Rows.codePartsRow.plainKeys == Tryz.pinned.checked.prog.plainKeys)) = true := by kernel_rfl
theorem j23 : (Rows.codePartsRow.shortTexts.isNone) = true := by kernel_rfl
theorem j24 : (Tryz.pinned.checked.prog.stopsHeard) = true := by kernel_rfl
theorem j25 : (Tryz.pinned.checked.prog.mayEnter) = true := by kernel_rfl
theorem j26 : ((Rows.codePartsRow.lifted == Tryz.pinned.checked.prog.liftsFinal)) = true := by kernel_rfl
theorem j27 : ((Tryz.pinned.checked.prog.make == some Rows.codePartsRow.make)) = true := by kernel_rfl
theorem j28 : ((Rows.codePartsRow.kinds == (if Rows.codePartsRow.domain.isEmpty then [] else Tryz.f4.params.toList.map fun t => match Tryz.pinned.checked.prog.underlying t with | some (.int k) => some k | _ => none))) = true := by kernel_rfl
theorem j29 : ((Rows.codePartsRow.pinned == Rows.codePartsRow.pinnedBy)) = true := by kernel_rfl
theorem j30 : ((Rows.codePartsRow.veiled == (Tryz.f4.params.toList ++ Rows.codePartsSpec.plain.varTypes Tryz.pinned.checked.prog ++ Tryz.f4.resultTypes.toList).any (Tryz.pinned.checked.prog.veiledRec ·))) = true := by kernel_rfl
theorem j31 : (Rows.codePartsRow.veiledFits Tryz.pinned.checked.prog Tryz.f4.params.toList (Tryz.f4.params.toList ++ Rows.codePartsSpec.plain.varTypes Tryz.pinned.checked.prog ++ Tryz.f4.resultTypes.toList)) = true := by kernel_rfl
theorem closed : joinedFacts Tryz.pinned.checked.prog 4 Tryz.f4 Rows.codePartsSpec Rows.codePartsRow = true := by
 unfold joinedFacts
 exact and2 (and2 (and2 (and2 (and2 (and2 (and2 (and2 (and2 (and2 (and2 (and2 (and2 (and2 (and2 (and2 (and2 (and2 (and2 (and2 (and2 (and2 (and2 (and2 (and2 (and2 (and2 (and2 (and2 (and2 (and2 j0 j1) j2) j3) j4) j5) j6) j7) j8) j9) j10) j11) j12) j13) j14) j15) j16) j17) j18) j19) j20) j21) j22) j23) j24) j25) j26) j27) j28) j29) j30) j31
theorem goes : false = Rows.codePartsRow.goesBy Tryz.pinned.checked.prog := by kernel_rfl
end Go.Proofs.YtljknappbnoikaaGreatDoor.codeParts
