/- What the laid package-level variables give the contracts: the table's cells, the two sentinels. -/
import Derived.Test.YtkoojiblkapmbaaDoorLxC
import Derived.Stop.LaidErr
import Derived.MakeChecks
import Derived.LaidMore
namespace Go.Proofs.YtkoojiblkapmbaaDoor
open Go.RowKit Go.ChangeShapes Go.WideShapes

theorem gClasses : Tryd.prog.globalNamed "queuelab/lexer.classes" = some 0 := by kernel_rfl
theorem gClassesT : (Tryd.prog.globals[0]?).map (·.type) = some 50 := by kernel_rfl
theorem cellsArr : Tryd.prog.cellsOf 50 = 128 := by kernel_rfl
theorem cellsCls : Tryd.prog.cellsOf 45 = 1 := by kernel_rfl
theorem gES : Tryd.prog.globalNamed "strconv.ErrSyntax" = some 1 := by kernel_rfl
theorem gEST : (Tryd.prog.globals[1]?).map (·.type) = some 52 := by kernel_rfl
theorem gER : Tryd.prog.globalNamed "strconv.ErrRange" = some 2 := by kernel_rfl
theorem gERT : (Tryd.prog.globals[2]?).map (·.type) = some 52 := by kernel_rfl
theorem cellsES : Tryd.prog.cellsOf 74 = 1 := by kernel_rfl
theorem cellsStr : Tryd.prog.cellsOf 9 = 1 := by kernel_rfl
theorem starES : "*" ++ "errors.errorString" = "*errors.errorString" := by decide
theorem rowES (u : TypeId) (h : Tryd.prog.typeName? 3 u = some "*errors.errorString") : u = 72 :=
  typeName_ptr_named (nm := "errors.errorString") (by rw [starES]; kernel_rfl) (by kernel_rfl) (by decide) u (by rw [starES]; exact h)
theorem gLast : Tryd.prog.globalNamed "math/bits.deBruijn64tab" = some 5 := by kernel_rfl
theorem gLastT : (Tryd.prog.globals[5]?).map (·.type) = some 90 := by kernel_rfl
theorem cells64 : Tryd.prog.cellsOf 90 = 64 := by kernel_rfl
theorem cellsU8 : Tryd.prog.cellsOf 5 = 1 := by kernel_rfl

set_option maxRecDepth 100000 in
theorem of_laid {W : World} (h : laidMetH Tryd.prog Rows.lexerCoversRow.laid W) : LaidW W ∧ 5 < W.heap.size := by
  rw [MakeChecks.laidMetH_plain _ _ _ (by kernel_rfl)] at h
  have h2 := laidMet.tail h
  have h3 := laidMet.tail h2
  have h4 := laidMet.tail h3
  have h5 := laidMet.tail h4
  have h6 := laidMet.tail h5
  obtain ⟨a0, s0, hv0, -, -, -⟩ := laid_sentinel h4 gER gERT Tryd.underlying52 rowES Tryd.underlying72 Tryd.underlying74 rfl rfl Tryd.underlying9 cellsES cellsStr
  obtain ⟨a1, s1, hv1, -, -, -⟩ := laid_sentinel h5 gES gEST Tryd.underlying52 rowES Tryd.underlying72 Tryd.underlying74 rfl rfl Tryd.underlying9 cellsES cellsStr
  have ht : Lib.TabIs Tryd.prog W "queuelab/lexer.classes" .u8 clsTab :=
    Lib.tabIs_of_head (rest := []) gClasses gClassesT Tryd.underlying50 Tryd.underlying45 cellsCls cellsArr h6
  have hl := Lib.tabIs_of_head (zs := [0, 1, 56, 2, 57, 49, 28, 3, 61, 58, 42, 50, 38, 29, 17, 4, 62, 47, 59, 36, 45, 43, 51, 22, 53, 39, 33, 30, 24, 18, 12, 5, 63, 55, 48, 27, 60, 41, 37, 16, 46, 35, 44, 21, 52, 32, 23, 11, 54, 26, 40, 15, 34, 20, 31, 10, 25, 14, 19, 9, 13, 8, 7, 6]) gLast gLastT Tryd.underlying90 Tryd.underlying5 cellsU8 cells64 h2
  have hpos : ∀ i, i < 128 → clsTab.getD i 0 = ((cls i : Nat) : Int) := by decide +kernel
  refine ⟨⟨fun i hi => ?_, ⟨72, .pointer (some a1), ?_⟩, ⟨72, .pointer (some a0), ?_⟩⟩, ?_⟩
  · have := ht.cell gClasses i hi
    rw [this, hpos i hi]
  · have := World.var?_cell gES hv1 0
    simpa using this
  · have := World.var?_cell gER hv0 0
    simpa using this
  · have := hl.cell gLast 0 (by decide)
    exact World.block_lt_of_cell? W _ this
end Go.Proofs.YtkoojiblkapmbaaDoor
