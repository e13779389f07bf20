/- Texts of one proof: LxLaid. -/
import Derived.Test.YtdaghppcomckbaaGreatDoorLxC
import Derived.Stop.LaidErr
import Derived.MakeChecks
import Derived.LaidMore
/- What the laid package-level variables give the contracts: the table's cells, the two sentinels. -/
namespace Go.Proofs.YtdaghppcomckbaaGreatDoor
open Go.RowKit Go.ChangeShapes Go.WideShapes

theorem gClasses : Tryz.prog.globalNamed "queuelab/lexer.classes" = some 0 := by kernel_rfl
theorem gClassesT : (Tryz.prog.globals[0]?).map (·.type) = some 75 := by kernel_rfl
theorem cellsArr : Tryz.prog.cellsOf 75 = 128 := by kernel_rfl
theorem cellsCls : Tryz.prog.cellsOf 62 = 1 := by kernel_rfl
theorem gES : Tryz.prog.globalNamed "strconv.ErrSyntax" = some 1 := by kernel_rfl
theorem gEST : (Tryz.prog.globals[1]?).map (·.type) = some 77 := by kernel_rfl
theorem gER : Tryz.prog.globalNamed "strconv.ErrRange" = some 2 := by kernel_rfl
theorem gERT : (Tryz.prog.globals[2]?).map (·.type) = some 77 := by kernel_rfl
theorem cellsES : Tryz.prog.cellsOf 113 = 1 := by kernel_rfl
theorem cellsStr : Tryz.prog.cellsOf 9 = 1 := by kernel_rfl
theorem starES : "*" ++ "errors.errorString" = "*errors.errorString" := by decide
theorem rowES (u : TypeId) (h : Tryz.prog.typeName? 3 u = some "*errors.errorString") : u = 111 :=
  typeName_ptr_named (nm := "errors.errorString") (by rw [starES]; kernel_rfl) (by kernel_rfl) (by decide) u (by rw [starES]; exact h)
theorem gLast : Tryz.prog.globalNamed "math/bits.deBruijn64tab" = some 5 := by kernel_rfl
theorem gLastT : (Tryz.prog.globals[5]?).map (·.type) = some 129 := by kernel_rfl
theorem cells64 : Tryz.prog.cellsOf 129 = 64 := by kernel_rfl
theorem cellsU8 : Tryz.prog.cellsOf 5 = 1 := by kernel_rfl

set_option maxRecDepth 100000 in
theorem of_laid {W : World} (h : laidMetH Tryz.prog Rows.parserErrorsRow.laid W) : LaidW W ∧ 2 < W.heap.size := by
  rw [MakeChecks.laidMetH_plain _ _ _ (by kernel_rfl)] at h
  have h2 := laidMet.tail h
  have h3 := laidMet.tail h2
  have h4 := laidMet.tail h3
  have h5 := laidMet.tail h4
  have h6 := laidMet.tail h5
  obtain ⟨a0, s0, hv0, -, -, -⟩ := laid_sentinel h4 gER gERT Tryz.underlying77 rowES Tryz.underlying111 Tryz.underlying113 rfl rfl Tryz.underlying9 cellsES cellsStr
  obtain ⟨a1, s1, hv1, -, -, -⟩ := laid_sentinel h5 gES gEST Tryz.underlying77 rowES Tryz.underlying111 Tryz.underlying113 rfl rfl Tryz.underlying9 cellsES cellsStr
  have ht : Lib.TabIs Tryz.prog W "queuelab/lexer.classes" .u8 clsTab :=
    Lib.tabIs_of_head (rest := []) gClasses gClassesT Tryz.underlying75 Tryz.underlying62 cellsCls cellsArr h6
  have hl := Lib.tabIs_of_head (zs := [0, 1, 56, 2, 57, 49, 28, 3, 61, 58, 42, 50, 38, 29, 17, 4, 62, 47, 59, 36, 45, 43, 51, 22, 53, 39, 33, 30, 24, 18, 12, 5, 63, 55, 48, 27, 60, 41, 37, 16, 46, 35, 44, 21, 52, 32, 23, 11, 54, 26, 40, 15, 34, 20, 31, 10, 25, 14, 19, 9, 13, 8, 7, 6]) gLast gLastT Tryz.underlying129 Tryz.underlying5 cellsU8 cells64 h2
  have hpos : ∀ i, i < 128 → clsTab.getD i 0 = ((cls i : Nat) : Int) := by decide +kernel
  refine ⟨⟨fun i hi => ?_, ⟨111, .pointer (some a1), ?_⟩, ⟨111, .pointer (some a0), ?_⟩⟩, ?_⟩
  · have := ht.cell gClasses i hi
    rw [this, hpos i hi]
  · have := World.var?_cell gES hv1 0
    simpa using this
  · have := World.var?_cell gER hv0 0
    simpa using this
  · have := hl.cell gLast 0 (by decide)
    exact Nat.lt_of_le_of_lt (by decide) (World.block_lt_of_cell? W _ this)
end Go.Proofs.YtdaghppcomckbaaGreatDoor
