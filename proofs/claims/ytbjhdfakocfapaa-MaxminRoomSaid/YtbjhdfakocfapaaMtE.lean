/- The examples of the law's head, by evaluation. -/
import Derived.Test.YtbjhdfakocfapaaMtD
namespace Go.Proofs.Ytbjhdfakocfapaa
open Go.RowKit
def ex1 : Net := ⟨[10, 4], [[0, 1], [0], [1]], [0, 0, 0]⟩
def ex2 : Net := ⟨[10], [[0], [0], [0]], [0, 0, 0]⟩
def ex3 : Net := ⟨[10], [[0], [0], [0]], [1, 0, 0]⟩
def ex4 : Net := ⟨[0, 5], [[0, 1], [1]], [0, 0]⟩
def ex5 : Net := ⟨[1], [[]], [0]⟩
def ex6 : Net := ⟨[1001], [], []⟩
set_option maxRecDepth 100000 in
theorem ex1_is : isM ex1 [⟨2, 1⟩, ⟨8, 1⟩, ⟨2, 1⟩] = true := by kernel_rfl
set_option maxRecDepth 100000 in
theorem ex2_is : isM ex2 [⟨10, 3⟩, ⟨10, 3⟩, ⟨10, 3⟩] = true := by kernel_rfl
set_option maxRecDepth 100000 in
theorem ex3_is : isM ex3 [⟨1, 1⟩, ⟨9, 2⟩, ⟨9, 2⟩] = true := by kernel_rfl
set_option maxRecDepth 100000 in
theorem ex4_is : isM ex4 [⟨0, 1⟩, ⟨5, 1⟩] = true := by kernel_rfl
theorem ex5_not : validB ex5 = false := by kernel_rfl
set_option maxRecDepth 100000 in
theorem ex2_not : checkM ex2 [⟨3, 1⟩, ⟨3, 1⟩, ⟨4, 1⟩] = false := by kernel_rfl
theorem ex6_not : validB ex6 = false := by kernel_rfl
end Go.Proofs.Ytbjhdfakocfapaa
