/- Contracts of the reference's Same and of fails; condition: the listed package-level variables hold what the text lays. -/
import Derived.Test.YtkoojiblkapmbaaDoorLxF
namespace Go.Proofs.YtkoojiblkapmbaaDoor
open Go.RowKit
set_option linter.unusedVariables false
set_option linter.unusedSimpArgs false

/-- a slice of tokens that reads as a list; it lies below block B -/
def TokS (w : World) (B : Nat) (A : Option Addr) (ts : List Tk) : Prop :=
  0 < ts.length → ∃ g o, A = some ⟨g, o, none⟩ ∧ g < B ∧ ∀ (i : Nat) (t : Tk), ts[i]? = some t →
    w.cell? ⟨g, o + i * 4, none⟩ = some (.int .i64 t.k) ∧ w.cell? ⟨g, o + i * 4 + 1, none⟩ = some (.string t.x) ∧ w.cell? ⟨g, o + i * 4 + 2, none⟩ = some (.int .i64 t.m) ∧ w.cell? ⟨g, o + i * 4 + 3, none⟩ = some (.int .i64 t.a)

/-- the second list is the first one, with offsets that are greater by a number -/
def shiftT (d : Int) (t : Tk) : Tk := ⟨t.k, t.x, t.m, t.a + d⟩
set_option maxHeartbeats 800000 in
set_option maxRecDepth 100000 in
theorem Same_len (w : World) (A B : Option Addr) (n m c d : Nat) (by_ : Int) (h : n ≠ m) : Calls Tryd.prog 13 #[.slice A n c, .slice B m d, .int .i64 by_] w fun e w' => e = .returned (.bool false) ∧ w = w' := by
  have hb : ((n : Int) != (m : Int)) = true := by simp; omega
  clear h
  go_enter Tryd.func13, Tryd.ntmps13
  go_wp2
  go_ret
  exact ⟨rfl, rfl⟩

def Drew (w : World) (b : Bool) (e : Ending) (w' : World) : Prop := e = .returned (.bool b) ∧ ∃ n, w' = w.drewN n

set_option maxHeartbeats 800000 in
set_option maxRecDepth 100000 in
theorem Same_true (w : World) (A B : Option Addr) (ts : List Tk) (c d : Nat) (by_ : Int) (hA : TokS w w.heap.size A ts) (hB : TokS w w.heap.size B (ts.map (shiftT by_))) (hn : ts.length ≤ 3000) (hby : 0 ≤ by_ ∧ by_ ≤ 100000) (ha : ∀ t ∈ ts, 0 ≤ t.a ∧ t.a ≤ 100000) :
    Calls Tryd.prog 13 #[.slice A ts.length c, .slice B ts.length d, .int .i64 by_] w (Drew w true) := by
  have HA := Lib.hid hA
  have HB := Lib.hid hB
  have HX := Lib.hid ha
  obtain ⟨hb0, hb1⟩ := hby
  clear hA hB ha
  go_enter Tryd.func13, Tryd.ntmps13
  go_wp2
  go_loopw [7] (fun i wr => ∃ k : Nat, k ≤ ts.length ∧ i = .int .i64 k ∧ Hid (∃ n, wr = w.drewN n)) (fun i _ => ts.length - (intOf i).toNat)
  case atStart => exact ⟨0, Nat.zero_le _, rfl, 0, rfl⟩
  case round =>
    obtain ⟨k, hk, rfl, hw⟩ := hrel
    by_cases hlt : k < ts.length
    · obtain ⟨gA, oA, rfl, hgA, hcA⟩ := HA.out (by omega)
      obtain ⟨gB, oB, rfl, hgB, hcB⟩ := HB.out (by simp; omega)
      obtain ⟨nn, rfl⟩ := hw.out
      have htk : ts[k]? = some ts[k] := List.getElem?_eq_getElem hlt
      obtain ⟨a0, a1, a2, a3⟩ := hcA k _ htk
      obtain ⟨b0, b1, b2, b3⟩ := hcB k (shiftT by_ ts[k]) (by simp [htk])
      have hx := HX.out ts[k] (List.getElem_mem hlt)
      obtain ⟨hx0, hx1⟩ := hx
      generalize ts[k] = t at *
      simp only [shiftT] at b0 b1 b2 b3
      clear htk hcA hcB
      go_wp2
      go_quiet (fail)
      go_wp2
      go_roundw
      case rel => exact ⟨k + 1, by omega, by go_num, _, rfl⟩
      case measure => simp [intOf]; omega
    · go_wp2
      go_ret
      exact ⟨rfl, hw.out⟩
end Go.Proofs.YtkoojiblkapmbaaDoor
