/- The contract of the reference's digits; no conditions but sizes. -/
import Derived.Test.YtkoojiblkapmbaaDoorLxY
import Derived.Deep.RegionWith
import Derived.Deep.RegionHeld3
import Derived.Laws.IdiomStrings
import Derived.IntWalk
namespace Go.Proofs.YtkoojiblkapmbaaDoor
open Go.RowKit
set_option linter.unusedVariables false
set_option linter.unusedSimpArgs false

def digB (n : Nat) : UInt8 := UInt8.ofNat (48 + n)
def digL (n : Nat) : List UInt8 := if n < 10 then [digB n] else digL (n / 10) ++ [digB (n % 10)]
def DigPost (n : Nat) (w : World) (e : Ending) (w' : World) : Prop := e = .returned (.string ⟨(digL n).toArray⟩) ∧ Below w.heap.size w w'

theorem digL_len (n : Nat) : (digL n).length ≤ n + 1 := by
  induction n using Nat.strongRecOn with
  | _ n ih =>
    rw [digL]
    by_cases h : n < 10
    · rw [if_pos h]; simp
    · rw [if_neg h, List.length_append]
      have := ih (n / 10) (by omega)
      simp only [List.length_singleton]
      omega
theorem digB_nat (n : Nat) (hn : n < 10) : (digB n).toNat = 48 + n := by unfold digB; simp; omega
theorem conv_one (W : World) (n : Nat) (v : Int) (hn : n < 10) (hv : v = 48 + (n : Int)) : (convert 49 9 (.slice (some ⟨W.heap.size, 0, none⟩) 1 1)).run Tryd.prog (W.alloc (.cells #[.int .u8 v] 5)) = .ok (.string ⟨#[digB n]⟩) (W.alloc (.cells #[.int .u8 v] 5)) := by
  have h := run_convert_bytes_back (P := Tryd.prog) (W.alloc (.cells #[.int .u8 v] 5)) 49 9 5 ⟨W.heap.size, 0, none⟩ 1 [digB n] Tryd.underlying49 Tryd.underlying5 Tryd.underlying9 (by
    intro j hj
    have h0 : j = 0 := by simp at hj; omega
    subst h0
    show World.cell? _ ((⟨W.heap.size, 0, none⟩ : Addr).add 0) = _
    rw [show ((⟨W.heap.size, 0, none⟩ : Addr).add 0) = ⟨W.heap.size, 0, none⟩ from rfl, cell_of_row _ _ 0 _ _ (0, 0) (heap_alloc_new W _)]
    simp only [List.getElem_cons_zero]
    rw [digB_nat n hn, hv]
    rfl)
  exact h

theorem conv_any (n : Nat) (v : Int) (hn : n < 10) (hv : v = 48 + (n : Int)) (W : World) (b : Nat) (hc : W.cell? ⟨b, 0, none⟩ = some (.int .u8 v)) : (convert 49 9 (.slice (some ⟨b, 0, none⟩) 1 1)).run Tryd.prog W = .ok (.string ⟨#[digB n]⟩) W := by
  have h := run_convert_bytes_back (P := Tryd.prog) W 49 9 5 ⟨b, 0, none⟩ 1 [digB n] Tryd.underlying49 Tryd.underlying5 Tryd.underlying9 (by
    intro j hj
    have h0 : j = 0 := by simp at hj; omega
    subst h0
    show World.cell? _ ((⟨b, 0, none⟩ : Addr).add 0) = _
    rw [show ((⟨b, 0, none⟩ : Addr).add 0) = ⟨b, 0, none⟩ from rfl, hc]
    simp only [List.getElem_cons_zero]
    rw [digB_nat n hn, hv]
    rfl)
  exact h

set_option maxHeartbeats 400000 in
set_option maxRecDepth 100000 in
theorem digits_small (n : Nat) (w : World) (hn : n < 10) : Calls Tryd.prog 22 #[.int .i64 n] w (DigPost n w) := by
  have hcv := fun W : World => conv_one W n (48 + (n : Int)) hn rfl
  have hd : digL n = [digB n] := by rw [digL, if_pos hn]
  have H := Lib.hid (show ∀ w', Below w.heap.size w w' → DigPost n w (.returned (.string ⟨#[digB n]⟩)) w' from fun w' hb => ⟨by rw [hd], hb⟩)
  clear hd
  go_enter Tryd.func22, Tryd.ntmps22
  go_wp2
  go_ret
  exact H.out _ ((Below.refl _ _).alloc (Nat.le_refl _) _)
set_option maxHeartbeats 400000 in
set_option maxRecDepth 100000 in
theorem digits_big (n : Nat) (w : World) (hn : 10 ≤ n) (hn2 : n ≤ 1000000000) (ih : ∀ w, Calls Tryd.prog 22 #[.int .i64 ((n : Int) / 10)] w (DigPost (n / 10) w)) : Calls Tryd.prog 22 #[.int .i64 n] w (DigPost n w) := by
  have IH := Lib.hid ih
  have hcv := conv_any (n % 10) (48 + (n : Int) % 10) (by omega) (by omega)
  have hd : digL n = digL (n / 10) ++ [digB (n % 10)] := by rw [digL, if_neg (by omega)]
  have H := Lib.hid (show ∀ (x : ByteArray) w', x.data.toList = digL n → Below w.heap.size w w' → DigPost n w (.returned (.string x)) w' from fun x w' hx hb => ⟨by rw [← hx], hb⟩)
  rw [hd] at H
  clear ih hd
  go_enter Tryd.func22, Tryd.ntmps22
  go_wp2_with fail
  have hl := digL_len (n / 10)
  have hl2 : (digL (n / 10)).length ≤ 1000000001 := by omega
  have hl3 : ((digL (n / 10)).length : Int) ≤ 1000000001 := by omega
  clear hl
  have q1 : IntKind.i64.wrap ((n : Int) / 10) = (n : Int) / 10 := IntWalk.i64_in _ (by omega)
  have q2 : (n : Int).tmod 10 = (n : Int) % 10 := Int.tmod_eq_emod_of_nonneg (by omega)
  have q3 : IntKind.i64.wrap (48 + (n : Int) % 10) = 48 + (n : Int) % 10 := IntWalk.i64_in _ (by omega)
  have q4 : IntKind.u8.wrap (48 + (n : Int) % 10) = 48 + (n : Int) % 10 := by simp [IntKind.wrap, IntKind.bits, IntKind.signed]; omega
  go_region_with (go_at_call 22; refine (IH.out _).mono ?_; rintro e w' ⟨rfl, hb⟩; obtain ⟨hc, hf⟩ := bcell hb)
  all_goals
    clear q1 q2 q3 q4 hcv
    go_wp2
    go_ret
    refine H.out _ _ (by simp) ?_
    first
      | exact (((Below.refl w.heap.size w).drew).trans hb).alloc hb.size _
      | exact (((Below.refl w.heap.size w).drew).alloc (Nat.le_refl _) _).trans (hb.mono (by simp))
theorem digits_any (n : Nat) : ∀ (w : World), n ≤ 1000000000 → Calls Tryd.prog 22 #[.int .i64 n] w (DigPost n w) := by
  induction n using Nat.strongRecOn with
  | _ n ih =>
    intro w hn
    by_cases h : n < 10
    · exact digits_small n w h
    · exact digits_big n w (by omega) hn (fun w => by
        have := ih (n / 10) (by omega) w (by omega)
        rw [show ((n / 10 : Nat) : Int) = (n : Int) / 10 by omega] at this
        exact this)
end Go.Proofs.YtkoojiblkapmbaaDoor
