/- Package maxmin: whether a flow has a stop; whether all have. -/
import Derived.Test.YtbjhdfakocfapaaMsS
namespace Go.Proofs.Ytbjhdfakocfapaa
open Go.RowKit
set_option linter.unusedVariables false
set_option linter.unusedSimpArgs false
theorem any_drop {α : Type} {p : α → Bool} {l : List α} {k : Nat} (h : k < l.length) : (l.drop k).any p = (p l[k] || (l.drop (k + 1)).any p) := by
  rw [List.drop_eq_getElem_cons h, List.any_cons]
theorem any_end {α : Type} {p : α → Bool} {l : List α} {k : Nat} (h : l.length ≤ k) : (l.drop k).any p = false := by rw [List.drop_eq_nil_of_le h]; rfl
def stB (n : Net) (xs : List Q) (i : Nat) (l : Int) : Bool := fullM n xs l.toNat && grM n xs i l
def hsM (n : Net) (xs : List Q) (i : Nat) : Bool := (n.f[i]?.getD []).any (stB n xs i)
set_option maxHeartbeats 4000000 in
set_option maxRecDepth 100000 in
theorem hasStop_any (n : Net) (a : NetA) (xs : List Q) (XA : Option Addr) (xm : Nat) (i : Nat) (hi : i < n.f.length) (hrl : ∀ r ∈ n.f, ∀ l ∈ r, 0 ≤ l ∧ l < n.c.length) (w : World) (hA : Alc w n a xs XA) :
    Calls Try.prog 53 #[alv n a xs XA xm, .int .i64 (i : Int)] w (VV (.bool (hsM n xs i)) w) := by
  obtain ⟨W1, hW1⟩ : ∃ W1, W1 = w.alloc (alB n a xs XA xm) := ⟨_, rfl⟩
  have G1 : Gr w W1 := by rw [hW1]; exact grAlloc _ _
  have A1 : W1.heap[w.heap.size]? = some (alB n a xs XA xm) := by rw [hW1]; exact newBlk _ _ _ rfl
  obtain ⟨a0, a1, a2, a3⟩ := cells4 A1
  obtain ⟨g, o, hFA, hcs⟩ := (hA.gr G1).net.2.1.addr (by omega)
  obtain ⟨B, m, hc, hr⟩ := hcs i _ (List.getElem?_eq_getElem hi)
  have hrl1 := hrl _ (List.getElem_mem hi)
  have hrow1 := hA.hrow _ (List.getElem_mem hi)
  have eH : hsM n xs i = n.f[i].any (stB n xs i) := by unfold hsM; rw [List.getElem?_eq_getElem hi]; rfl
  rw [eH]
  rw [hFA] at a1
  have HF := Lib.hid (fun l hl wx hx => isFull_any n a xs XA xm l hl wx hx)
  have HGr := Lib.hid (fun l wx hx => isGreatest_any n a xs XA xm i l hi wx hx)
  have HA := Lib.hid hA
  have HG := Lib.hid G1
  have HB := Lib.hid A1
  have HR := Lib.hid hr
  have HFA := Lib.hid hFA
  generalize n.f[i] = row at *
  have HL := Lib.hid (And.intro hrl1 hrow1)
  clear hA hFA hcs hrl1 hrow1 hrl eH G1 A1 hr
  go_enter Try.func53, Try.ntmps53
  go_upto_region 1 with fail
  rw [← hW1]
  clear hW1
  go_wp2
  go_loopg [14] (row.length) (fun gk s wr => ∃ k : Nat, k + gk = row.length ∧ s = .int .i64 k ∧ Hid ((row.drop k).any (stB n xs i) = row.any (stB n xs i)) ∧ Hid (wr.heap[w.heap.size]? = some (alB n a xs XA xm)) ∧ Hid (Gr W1 wr))
  case atStart => exact ⟨0, by omega, rfl, rfl, HB.out, Below.refl _ _⟩
  case round =>
    obtain ⟨k, hk, rfl, hS, hB, hW⟩ := hrel
    clear a0 a1 a2 a3 hc
    obtain ⟨a0, a1, a2, a3⟩ := cells4 hB.out
    by_cases hlt : k < row.length
    · obtain ⟨g9, rfl⟩ : ∃ g, gk = g + 1 := ⟨gk - 1, by omega⟩
      obtain ⟨gr, og, rfl, hcs⟩ := (HR.out.gr hW.out).addr (by omega)
      have hc := hcs k _ (List.getElem?_eq_getElem hlt)
      have hy := HL.out.1 _ (List.getElem_mem hlt)
      have h1 := hS.out
      rw [any_drop hlt] at h1
      clear hcs hS
      generalize row[k] = y at *
      obtain ⟨z, rfl⟩ : ∃ z : Nat, y = z := ⟨y.toNat, by omega⟩
      have hAl : Alc wr n a xs XA := HA.out.gr (Gr.tr HG.out hW.out)
      have HF1 := Lib.hid (HF.out z (by omega) wr hAl)
      have e1 : stB n xs i (z : Int) = (fullM n xs z && grM n xs i (z : Int)) := by unfold stB; rw [Int.toNat_natCast]
      rw [e1] at h1
      have hq : IntKind.i64.wrap ((k : Int) + 1) = (k : Int) + 1 := IntWalk.i64_in _ (by have := HL.out.2; omega)
      generalize fullM n xs z = b1 at *
      have HG1 := Lib.hid (fun wx hg => HGr.out (z : Int) wx (hAl.gr hg))
      generalize grM n xs i (z : Int) = b2 at *
      have hbl := blkLt hB.out
      clear e1 hAl hy
      cases b1 with
      | false =>
        have h3 := Lib.hid (show (row.drop (k + 1)).any (stB n xs i) = row.any (stB n xs i) by rw [← h1]; rfl)
        clear h1
        go_wp2_with (go_at_call 86; refine HF1.out.mono ?_; rintro e w2 ⟨rfl, hb2⟩; have hb2 := Lib.hid hb2)
        go_roundg g9
        case rel => exact ⟨k + 1, by omega, by go_num, h3, Lib.hid (grBlk hb2.out hB.out), Lib.hid (Gr.tr hW.out hb2.out)⟩
        case measure => omega
      | true =>
        cases b2 with
        | false =>
          have h3 := Lib.hid (show (row.drop (k + 1)).any (stB n xs i) = row.any (stB n xs i) by rw [← h1]; rfl)
          clear h1
          go_wp2_with (first
            | (go_at_call 86; refine HF1.out.mono ?_; rintro e w2 ⟨rfl, hb2⟩; have hb2 := Lib.hid hb2; have a0 := grCell hb2.out a0; have a1 := grCell hb2.out a1; have a2 := grCell hb2.out a2; have a3 := grCell hb2.out a3)
            | (go_at_call 87; refine (HG1.out _ hb2.out).mono ?_; rintro e w3 ⟨rfl, hb3⟩; have hb3 := Lib.hid hb3))
          go_roundg g9
          case rel => exact ⟨k + 1, by omega, by go_num, h3, Lib.hid (grBlk hb3.out (grBlk hb2.out hB.out)), Lib.hid (Gr.tr hW.out (Gr.tr hb2.out hb3.out))⟩
          case measure => omega
        | true =>
          have h3 := Lib.hid (show row.any (stB n xs i) = true by rw [← h1]; rfl)
          clear h1
          go_wp2_with (first
            | (go_at_call 86; refine HF1.out.mono ?_; rintro e w2 ⟨rfl, hb2⟩; have hb2 := Lib.hid hb2; have a0 := grCell hb2.out a0; have a1 := grCell hb2.out a1; have a2 := grCell hb2.out a2; have a3 := grCell hb2.out a3)
            | (go_at_call 87; refine (HG1.out _ hb2.out).mono ?_; rintro e w3 ⟨rfl, hb3⟩; have hb3 := Lib.hid hb3))
          go_ret
          exact ⟨ret_b (by rw [h3.out]), Gr.tr HG.out (Gr.tr hW.out (Gr.tr hb2.out hb3.out))⟩
    · have h3 := Lib.hid ((any_end (p := stB n xs i) (l := row) (k := k) (by omega)).symm.trans hS.out)
      go_wp2
      go_ret
      exact ⟨ret_b (by rw [← h3.out]), Gr.tr HG.out hW.out⟩
end Go.Proofs.Ytbjhdfakocfapaa
