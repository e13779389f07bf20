/- Package machine: newMachine. -/
import Derived.Test.YthgngkajdiclcaaDoorNdB
import Derived.Deep.AppendLies
import Derived.Laws.AppendOwn
import Derived.Laws.Rows
import Derived.Laws.NewBlocks
namespace Go.Proofs.YthgngkajdiclcaaDoor
open Go.RowKit
set_option linter.unusedVariables false
set_option linter.unusedSimpArgs false
namespace N
open K
def iCells (l : List Int) : List Value := l.map (Value.int .i64)
theorem addN (a b : Nat) : (⟨a, b, none⟩ : Addr).add = fun j => ⟨a, b + j, none⟩ := by
  funext j; unfold Addr.add; split <;> simp_all
theorem info_parts2 {i : Option TypeInfo} {z : Value} {s y : Nat} (h : i.map (fun i => (i.zero, i.size, i.bytes)) = some (some z, s, y)) : ∃ x, i = some x ∧ x.zero = some z ∧ x.size = s ∧ x.bytes = y := by
  cases i with
  | none => simp at h
  | some x => simp at h; exact ⟨x, rfl, h.1, h.2.1, h.2.2⟩
/-- a copy of a state -/
def ClO (B : Nat) (w : World) (st : List Int) (SA : Option Addr) : Prop := (∀ a, SA = some a → a.block < w.heap.size) ∧ (st = [] ∨ ∃ g cs T, SA = some ⟨g, 0, none⟩ ∧ B ≤ g ∧ w.heap[g]? = some (.cells cs T (0, 0)) ∧ ∀ (i : Nat) (n : Int), st[i]? = some n → cs[i]? = some (.int .i64 n))
theorem ClO.gr {B : Nat} {w w' : World} {st : List Int} {SA : Option Addr} (h : ClO B w st SA) (hg : Gr w w') : ClO B w' st SA := by
  refine ⟨fun a ha => Nat.lt_of_lt_of_le (h.1 a ha) hg.size, ?_⟩
  rcases h.2 with h | ⟨g, cs, T, h1, h2, h3, h4⟩
  · exact .inl h
  · exact .inr ⟨g, cs, T, h1, h2, grBlk hg h3, h4⟩
def ClP (st : List Int) (w : World) (e : Ending) (w' : World) : Prop := (∃ A cap, e = .returned (.slice A st.length cap) ∧ ClO w.heap.size w' st A ∧ (A = none → cap = 0)) ∧ Gr w w'
set_option maxHeartbeats 1000000 in
set_option maxRecDepth 100000 in
theorem Clone_any (st : List Int) (SA : Option Addr) (sc : Nat) (w : World) (hS : IntsR w st SA) (h1 : st.length ≤ 1000) (hn : SA = none → sc = 0) :
    Calls Tryd.prog 32 #[.slice SA st.length sc] w (ClP st w) := by
  by_cases h0 : 0 < st.length
  · obtain ⟨g, o, rfl, hat⟩ := hS.addr (by intro e; rw [e] at h0; simp at h0)
    have hc : ∀ (j : Nat) (u : Value), (iCells st)[j]? = some u → w.cell? ⟨g, o + j, none⟩ = some u := by
      intro j u hu
      simp only [iCells, List.getElem?_map, Option.map_eq_some_iff] at hu
      obtain ⟨n, hn, rfl⟩ := hu
      exact hat j n hn
    have hc := Lib.hid hc
    have h1' : Hid (∀ u ∈ iCells st, u.oneCell' = true) := Lib.hid (by intro u hu; obtain ⟨n, -, rfl⟩ := List.mem_map.1 hu; rfl)
    have hln : (iCells st).length = st.length := by simp [iCells]
    have hnil : ∀ wx, (binOp .eql 27 (.slice (some ⟨g, o, none⟩) st.length sc) (.slice none 0 0)).run Tryd.prog wx = .ok (.bool false) wx := fun wx => Lib.run_eql_slice_nil wx _ 3 _ _ _ _ _ Tryd.underlying27
    obtain ⟨ix, hi, hz0, hz1, hz2⟩ := info_parts2 intInfo
    have hO : Hid ((w.alloc (.cells #[] 3)).ownsRow w.heap.size 3 1 (.slice (some ⟨w.heap.size, 0, none⟩) 0 0) 0 []) := Lib.hid (World.ownsRow_made w #[] 0 (Nat.le_refl _) (Nat.zero_le _) rfl)
    have hgr := Lib.hid (grAlloc w (.cells #[] 3))
    clear hat hS hn
    go_enter Tryd.func32, Tryd.ntmps32
    go_wp2_with (at_builtin; refine wpList_append_lies _ rfl _ _ 27 rfl w.heap.size 3 ix (.int .i64 0) 1 8 Tryd.underlying27 hi hz0 hz1 hz2 rfl (by decide) _ 0 [] rfl hO.out ⟨g, o, none⟩ st.length sc (iCells st) rfl ?c0 ?c1 h1'.out h0 ?c3 ?c4 ?c5 (w.heap.size + 1) ?c6 ?_)
    case c0 => omega
    case c1 => intro j x hj; rw [addN]; exact grCell hgr.out (hc.out j x hj)
    case c3 => unfold maxLen; omega
    case c4 => omega
    case c5 => simp
    case c6 => simp
    intro gb cap w3 hown3 hgrow hat hlt3
    have hown3 : w3.ownsRow w.heap.size 3 1 (.slice (some ⟨gb, 0, none⟩) st.length cap) st.length (iCells st) := by simpa using hown3
    have hO3 : Hid (ClO w.heap.size w3 st (some ⟨gb, 0, none⟩)) := Lib.hid (by
      rcases hown3.2 with ⟨h, -⟩ | ⟨g2, cap2, cur, hv, hg, hh, -, -, -, ht⟩
      · cases h
      · simp only [Value.slice.injEq, Option.some.injEq, Addr.mk.injEq] at hv
        obtain ⟨⟨rfl, -⟩, -⟩ := hv
        refine ⟨fun a ha => by cases ha; exact blkLt hh, .inr ⟨gb, cur, 3, rfl, hg, hh, fun i n hi => ?_⟩⟩
        have hlt : i < st.length := (List.getElem?_eq_some_iff.1 hi).1
        have := congrArg (fun l => l[i]?) ht
        simp only [Nat.mul_one] at this
        rw [List.getElem?_take_of_lt hlt] at this
        simp [iCells, hi] at this
        exact this)
    have hB3 := Lib.hid (Below.trans hgr.out (gbBelow (B := w.heap.size) hgrow (by simp) (fun k e => by simp [Value.ownBlock] at e; omega)))
    clear hown3 hgrow hat
    go_wp2
    exact bodyPost_ret (v := .slice (some ⟨gb, 0, none⟩) st.length cap) (by simp [results, Tryd.results32, go_sem]) rfl ⟨⟨some ⟨gb, 0, none⟩, cap, rfl, hO3.out, fun h => by cases h⟩, hB3.out⟩
  · obtain rfl : st = [] := List.eq_nil_of_length_eq_zero (by omega)
    clear h0 h1 hS
    have hgr := Lib.hid (grAlloc w (.cells #[] 3))
    cases SA with
    | none =>
      obtain rfl : sc = 0 := hn rfl
      have hnil : ∀ wx, (binOp .eql 27 (.slice none 0 0) (.slice none 0 0)).run Tryd.prog wx = .ok (.bool true) wx := fun wx => Lib.run_eql_slice_nil wx _ 3 _ _ _ _ _ Tryd.underlying27
      go_enter Tryd.func32, Tryd.ntmps32
      go_wp2
      go_ret
      exact ⟨⟨none, 0, rfl, ⟨fun a ha => (by cases ha), .inl rfl⟩, fun _ => rfl⟩, Below.refl _ _⟩
    | some a =>
      have hnil : ∀ wx, (binOp .eql 27 (.slice (some a) 0 sc) (.slice none 0 0)).run Tryd.prog wx = .ok (.bool false) wx := fun wx => Lib.run_eql_slice_nil wx _ 3 _ _ _ _ _ Tryd.underlying27
      clear hn
      go_enter Tryd.func32, Tryd.ntmps32
      go_wp2
      go_ret
      exact ⟨⟨some ⟨w.heap.size, 0, none⟩, 0, rfl, ⟨fun a ha => by cases ha; simp, .inl rfl⟩, fun h => by cases h⟩, hgr.out⟩
/-- the cells of a new machine -/
abbrev nwA (VS SS : Value) (i0 i1 i2 i3 : Int) : Array Value := #[VS, SS, .int .i64 i0, .int .i64 i1, .int .i64 i2, .int .i64 i3, .int .i64 0, .int .i64 0, .int .i64 0, .int .i64 0, .int .i64 0, .int .i64 0, .int .i64 0, .int .i64 0, .int .i64 0, .int .i64 0, .int .i64 0, .int .i64 0, .int .i64 0, .int .i64 0, .int .i64 0, .int .i64 0, .int .i64 0, .int .i64 0, .int .i64 0, .int .i64 0, .int .i64 0, .int .i64 0, .int .i64 0, .int .i64 0, .int .i64 0, .int .i64 0, .int .i64 0, .int .i64 0, .int .i64 0, .int .i64 0, .int .i64 0, .int .i64 0, .int .i64 0, .int .i64 0, .int .i64 0, .int .i64 0, .int .i64 0, .int .i64 0, .int .i64 0, .int .i64 0, .int .i64 0, .int .i64 0, .int .i64 0, .int .i64 0, .int .i64 0, .int .i64 0, .int .i64 0, .int .i64 0, .int .i64 0, .int .i64 0, .int .i64 0, .int .i64 0, .int .i64 0, .int .i64 0, .int .i64 0, .int .i64 0, .int .i64 0, .int .i64 0, .int .i64 0, .int .i64 0, .int .i64 0, .int .i64 0, .int .i64 0, .int .i64 0, .int .i64 0]
theorem MC.new (VS SS : Value) (i0 i1 i2 i3 : Int) : MC (nwA VS SS i0 i1 i2 i3) VS SS i0 i1 i2 i3 [] := ⟨rfl, rfl, rfl, rfl, rfl, rfl, rfl, rfl, trivial, Nat.zero_le _⟩
/-- what newMachine leaves -/
def NmP (VA : Option Addr) (vl vc : Nat) (st : List Int) (i0 i1 i2 i3 : Int) (w : World) (e : Ending) (w' : World) : Prop :=
  (∃ b A cap, e = .returned (.pointer (some ⟨b, 0, none⟩)) ∧ w.heap.size ≤ b ∧ MAt w' b (.slice VA vl vc) (.slice A st.length cap) i0 i1 i2 i3 [] ∧ StO w.heap.size b w' st A ∧ (∀ g, A = some ⟨g, 0, none⟩ → g < w'.heap.size) ∧ (A = none → cap = 0)) ∧ Gr w w'
set_option maxHeartbeats 4000000 in
set_option maxRecDepth 100000 in
theorem newMachine_any (VA : Option Addr) (vl vc : Nat) (st : List Int) (SA : Option Addr) (sc : Nat) (e i0 i1 i2 i3 : Int) (w : World) (hS : IntsR w st SA) (h1 : st.length ≤ 1000) (hn : SA = none → sc = 0) :
    Calls Tryd.prog 23 #[.slice VA vl vc, .slice SA st.length sc, .agg (clA e i0 i1 i2 i3)] w (NmP VA vl vc st i0 i1 i2 i3 w) := by
  obtain ⟨W1, hW1⟩ : ∃ W1, W1 = w.alloc (.cells (clA e i0 i1 i2 i3) 30) := ⟨_, rfl⟩
  have hG1 : Gr w W1 := by rw [hW1]; exact grAlloc _ _
  have HG1 := Lib.hid hG1
  obtain ⟨c0, c1, c2, c3, c4⟩ := cells5k (show W1.heap[w.heap.size]? = some (.cells (clA e i0 i1 i2 i3) 30 (0, 0)) by rw [hW1]; exact nBlk _ _ _ rfl)
  have HC := Lib.hid (fun (wx : World) (hg : Gr w wx) => Clone_any st SA sc wx (hS.gr hg) h1 hn)
  clear hS hG1 hn
  generalize hsl : st.length = sl at *
  have hslH := Lib.hid hsl
  clear hsl
  go_enter Tryd.func23, Tryd.ntmps23
  go_upto_region 1 with fail
  rw [← hW1]
  clear hW1
  refine wp_region_G (S := fun wq => Gr W1 wq) (by kernel_rfl) (grDrew _) (fun hHeld => ?_)
  have hSG : Hid (∀ wp wq : World, Gr W1 wp → Gr wp wq → Gr W1 wq) := Lib.hid (fun _ _ h k => h.tr k)
  have hmv := Lib.hid (fun (wq : World) (hq : Gr W1 wq) => And.intro (grCell hq c0) (And.intro (grCell hq c1) (And.intro (grCell hq c2) (And.intro (grCell hq c3) (grCell hq c4)))))
  first
   | (refine tk hSG 0 (v := ?_) rfl (by kernel_rfl) (fun _ _ _ h => h) (by rfl) ?_ hHeld ?_; rotate_left; focus (intro w' hSw; obtain ⟨c0, c1, c2, c3, c4⟩ := hmv.out _ hSw; go_simp; (try with_reducible rfl)))
   | refine tn hSG 0 rfl (by kernel_rfl) (fun _ _ _ h => h) (by rfl) hHeld ?_
  (try simp only [zq1, zq2, zq3, Act.put, zq4, zq5, zq6])
  first
   | (refine tk hSG 1 (v := ?_) rfl (by kernel_rfl) (fun _ _ _ h => h) (by rfl) ?_ hHeld ?_; rotate_left; focus (intro w' hSw; obtain ⟨c0, c1, c2, c3, c4⟩ := hmv.out _ hSw; go_simp; (try with_reducible rfl)))
   | refine tn hSG 1 rfl (by kernel_rfl) (fun _ _ _ h => h) (by rfl) hHeld ?_
  (try simp only [zq1, zq2, zq3, Act.put, zq4, zq5, zq6])
  first
   | (refine tk hSG 3 (v := ?_) rfl (by kernel_rfl) (fun _ _ _ h => h) (by rfl) ?_ hHeld ?_; rotate_left; focus (intro w' hSw; obtain ⟨c0, c1, c2, c3, c4⟩ := hmv.out _ hSw; go_simp; (try with_reducible rfl)))
   | refine tn hSG 3 rfl (by kernel_rfl) (fun _ _ _ h => h) (by rfl) hHeld ?_
  (try simp only [zq1, zq2, zq3, Act.put, zq4, zq5, zq6])
  first
   | (refine tk hSG 4 (v := ?_) rfl (by kernel_rfl) (fun _ _ _ h => h) (by rfl) ?_ hHeld ?_; rotate_left; focus (intro w' hSw; obtain ⟨c0, c1, c2, c3, c4⟩ := hmv.out _ hSw; go_simp; (try with_reducible rfl)))
   | refine tn hSG 4 rfl (by kernel_rfl) (fun _ _ _ h => h) (by rfl) hHeld ?_
  (try simp only [zq1, zq2, zq3, Act.put, zq4, zq5, zq6])
  refine wpAnyG_ready (rs := [2]) (by kernel_rfl) (by simp) (AllG.cons rfl (fun w4 hg K hK => ?_) AllG.nil)
  have hgS := hSG.out _ _ hHeld.out hg
  go_simp
  go_at_call 32
  refine (HC.out _ (HG1.out.tr hgS)).mono ?_
  rintro e w5 ⟨⟨A, cap, he, hcl, hcn⟩, hg5⟩
  rw [hslH.out] at he
  subst he
  have hB5 := Lib.hid (HG1.out.tr (hgS.tr hg5))
  have hcl := Lib.hid hcl
  have hcn := Lib.hid hcn
  have hs4 := Lib.hid (show w.heap.size ≤ w4.heap.size from (HG1.out.tr hgS).size)
  refine hK.out _ _ (hgS.tr hg5) (fun hHeld => ?_)
  clear hK K hg hgS hg5
  first
   | (refine tk hSG 5 (v := ?_) rfl (by kernel_rfl) (fun _ _ _ h => h) (by rfl) ?_ hHeld ?_; rotate_left; focus (intro w' hSw; obtain ⟨c0, c1, c2, c3, c4⟩ := hmv.out _ hSw; go_simp; (try with_reducible rfl)))
   | refine tn hSG 5 rfl (by kernel_rfl) (fun _ _ _ h => h) (by rfl) hHeld ?_
  (try simp only [zq1, zq2, zq3, Act.put, zq4, zq5, zq6])
  refine wpAnyG_ready (rs := [6]) (by kernel_rfl) (by simp) (AllG.cons rfl (fun w6 hg K hK => ?_) AllG.nil)
  have hgS := hSG.out _ _ hHeld.out hg
  go_simp
  rw [show (((((((Tryd.zeroCells54.setIfInBounds 0 (Value.slice VA vl vc)).setIfInBounds 1 (Value.slice A sl cap)).setIfInBounds 2 (Value.int .i64 i0)).setIfInBounds 3 (Value.int .i64 i1)).setIfInBounds 4 (Value.int .i64 i2)).setIfInBounds 5 (Value.int .i64 i3))) = nwA (.slice VA vl vc) (.slice A sl cap) i0 i1 i2 i3 from rfl]
  refine hK.out _ _ (hgS.tr (grAlloc _ _)) (fun hHeld => ?_)
  have hb6 := hB5.out.size
  have hcl6 := hcl.out.gr (hg.tr (grAlloc w6 (.cells (nwA (.slice VA vl vc) (.slice A sl cap) i0 i1 i2 i3) 54)))
  have hcl5 := hcl.out
  have hM6 := Lib.hid (show MAt (w6.alloc (.cells (nwA (.slice VA vl vc) (.slice A sl cap) i0 i1 i2 i3) 54)) w6.heap.size (.slice VA vl vc) (.slice A sl cap) i0 i1 i2 i3 [] from ⟨_, nBlk _ _ _ rfl, MC.new _ _ _ _ _ _⟩)
  have hO6 := Lib.hid (show StO w.heap.size w6.heap.size (w6.alloc (.cells (nwA (.slice VA vl vc) (.slice A sl cap) i0 i1 i2 i3) 54)) st A from by
    rcases hcl6.2 with h | ⟨g, cs, T, h1, h2, h3, h4⟩
    · exact .inl h
    · refine .inr ⟨g, cs, T, h1, Nat.le_trans hs4.out h2, ?_, h3, h4⟩
      have hlt := hcl5.1 _ h1
      have := hg.size
      simp only at hlt
      omega)
  have hA6 := Lib.hid (show ∀ g, A = some ⟨g, 0, none⟩ → g < (w6.alloc (.cells (nwA (.slice VA vl vc) (.slice A sl cap) i0 i1 i2 i3) 54)).heap.size from fun g h => hcl6.1 _ h)
  have hB6 := Lib.hid (show Gr w (w6.alloc (.cells (nwA (.slice VA vl vc) (.slice A sl cap) i0 i1 i2 i3) 54)) from (hB5.out.tr hg).tr (grAlloc _ _))
  have hb6 := Lib.hid (show w.heap.size ≤ w6.heap.size from (hB5.out.tr hg).size)
  generalize hW6 : w6.alloc (.cells (nwA (.slice VA vl vc) (.slice A sl cap) i0 i1 i2 i3) 54) = W6 at *
  clear hK K hg hgS hcl6 hcl5 hW6
  first
   | (refine tk hSG 7 (v := ?_) rfl (by kernel_rfl) (fun _ _ _ h => h) (by rfl) ?_ hHeld ?_; rotate_left; focus (intro w' hSw; obtain ⟨c0, c1, c2, c3, c4⟩ := hmv.out _ hSw; go_simp; (try with_reducible rfl)))
   | refine tn hSG 7 rfl (by kernel_rfl) (fun _ _ _ h => h) (by rfl) hHeld ?_
  (try simp only [zq1, zq2, zq3, Act.put, zq4, zq5, zq6])
  refine wpAnyG_done (by kernel_rfl) (fun w9 hg => ?_) _
  have hM9 := Lib.hid (hM6.out.gr hg)
  have hO9 := Lib.hid (hO6.out.gr hg)
  have hB9 := Lib.hid (Gr.tr hB6.out hg)
  have hA9 := Lib.hid (fun g h => Nat.lt_of_lt_of_le (hA6.out g h) hg.size)
  clear hg hSG hHeld hM6 hO6 hB6 hA6 c0 c1 c2 c3 c4
  go_wp2
  go_ret
  exact ⟨⟨_, A, cap, rfl, hb6.out, by rw [hslH.out]; exact hM9.out, hO9.out, hA9.out, hcn.out⟩, hB9.out⟩
end N
end Go.Proofs.YthgngkajdiclcaaDoor
