/- Package machine: pop, operands. -/
import Derived.Test.YthgngkajdiclcaaDoorNbA
namespace Go.Proofs.YthgngkajdiclcaaDoor
open Go.RowKit
set_option linter.unusedVariables false
set_option linter.unusedSimpArgs false
namespace N
open K
/-- below B only block b has changed -/
structure Ch (B b : Nat) (w w' : World) : Prop where
  os : w'.os = w.os
  tape : w'.tape = w.tape
  output : w'.output = w.output
  size : w.heap.size ≤ w'.heap.size
  block : ∀ k, k < B → k ≠ b → w'.heap[k]? = w.heap[k]?
theorem Ch.refl (B b : Nat) (w : World) : Ch B b w w := ⟨rfl, rfl, rfl, Nat.le_refl _, fun _ _ _ => rfl⟩
theorem Ch.gr {B b : Nat} {a w w' : World} (h : Ch B b a w) (hB : B ≤ a.heap.size) (hg : Gr w w') : Ch B b a w' :=
  ⟨hg.os.trans h.os, hg.tape.trans h.tape, hg.output.trans h.output, Nat.le_trans h.size hg.size, fun k hk hn => (hg.block k (by have := h.size; omega)).trans (h.block k hk hn)⟩
theorem Ch.set {B b p i : Nat} {a w : World} {v : Value} (h : Ch B b a w) (hp : p = b ∨ B ≤ p) : Ch B b a (w.setCell ⟨p, i, none⟩ v) :=
  ⟨h.os, h.tape, h.output, by simpa using h.size, fun k hk hn => (heap_setCell_other w _ k v (by simp only; omega)).trans (h.block k hk hn)⟩
theorem Ch.gb {b : Nat} {a w : World} (h : Ch a.heap.size b a w) : a.grownBy w (some b) :=
  ⟨h.os, h.tape, h.output, h.size, fun k hk hn => h.block k hk (fun e => hn (by rw [e]))⟩
theorem Ch.trans {B b : Nat} {x y z : World} (h : Ch B b x y) (k : Ch B b y z) : Ch B b x z :=
  ⟨k.os.trans h.os, k.tape.trans h.tape, k.output.trans h.output, Nat.le_trans h.size k.size, fun i hi hn => (k.block i hi hn).trans (h.block i hi hn)⟩
def ptrs (ps : List Nat) : Array Value := (ps.map (fun p => Value.pointer (some ⟨p, 0, none⟩))).toArray
theorem ptrs_at {w : World} {q : Nat} {ps : List Nat} {T : TypeId} (h : w.heap[q]? = some (.cells (ptrs ps) T (0, 0))) {k : Nat} (hk : k < ps.length) : w.cell? ⟨q, k, none⟩ = some (.pointer (some ⟨ps[k], 0, none⟩)) := by
  rw [cell_of_row _ _ k _ _ (0, 0) h]
  simp [ptrs, hk]
theorem oth {w : World} {a b i : Nat} {v : Value} {o : Option Obj} (h : w.heap[a]? = o) (hne : a ≠ b) : (w.setCell ⟨b, i, none⟩ v).heap[a]? = o := (heap_setCell_other w _ a v (by simp only; omega)).trans h
theorem one_set {w : World} {p : Nat} {v n : Int} {T : TypeId} (h : w.heap[p]? = some (.cells #[.int .i64 v] T (0, 0))) : (w.setCell ⟨p, 0, none⟩ (.int .i64 n)).heap[p]? = some (.cells #[.int .i64 n] T (0, 0)) := by
  rw [heap_setCell_same w p 0 _ _ _ h]; simp
/-- numbers that are to be written, and where -/
structure PQ (B b q : Nat) (ps : List Nat) (w : World) : Prop where
  hq : w.heap[q]? = some (.cells (ptrs ps) 86 (0, 0))
  hp : ∀ p ∈ ps, ∃ v : Int, w.heap[p]? = some (.cells #[.int .i64 v] 3 (0, 0))
structure PS (B b q : Nat) (ps : List Nat) : Prop where
  ne : ∀ p ∈ ps, p ≠ b ∧ p ≠ q ∧ B ≤ p
  nd : ps.Nodup
  qb : q ≠ b
theorem PQ.gr {B b q : Nat} {ps : List Nat} {w w' : World} (h : PQ B b q ps w) (hg : Gr w w') : PQ B b q ps w' :=
  ⟨grBlk hg h.hq, fun p hp => by obtain ⟨v, hv⟩ := h.hp p hp; exact ⟨v, grBlk hg hv⟩⟩
theorem PQ.setB {B b q i : Nat} {ps : List Nat} {w : World} {u : Value} (h : PQ B b q ps w) (s : PS B b q ps) : PQ B b q ps (w.setCell ⟨b, i, none⟩ u) :=
  ⟨oth h.hq s.qb, fun p hp => by obtain ⟨v, hv⟩ := h.hp p hp; exact ⟨v, oth hv (s.ne p hp).1⟩⟩
theorem PQ.setP {B b q x : Nat} {ps : List Nat} {w : World} {n : Int} (h : PQ B b q ps w) (s : PS B b q ps) (hx : x ∈ ps) : PQ B b q ps (w.setCell ⟨x, 0, none⟩ (.int .i64 n)) :=
  ⟨oth h.hq (s.ne x hx).2.1.symm, fun p hp => by
    obtain ⟨v, hv⟩ := h.hp p hp
    by_cases e : p = x
    · subst e; exact ⟨n, one_set hv⟩
    · exact ⟨v, oth hv e⟩⟩
/-- the first k are written -/
def Wr (ps : List Nat) (ns : List Int) (k : Nat) (w : World) : Prop := ∀ j p n, j < k → ps[j]? = some p → ns[j]? = some n → w.heap[p]? = some (.cells #[.int .i64 n] 3 (0, 0))
theorem Wr.gr {ps : List Nat} {ns : List Int} {k : Nat} {w w' : World} (h : Wr ps ns k w) (hg : Gr w w') : Wr ps ns k w' := fun j p n hj hp hn => grBlk hg (h j p n hj hp hn)
theorem Wr.setB {B b q i : Nat} {ps : List Nat} {ns : List Int} {k : Nat} {w : World} {u : Value} (h : Wr ps ns k w) (s : PS B b q ps) : Wr ps ns k (w.setCell ⟨b, i, none⟩ u) :=
  fun j p n hj hp hn => oth (h j p n hj hp hn) (s.ne p (List.mem_of_getElem? hp)).1
theorem Wr.next {B b q : Nat} {ps : List Nat} {ns : List Int} {k x : Nat} {w : World} {n : Int} (h : Wr ps ns k w) (hq : PQ B b q ps w) (s : PS B b q ps) (hx : ps[k]? = some x) (hn : ns[k]? = some n) : Wr ps ns (k + 1) (w.setCell ⟨x, 0, none⟩ (.int .i64 n)) := by
  intro j p m hj hp hm
  by_cases e : j = k
  · subst e
    rw [hx] at hp; rw [hn] at hm
    cases hp; cases hm
    obtain ⟨v, hv⟩ := hq.hp x (List.mem_of_getElem? hx)
    exact one_set hv
  · refine oth (h j p m (by omega) hp hm) (fun e2 => e ?_)
    subst e2
    have h1 := List.getElem?_eq_some_iff.1 hp
    have h2 := List.getElem?_eq_some_iff.1 hx
    obtain ⟨a1, a2⟩ := h1
    obtain ⟨b1, b2⟩ := h2
    exact (List.getElem_inj s.nd).1 (a2.trans b2.symm)
/-- what pop leaves -/
def PoP (B b : Nat) (VS SS : Value) (i0 i1 i2 i3 : Int) (ps : List Nat) (ns s : List Int) (w : World) (e : Ending) (w' : World) : Prop :=
  e = .returned (.tuple #[]) ∧ MAt w' b VS SS i0 i1 i2 i3 s ∧ Wr ps ns ps.length w' ∧ Ch B b w w'
set_option maxHeartbeats 1000000 in
set_option maxRecDepth 100000 in
theorem pop_any (B b q c : Nat) (VS SS : Value) (i0 i1 i2 i3 : Int) (ps : List Nat) (ns s : List Int) (w : World) (hM : MAt w b VS SS i0 i1 i2 i3 (ns ++ s)) (hlen : ps.length = ns.length) (hsm : ps.length ≤ 2) (hS : PS B b q ps) (hQ : PQ B b q ps w) (hB : B ≤ w.heap.size) :
    Calls Tryd.prog 64 #[.pointer (some ⟨b, 0, none⟩), .slice (some ⟨q, 0, none⟩) ps.length c] w (PoP B b VS SS i0 i1 i2 i3 ps ns s w) := by
  have HM := Lib.hid hM
  have HQ := Lib.hid hQ
  have HS := Lib.hid hS
  have HB := Lib.hid hB
  have hlH := Lib.hid hlen
  clear hM hQ hS hB hlen
  go_enter Tryd.func64, Tryd.ntmps64
  go_wp2_with fail
  go_loopg [8] (ps.length) (fun gk i wr => ∃ k : Nat, k + gk = ps.length ∧ i = .int .i64 k ∧ Hid (MAt wr b VS SS i0 i1 i2 i3 (ns.drop k ++ s)) ∧ Hid (PQ B b q ps wr) ∧ Hid (Wr ps ns k wr) ∧ Hid (Ch B b w wr))
  case atStart => exact ⟨0, by omega, rfl, HM, HQ, Lib.hid (fun j p n hj => by omega), Lib.hid (Ch.refl _ _ _)⟩
  case round =>
    obtain ⟨k, hk, rfl, hM, hQ, hW, hC⟩ := hrel
    by_cases hlt : k < ps.length
    · obtain ⟨gq, rfl⟩ : ∃ g, gk = g + 1 := ⟨gk - 1, by omega⟩
      have hln : k < ns.length := by have := hlH.out; omega
      have hM1 := hM.out
      rw [List.drop_eq_getElem_cons hln, List.cons_append] at hM1
      obtain ⟨-, -, -, -, -, -, e70⟩ := hM1.cells
      have d70 := hM1.fz 70
      have eq0 := ptrs_at hQ.out.hq hlt
      have hx : ps[k]? = some ps[k] := List.getElem?_eq_getElem hlt
      have hn : ns[k]? = some ns[k] := List.getElem?_eq_getElem hln
      have hl64 : (ns.drop (k + 1) ++ s).length ≤ 63 := by obtain ⟨cs, h1, h2⟩ := hM1; have := h2.hl; simp only [List.length_cons] at this; omega
      obtain ⟨L, hL⟩ : ∃ L, L = ns.drop (k + 1) ++ s := ⟨_, rfl⟩
      have hLH := Lib.hid hL
      rw [← hL] at hM1 e70 hl64
      have e71 : wr.cell? ⟨b, 70, none⟩ = some (.int .i64 ((L.length : Int) + 1)) := by rw [e70]; simp
      clear e70
      obtain ⟨hM2x, ht⟩ := hM1.take
      have hM2 := Lib.hid hM2x
      clear hM2x
      have hQ2 := Lib.hid (hQ.out.setB (i := 70) (u := .int .i64 L.length) HS.out)
      have hW2 := Lib.hid (hW.out.setB (i := 70) (u := .int .i64 L.length) HS.out)
      have hC2 := Lib.hid (hC.out.set (i := 70) (v := .int .i64 L.length) (.inl rfl))
      have f70 : (wr.setCell ⟨b, 70, none⟩ (.int .i64 L.length)).cell? ⟨b, 70, none⟩ = some (.int .i64 L.length) := hM2.out.cells.2.2.2.2.2.2
      have hxH := Lib.hid hx
      have hnH := Lib.hid hn
      obtain ⟨W1, hW1⟩ : ∃ W1, W1 = wr.setCell ⟨b, 70, none⟩ (.int .i64 L.length) := ⟨_, rfl⟩
      rw [← hW1] at hM2 hQ2 hW2 hC2 f70 ht
      clear hM hM1 hQ hW hC hL hx hn
      generalize hpk : ps[k] = x at *
      generalize hnk : ns[k] = n at *
      generalize hLl : L.length = ln at *
      have hLlH := Lib.hid hLl
      clear hpk hnk hLl
      have q0 : IntKind.i64.wrap ((ln : Int) + 1 - 1) = (ln : Int) := by rw [IntWalk.i64_in _ (by omega)]; omega
      go_upto_region 4 with fail
      rw [← hW1]
      clear hW1 e71 d70 eq0 q0
      refine wp_region_X (S := fun wq => Gr W1 wq) [11] (by kernel_rfl) (grDrew _) (fun hHeld => ?_)
      have hSG : Hid (∀ wp wq : World, Gr W1 wp → Gr wp wq → Gr W1 wq) := Lib.hid (fun _ _ h k => h.tr k)
      have hmv := Lib.hid (fun (wq : World) (hq : Gr W1 wq) => And.intro (grCell hq f70) (grCell hq ht))
      first
       | (refine xk hSG 0 [10, 11] (v := ?_) rfl (by kernel_rfl) (fun _ _ _ h => h) (by rfl) ?_ hHeld ?_; rotate_left; focus (intro w' hSw; obtain ⟨f70, ht⟩ := hmv.out _ hSw; go_simp; (try with_reducible rfl)))
       | refine xn hSG 0 [10, 11] rfl (by kernel_rfl) (fun _ _ _ h => h) (by rfl) hHeld ?_
      (try simp only [zq1, zq2, zq3, Act.put, zq4, zq5, zq6])
      first
       | (refine xk hSG 1 [6, 7, 8, 9, 10, 11] (v := ?_) rfl (by kernel_rfl) (fun _ _ _ h => h) (by rfl) ?_ hHeld ?_; rotate_left; focus (intro w' hSw; obtain ⟨f70, ht⟩ := hmv.out _ hSw; go_simp; (try with_reducible rfl)))
       | refine xn hSG 1 [6, 7, 8, 9, 10, 11] rfl (by kernel_rfl) (fun _ _ _ h => h) (by rfl) hHeld ?_
      (try simp only [zq1, zq2, zq3, Act.put, zq4, zq5, zq6])
      first
       | (refine xk hSG 2 [3, 4, 5, 8, 9, 10, 11] (v := ?_) rfl (by kernel_rfl) (fun _ _ _ h => h) (by rfl) ?_ hHeld ?_; rotate_left; focus (intro w' hSw; obtain ⟨f70, ht⟩ := hmv.out _ hSw; go_simp; (try with_reducible rfl)))
       | refine xn hSG 2 [3, 4, 5, 8, 9, 10, 11] rfl (by kernel_rfl) (fun _ _ _ h => h) (by rfl) hHeld ?_
      (try simp only [zq1, zq2, zq3, Act.put, zq4, zq5, zq6])
      first
       | (refine xk hSG 3 [4, 5, 8, 9, 10, 11] (v := ?_) rfl (by kernel_rfl) (fun _ _ _ h => h) (by rfl) ?_ hHeld ?_; rotate_left; focus (intro w' hSw; obtain ⟨f70, ht⟩ := hmv.out _ hSw; go_simp; (try with_reducible rfl)))
       | refine xn hSG 3 [4, 5, 8, 9, 10, 11] rfl (by kernel_rfl) (fun _ _ _ h => h) (by rfl) hHeld ?_
      (try simp only [zq1, zq2, zq3, Act.put, zq4, zq5, zq6])
      first
       | (refine xk hSG 4 [5, 8, 9, 10, 11] (v := ?_) rfl (by kernel_rfl) (fun _ _ _ h => h) (by rfl) ?_ hHeld ?_; rotate_left; focus (intro w' hSw; obtain ⟨f70, ht⟩ := hmv.out _ hSw; go_simp; (try with_reducible rfl)))
       | refine xn hSG 4 [5, 8, 9, 10, 11] rfl (by kernel_rfl) (fun _ _ _ h => h) (by rfl) hHeld ?_
      (try simp only [zq1, zq2, zq3, Act.put, zq4, zq5, zq6])
      first
       | (refine xk hSG 5 [8, 9, 10, 11] (v := ?_) rfl (by kernel_rfl) (fun _ _ _ h => h) (by rfl) ?_ hHeld ?_; rotate_left; focus (intro w' hSw; obtain ⟨f70, ht⟩ := hmv.out _ hSw; go_simp; (try with_reducible rfl)))
       | refine xn hSG 5 [8, 9, 10, 11] rfl (by kernel_rfl) (fun _ _ _ h => h) (by rfl) hHeld ?_
      (try simp only [zq1, zq2, zq3, Act.put, zq4, zq5, zq6])
      first
       | (refine xk hSG 6 [7, 8, 9, 10, 11] (v := ?_) rfl (by kernel_rfl) (fun _ _ _ h => h) (by rfl) ?_ hHeld ?_; rotate_left; focus (intro w' hSw; obtain ⟨f70, ht⟩ := hmv.out _ hSw; go_simp; (try with_reducible rfl)))
       | refine xn hSG 6 [7, 8, 9, 10, 11] rfl (by kernel_rfl) (fun _ _ _ h => h) (by rfl) hHeld ?_
      (try simp only [zq1, zq2, zq3, Act.put, zq4, zq5, zq6])
      first
       | (refine xk hSG 7 [8, 9, 10, 11] (v := ?_) rfl (by kernel_rfl) (fun _ _ _ h => h) (by rfl) ?_ hHeld ?_; rotate_left; focus (intro w' hSw; obtain ⟨f70, ht⟩ := hmv.out _ hSw; go_simp; (try with_reducible rfl)))
       | refine xn hSG 7 [8, 9, 10, 11] rfl (by kernel_rfl) (fun _ _ _ h => h) (by rfl) hHeld ?_
      (try simp only [zq1, zq2, zq3, Act.put, zq4, zq5, zq6])
      refine xk hSG 8 [9, 10, 11] (v := .pointer (some ⟨b, 6 + ln, none⟩)) rfl (by kernel_rfl) (fun _ _ _ h => h) (by rfl) ?_ hHeld ?_
      focus (intro w' hSw; obtain ⟨f70, ht⟩ := hmv.out _ hSw; go_simp; (try (intro hq; omega)))
      (try simp only [zq1, zq2, zq3, Act.put, zq4, zq5, zq6])
      first
       | (refine xk hSG 9 [10, 11] (v := ?_) rfl (by kernel_rfl) (fun _ _ _ h => h) (by rfl) ?_ hHeld ?_; rotate_left; focus (intro w' hSw; obtain ⟨f70, ht⟩ := hmv.out _ hSw; go_simp; (try with_reducible rfl)))
       | refine xn hSG 9 [10, 11] rfl (by kernel_rfl) (fun _ _ _ h => h) (by rfl) hHeld ?_
      (try simp only [zq1, zq2, zq3, Act.put, zq4, zq5, zq6])
      first
       | (refine xk hSG 10 [11] (v := ?_) rfl (by kernel_rfl) (fun _ _ _ h => h) (by rfl) ?_ hHeld ?_; rotate_left; focus (intro w' hSw; obtain ⟨f70, ht⟩ := hmv.out _ hSw; go_simp; (try with_reducible rfl)))
       | refine xn hSG 10 [11] rfl (by kernel_rfl) (fun _ _ _ h => h) (by rfl) hHeld ?_
      (try simp only [zq1, zq2, zq3, Act.put, zq4, zq5, zq6])
      refine wpAnyX_oneX (i := 11) (by kernel_rfl) (by kernel_rfl) rfl (fun w6 hg K hK => ?_)
      have hg6 := hHeld.out.tr hg
      have hQ6 := Lib.hid (hQ2.out.gr hg6)
      obtain ⟨v, hv⟩ := hQ6.out.hp x (List.mem_of_getElem? hxH.out)
      have c0 : w6.cell? ⟨x, 0, none⟩ = some (.int .i64 v) := (cell_of_row _ _ 0 _ _ (0, 0) hv).trans rfl
      have d0 := frz hv 0
      go_simp
      refine hK.out _ _ ?_
      clear hK K hg hHeld hSG f70 ht c0 d0 hv
      have hne := HS.out.ne x (List.mem_of_getElem? hxH.out)
      have hM6 := Lib.hid ((hM2.out.gr hg6).keep (w' := w6.setCell ⟨x, 0, none⟩ (.int .i64 n)) (oth rfl (Ne.symm hne.1)))
      have hW6 := Lib.hid ((hW2.out.gr hg6).next hQ6.out HS.out hxH.out hnH.out)
      have hQ7 := Lib.hid (hQ6.out.setP (n := n) HS.out (List.mem_of_getElem? hxH.out))
      have hC6 := Lib.hid ((hC2.out.gr HB.out hg6).set (i := 0) (v := .int .i64 n) (.inr hne.2.2))
      clear hg6 hne hM2 hQ2 hW2 hC2 hQ6
      refine wpAnyX_done (by kernel_rfl) (fun w7 hg => ?_) _
      have hM7 := Lib.hid (show MAt w7 b VS SS i0 i1 i2 i3 (ns.drop (k + 1) ++ s) by rw [← hLH.out]; exact hM6.out.gr hg)
      have hQ8 := Lib.hid (hQ7.out.gr hg)
      have hW7 := Lib.hid (hW6.out.gr hg)
      have hC7 := Lib.hid (hC6.out.gr HB.out hg)
      clear hg hM6 hQ7 hW6 hC6 hLlH hLH hxH hnH
      go_upto_region 5 with fail
      go_wp2
      go_roundg gq
      case measure => omega
      case rel => exact ⟨k + 1, by omega, by go_num, hM7, hQ8, hW7, hC7⟩
    · obtain rfl : gk = 0 := by omega
      have hkl : decide ((k : Int) < (ps.length : Int)) = false := by simp; omega
      have hke : k = ps.length := by omega
      have hM7 := Lib.hid (show MAt wr b VS SS i0 i1 i2 i3 s by have := hM.out; rw [List.drop_eq_nil_of_le (by have := hlH.out; omega)] at this; exact this)
      have hW7 := Lib.hid (show Wr ps ns ps.length wr by rw [← hke]; exact hW.out)
      clear hke hM hW
      go_wp2
      exact ⟨rfl, .tuple #[], by simp [results, Tryd.results64, go_sem], rfl, hM7.out, hW7.out, hC.out⟩
end N
end Go.Proofs.YthgngkajdiclcaaDoor
