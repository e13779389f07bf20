/- Package code: memory, between, numbers. -/
import Derived.Test.YthgngkajdiclcaaDoorKyB
import Derived.Test.YthgngkajdiclcaaDoorProg
import Derived.Test.YthgngkajdiclcaaDoorDgX
import Derived.StillTailTactics
import Derived.Deep.DeepCutAuto
import Derived.Deep.Cut
import Derived.BigQuiet
import Derived.Deep.QuietTactic
import Derived.WalkSpells
namespace Go.Proofs.YthgngkajdiclcaaDoor
open Go.RowKit
set_option linter.unusedVariables false
set_option linter.unusedSimpArgs false
namespace K
theorem gbRefl (w : World) (r : Option Nat) : w.grownBy w r := ⟨rfl, rfl, rfl, Nat.le_refl _, fun _ _ _ => rfl⟩
theorem gbSet {w w' : World} {b i : Nat} {v : Value} (h : w.grownBy w' (some b)) : w.grownBy (w'.setCell ⟨b, i, none⟩ v) (some b) :=
  ⟨h.os, h.tape, h.output, by simpa using h.size, fun k hk hn => (heap_setCell_other w' _ k v (fun e => hn (by rw [e]))).trans (h.block k hk hn)⟩
theorem gbNew {w w' : World} {r : Option Nat} {b i : Nat} {v : Value} (h : w.grownBy w' r) (hb : w.heap.size ≤ b) : w.grownBy (w'.setCell ⟨b, i, none⟩ v) r :=
  ⟨h.os, h.tape, h.output, by simpa using h.size, fun k hk hn => (heap_setCell_other w' _ k v (by simp only; omega)).trans (h.block k hk hn)⟩
theorem gbAlloc {w w' : World} {r : Option Nat} {o : Obj} (h : w.grownBy w' r) : w.grownBy (w'.alloc o) r :=
  ⟨h.os, h.tape, h.output, by have := h.size; simp; omega, fun k hk hn => (Below.heap_alloc w' o k (Nat.lt_of_lt_of_le hk h.size)).trans (h.block k hk hn)⟩
theorem gbDrew {w w' : World} {r : Option Nat} (h : w.grownBy w' r) : w.grownBy w'.drew r := ⟨h.os, h.tape, h.output, h.size, h.block⟩
theorem gbTrans {a b c : World} {r : Option Nat} (h : a.grownBy b r) (k : b.grownBy c r) : a.grownBy c r :=
  ⟨k.os.trans h.os, k.tape.trans h.tape, k.output.trans h.output, Nat.le_trans h.size k.size, fun i hi hn => (k.block i (Nat.lt_of_lt_of_le hi h.size) hn).trans (h.block i hi hn)⟩
theorem gbBelow {a b : World} {B : Nat} {r : Option Nat} (h : a.grownBy b r) (hB : B ≤ a.heap.size) (hr : ∀ k, r = some k → B ≤ k) : Below B a b :=
  ⟨h.os, h.tape, h.output, h.size, fun i hi => h.block i (by omega) (fun e => by have := hr i e.symm; omega)⟩
theorem gbGr {a b : World} {r : Option Nat} (h : Gr a b) : a.grownBy b r := ⟨h.os, h.tape, h.output, h.size, fun i hi _ => h.block i hi⟩
theorem blkLt {w : World} {b : Nat} {o : Obj} (h : w.heap[b]? = some o) : b < w.heap.size := (Array.getElem?_eq_some_iff.1 h).1
def SS (v : Value) (w : World) (e : Ending) (w' : World) : Prop := e = .returned v ∧ w' = w
def GG (v : Value) (w : World) (e : Ending) (w' : World) : Prop := e = .returned v ∧ Gr w w'
/-- instructions in memory -/
def InAt (w : World) (g o : Nat) (x : In) : Prop := w.cell? ⟨g, o, none⟩ = some (.int .i64 x.op) ∧ w.cell? ⟨g, o + 1, none⟩ = some (.int .i64 x.n) ∧ w.cell? ⟨g, o + 2, none⟩ = some (.int .i64 x.r)
def InsR (w : World) (l : List In) (A : Option Addr) : Prop := l = [] ∨ ∃ g o, A = some ⟨g, o, none⟩ ∧ ∀ (i : Nat) (x : In), l[i]? = some x → InAt w g (o + i * 3) x
theorem InsR.gr {w w' : World} {l : List In} {A : Option Addr} (h : InsR w l A) (hg : Gr w w') : InsR w' l A := by
  rcases h with h | ⟨g, o, hA, h⟩
  · exact .inl h
  · exact .inr ⟨g, o, hA, fun i x hx => ⟨grCell hg (h i x hx).1, grCell hg (h i x hx).2.1, grCell hg (h i x hx).2.2⟩⟩
theorem InsR.addr {w : World} {l : List In} {A : Option Addr} (h : InsR w l A) (hn : 0 < l.length) : ∃ g o, A = some ⟨g, o, none⟩ ∧ ∀ (i : Nat) (x : In), l[i]? = some x → InAt w g (o + i * 3) x := by
  rcases h with h | h
  · subst h; simp at hn
  · exact h
theorem nBlk (w : World) (o : Obj) (b : Nat) (h : b = w.heap.size) : (w.alloc o).heap[b]? = some o := by
  subst h; exact heap_alloc_new w o
theorem cells2k {w : World} {b : Nat} {v0 v1 : Value} {T : TypeId} (h : w.heap[b]? = some (.cells #[v0, v1] T (0, 0))) : w.cell? ⟨b, 0, none⟩ = some v0 ∧ w.cell? ⟨b, 1, none⟩ = some v1 := by
  have e : ∀ j, w.cell? ⟨b, j, none⟩ = (#[v0, v1] : Array Value)[j]? := fun j => cell_of_row _ _ j _ _ (0, 0) h
  exact ⟨e 0, e 1⟩
theorem cells3k {w : World} {b : Nat} {v0 v1 v2 : Value} {T : TypeId} (h : w.heap[b]? = some (.cells #[v0, v1, v2] T (0, 0))) : w.cell? ⟨b, 0, none⟩ = some v0 ∧ w.cell? ⟨b, 1, none⟩ = some v1 ∧ w.cell? ⟨b, 2, none⟩ = some v2 := by
  have e : ∀ j, w.cell? ⟨b, j, none⟩ = (#[v0, v1, v2] : Array Value)[j]? := fun j => cell_of_row _ _ j _ _ (0, 0) h
  exact ⟨e 0, e 1, e 2⟩
set_option maxHeartbeats 1000000 in
set_option maxRecDepth 100000 in
theorem between_any (n lo hi : Int) (w : World) : Calls Tryd.prog 60 #[.int .i64 n, .agg #[.int .i64 lo, .int .i64 hi]] w (GG (.bool (btw2 n (lo, hi))) w) := by
  have HX := Lib.hid (nBlk w (.cells #[.int .i64 lo, .int .i64 hi] 75) _ rfl)
  have HB := Lib.hid (grAlloc w (.cells #[.int .i64 lo, .int .i64 hi] 75))
  obtain ⟨s0, s1⟩ := cells2k HX.out
  unfold btw2
  simp only
  by_cases h1 : lo ≤ n
  · have t1 : decide (lo ≤ n) = true := decide_eq_true h1
    by_cases h2 : n ≤ hi
    · have t2 : decide (n ≤ hi) = true := decide_eq_true h2
      rw [t1, t2]
      go_enter Tryd.func60, Tryd.ntmps60
      go_wp2
      go_ret
      exact ⟨rfl, HB.out⟩
    · have t2 : decide (n ≤ hi) = false := decide_eq_false h2
      rw [t1, t2]
      go_enter Tryd.func60, Tryd.ntmps60
      go_wp2
      go_ret
      exact ⟨rfl, HB.out⟩
  · have t1 : decide (lo ≤ n) = false := decide_eq_false h1
    rw [t1]
    go_enter Tryd.func60, Tryd.ntmps60
    go_wp2
    go_ret
    exact ⟨rfl, HB.out⟩
/-- a handler's value -/
abbrev hA (ln : Nat) (A : Option Addr) (lc : Nat) (vars : Int) (HA : Option Addr) (hl hc : Nat) : Array Value := #[.slice A ln lc, .int .i64 vars, .slice HA hl hc]
theorem res2k {w : World} {b : Nat} {v0 v1 x y : Value} {T : TypeId} (h : w.heap[b]? = some (.cells #[v0, v1] T (0, 0))) :
    ((w.setCell ⟨b, 0, none⟩ x).setCell ⟨b, 1, none⟩ y).cell? ⟨b, 0, none⟩ = some x ∧ ((w.setCell ⟨b, 0, none⟩ x).setCell ⟨b, 1, none⟩ y).cell? ⟨b, 1, none⟩ = some y := by
  have g0 : (w.setCell ⟨b, 0, none⟩ x).heap[b]? = some (.cells #[x, v1] T (0, 0)) := by rw [heap_setCell_same w b 0 _ _ _ h]; simp
  have g1 : ((w.setCell ⟨b, 0, none⟩ x).setCell ⟨b, 1, none⟩ y).heap[b]? = some (.cells #[x, y] T (0, 0)) := by rw [heap_setCell_same _ b 1 _ _ _ g0]; simp
  exact cells2k g1
theorem belK {B b i : Nat} {a w : World} {u : Value} (h : Below B a w) (hb : B ≤ b) : Below B a (w.setCell ⟨b, i, none⟩ u) := h.setCell hb _
theorem frz {w : World} {b : Nat} {cs : Array Value} {T : TypeId} (h : w.heap[b]? = some (.cells cs T (0, 0))) (i : Nat) : w.frozen? ⟨b, i, none⟩ = false := by simp [World.frozen?, h]
set_option maxHeartbeats 2000000 in
set_option maxRecDepth 100000 in
theorem numbers_any (l : List In) (A : Option Addr) (lc : Nat) (vars : Int) (HA : Option Addr) (hl hc : Nat) (i : Nat) (x : In) (hx : l[i]? = some x) (hlen : l.length ≤ 100000) (hv : -1000 ≤ vars ∧ vars ≤ 1000) (w : World) (hR : InsR w l A) :
    Calls Tryd.prog 61 #[.agg (hA l.length A lc vars HA hl hc), .int .i64 i] w (GG (.agg #[.int .i64 (rgN x i l.length vars).1, .int .i64 (rgN x i l.length vars).2]) w) := by
  have hi : i < l.length := (List.getElem?_eq_some_iff.1 hx).1
  obtain ⟨g, o, rfl, hat⟩ := hR.addr (by omega)
  obtain ⟨e0, -, -⟩ := hat i x hx
  have q1 : IntKind.i64.wrap (vars - 1) = vars - 1 := IntWalk.i64_in _ (by omega)
  have q2 : IntKind.i64.wrap ((i : Int) + 1) = (i : Int) + 1 := IntWalk.i64_in _ (by omega)
  obtain ⟨W2, hW2⟩ : ∃ W2, W2 = (w.alloc (.cells (hA l.length (some ⟨g, o, none⟩) lc vars HA hl hc) 72)).alloc (.cells #[.int .i64 0, .int .i64 0] 75) := ⟨_, rfl⟩
  have HB : Hid (Gr w W2) := Lib.hid (by rw [hW2]; exact (grAlloc _ _).tr (grAlloc _ _))
  have HX : Hid (W2.heap[w.heap.size]? = some (.cells (hA l.length (some ⟨g, o, none⟩) lc vars HA hl hc) 72 (0, 0))) := Lib.hid (by rw [hW2]; exact grBlk (grAlloc _ _) (nBlk _ _ _ rfl))
  have HS : Hid (W2.heap[w.heap.size + 1]? = some (.cells #[.int .i64 0, .int .i64 0] 75 (0, 0))) := Lib.hid (by rw [hW2]; exact nBlk _ _ _ (by simp))
  have e0 := grCell HB.out e0
  obtain ⟨x0, x1, x2⟩ := cells3k HX.out
  obtain ⟨s0, s1⟩ := cells2k HS.out
  have d0 := frz HS.out 0
  have d1 := frz HS.out 1
  have HE := Lib.hid (fun (a b : Value) => belK (i := 1) (u := b) (belK (i := 0) (u := a) HB.out (Nat.le_add_right w.heap.size 1)) (Nat.le_add_right w.heap.size 1))
  have HC := Lib.hid (fun (a b : Value) => res2k (x := a) (y := b) HS.out)
  clear hat hR hx
  unfold rgN
  generalize l.length = ln at *
  by_cases h1 : x.op = 1
  · rw [if_pos h1]
    have t1 : (x.op == 1) = true := by simp; omega
    have t2 : (x.op == 2) = false := by simp; omega
    have t11 : (x.op == 11) = false := by simp; omega
    have t3 : (x.op == 3) = false := by simp; omega
    have t12 : (x.op == 12) = false := by simp; omega
    have t13 : (x.op == 13) = false := by simp; omega
    clear h1
    go_enter Tryd.func61, Tryd.ntmps61
    go_upto_region 1 with fail
    rw [← hW2]
    clear hW2
    go_wp2
    obtain ⟨f0, f1⟩ := HC.out (.int .i64 (-1000000000000)) (.int .i64 1000000000000)
    exact bodyPost_ret (v := .agg #[.int .i64 (-1000000000000), .int .i64 1000000000000]) (by simp [results, Tryd.results61, go_sem, f0, f1]) rfl ⟨rfl, HE.out _ _⟩
  · by_cases h2 : x.op = 2
    · rw [if_neg h1, if_pos (.inl h2)]
      have t1 : (x.op == 1) = false := by simp; omega
      have t2 : (x.op == 2) = true := by simp; omega
      have t11 : (x.op == 11) = false := by simp; omega
      have t3 : (x.op == 3) = false := by simp; omega
      have t12 : (x.op == 12) = false := by simp; omega
      have t13 : (x.op == 13) = false := by simp; omega
      clear h1 h2
      go_enter Tryd.func61, Tryd.ntmps61
      go_upto_region 1 with fail
      rw [← hW2]
      clear hW2
      go_wp2
      obtain ⟨f0, f1⟩ := HC.out (.int .i64 0) (.int .i64 (vars - 1))
      exact bodyPost_ret (v := .agg #[.int .i64 0, .int .i64 (vars - 1)]) (by simp [results, Tryd.results61, go_sem, f0, f1]) rfl ⟨rfl, HE.out _ _⟩
    · by_cases h11 : x.op = 11
      · rw [if_neg h1, if_pos (.inr h11)]
        have t1 : (x.op == 1) = false := by simp; omega
        have t2 : (x.op == 2) = false := by simp; omega
        have t11 : (x.op == 11) = true := by simp; omega
        have t3 : (x.op == 3) = false := by simp; omega
        have t12 : (x.op == 12) = false := by simp; omega
        have t13 : (x.op == 13) = false := by simp; omega
        clear h1 h2 h11
        go_enter Tryd.func61, Tryd.ntmps61
        go_upto_region 1 with fail
        rw [← hW2]
        clear hW2
        go_wp2
        obtain ⟨f0, f1⟩ := HC.out (.int .i64 0) (.int .i64 (vars - 1))
        exact bodyPost_ret (v := .agg #[.int .i64 0, .int .i64 (vars - 1)]) (by simp [results, Tryd.results61, go_sem, f0, f1]) rfl ⟨rfl, HE.out _ _⟩
      · by_cases h3 : x.op = 3
        · rw [if_neg h1, if_neg (by omega), if_pos h3]
          have t1 : (x.op == 1) = false := by simp; omega
          have t2 : (x.op == 2) = false := by simp; omega
          have t11 : (x.op == 11) = false := by simp; omega
          have t3 : (x.op == 3) = true := by simp; omega
          have t12 : (x.op == 12) = false := by simp; omega
          have t13 : (x.op == 13) = false := by simp; omega
          clear h1 h2 h11 h3
          go_enter Tryd.func61, Tryd.ntmps61
          go_upto_region 1 with fail
          rw [← hW2]
          clear hW2
          go_wp2
          obtain ⟨f0, f1⟩ := HC.out (.int .i64 0) (.int .i64 3)
          exact bodyPost_ret (v := .agg #[.int .i64 0, .int .i64 3]) (by simp [results, Tryd.results61, go_sem, f0, f1]) rfl ⟨rfl, HE.out _ _⟩
        · by_cases h12 : x.op = 12
          · rw [if_neg h1, if_neg (by omega), if_neg h3, if_pos (.inl h12)]
            have t1 : (x.op == 1) = false := by simp; omega
            have t2 : (x.op == 2) = false := by simp; omega
            have t11 : (x.op == 11) = false := by simp; omega
            have t3 : (x.op == 3) = false := by simp; omega
            have t12 : (x.op == 12) = true := by simp; omega
            have t13 : (x.op == 13) = false := by simp; omega
            clear h1 h2 h11 h3 h12
            go_enter Tryd.func61, Tryd.ntmps61
            go_upto_region 1 with fail
            rw [← hW2]
            clear hW2
            go_wp2
            obtain ⟨f0, f1⟩ := HC.out (.int .i64 ((i : Int) + 1)) (.int .i64 (ln : Int))
            exact bodyPost_ret (v := .agg #[.int .i64 ((i : Int) + 1), .int .i64 (ln : Int)]) (by simp [results, Tryd.results61, go_sem, f0, f1]) rfl ⟨rfl, HE.out _ _⟩
          · by_cases h13 : x.op = 13
            · rw [if_neg h1, if_neg (by omega), if_neg h3, if_pos (.inr h13)]
              have t1 : (x.op == 1) = false := by simp; omega
              have t2 : (x.op == 2) = false := by simp; omega
              have t11 : (x.op == 11) = false := by simp; omega
              have t3 : (x.op == 3) = false := by simp; omega
              have t12 : (x.op == 12) = false := by simp; omega
              have t13 : (x.op == 13) = true := by simp; omega
              clear h1 h2 h11 h3 h12 h13
              go_enter Tryd.func61, Tryd.ntmps61
              go_upto_region 1 with fail
              rw [← hW2]
              clear hW2
              go_wp2
              obtain ⟨f0, f1⟩ := HC.out (.int .i64 ((i : Int) + 1)) (.int .i64 (ln : Int))
              exact bodyPost_ret (v := .agg #[.int .i64 ((i : Int) + 1), .int .i64 (ln : Int)]) (by simp [results, Tryd.results61, go_sem, f0, f1]) rfl ⟨rfl, HE.out _ _⟩
            · rw [if_neg h1, if_neg (by omega), if_neg h3, if_neg (by omega)]
              have t1 : (x.op == 1) = false := by simp; omega
              have t2 : (x.op == 2) = false := by simp; omega
              have t11 : (x.op == 11) = false := by simp; omega
              have t3 : (x.op == 3) = false := by simp; omega
              have t12 : (x.op == 12) = false := by simp; omega
              have t13 : (x.op == 13) = false := by simp; omega
              clear h1 h2 h11 h3 h12 h13
              go_enter Tryd.func61, Tryd.ntmps61
              go_upto_region 1 with fail
              rw [← hW2]
              clear hW2
              go_wp2
              obtain ⟨f0, f1⟩ := HC.out (.int .i64 0) (.int .i64 0)
              exact bodyPost_ret (v := .agg #[.int .i64 0, .int .i64 0]) (by simp [results, Tryd.results61, go_sem, f0, f1]) rfl ⟨rfl, HE.out _ _⟩
end K
end Go.Proofs.YthgngkajdiclcaaDoor
