/- Texts of one proof: KzS. -/
import Derived.Test.YtfmjbfpjkilpcaaGreatDoorYa
import Derived.Test.YtfmjbfpjkilpcaaGreatDoorZz
set_option linter.unusedVariables false
set_option linter.unusedSimpArgs false
set_option maxRecDepth 100000
set_option maxHeartbeats 8000000
namespace Go.Proofs.YtfmjbfpjkilpcaaGreatDoor
open Go.RowKit
namespace K
theorem ver_set {hs : List Hd} {k : Nat} {nh : Hd} {vars : Int} (hk : k < hs.length) (h : verH nh.l vars = false) : verC (hs.set k nh) vars = false := by
 unfold verC verAll
 rw [Bool.and_eq_false_iff]
 right
 rw [List.all_eq_false]
 exact ⟨nh, List.mem_iff_getElem?.2 ⟨k, by rw [List.getElem?_set_self hk]⟩, by simp [h]⟩
theorem set5C {h0 h1 h2 h3 h4 nh : Hd} {k : Nat} (hk : k < 5) : ∃ g0 g1 g2 g3 g4 : Hd, [h0, h1, h2, h3, h4].set k nh = [g0, g1, g2, g3, g4] ∧ (cdA h0 h1 h2 h3 h4).setIfInBounds k (hdV nh) = cdA g0 g1 g2 g3 g4 := by
 match k, hk with
 | 0, _ => exact ⟨nh, h1, h2, h3, h4, rfl, rfl⟩
 | 1, _ => exact ⟨h0, nh, h2, h3, h4, rfl, rfl⟩
 | 2, _ => exact ⟨h0, h1, nh, h3, h4, rfl, rfl⟩
 | 3, _ => exact ⟨h0, h1, h2, nh, h4, rfl, rfl⟩
 | 4, _ => exact ⟨h0, h1, h2, h3, nh, rfl, rfl⟩
theorem formI_iff {op n r : Int} {i many : Nat} {vars : Int} : formI ⟨op, n, r⟩ i many vars = true ↔ (1 ≤ op ∧ op ≤ 13) ∧ (op = 12 → 1 ≤ r ∧ r ≤ 6) ∧ (op ≠ 12 → r = 0) ∧ (op = 1 → -1000000000000 ≤ n ∧ n ≤ 1000000000000) ∧ (op = 2 ∨ op = 11 → 0 ≤ n ∧ n < vars) ∧ (op = 3 → 0 ≤ n ∧ n < 4) ∧ (op = 12 ∨ op = 13 → (i : Int) < n ∧ n ≤ many) ∧ (4 ≤ op ∧ op ≤ 10 → n = 0) := by
 unfold formI rgN btw2
 simp only [Bool.and_eq_true, decide_eq_true_eq]
 by_cases h1 : op = 1
 ·subst h1; simp; omega
 by_cases h2 : op = 2
 ·subst h2; simp; omega
 by_cases h11 : op = 11
 ·subst h11; simp; omega
 by_cases h3 : op = 3
 ·subst h3; simp; omega
 by_cases h12 : op = 12
 ·subst h12; simp; omega
 by_cases h13 : op = 13
 ·subst h13; simp; omega
 rw [if_neg h1, if_neg (by omega), if_neg h3, if_neg (by omega), if_neg h12]
 simp only
 omega
theorem form_badN {op n r : Int} {i many : Nat} {vars : Int} (h : ((op = 2 ∨ op = 11) ∧ (n < 0 ∨ vars ≤ n)) ∨ (op = 3 ∧ (n < 0 ∨ 4 ≤ n)) ∨ (op = 1 ∧ (n < -1000000000000 ∨ 1000000000000 < n))) : formI ⟨op, n, r⟩ i many vars = false := by
 rw [Bool.eq_false_iff]
 intro e
 obtain ⟨a1, a2, a3, a4, a5, a6, a7, a8⟩ := formI_iff.1 e
 rcases h with ⟨h, k⟩ | ⟨h, k⟩ | ⟨h, k⟩
 ·have := a5 h; omega
 ·have := a6 h; omega
 ·have := a4 h; omega
theorem form_badJ {op n r : Int} {i many : Nat} {vars : Int} (h : (op = 12 ∨ op = 13) ∧ (n ≤ i ∨ (many : Int) < n)) : formI ⟨op, n, r⟩ i many vars = false := by
 rw [Bool.eq_false_iff]
 intro e
 obtain ⟨a1, a2, a3, a4, a5, a6, a7, a8⟩ := formI_iff.1 e
 have := a7 h.1
 omega
theorem form_badR {op n : Int} {i many : Nat} {vars : Int} (h : op ≠ 12) : formI ⟨op, n, 1⟩ i many vars = false := by
 rw [Bool.eq_false_iff]
 intro e
 obtain ⟨a1, a2, a3, a4, a5, a6, a7, a8⟩ := formI_iff.1 e
 have := a3 h
 omega
theorem insC_setR : ∀ (l : List In) (i : Nat) (x : In) (m : Int), l[i]? = some x → (insC l).set (i * 3 + 2) (.int .i64 m) = insC (l.set i ⟨x.op, x.n, m⟩)
 | [], i, x, m, h => by simp at h
 | y :: l, 0, x, m, h => by simp at h; subst h; rw [List.set_cons_zero, insC_cons, insC_cons]; rfl
 | y :: l, i + 1, x, m, h => by
  have := insC_setR l i x m (by simpa using h)
  rw [List.set_cons_succ, insC_cons, insC_cons, show (i + 1) * 3 + 2 = i * 3 + 2 + 3 by omega, List.set_cons_succ, List.set_cons_succ, List.set_cons_succ, this]
def DmP (w : World) (B g n cap m : Nat) (l : List In) (vars : Int) (cs : Array Value) (T : TypeId) (wx : World) : Prop :=
 ∃ y : In, Hid (wx.ownsRow B 30 3 (.slice (some ⟨g, 0, none⟩) n cap) n (insC (l.set m y))) ∧ Hid (formI y m n vars = false) ∧ Hid (wx.heap[w.heap.size]? = some (.cells cs T (0, 0))) ∧ Hid (Gr w wx)
theorem u16_rg {n : Int} (h : (Lit.int .u16 n).wf = true) : 0 ≤ n ∧ n < 65536 := by
 simp [Lit.wf, IntKind.min, IntKind.max, IntKind.signed, IntKind.bits] at h
 exact ⟨by omega, by omega⟩
theorem dmg_N {w wx : World} {B g n cap m : Nat} {l0 l : List In} {y : In} {vars v : Int} {cs : Array Value} {T : TypeId} (hl : l.set m ⟨y.op, v, y.r⟩ = l0.set m ⟨y.op, v, y.r⟩) (hwg : w.heap.size < g) (hO : wx.ownsRow B 30 3 (.slice (some ⟨g, 0, none⟩) n cap) n (insC l)) (hx : l[m]? = some y)
  (hC : wx.heap[w.heap.size]? = some (.cells cs T (0, 0))) (hG : Gr w wx) (hf : formI ⟨y.op, v, y.r⟩ m n vars = false) : DmP w B g n cap m l0 vars cs T (wx.setCell ⟨g, m * 3 + 1, none⟩ (.int .i64 v)) := by
 have h := (World.ownsRow.stored hO (m * 3 + 1) (.int .i64 v)).1
 rw [insC_set l m y v hx, hl] at h
 exact ⟨_, Lib.hid h, Lib.hid hf, Lib.hid ((heap_setCell_other wx _ _ _ (by simp only; omega)).trans hC), Lib.hid (belK hG (Nat.le_of_lt hwg))⟩
theorem dmg_N2 {w wx : World} {B g n cap m : Nat} {l : List In} {y : In} {vars v u : Int} {cs : Array Value} {T : TypeId} (hwg : w.heap.size < g) (hO : wx.ownsRow B 30 3 (.slice (some ⟨g, 0, none⟩) n cap) n (insC l)) (hx : l[m]? = some y)
  (hC : wx.heap[w.heap.size]? = some (.cells cs T (0, 0))) (hG : Gr w wx) (hf : formI ⟨y.op, v, y.r⟩ m n vars = false) : DmP w B g n cap m l vars cs T ((wx.setCell ⟨g, m * 3 + 1, none⟩ (.int .i64 u)).setCell ⟨g, m * 3 + 1, none⟩ (.int .i64 v)) := by
 have h := (World.ownsRow.stored hO (m * 3 + 1) (.int .i64 u)).1
 rw [insC_set l m y u hx] at h
 refine dmg_N (l := l.set m ⟨y.op, u, y.r⟩) (y := ⟨y.op, u, y.r⟩) (by rw [List.set_set]) hwg h ?_ ((heap_setCell_other wx _ _ _ (by simp only; omega)).trans hC) (belK hG (Nat.le_of_lt hwg)) hf
 rw [List.getElem?_set_self (List.getElem?_eq_some_iff.1 hx).1]
theorem dmg_R {w wx : World} {B g n cap m : Nat} {l : List In} {y : In} {vars v : Int} {cs : Array Value} {T : TypeId} (hwg : w.heap.size < g) (hO : wx.ownsRow B 30 3 (.slice (some ⟨g, 0, none⟩) n cap) n (insC l)) (hx : l[m]? = some y)
  (hC : wx.heap[w.heap.size]? = some (.cells cs T (0, 0))) (hG : Gr w wx) (hf : formI ⟨y.op, y.n, v⟩ m n vars = false) : DmP w B g n cap m l vars cs T (wx.setCell ⟨g, m * 3 + 2, none⟩ (.int .i64 v)) := by
 have h := (World.ownsRow.stored hO (m * 3 + 2) (.int .i64 v)).1
 rw [insC_setR l m y v hx] at h
 exact ⟨_, Lib.hid h, Lib.hid hf, Lib.hid ((heap_setCell_other wx _ _ _ (by simp only; omega)).trans hC), Lib.hid (belK hG (Nat.le_of_lt hwg))⟩
theorem own_insR {w : World} {B : Nat} {A : Option Addr} {m c n : Nat} {l : List In} (h : w.ownsRow B 30 3 (.slice A m c) n (insC l)) (hn : n = l.length) : InsR w l A := by
 obtain ⟨A', c', e, hR, -⟩ := own_ins h hn
 cases e
 exact hR
theorem dmg_end {w wc : World} {h0 h1 h2 h3 h4 : Hd} {B g n cap m k : Nat} {l : List In} {y : In} {vars : Int} {T : TypeId} (hk : k < 5) (hn : l.length = n) (hmn : m < n) (hn4 : n ≤ 4000) (hwg : w.heap.size < g) (hO : wc.ownsRow B 30 3 (.slice (some ⟨g, 0, none⟩) n cap) n (insC (l.set m y))) (hf : formI y m n vars = false)
  (hC : wc.heap[w.heap.size]? = some (.cells (cdA h0 h1 h2 h3 h4) T (0, 0))) (hG : Gr w wc) (HR : ∀ h ∈ [h0, h1, h2, h3, h4], InsR w h.l h.A) (hlen : ∀ h ∈ [h0, h1, h2, h3, h4], (h.l.length : Int) ≤ 4000) :
  ∃ g0 g1 g2 g3 g4 : Hd, Hid ((wc.setCell ⟨w.heap.size, k, none⟩ (.slice (some ⟨g, 0, none⟩) n cap)).heap[w.heap.size]? = some (.cells (cdA g0 g1 g2 g3 g4) T (0, 0))) ∧ Hid (verC [g0, g1, g2, g3, g4] vars = false) ∧ Hid (∀ h ∈ [g0, g1, g2, g3, g4], InsR (wc.setCell ⟨w.heap.size, k, none⟩ (.slice (some ⟨g, 0, none⟩) n cap)) h.l h.A) ∧ Hid (∀ h ∈ [g0, g1, g2, g3, g4], h.l.length ≤ 4500) ∧ Hid (Gr w (wc.setCell ⟨w.heap.size, k, none⟩ (.slice (some ⟨g, 0, none⟩) n cap))) := by
 have hsl : (l.set m y).length = n := by rw [List.length_set, hn]
 obtain ⟨g0, g1, g2, g3, g4, hset, harr⟩ := set5C (h0 := h0) (h1 := h1) (h2 := h2) (h3 := h3) (h4 := h4) (nh := ⟨l.set m y, some ⟨g, 0, none⟩, cap⟩) hk
 have hGw : Gr w (wc.setCell ⟨w.heap.size, k, none⟩ (.slice (some ⟨g, 0, none⟩) n cap)) := belK hG (Nat.le_refl _)
 have hM := heap_setCell_same wc w.heap.size k _ _ (.slice (some ⟨g, 0, none⟩) n cap) hC
 have harr : (cdA h0 h1 h2 h3 h4).setIfInBounds k (.slice (some ⟨g, 0, none⟩) n cap) = cdA g0 g1 g2 g3 g4 := by
  rw [← harr]
  show _ = (cdA h0 h1 h2 h3 h4).setIfInBounds k (.slice (some ⟨g, 0, none⟩) (l.set m y).length cap)
  rw [hsl]
 rw [harr] at hM
 refine ⟨g0, g1, g2, g3, g4, Lib.hid hM, Lib.hid ?_, Lib.hid ?_, Lib.hid ?_, Lib.hid hGw⟩
 ·rw [← hset]
  refine ver_set (by simpa using hk) (ver_form (x := y) (j := m) ?_ ?_)
  ·exact List.getElem?_set_self (by omega)
  ·show formI y m (l.set m y).length vars = false
   rw [hsl]
   exact hf
 ·intro h hh
  rw [← hset] at hh
  rcases List.mem_or_eq_of_mem_set hh with hh | rfl
  ·exact (HR h hh).gr hGw
  ·exact own_insR (World.ownsRow.kept hO (gbSet (b := w.heap.size) (i := k) (v := .slice (some ⟨g, 0, none⟩) n cap) (gbRefl wc _)) (.inr (by simp [Value.ownBlock]; omega))) hsl.symm
 ·intro h hh
  rw [← hset] at hh
  rcases List.mem_or_eq_of_mem_set hh with hh | rfl
  ·have := hlen h hh; omega
  ·simp only [hsl]; omega
theorem dmg_fin {w wc v12 v13 : World} {h0 h1 h2 h3 h4 : Hd} {l : List In} {x : In} {k mb : Nat} {vars : Int} {A9 : Option Addr} {c9 m : Nat} {T T0 : TypeId} {cs0 : Array Value}
  (hk : k < 5) (hm : m = (l ++ [x]).length) (hv : verH l vars = true) (hbad : 0 < tko x.op ∨ (x.op ≠ 13 ∧ 0 < pt x.op)) (hwm : w.heap.size < mb) (hmb : mb < wc.heap.size) (HG : Gr w wc) (HC : wc.heap[w.heap.size]? = some (.cells cs0 T0 (0, 0))) (HR : ∀ h ∈ [h0, h1, h2, h3, h4], InsR w h.l h.A) (hlen : ∀ h ∈ [h0, h1, h2, h3, h4], (h.l.length : Int) ≤ 4000) (hll : l.length ≤ 4000)
  (h12 : Gr wc v12) (HM : v12.heap[mb]? = some (.cells (cdA h0 h1 h2 h3 h4) T (0, 0))) (R9 : InsR v13 (l ++ [x]) A9) (hg : Gr (v12.setCell ⟨mb, k, none⟩ (.slice A9 m c9)) v13) :
  ∃ g0 g1 g2 g3 g4 : Hd, Hid (v13.heap[mb]? = some (.cells (cdA g0 g1 g2 g3 g4) T (0, 0))) ∧ Hid (verC [g0, g1, g2, g3, g4] vars = false) ∧ Hid (∀ h ∈ [g0, g1, g2, g3, g4], InsR v13 h.l h.A) ∧ Hid (∀ h ∈ [g0, g1, g2, g3, g4], h.l.length ≤ 4500) ∧ Hid (v13.heap[w.heap.size]? = some (.cells cs0 T0 (0, 0))) ∧ Hid (Gr w v13) := by
 subst hm
 obtain ⟨g0, g1, g2, g3, g4, hset, harr⟩ := set5C (h0 := h0) (h1 := h1) (h2 := h2) (h3 := h3) (h4 := h4) (nh := ⟨l ++ [x], A9, c9⟩) hk
 have hGw : Gr w v13 := (belK (i := k) (u := .slice A9 (l ++ [x]).length c9) (HG.tr h12) (Nat.le_of_lt hwm)).trans (hg.mono (by have := HG.size; have := h12.size; simp [World.setCell]; omega))
 have hM := grBlk hg (heap_setCell_same v12 mb k _ _ (.slice A9 (l ++ [x]).length c9) HM)
 rw [show (cdA h0 h1 h2 h3 h4).setIfInBounds k (.slice A9 (l ++ [x]).length c9) = cdA g0 g1 g2 g3 g4 from harr] at hM
 refine ⟨g0, g1, g2, g3, g4, Lib.hid hM, Lib.hid ?_, Lib.hid ?_, Lib.hid ?_, Lib.hid ?_, Lib.hid hGw⟩
 ·rw [← hset]
  exact ver_set (by simpa using hk) (ver_snoc hv hbad)
 ·intro h hh
  rw [← hset] at hh
  rcases List.mem_or_eq_of_mem_set hh with hh | rfl
  ·exact (HR h hh).gr hGw
  ·exact R9
 ·intro h hh
  rw [← hset] at hh
  rcases List.mem_or_eq_of_mem_set hh with hh | rfl
  ·have := hlen h hh; omega
  ·simp only [List.length_append, List.length_singleton]; omega
 ·exact grBlk hg ((heap_setCell_other v12 _ _ _ (by simp only; omega)).trans (grBlk h12 HC))
theorem ins1j {w : World} {b : Nat} {x : In} {T : TypeId} (h : w.heap[b]? = some (.cells #[.int .i64 x.op, .int .i64 x.n, .int .i64 x.r] T (0, 0))) : InsR w [x] (some ⟨b, 0, none⟩) := by
 obtain ⟨c0, c1, c2⟩ := cells3k h
 refine .inr ⟨b, 0, rfl, fun i y hy => ?_⟩
 rcases i with _ | i
 ·simp at hy; subst hy; exact ⟨c0, c1, c2⟩
 ·simp at hy
theorem InsR.keepB {w w' : World} {l : List In} {A : Option Addr} {r : Option Nat} (h : InsR w l A) (hg : w.grownBy w' r) (hne : ∀ ad, A = some ad → r ≠ some ad.block) : InsR w' l A := by
 rcases h with h | ⟨g, o, hA, h⟩
 ·exact .inl h
 ·have hr := hne _ hA
  have f : ∀ (j : Nat) (u : Value), w.cell? ⟨g, j, none⟩ = some u → w'.cell? ⟨g, j, none⟩ = some u := fun j u hu => (World.cell?_of_block (hg.block g (World.block_lt_of_cell? _ _ hu) (fun e => hr e.symm))).trans hu
  exact .inr ⟨g, o, hA, fun i x hx => ⟨f _ _ (h i x hx).1, f _ _ (h i x hx).2.1, f _ _ (h i x hx).2.2⟩⟩
theorem run_append_empty {w : World} (base : Nat) (t ty e : TypeId) (i : TypeInfo) (size : Nat) (ht : Tryz.prog.underlying t = some (.slice e)) (hi : Tryz.prog.info? e = some i)
  (v : Value) (n : Nat) (xs : List Value) (c : Nat) (hown : w.ownsRow base e size v n xs) :
  (Builtin.append_ #[t, t] ty #[v, .slice none 0 c]).run Tryz.prog w = .ok v w := by
 rcases hown.2 with ⟨rfl, rfl⟩ | ⟨g, cap, cur, rfl, _, _, hnc, _⟩
 ·simp [Builtin.append_, run_underlying ht, sizeOf, typeInfo, hi, Builtin.lenOf, Builtin.firstCells]
 ·simp [Builtin.append_, run_underlying ht, sizeOf, typeInfo, hi, Builtin.lenOf, Builtin.firstCells, hnc, storeCells]
theorem insC_mem {w : World} {l : List In} {g o : Nat} (h : ∀ (i : Nat) (x : In), l[i]? = some x → InAt w g (o + i * 3) x) : ∀ (j : Nat) (u : Value), (insC l)[j]? = some u → w.cell? ⟨g, o + j, none⟩ = some u := by
 intro j u hu
 have hj : j < l.length * 3 := by have := (List.getElem?_eq_some_iff.1 hu).1; rw [insC_len] at this; exact this
 obtain ⟨i, hi⟩ : ∃ i, i = j / 3 := ⟨_, rfl⟩
 have hil : i < l.length := by omega
 have hx := List.getElem?_eq_getElem hil
 generalize l[i] = x at hx
 obtain ⟨c0, c1, c2⟩ := h _ _ hx
 obtain ⟨k0, k1, k2⟩ := insC_at l _ _ hx
 rcases (show j = i * 3 ∨ j = i * 3 + 1 ∨ j = i * 3 + 2 by omega) with e | e | e
 ·rw [e, k0] at hu; cases hu; rw [e]; exact c0
 ·rw [e, k1] at hu; cases hu; rw [e]; exact c1
 ·rw [e, k2] at hu; cases hu; rw [e]; exact c2
theorem wp_append_hd {w : World} {o : Oper} {a : Act} {K : Act → World → Prop} {Q : Exit → Act → World → Prop} (s x : Operand)
  (ho : o.op = .call { callee := .builtin .append, args := #[s, x], argTypes := #[22, 22] })
  (base : Nat) (v : Value) (n : Nat) (xs : List Value) (hs : a.eval s = v) (hown : w.ownsRow base 30 3 v n xs) (y : Hd) (hx : a.eval x = hdV y) (hy : InsR w y.l y.A) (h63 : n + y.l.length ≤ 100000) (hbase : base ≤ w.heap.size)
  (h : ∀ v' w', w'.ownsRow base 30 3 v' (n + y.l.length) (xs ++ insC y.l) → w.grownBy w' v.ownBlock → K (a.put o.dst v') w') : o.wp Tryz.prog a w K Q := by
 obtain ⟨ix, hi, hz0, hz1, hz2⟩ := info_parts2 insInfo
 obtain ⟨l, A, c⟩ := y
 simp only at *
 cases A with
 | none =>
  have hl : l = [] := by
   rcases hy with h | ⟨g, o2, h, -⟩
   ·exact h
   ·cases h
  subst hl
  have hrun := run_append_empty (w := w) base 22 o.type 30 ix 3 Tryz.underlying22 hi v n xs c hown
  unfold Oper.wp
  simp only [hdV, List.length_nil] at hx
  simp [execOp, ho, resolve, invoke, builtin, hs, hx, hrun, Result.andThen]
  exact h v w (by simpa [insC] using hown) (gbRefl _ _)
 | some ad =>
  refine wp_append_own w s x 22 ho base 30 ix _ 3 24 Tryz.underlying22 hi hz0 hz1 hz2 rfl (by decide) v n xs hs hown ad l.length c (insC l) hx (insC_len l) (fun j u hu => ?_) (insC_one l) (by unfold maxLen; omega) (by omega) hbase (fun v' w' h2 h3 _ => h v' w' h2 h3)
  rcases hy with h | ⟨g, o2, h, hat⟩
  ·subst h; simp [insC] at hu
  ·cases h
   rw [addN]
   exact insC_mem hat j u hu
theorem wpList_append_hd {w : World} {ops : Array Oper} {rest : List Oper} {o : Oper} {a : Act} {Q : Exit → Act → World → Prop} (hgd : o.guard = none) (s x : Operand)
  (ho : o.op = .call { callee := .builtin .append, args := #[s, x], argTypes := #[22, 22] })
  (base : Nat) (v : Value) (n : Nat) (xs : List Value) (hs : a.eval s = v) (hown : w.ownsRow base 30 3 v n xs) (y : Hd) (hx : a.eval x = hdV y) (hy : InsR w y.l y.A) (h63 : n + y.l.length ≤ 100000) (hbase : base ≤ w.heap.size)
  (h : ∀ v' w', w'.ownsRow base 30 3 v' (n + y.l.length) (xs ++ insC y.l) → w.grownBy w' v.ownBlock → wpList Tryz.prog ops Q rest (a.put o.dst v') w') : wpList Tryz.prog ops Q (o :: rest) a w :=
 wpList_plain hgd fun K hK => wp_append_hd s x ho base v n xs hs hown y hx hy h63 hbase fun v' w' h2 h3 => hK _ _ (h v' w' h2 h3)
theorem step_append_hd {w : World} {ops : Array Oper} {o : Oper} {a : Act} {K : Act → World → Prop} {Q : Exit → Act → World → Prop} {E : Prop} (hgd : o.guard = none) (s x : Operand)
  (ho : o.op = .call { callee := .builtin .append, args := #[s, x], argTypes := #[22, 22] })
  (base : Nat) (v : Value) (n : Nat) (xs : List Value) (hs : a.eval s = v) (hown : w.ownsRow base 30 3 v n xs) (y : Hd) (hx : a.eval x = hdV y) (hy : InsR w y.l y.A) (h63 : n + y.l.length ≤ 100000) (hbase : base ≤ w.heap.size)
  (h : ∀ v' w', w'.ownsRow base 30 3 v' (n + y.l.length) (xs ++ insC y.l) → w.grownBy w' v.ownBlock → K (a.put o.dst v') w') : if Region.wanted o (yielded ops a.tmps) = true then Oper.wp Tryz.prog o a w K Q else E := by
 have hw : Region.wanted o (yielded ops a.tmps) = true := by simp [Region.wanted, hgd]
 rw [if_pos hw]
 exact wp_append_hd s x ho base v n xs hs hown y hx hy h63 hbase h
theorem CodeDamage_any (h0 h1 h2 h3 h4 : Hd) (vars u a z : Int) (w : World) (hu : 0 ≤ u ∧ u < 256) (ha : 0 ≤ a ∧ a < 65536) (hz : 0 ≤ z ∧ z < 256) (hR : ∀ h ∈ [h0, h1, h2, h3, h4], InsR w h.l h.A) (hP : LaidW w) (hw : 8 < w.heap.size) (hL : U.LaidW w) (hLO : LaidO w) (hE : LaidE w) :
  Calls Tryz.prog 4 #[.agg (cdA h0 h1 h2 h3 h4), .int .i64 vars, .int .u8 u, .int .u16 a, .int .u8 z] w (GG (.bool true) w) := by
 obtain ⟨W1, hW1⟩ : ∃ W1, W1 = w.alloc (.cells (cdA h0 h1 h2 h3 h4) 25) := ⟨_, rfl⟩
 have HG1 := Lib.hid (show Gr w W1 by rw [hW1]; exact grAlloc _ _)
 have HC1 := Lib.hid (show W1.heap[w.heap.size]? = some (.cells (cdA h0 h1 h2 h3 h4) 25 (0, 0)) by rw [hW1]; exact nBlk _ _ _ rfl)
 have HD := Lib.hid (fun (wx : World) (hg : Gr w wx) => head_any wx (hP.below hg hw) (Nat.lt_of_lt_of_le hw hg.size) (hL.below hg) (hLO.gr hg) (hE.gr hg))
 obtain ⟨k, hk, hk5⟩ : ∃ k : Nat, u % 5 = k ∧ k < 5 := ⟨(u % 5).toNat, by omega, by omega⟩
 obtain ⟨x, hx⟩ : ∃ x, [h0, h1, h2, h3, h4][k]? = some x := ⟨[h0, h1, h2, h3, h4][k], List.getElem?_eq_getElem hk5⟩
 have hxm := List.mem_of_getElem? hx
 have HR := Lib.hid hR
 have HE := Lib.hid hE
 have hcd := Lib.hid (fun (wx : World) (b : Nat) (hX : wx.heap[b]? = some (.cells (cdA h0 h1 h2 h3 h4) 25 (0, 0))) => cdAt hX (k := k) (x := x) hx)
 have HRx := Lib.hid (hR x hxm)
 have hxmH := Lib.hid hxm
 obtain ⟨l, A, c⟩ := x
 clear hR hP hw hL hLO hE hx hxm
 have HSh := Lib.hid (fun (wx : World) => Short_any h0 h1 h2 h3 h4 4000 wx)
 obtain ⟨S, hS⟩ : ∃ S, shortB [h0, h1, h2, h3, h4] 4000 = S := ⟨_, rfl⟩
 rw [hS] at HSh
 go_enter Tryz.func4, Tryz.ntmps4
 go_upto_region 1 with fail
 rw [← hW1]
 clear hW1
 go_upto_region 2 with (go_at_call 5; refine (HD.out _ HG1.out).mono ?_; rintro e w2 ⟨rfl, hg2⟩; have HC2 := Lib.hid (grBlk hg2 HC1.out); have HG2 := Lib.hid (HG1.out.tr hg2); clear hg2)
 obtain ⟨y0, y1, y2, y3, y4⟩ := cells5k HC2.out
 go_upto_region 3 with fail
 cases S with
 | false =>
  go_wp2_with (first
  | (go_at_call 6; refine (HSh.out _).mono ?_; rintro e w3 ⟨rfl, hg3⟩; have HC3 := Lib.hid (grBlk hg3 HC2.out); have HG3 := Lib.hid (HG2.out.tr hg3); clear hg3 y0 y1 y2 y3 y4; obtain ⟨y0, y1, y2, y3, y4⟩ := cells5k HC3.out)
  | (go_at_call 7; refine (HV.out _ HG3.out).mono ?_; rintro e w4 ⟨rfl, hg4⟩; have HG4 := Lib.hid (HG3.out.tr hg4); have HC4 := Lib.hid (grBlk hg4 HC3.out); clear hg4 y0 y1 y2 y3 y4; obtain ⟨y0, y1, y2, y3, y4⟩ := cells5k HC4.out))
  go_ret
  exact ⟨rfl, HG3.out⟩
 | true =>
  have hlen := short_of hS
  have HV := Lib.hid (fun (wx : World) (hg : Gr w wx) => Verify_all h0 h1 h2 h3 h4 vars wx (fun h hh => (HR.out h hh).gr hg) (fun h hh => by have := hlen h hh; omega) (HE.out.gr hg))
  obtain ⟨V, hV⟩ : ∃ V, verC [h0, h1, h2, h3, h4] vars = V := ⟨_, rfl⟩
  rw [hV] at HV
  have hl4 : l.length ≤ 4000 := by have := hlen _ hxmH.out; simp only at this; omega
  have hlenH := Lib.hid hlen
  clear hlen hS
  cases V with
  | false =>
   go_wp2_with (first
  | (go_at_call 6; refine (HSh.out _).mono ?_; rintro e w3 ⟨rfl, hg3⟩; have HC3 := Lib.hid (grBlk hg3 HC2.out); have HG3 := Lib.hid (HG2.out.tr hg3); clear hg3 y0 y1 y2 y3 y4; obtain ⟨y0, y1, y2, y3, y4⟩ := cells5k HC3.out)
  | (go_at_call 7; refine (HV.out _ HG3.out).mono ?_; rintro e w4 ⟨rfl, hg4⟩; have HG4 := Lib.hid (HG3.out.tr hg4); have HC4 := Lib.hid (grBlk hg4 HC3.out); clear hg4 y0 y1 y2 y3 y4; obtain ⟨y0, y1, y2, y3, y4⟩ := cells5k HC4.out))
   go_ret
   exact ⟨rfl, HG4.out⟩
  | true =>
   obtain ⟨hv12, hvAll⟩ := verC_of hV
   have hvx := Lib.hid (hvAll _ hxmH.out)
   obtain ⟨n, hn⟩ : ∃ n, l.length = n := ⟨_, rfl⟩
   simp only [hn] at hl4
   have hnH := Lib.hid hn
   have hvAllH := Lib.hid hvAll
   clear hV hn hvAll
   go_upto_region 5 with (first
  | (go_at_call 6; refine (HSh.out _).mono ?_; rintro e w3 ⟨rfl, hg3⟩; have HC3 := Lib.hid (grBlk hg3 HC2.out); have HG3 := Lib.hid (HG2.out.tr hg3); clear hg3 y0 y1 y2 y3 y4; obtain ⟨y0, y1, y2, y3, y4⟩ := cells5k HC3.out)
  | (go_at_call 7; refine (HV.out _ HG3.out).mono ?_; rintro e w4 ⟨rfl, hg4⟩; have HG4 := Lib.hid (HG3.out.tr hg4); have HC4 := Lib.hid (grBlk hg4 HC3.out); clear hg4 y0 y1 y2 y3 y4; obtain ⟨y0, y1, y2, y3, y4⟩ := cells5k HC4.out))
   have hs4 := blkLt HC4.out
   obtain ⟨W5, hW5⟩ : ∃ W5, W5 = w4.alloc (.cells #[.slice h0.A h0.l.length h0.c, .slice h1.A h1.l.length h1.c, .slice h2.A h2.l.length h2.c, .slice h3.A h3.l.length h3.c, .slice h4.A h4.l.length h4.c] 25) := ⟨_, rfl⟩
   have hg45 := Lib.hid (show Gr w4 W5 by rw [hW5]; exact grAlloc _ _)
   have HM5 := Lib.hid (show W5.heap[w4.heap.size]? = some (.cells (cdA h0 h1 h2 h3 h4) 25 (0, 0)) by rw [hW5]; exact nBlk _ _ _ rfl)
   have HC5 := Lib.hid (grBlk hg45.out HC4.out)
   have HG5 := Lib.hid (HG4.out.tr hg45.out)
   go_upto_region 7 with fail
   rw [← hW5]
   obtain ⟨mb, hmb⟩ : ∃ mb, w4.heap.size = mb := ⟨_, rfl⟩
   rw [hmb] at HM5 hs4
   rw [hmb]
   have hb45 := Lib.hid hs4
   have hmb5 := Lib.hid (show mb < W5.heap.size from blkLt HM5.out)
   clear hW5 y0 y1 y2 y3 y4 hs4 hmb hg45 HC1 HC2 HC3 HC4 HG1 HG2 HG3 HG4 HSh HV
   go_cut [14] (fun v wx => ∃ (q : Nat) (x : In), v = .pointer (some ⟨q, 0, none⟩) ∧ Hid (wx.heap[q]? = some (.cells #[.int .i64 x.op, .int .i64 x.n, .int .i64 x.r] 30 (0, 0))) ∧ Hid (0 < tko x.op ∨ (x.op ≠ 13 ∧ 0 < pt x.op)) ∧ Hid (Gr W5 wx))
   case first =>
    have ck : W5.cell? ⟨w.heap.size, k, none⟩ = some (.slice A l.length c) := hcd.out _ _ HC5.out
    have hs5 := blkLt HC5.out
    obtain ⟨j, hj, hj5⟩ : ∃ j : Nat, z % 5 = j ∧ j < 5 := ⟨(z % 5).toNat, by omega, by omega⟩
    have q1 : IntKind.i64.wrap ((n : Int) + 1) = (n : Int) + 1 := IntWalk.i64_in _ (by omega)
    rw [hnH.out] at ck
    rcases (show j = 0 ∨ j = 1 ∨ j = 2 ∨ j = 3 ∨ j = 4 by omega) with rfl | rfl | rfl | rfl | rfl
    ·have hj : z % 5 = 0 := hj
     go_upto_region 8 with fail
     go_meet
     exact ⟨W5.heap.size + 1, ⟨1, 0, 0⟩, rfl, Lib.hid (nBlk _ _ _ (by simp)), Lib.hid (.inr ⟨by decide, by decide⟩), Lib.hid ((grAlloc _ _).tr (grAlloc _ _))⟩
    ·have hj : z % 5 = 1 := hj
     go_upto_region 8 with fail
     go_meet
     exact ⟨W5.heap.size + 1, ⟨3, 0, 0⟩, rfl, Lib.hid (nBlk _ _ _ (by simp)), Lib.hid (.inr ⟨by decide, by decide⟩), Lib.hid ((grAlloc _ _).tr (grAlloc _ _))⟩
    ·have hj : z % 5 = 2 := hj
     go_upto_region 8 with fail
     go_meet
     exact ⟨W5.heap.size + 1, ⟨4, 0, 0⟩, rfl, Lib.hid (nBlk _ _ _ (by simp)), Lib.hid (.inl (by decide)), Lib.hid ((grAlloc _ _).tr (grAlloc _ _))⟩
    ·have hj : z % 5 = 3 := hj
     go_upto_region 8 with fail
     go_meet
     exact ⟨W5.heap.size + 1, ⟨11, 0, 0⟩, rfl, Lib.hid (nBlk _ _ _ (by simp)), Lib.hid (.inl (by decide)), Lib.hid ((grAlloc _ _).tr (grAlloc _ _))⟩
    ·have hj : z % 5 = 4 := hj
     go_upto_region 8 with fail
     go_meet
     exact ⟨W5.heap.size + 1, ⟨12, (n : Int) + 1, 1⟩, rfl, Lib.hid (nBlk _ _ _ (by simp)), Lib.hid (.inl (by show 0 < tko 12; decide)), Lib.hid ((grAlloc _ _).tr (grAlloc _ _))⟩
   case rest =>
    obtain ⟨q, x, rfl, HX, hbad, HGc⟩ := hcut
    have HC6 := Lib.hid (grBlk HGc.out HC5.out)
    have HM6 := Lib.hid (grBlk HGc.out HM5.out)
    have HG6 := Lib.hid (HG5.out.tr HGc.out)
    have ck : wc.cell? ⟨w.heap.size, k, none⟩ = some (.slice A l.length c) := hcd.out _ _ HC6.out
    obtain ⟨e0, e1, e2⟩ := cells3k HX.out
    have hsc := blkLt HC6.out
    have hmc := blkLt HM6.out
    have HRc := Lib.hid (HRx.out.gr HG6.out)
    have hFin := Lib.hid (fun (v12 v13 : World) (A9 : Option Addr) (c9 m : Nat) (hm : m = (l ++ [x]).length) (h12 : Gr wc v12) (HM : v12.heap[mb]? = some (.cells (cdA h0 h1 h2 h3 h4) 25 (0, 0))) (R9 : InsR v13 (l ++ [x]) A9) (hg : Gr (v12.setCell ⟨mb, k, none⟩ (.slice A9 m c9)) v13) =>
     dmg_fin (x := x) hk5 hm hvx.out hbad.out hb45.out hmc HG6.out HC6.out HR.out hlenH.out (by rw [hnH.out]; exact hl4) h12 HM R9 hg)
    go_upto_region 8 with fail
    go_cut [] (fun wx => ∃ g0 g1 g2 g3 g4 : Hd, Hid (wx.heap[mb]? = some (.cells (cdA g0 g1 g2 g3 g4) 25 (0, 0))) ∧ Hid (verC [g0, g1, g2, g3, g4] vars = false) ∧ Hid (∀ h ∈ [g0, g1, g2, g3, g4], InsR wx h.l h.A) ∧ Hid (∀ h ∈ [g0, g1, g2, g3, g4], h.l.length ≤ 4500) ∧ Hid (wx.heap[w.heap.size]? = some (.cells (cdA h0 h1 h2 h3 h4) 25 (0, 0))) ∧ Hid (Gr w wx))
    case rest =>
     obtain ⟨g0, g1, g2, g3, g4, HMr, hvf, HRg, hlg, HCr, HGr⟩ := hcut
     clear hFin HRc hmc hsc HG6 HM6 HC6 e0 e1 e2 ck HGc hbad HX HG5 HC5 HM5 hmb5
     have HVg := Verify_all g0 g1 g2 g3 g4 vars wc HRg.out hlg.out (HE.out.gr HGr.out)
     rw [hvf.out] at HVg
     have HVg := Lib.hid HVg
     obtain ⟨y0, y1, y2, y3, y4⟩ := cells5k HMr.out
     have hk0 := hnH.out
     clear HRg hlg hvf
     have ck : wc.cell? ⟨w.heap.size, k, none⟩ = some (.slice A n c) := by have h : wc.cell? ⟨w.heap.size, k, none⟩ = some (.slice A l.length c) := hcd.out _ _ HCr.out; rw [hnH.out] at h; exact h
     go_upto_region 11 with (go_at_call 7; refine HVg.out.mono ?_; rintro e wv ⟨rfl, hgv⟩; have HCv := Lib.hid (grBlk hgv HCr.out); have HGv := Lib.hid (HGr.out.tr hgv); clear hgv)
     have ck : wv.cell? ⟨w.heap.size, k, none⟩ = some (.slice A n c) := by have h : wv.cell? ⟨w.heap.size, k, none⟩ = some (.slice A l.length c) := hcd.out _ _ HCv.out; rw [hnH.out] at h; exact h
     clear hk0 y0 y1 y2 y3 y4 HVg HMr HCr HGr
     by_cases hn0 : n = 0
     ·have t0 : ((n : Int) == 0) = true := by rw [beq_iff_eq]; omega
      clear hn0
      go_wp2
      go_ret
      exact ⟨rfl, HGv.out⟩
     ·have t0 : ((n : Int) == 0) = false := by rw [beq_eq_false_iff_ne]; omega
      have hRv := Lib.hid (HRx.out.gr HGv.out)
      have hgE := Lib.hid (grAlloc wv (.cells #[] 30))
      have hOE := Lib.hid (World.ownsRow_made (base := wv.heap.size) (size := 3) (e := 30) wv #[] 0 (Nat.le_refl _) (by unfold maxLen; omega) rfl)
      have hRE := Lib.hid (hRv.out.gr hgE.out)
      have hsv := blkLt HCv.out
      have hwv := HGv.out.size
      go_upto_region 14 with (at_builtin; refine wpList_append_hd rfl _ _ rfl wv.heap.size _ 0 [] rfl hOE.out ⟨l, A, c⟩ (by show _ = Value.slice A l.length c; rw [hnH.out]; rfl) hRE.out (by simp only; rw [hnH.out]; omega) hgE.out.size ?_)
      intro v15 w15 hown15 hgrow15
      simp only [Nat.zero_add, List.nil_append, hnH.out] at hown15
      obtain ⟨g, cap, rfl, hncap, hBg, hglt⟩ : ∃ g cap, v15 = .slice (some ⟨g, 0, none⟩) n cap ∧ n ≤ cap ∧ wv.heap.size ≤ g ∧ g < w15.heap.size := by
       rcases hown15.2 with ⟨_, h0⟩ | ⟨g, cap, cur, hv, hb, hg, hc, _⟩
       ·omega
       ·exact ⟨g, cap, hv, hc, hb, blkLt hg⟩
      have hO15 := Lib.hid hown15
      have hG15 := Lib.hid (HGv.out.tr (hgE.out.trans (gbBelow (B := wv.heap.size) hgrow15 hgE.out.size (fun k e => by simp [Value.ownBlock] at e; omega))))
      obtain ⟨m, hm, hmn⟩ : ∃ m : Nat, a % (n : Int) = m ∧ m < n := ⟨(a % (n : Int)).toNat, by
       have := Int.emod_nonneg a (show (n : Int) ≠ 0 by omega)
       omega, by
       have := Int.emod_nonneg a (show (n : Int) ≠ 0 by omega)
       have := Int.emod_lt_of_pos a (show (0 : Int) < n by omega)
       omega⟩
      have hnz : (n : Int) ≠ 0 := by omega
      obtain ⟨hb, hhb⟩ : ∃ hb : Bool, decide (z % 2 = 0) = hb := ⟨_, rfl⟩
      have hhb2 : (z % 2 == 0) = hb := by rw [← hhb]; rfl
      have hHb := Lib.hid hhb
      clear hhb
      have hml : m < l.length := by have := hnH.out; omega
      have hx0 := List.getElem?_eq_getElem hml
      generalize l[m] = y at hx0
      have hx := Lib.hid hx0
      obtain ⟨H0, -, -, hfm⟩ := (ver_spec hvx.out).2
      have hop : 1 ≤ y.op ∧ y.op ≤ 13 := by
       have f2 := (hfm m y hx0).2
       exact (formI_iff.1 f2).1
      obtain ⟨k0, k1, k2⟩ := insC_at l m y hx0
      have c0 := World.ownsRow.cellAt hO15.out (m * 3) (by omega)
      have c1 := World.ownsRow.cellAt hO15.out (m * 3 + 1) (by omega)
      have c2 := World.ownsRow.cellAt hO15.out (m * 3 + 2) (by omega)
      rw [k0] at c0
      rw [k1] at c1
      rw [k2] at c2
      have d1 := World.ownsRow.frozenAt hO15.out (m * 3 + 1)
      have d2 := World.ownsRow.frozenAt hO15.out (m * 3 + 2)
      have hwg : w.heap.size < g := by omega
      have hC15 := Lib.hid (show w15.heap[w.heap.size]? = some (.cells (cdA h0 h1 h2 h3 h4) 25 (0, 0)) from (hgrow15.block _ (by simp; omega) (by simp [Value.ownBlock]; omega)).trans (grBlk hgE.out HCv.out))
      have hN := Lib.hid (fun (v : Int) (hf : formI ⟨y.op, v, y.r⟩ m n vars = false) => dmg_N (l0 := l) (v := v) rfl hwg hO15.out hx.out hC15.out hG15.out hf)
      have hN2 := Lib.hid (fun (u v : Int) (hf : formI ⟨y.op, v, y.r⟩ m n vars = false) => dmg_N2 (u := u) (v := v) hwg hO15.out hx.out hC15.out hG15.out hf)
      have hRr := Lib.hid (fun (hf : formI ⟨y.op, y.n, 1⟩ m n vars = false) => dmg_R (v := 1) hwg hO15.out hx.out hC15.out hG15.out hf)
      have q1 : IntKind.i64.wrap ((n : Int) + 1) = (n : Int) + 1 := IntWalk.i64_in _ (by omega)
      have hv12H := hv12
      clear hx0 k0 k1 k2 hown15 hgrow15 hfm
      go_upto_region 16 with fail
      go_cut [91] (fun v wx => v = .int .i64 y.op ∧ wx = w15)
      case first =>
       go_wp2_with fail
       go_meet
       exact ⟨rfl, rfl⟩
      case rest =>
       obtain ⟨rfl, rfl⟩ := hcut
       refine (‹∀ (a : Act) (w : World), Code.wp _ (Code.block 0 _) _ a w → _›) _ _ ?_
       go_cut [] (fun wx => DmP w wv.heap.size g n cap m l vars (cdA h0 h1 h2 h3 h4) 25 wx)
       case first =>
        -- WAYS
        rcases (show y.op = 2 ∨ y.op = 11 ∨ y.op = 3 ∨ y.op = 12 ∨ y.op = 13 ∨ y.op = 1 ∨ (4 ≤ y.op ∧ y.op ≤ 10) by omega) with ho | ho | ho | ho | ho | ho | ho
        ·skip
         have u2 : (y.op == 2) = true := by rw [beq_iff_eq]; exact ho
         have b1 := Lib.hid (form_badN (op := y.op) (r := y.r) (i := m) (many := n) (vars := vars) (n := (-1)) (by omega))
         have b2 := Lib.hid (form_badN (op := y.op) (r := y.r) (i := m) (many := n) (vars := vars) (n := (vars)) (by omega))
         clear ho hop
         cases hb with
         | false =>
          go_wp2_with fail
          go_meet
          exact hN.out (-1) b1.out
         | true =>
          go_wp2_with fail
          go_meet
          exact hN2.out (-1) (vars) b2.out
        ·skip
         have u2 : (y.op == 2) = false := by rw [beq_eq_false_iff_ne]; omega
         have u11 : (y.op == 11) = true := by rw [beq_iff_eq]; exact ho
         have b1 := Lib.hid (form_badN (op := y.op) (r := y.r) (i := m) (many := n) (vars := vars) (n := (-1)) (by omega))
         have b2 := Lib.hid (form_badN (op := y.op) (r := y.r) (i := m) (many := n) (vars := vars) (n := (vars)) (by omega))
         clear ho hop
         cases hb with
         | false =>
          go_wp2_with fail
          go_meet
          exact hN.out (-1) b1.out
         | true =>
          go_wp2_with fail
          go_meet
          exact hN2.out (-1) (vars) b2.out
        ·skip
         have u2 : (y.op == 2) = false := by rw [beq_eq_false_iff_ne]; omega
         have u11 : (y.op == 11) = false := by rw [beq_eq_false_iff_ne]; omega
         have u3 : (y.op == 3) = true := by rw [beq_iff_eq]; exact ho
         have b1 := Lib.hid (form_badN (op := y.op) (r := y.r) (i := m) (many := n) (vars := vars) (n := (-1)) (by omega))
         have b2 := Lib.hid (form_badN (op := y.op) (r := y.r) (i := m) (many := n) (vars := vars) (n := (4)) (by omega))
         clear ho hop
         cases hb with
         | false =>
          go_wp2_with fail
          go_meet
          exact hN.out (-1) b1.out
         | true =>
          go_wp2_with fail
          go_meet
          exact hN2.out (-1) (4) b2.out
        ·skip
         have u2 : (y.op == 2) = false := by rw [beq_eq_false_iff_ne]; omega
         have u11 : (y.op == 11) = false := by rw [beq_eq_false_iff_ne]; omega
         have u3 : (y.op == 3) = false := by rw [beq_eq_false_iff_ne]; omega
         have u12 : (y.op == 12) = true := by rw [beq_iff_eq]; exact ho
         have b1 := Lib.hid (form_badJ (op := y.op) (r := y.r) (i := m) (many := n) (vars := vars) (n := (((m : Nat) : Int))) (by omega))
         have b2 := Lib.hid (form_badJ (op := y.op) (r := y.r) (i := m) (many := n) (vars := vars) (n := ((n : Int) + 1)) (by omega))
         clear ho hop
         cases hb with
         | false =>
          go_wp2_with fail
          go_meet
          exact hN.out (((m : Nat) : Int)) b1.out
         | true =>
          go_wp2_with fail
          go_meet
          exact hN2.out (((m : Nat) : Int)) ((n : Int) + 1) b2.out
        ·skip
         have u2 : (y.op == 2) = false := by rw [beq_eq_false_iff_ne]; omega
         have u11 : (y.op == 11) = false := by rw [beq_eq_false_iff_ne]; omega
         have u3 : (y.op == 3) = false := by rw [beq_eq_false_iff_ne]; omega
         have u12 : (y.op == 12) = false := by rw [beq_eq_false_iff_ne]; omega
         have u13 : (y.op == 13) = true := by rw [beq_iff_eq]; exact ho
         have b1 := Lib.hid (form_badJ (op := y.op) (r := y.r) (i := m) (many := n) (vars := vars) (n := (((m : Nat) : Int))) (by omega))
         have b2 := Lib.hid (form_badJ (op := y.op) (r := y.r) (i := m) (many := n) (vars := vars) (n := ((n : Int) + 1)) (by omega))
         clear ho hop
         cases hb with
         | false =>
          go_wp2_with fail
          go_meet
          exact hN.out (((m : Nat) : Int)) b1.out
         | true =>
          go_wp2_with fail
          go_meet
          exact hN2.out (((m : Nat) : Int)) ((n : Int) + 1) b2.out
        ·skip
         have u2 : (y.op == 2) = false := by rw [beq_eq_false_iff_ne]; omega
         have u11 : (y.op == 11) = false := by rw [beq_eq_false_iff_ne]; omega
         have u3 : (y.op == 3) = false := by rw [beq_eq_false_iff_ne]; omega
         have u12 : (y.op == 12) = false := by rw [beq_eq_false_iff_ne]; omega
         have u13 : (y.op == 13) = false := by rw [beq_eq_false_iff_ne]; omega
         have u1 : (y.op == 1) = true := by rw [beq_iff_eq]; exact ho
         have b1 := Lib.hid (form_badN (op := y.op) (r := y.r) (i := m) (many := n) (vars := vars) (n := (1000000000001)) (by omega))
         have b2 := Lib.hid (form_badN (op := y.op) (r := y.r) (i := m) (many := n) (vars := vars) (n := (-1000000000001)) (by omega))
         clear ho hop
         cases hb with
         | false =>
          go_wp2_with fail
          go_meet
          exact hN.out (1000000000001) b1.out
         | true =>
          go_wp2_with fail
          go_meet
          exact hN2.out (1000000000001) (-1000000000001) b2.out
        ·skip
         have u2 : (y.op == 2) = false := by rw [beq_eq_false_iff_ne]; omega
         have u11 : (y.op == 11) = false := by rw [beq_eq_false_iff_ne]; omega
         have u3 : (y.op == 3) = false := by rw [beq_eq_false_iff_ne]; omega
         have u12 : (y.op == 12) = false := by rw [beq_eq_false_iff_ne]; omega
         have u13 : (y.op == 13) = false := by rw [beq_eq_false_iff_ne]; omega
         have u1 : (y.op == 1) = false := by rw [beq_eq_false_iff_ne]; omega
         have b1 := Lib.hid (form_badR (op := y.op) (n := y.n) (i := m) (many := n) (vars := vars) (by omega))
         clear ho hop
         go_wp2_with fail
         go_meet
         exact hRr.out b1.out
        -- ENDWAYS
       case rest =>
        obtain ⟨y2, hOf, hff, hCf, hGf⟩ := hcut
        obtain ⟨e0, e1, e2, e3, e4, hMf, hvf, hRf, hlf, hGz⟩ := dmg_end hk5 hnH.out hmn (by omega) hwg hOf.out hff.out hCf.out hGf.out HR.out hlenH.out
        have ckf : wc.cell? ⟨w.heap.size, k, none⟩ = some (.slice A n c) := by have h : wc.cell? ⟨w.heap.size, k, none⟩ = some (.slice A l.length c) := hcd.out _ _ hCf.out; rw [hnH.out] at h; exact h
        have dkf := frz hCf.out k
        have HVf := Verify_all e0 e1 e2 e3 e4 vars _ hRf.out hlf.out (HE.out.gr hGz.out)
        rw [hvf.out] at HVf
        have HVf := Lib.hid HVf
        obtain ⟨z0, z1, z2, z3, z4⟩ := cells5k hMf.out
        clear hRf hlf hvf hOf hff c0 c1 c2 d1 d2
        go_wp2_with (go_at_call 7; refine HVf.out.mono ?_; rintro e wv2 ⟨rfl, hgv2⟩)
        go_ret
        exact ⟨rfl, Gr.tr hGz.out hgv2⟩
    refine wp_region_X (S := fun wq => Gr wc wq) [12] (by kernel_rfl) (grDrew _) (fun hHeld => ?_)
    have hSG : Hid (∀ wp wq : World, Gr wc wp → Gr wp wq → Gr wc wq) := Lib.hid (fun _ _ h k => h.tr k)
    have hmv := Lib.hid (fun (wq : World) (hq : Gr wc wq) => And.intro (grCell hq ck) (And.intro (grCell hq e0) (And.intro (grCell hq e1) (grCell hq e2))))
    first
     | (refine xk hSG 0 [11, 12] (v := ?_) rfl (by kernel_rfl) (fun _ _ _ h => h) (by rfl) ?_ hHeld ?_; rotate_left; focus (intro w' hSw; obtain ⟨ck, e0, e1, e2⟩ := hmv.out _ hSw; go_simp; (try with_reducible rfl)))
     | refine xn hSG 0 [11, 12] rfl (by kernel_rfl) (fun _ _ _ h => h) (by rfl) hHeld ?_
    (try simp only [zq1, zq2, zq3, Act.put, zq4, zq5, zq6])
    first
     | (refine xk hSG 2 [4, 5, 6, 9, 11, 12] (v := ?_) rfl (by kernel_rfl) (fun _ _ _ h => h) (by rfl) ?_ hHeld ?_; rotate_left; focus (intro w' hSw; obtain ⟨ck, e0, e1, e2⟩ := hmv.out _ hSw; go_simp; (try with_reducible rfl)))
     | refine xn hSG 2 [4, 5, 6, 9, 11, 12] rfl (by kernel_rfl) (fun _ _ _ h => h) (by rfl) hHeld ?_
    (try simp only [zq1, zq2, zq3, Act.put, zq4, zq5, zq6])
    first
     | (refine xk hSG 3 [4, 5, 6, 9, 11, 12] (v := ?_) rfl (by kernel_rfl) (fun _ _ _ h => h) (by rfl) ?_ hHeld ?_; rotate_left; focus (intro w' hSw; obtain ⟨ck, e0, e1, e2⟩ := hmv.out _ hSw; go_simp; (try with_reducible rfl)))
     | refine xn hSG 3 [4, 5, 6, 9, 11, 12] rfl (by kernel_rfl) (fun _ _ _ h => h) (by rfl) hHeld ?_
    (try simp only [zq1, zq2, zq3, Act.put, zq4, zq5, zq6])
    refine xk hSG 4 [5, 6, 9, 11, 12] (v := .pointer (some ⟨w.heap.size, k, none⟩)) rfl (by kernel_rfl) (fun _ _ _ h => h) (by rfl) ?_ hHeld ?_
    focus (intro w' hSw; obtain ⟨ck, e0, e1, e2⟩ := hmv.out _ hSw; go_simp; intro hq; omega)
    (try simp only [zq1, zq2, zq3, Act.put, zq4, zq5, zq6])
    first
     | (refine xk hSG 5 [6, 9, 11, 12] (v := ?_) rfl (by kernel_rfl) (fun _ _ _ h => h) (by rfl) ?_ hHeld ?_; rotate_left; focus (intro w' hSw; obtain ⟨ck, e0, e1, e2⟩ := hmv.out _ hSw; go_simp; (try with_reducible rfl)))
     | refine xn hSG 5 [6, 9, 11, 12] rfl (by kernel_rfl) (fun _ _ _ h => h) (by rfl) hHeld ?_
    (try simp only [zq1, zq2, zq3, Act.put, zq4, zq5, zq6])
    first
     | (refine xk hSG 7 [8, 9, 11, 12] (v := ?_) rfl (by kernel_rfl) (fun _ _ _ h => h) (by rfl) ?_ hHeld ?_; rotate_left; focus (intro w' hSw; obtain ⟨ck, e0, e1, e2⟩ := hmv.out _ hSw; go_simp; (try with_reducible rfl)))
     | refine xn hSG 7 [8, 9, 11, 12] rfl (by kernel_rfl) (fun _ _ _ h => h) (by rfl) hHeld ?_
    (try simp only [zq1, zq2, zq3, Act.put, zq4, zq5, zq6])
    first
     | (refine xk hSG 10 [11, 12] (v := ?_) rfl (by kernel_rfl) (fun _ _ _ h => h) (by rfl) ?_ hHeld ?_; rotate_left; focus (intro w' hSw; obtain ⟨ck, e0, e1, e2⟩ := hmv.out _ hSw; go_simp; (try with_reducible rfl)))
     | refine xn hSG 10 [11, 12] rfl (by kernel_rfl) (fun _ _ _ h => h) (by rfl) hHeld ?_
    (try simp only [zq1, zq2, zq3, Act.put, zq4, zq5, zq6])
    -- ORDERS
    refine wpAnyX_two (i := 1) (j := 8) (by kernel_rfl) rfl rfl (fun v1 hg K hK => ?_) (fun v8 hg K hK => ?_)
    ·skip
     have hgS := hSG.out _ _ hHeld.out hg
     go_simp
     have O1 := Lib.hid (World.ownsRow_made (base := wc.heap.size) (size := 3) (e := 30) v1 #[] 0 hgS.size (by unfold maxLen; omega) rfl)
     refine hK.out _ _ (hgS.tr (grAlloc _ _)) (fun hHeld => ?_)
     clear hK K hg hgS
     refine wpAnyX_two (i := 6) (j := 8) (by kernel_rfl) rfl rfl (fun v6 hg K hK => ?_) (fun v8 hg K hK => ?_)
     ·skip
      have hgS := hSG.out _ _ hHeld.out hg
      have hO := owns_gr O1.out hg
      refine step_append_hd rfl _ _ rfl wc.heap.size _ 0 [] (by rfl) hO ⟨l, A, c⟩ (by rfl) (HRc.out.gr hgS) (by simp only; rw [hnH.out]; omega) hgS.size ?_
      intro u6 w6 hown6 hgrow6
      simp only [Nat.zero_add, List.nil_append, hnH.out] at hown6
      have O6 := Lib.hid hown6
      have g6 := Lib.hid (gbBelow (B := wc.heap.size) hgrow6 hgS.size (fun k e => (World.ownsRow.lt hO k e).1))
      refine hK.out _ _ (Below.trans hgS g6.out) (fun hHeld => ?_)
      (try simp only [zq1, zq2, zq3, Act.put, zq4, zq5, zq6])
      clear hK K hg hgS hown6 hgrow6 hO
      refine wpAnyX_one (i := 8) (by kernel_rfl) rfl (fun v8 hg K hK => ?_)
      have hgS := hSG.out _ _ hHeld.out hg
      go_simp
      have O6 := Lib.hid (owns_gr (owns_gr O6.out hg) (grAlloc v8 (.cells #[.int .i64 x.op, .int .i64 x.n, .int .i64 x.r] 30)))
      have I8 := Lib.hid (ins1j (nBlk v8 (.cells #[.int .i64 x.op, .int .i64 x.n, .int .i64 x.r] 30) _ rfl))
      refine hK.out _ _ (hgS.tr (grAlloc _ _)) (fun hHeld => ?_)
      clear hK K hg hgS
      refine wpAnyX_one (i := 9) (by kernel_rfl) rfl (fun v9 hg K hK => ?_)
      have hgS := hSG.out _ _ hHeld.out hg
      have hO := owns_gr O6.out hg
      refine step_append_hd rfl _ _ rfl wc.heap.size _ n (insC l) (by rfl) hO ⟨[x], some ⟨v8.heap.size, 0, none⟩, 1⟩ (by rfl) (I8.out.gr hg) (by simp only [List.length_singleton]; omega) hgS.size ?_
      intro u9 w9 hown9 hgrow9
      rw [← insC_app] at hown9
      have O9 := Lib.hid (show w9.ownsRow wc.heap.size 30 3 u9 (n + 1) (insC (l ++ [x])) from hown9)
      have g9 := Lib.hid (Below.trans hgS (gbBelow (B := wc.heap.size) hgrow9 hgS.size (fun k e => (World.ownsRow.lt hO k e).1)))
      obtain ⟨A9, c9, hv9, -, -⟩ := own_ins O9.out (by rw [List.length_append, hnH.out]; rfl)
      rw [List.length_append, hnH.out, List.length_singleton] at hv9
      subst hv9
      refine hK.out _ _ g9.out (fun hHeld => ?_)
      (try simp only [zq1, zq2, zq3, Act.put, zq4, zq5, zq6])
      clear hK K hg hgS hown9 hgrow9 hO
      refine xk hSG 11 [12] (v := .pointer (some ⟨mb, k, none⟩)) rfl (by kernel_rfl) (fun _ _ _ h => h) (by rfl) ?_ hHeld ?_
      focus (intro w' hSw; obtain ⟨ck, e0, e1, e2⟩ := hmv.out _ hSw; go_simp; intro hq; omega)
      (try simp only [zq1, zq2, zq3, Act.put, zq4, zq5, zq6])
      refine wpAnyX_oneX (i := 12) (by kernel_rfl) (by kernel_rfl) rfl (fun v12 hg K hK => ?_)
      have hgS := hSG.out _ _ hHeld.out hg
      have O9 := Lib.hid (owns_gr O9.out hg)
      have HM7 := Lib.hid (grBlk hgS HM6.out)
      have cm : v12.cell? ⟨mb, k, none⟩ = some (.slice A l.length c) := hcd.out _ _ HM7.out
      have dm := frz HM7.out k
      have hgSH := Lib.hid hgS
      have O9 := Lib.hid (World.ownsRow.kept O9.out (gbSet (b := mb) (i := k) (v := .slice A9 (n + 1) c9) (gbRefl v12 _)) (.inr (fun e => by have := (World.ownsRow.lt O9.out _ e).1; omega)))
      clear hg hgS
      go_simp
      refine hK.out _ _ ?_
      clear hK K cm dm
      refine wpAnyX_done (by kernel_rfl) (fun v13 hg => ?_) _
      have R9 := own_insR (owns_gr O9.out hg) (by rw [List.length_append, hnH.out]; rfl)
      have f := Lib.hid (hFin.out v12 v13 A9 c9 (n + 1) (by rw [List.length_append, hnH.out]; rfl) hgSH.out HM7.out R9 hg)
      clear hg hHeld hSG O9 R9 HM7
      go_wp2
      go_meet
      exact f.out
     ·skip
      have hgS := hSG.out _ _ hHeld.out hg
      go_simp
      have O1 := Lib.hid (owns_gr (owns_gr O1.out hg) (grAlloc v8 (.cells #[.int .i64 x.op, .int .i64 x.n, .int .i64 x.r] 30)))
      have I8 := Lib.hid (ins1j (nBlk v8 (.cells #[.int .i64 x.op, .int .i64 x.n, .int .i64 x.r] 30) _ rfl))
      have I8ne := Lib.hid (show v1.heap.size ≠ v8.heap.size by have := hg.size; simp at this; omega)
      refine hK.out _ _ (hgS.tr (grAlloc _ _)) (fun hHeld => ?_)
      clear hK K hg hgS
      refine wpAnyX_one (i := 6) (by kernel_rfl) rfl (fun v6 hg K hK => ?_)
      have hgS := hSG.out _ _ hHeld.out hg
      have hO := owns_gr O1.out hg
      refine step_append_hd rfl _ _ rfl wc.heap.size _ 0 [] (by rfl) hO ⟨l, A, c⟩ (by rfl) (HRc.out.gr hgS) (by simp only; rw [hnH.out]; omega) hgS.size ?_
      intro u6 w6 hown6 hgrow6
      simp only [Nat.zero_add, List.nil_append, hnH.out] at hown6
      have O6 := Lib.hid hown6
      have g6 := Lib.hid (gbBelow (B := wc.heap.size) hgrow6 hgS.size (fun k e => (World.ownsRow.lt hO k e).1))
      have I8 := Lib.hid ((I8.out.gr hg).keepB hgrow6 (fun ad had => by cases had; simpa [Value.ownBlock] using I8ne.out))
      refine hK.out _ _ (Below.trans hgS g6.out) (fun hHeld => ?_)
      (try simp only [zq1, zq2, zq3, Act.put, zq4, zq5, zq6])
      clear hK K hg hgS hown6 hgrow6 hO
      refine wpAnyX_one (i := 9) (by kernel_rfl) rfl (fun v9 hg K hK => ?_)
      have hgS := hSG.out _ _ hHeld.out hg
      have hO := owns_gr O6.out hg
      refine step_append_hd rfl _ _ rfl wc.heap.size _ n (insC l) (by rfl) hO ⟨[x], some ⟨v8.heap.size, 0, none⟩, 1⟩ (by rfl) (I8.out.gr hg) (by simp only [List.length_singleton]; omega) hgS.size ?_
      intro u9 w9 hown9 hgrow9
      rw [← insC_app] at hown9
      have O9 := Lib.hid (show w9.ownsRow wc.heap.size 30 3 u9 (n + 1) (insC (l ++ [x])) from hown9)
      have g9 := Lib.hid (Below.trans hgS (gbBelow (B := wc.heap.size) hgrow9 hgS.size (fun k e => (World.ownsRow.lt hO k e).1)))
      obtain ⟨A9, c9, hv9, -, -⟩ := own_ins O9.out (by rw [List.length_append, hnH.out]; rfl)
      rw [List.length_append, hnH.out, List.length_singleton] at hv9
      subst hv9
      refine hK.out _ _ g9.out (fun hHeld => ?_)
      (try simp only [zq1, zq2, zq3, Act.put, zq4, zq5, zq6])
      clear hK K hg hgS hown9 hgrow9 hO
      refine xk hSG 11 [12] (v := .pointer (some ⟨mb, k, none⟩)) rfl (by kernel_rfl) (fun _ _ _ h => h) (by rfl) ?_ hHeld ?_
      focus (intro w' hSw; obtain ⟨ck, e0, e1, e2⟩ := hmv.out _ hSw; go_simp; intro hq; omega)
      (try simp only [zq1, zq2, zq3, Act.put, zq4, zq5, zq6])
      refine wpAnyX_oneX (i := 12) (by kernel_rfl) (by kernel_rfl) rfl (fun v12 hg K hK => ?_)
      have hgS := hSG.out _ _ hHeld.out hg
      have O9 := Lib.hid (owns_gr O9.out hg)
      have HM7 := Lib.hid (grBlk hgS HM6.out)
      have cm : v12.cell? ⟨mb, k, none⟩ = some (.slice A l.length c) := hcd.out _ _ HM7.out
      have dm := frz HM7.out k
      have hgSH := Lib.hid hgS
      have O9 := Lib.hid (World.ownsRow.kept O9.out (gbSet (b := mb) (i := k) (v := .slice A9 (n + 1) c9) (gbRefl v12 _)) (.inr (fun e => by have := (World.ownsRow.lt O9.out _ e).1; omega)))
      clear hg hgS
      go_simp
      refine hK.out _ _ ?_
      clear hK K cm dm
      refine wpAnyX_done (by kernel_rfl) (fun v13 hg => ?_) _
      have R9 := own_insR (owns_gr O9.out hg) (by rw [List.length_append, hnH.out]; rfl)
      have f := Lib.hid (hFin.out v12 v13 A9 c9 (n + 1) (by rw [List.length_append, hnH.out]; rfl) hgSH.out HM7.out R9 hg)
      clear hg hHeld hSG O9 R9 HM7
      go_wp2
      go_meet
      exact f.out
    ·skip
     have hgS := hSG.out _ _ hHeld.out hg
     go_simp
     have I8 := Lib.hid (ins1j (nBlk v8 (.cells #[.int .i64 x.op, .int .i64 x.n, .int .i64 x.r] 30) _ rfl))
     refine hK.out _ _ (hgS.tr (grAlloc _ _)) (fun hHeld => ?_)
     clear hK K hg hgS
     refine wpAnyX_one (i := 1) (by kernel_rfl) rfl (fun v1 hg K hK => ?_)
     have hgS := hSG.out _ _ hHeld.out hg
     go_simp
     have I8 := Lib.hid ((I8.out.gr hg).gr (grAlloc v1 (.cells #[] 30)))
     have O1 := Lib.hid (World.ownsRow_made (base := wc.heap.size) (size := 3) (e := 30) v1 #[] 0 hgS.size (by unfold maxLen; omega) rfl)
     have I8ne := Lib.hid (show v1.heap.size ≠ v8.heap.size by have := hg.size; simp at this; omega)
     refine hK.out _ _ (hgS.tr (grAlloc _ _)) (fun hHeld => ?_)
     clear hK K hg hgS
     refine wpAnyX_one (i := 6) (by kernel_rfl) rfl (fun v6 hg K hK => ?_)
     have hgS := hSG.out _ _ hHeld.out hg
     have hO := owns_gr O1.out hg
     refine step_append_hd rfl _ _ rfl wc.heap.size _ 0 [] (by rfl) hO ⟨l, A, c⟩ (by rfl) (HRc.out.gr hgS) (by simp only; rw [hnH.out]; omega) hgS.size ?_
     intro u6 w6 hown6 hgrow6
     simp only [Nat.zero_add, List.nil_append, hnH.out] at hown6
     have O6 := Lib.hid hown6
     have g6 := Lib.hid (gbBelow (B := wc.heap.size) hgrow6 hgS.size (fun k e => (World.ownsRow.lt hO k e).1))
     have I8 := Lib.hid ((I8.out.gr hg).keepB hgrow6 (fun ad had => by cases had; simpa [Value.ownBlock] using I8ne.out))
     refine hK.out _ _ (Below.trans hgS g6.out) (fun hHeld => ?_)
     (try simp only [zq1, zq2, zq3, Act.put, zq4, zq5, zq6])
     clear hK K hg hgS hown6 hgrow6 hO
     refine wpAnyX_one (i := 9) (by kernel_rfl) rfl (fun v9 hg K hK => ?_)
     have hgS := hSG.out _ _ hHeld.out hg
     have hO := owns_gr O6.out hg
     refine step_append_hd rfl _ _ rfl wc.heap.size _ n (insC l) (by rfl) hO ⟨[x], some ⟨v8.heap.size, 0, none⟩, 1⟩ (by rfl) (I8.out.gr hg) (by simp only [List.length_singleton]; omega) hgS.size ?_
     intro u9 w9 hown9 hgrow9
     rw [← insC_app] at hown9
     have O9 := Lib.hid (show w9.ownsRow wc.heap.size 30 3 u9 (n + 1) (insC (l ++ [x])) from hown9)
     have g9 := Lib.hid (Below.trans hgS (gbBelow (B := wc.heap.size) hgrow9 hgS.size (fun k e => (World.ownsRow.lt hO k e).1)))
     obtain ⟨A9, c9, hv9, -, -⟩ := own_ins O9.out (by rw [List.length_append, hnH.out]; rfl)
     rw [List.length_append, hnH.out, List.length_singleton] at hv9
     subst hv9
     refine hK.out _ _ g9.out (fun hHeld => ?_)
     (try simp only [zq1, zq2, zq3, Act.put, zq4, zq5, zq6])
     clear hK K hg hgS hown9 hgrow9 hO
     refine xk hSG 11 [12] (v := .pointer (some ⟨mb, k, none⟩)) rfl (by kernel_rfl) (fun _ _ _ h => h) (by rfl) ?_ hHeld ?_
     focus (intro w' hSw; obtain ⟨ck, e0, e1, e2⟩ := hmv.out _ hSw; go_simp; intro hq; omega)
     (try simp only [zq1, zq2, zq3, Act.put, zq4, zq5, zq6])
     refine wpAnyX_oneX (i := 12) (by kernel_rfl) (by kernel_rfl) rfl (fun v12 hg K hK => ?_)
     have hgS := hSG.out _ _ hHeld.out hg
     have O9 := Lib.hid (owns_gr O9.out hg)
     have HM7 := Lib.hid (grBlk hgS HM6.out)
     have cm : v12.cell? ⟨mb, k, none⟩ = some (.slice A l.length c) := hcd.out _ _ HM7.out
     have dm := frz HM7.out k
     have hgSH := Lib.hid hgS
     have O9 := Lib.hid (World.ownsRow.kept O9.out (gbSet (b := mb) (i := k) (v := .slice A9 (n + 1) c9) (gbRefl v12 _)) (.inr (fun e => by have := (World.ownsRow.lt O9.out _ e).1; omega)))
     clear hg hgS
     go_simp
     refine hK.out _ _ ?_
     clear hK K cm dm
     refine wpAnyX_done (by kernel_rfl) (fun v13 hg => ?_) _
     have R9 := own_insR (owns_gr O9.out hg) (by rw [List.length_append, hnH.out]; rfl)
     have f := Lib.hid (hFin.out v12 v13 A9 c9 (n + 1) (by rw [List.length_append, hnH.out]; rfl) hgSH.out HM7.out R9 hg)
     clear hg hHeld hSG O9 R9 HM7
     go_wp2
     go_meet
     exact f.out
    -- END
end K
end Go.Proofs.YtfmjbfpjkilpcaaGreatDoor
