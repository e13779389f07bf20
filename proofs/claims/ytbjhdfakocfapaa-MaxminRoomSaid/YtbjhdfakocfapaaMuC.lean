/- Law package 13: possible. What it returns is a list of numbers that the links carry. -/
import Derived.Test.YtbjhdfakocfapaaMuA
import Derived.Test.YtbjhdfakocfapaaMuO
namespace Go.Proofs.Ytbjhdfakocfapaa
open Go.RowKit
set_option linter.unusedVariables false
set_option linter.unusedSimpArgs false
theorem run_min2 (p q r : Int) (h : r = min p q) (ts : Array TypeId) (t : TypeId) (w : World) : (Builtin.min_ ts t #[.int .i64 p, .int .i64 q]).run Try.prog w = .ok (.int .i64 r) w := by
  have e : (if q < p then q else p) = r := by omega
  simp [Builtin.min_, Builtin.min2, e, go_sem]
theorem intInfo : (Try.prog.info? 3).map (fun i => (i.zero, i.size, i.bytes)) = some (some (.int .i64 0), 1, 8) := by kernel_rfl
def iC (l : List Int) : List Value := l.map (Value.int .i64)
theorem iC_rep (k : Nat) : iC (List.replicate k 0) = List.replicate k (Value.int .i64 0) := by simp [iC]
theorem mkI (k : Nat) (hk : k ≤ 1000) (w : World) : (Instr.makeSlice 22 (.int .i64 k) (.int .i64 k)).run Try.prog w = .ok (.slice (some ⟨w.heap.size, 0, none⟩) k k) (w.alloc (.cells (iC (List.replicate k 0)).toArray 3 (0, 0))) := by
  obtain ⟨ix, hi, hz0, hz1, hz2⟩ := info_parts intInfo
  have := run_make w 22 3 ix (.int .i64 0) Try.underlying22 hi hz0 .i64 .i64 k k (by omega) (by omega) (by rw [hz2]; omega) (by omega)
  rw [this, iC_rep, ← made1]
  simp [hz1, Value.cells]
theorem iC_set (l : List Int) (i : Nat) (v : Int) : iC (l.set i v) = (iC l).set i (.int .i64 v) := by simp [iC, List.map_set]
theorem iC_at {w : World} {L : Nat} {l : List Int} {T : TypeId} (h : w.heap[L]? = some (.cells (iC l).toArray T (0, 0))) {i : Nat} (hi : i < l.length) : w.cell? ⟨L, i, none⟩ = some (.int .i64 (num l i)) := by
  rw [cell_of_row _ _ i _ _ (0, 0) h]
  simp [iC, num, hi]
theorem iC_put {w : World} {L : Nat} {l : List Int} {T : TypeId} (h : w.heap[L]? = some (.cells (iC l).toArray T (0, 0))) {i : Nat} (v : Int) :
    (w.setCell ⟨L, i, none⟩ (.int .i64 v)).heap[L]? = some (.cells (iC (l.set i v)).toArray T (0, 0)) := by
  rw [heap_setCell_same _ _ i _ _ _ h, iC_set]; simp
theorem num_set {l : List Int} {i : Nat} (v : Int) (j : Nat) (h : i < l.length) : num (l.set i v) j = if j = i then v else num l j := by
  unfold num
  rw [List.getElem?_set]
  by_cases e : i = j
  · subst e; simp [h]
  · rw [if_neg e, if_neg (fun h => e h.symm)]
theorem ints_iC {w : World} {B : Nat} {l : List Int} {T : TypeId} (h : w.heap[B]? = some (.cells (iC l).toArray T (0, 0))) : IntsR w l (some ⟨B, 0, none⟩) := by
  refine .inr ⟨B, 0, rfl, fun i n hi => ?_⟩
  rw [Nat.zero_add, cell_of_row _ _ i _ _ (0, 0) h]
  simp [iC, hi]
/-! ### what it does -/
def sI : Nat → (Nat → Int) → Int
  | 0, _ => 0
  | n + 1, f => sI n f + f n
theorem sI_congr {n : Nat} {f g : Nat → Int} (h : ∀ i, i < n → f i = g i) : sI n f = sI n g := by
  induction n with
  | zero => rfl
  | succ n ih => rw [sI, sI, ih (fun i hi => h i (by omega)), h n (by omega)]
theorem sI_zero {n k : Nat} {f : Nat → Int} (hk : k ≤ n) (h : ∀ i, k ≤ i → f i = 0) : sI n f = sI k f := by
  induction n with
  | zero => obtain rfl : k = 0 := by omega
            rfl
  | succ n ih =>
    by_cases e : k = n + 1
    · rw [e]
    · rw [sI, ih (by omega), h n (by omega)]; omega
/-- the numbers on a link, of the first flows -/
def onS (n : Net) (ys : List Int) (l i : Nat) : Int := if onF n.f (l : Int) i = true then num ys i else 0
/-- possible numbers over d -/
structure Poss (n : Net) (d : Int) (ys : List Int) : Prop where
  len : ys.length = n.f.length
  nn : ∀ i, 0 ≤ num ys i ∧ num ys i ≤ 1000 * d
  lim : ∀ i, 0 < num n.l i → num ys i ≤ num n.l i * d
  cap : ∀ l, l < n.c.length → sI n.f.length (onS n ys l) ≤ num n.c l * d
/-- what holds ahead of flow k -/
structure PK (n : Net) (d : Int) (k : Nat) (left out : List Int) : Prop where
  ll : left.length = n.c.length
  lo : out.length = n.f.length
  sum : ∀ l, l < n.c.length → num left l + sI k (onS n out l) = num n.c l * d
  pos : ∀ l, l < n.c.length → 0 ≤ num left l
  top : ∀ l, l < n.c.length → num left l ≤ num n.c l * d
  nn : ∀ i, 0 ≤ num out i ∧ num out i ≤ 1000 * d
  lim : ∀ i, 0 < num n.l i → num out i ≤ num n.l i * d
  zero : ∀ i, k ≤ i → num out i = 0
theorem pk_end {n : Net} {d : Int} {k : Nat} {left out : List Int} (h : PK n d k left out) (hk : k ≤ n.f.length) : Poss n d out := by
  refine ⟨h.lo, h.nn, h.lim, fun l hl => ?_⟩
  have h1 := h.sum l hl
  have h2 := h.pos l hl
  rw [sI_zero hk (fun i hi => by unfold onS; rw [h.zero i hi]; simp)]
  omega
theorem num_rep (k i : Nat) : num (List.replicate k 0) i = 0 := by
  unfold num
  rw [List.getElem?_replicate]
  split <;> rfl
theorem pk_start {n : Net} {d : Int} {left : List Int} (hv : validB n = true) (hd : 1 ≤ d) (hl : left.length = n.c.length) (h : ∀ j, j < n.c.length → num left j = num n.c j * d) : PK n d 0 left (List.replicate n.f.length 0) := by
  obtain ⟨k1, k2, k3, k4, k5, k6⟩ := valid_parts hv
  have hn : ∀ i, num (List.replicate n.f.length 0) i = 0 := num_rep _
  refine ⟨hl, by simp, fun l hl => by rw [h l hl]; simp [sI], fun l hl => by rw [h l hl]; exact Int.mul_nonneg (capsB_num k5 l).1 (by omega), fun l hl => by rw [h l hl]; omega, fun i => by rw [hn]; omega, fun i hi => by rw [hn]; exact Int.mul_nonneg (by omega) (by omega), fun i _ => hn i⟩
theorem link_ge {c : Int} : ∀ {r : List Int} {m : Int}, linkB c r m = true → ∀ x ∈ r, m ≤ x ∧ x < c := by
  intro r
  induction r with
  | nil => intro m _ x hx; cases hx
  | cons y r ih =>
    intro m h x hx
    rw [linkB] at h
    split at h
    · cases h
    · rename_i hc
      rcases List.mem_cons.1 hx with rfl | hx
      · omega
      · have := ih h x hx; omega
theorem link_pair {c : Int} : ∀ {r : List Int} {m : Int}, linkB c r m = true → r.Pairwise (· < ·) := by
  intro r
  induction r with
  | nil => intro m _; exact List.Pairwise.nil
  | cons y r ih =>
    intro m h
    rw [linkB] at h
    split at h
    · cases h
    · exact List.Pairwise.cons (fun x hx => by have := (link_ge h x hx).1; omega) (ih h)
theorem row_new {c : Int} {r : List Int} {m : Int} (h : linkB c r m = true) {j : Nat} (hj : j < r.length) : r[j] ∉ r.take j := by
  intro hm
  obtain ⟨i, hi, e⟩ := List.getElem_of_mem hm
  have hi2 : i < j := by simp at hi; omega
  rw [List.getElem_take] at e
  have := List.pairwise_iff_getElem.1 (link_pair h) i j (by omega) hj hi2
  omega
/-- what is left on a link after the first j links of the row have given v -/
def subJ (left : List Int) (r : List Int) (j : Nat) (v : Int) (l : Nat) : Int := num left l - (if (r.take j).contains (l : Int) = true then v else 0)
theorem subJ_succ {left lf r : List Int} {j : Nat} {v : Int} {c m : Int} (hr : linkB c r m = true) (hj : j < r.length) {p : Nat} (hp : r[j] = (p : Int)) (hpl : p < lf.length)
    (h : ∀ l, num lf l = subJ left r j v l) : ∀ l, num (lf.set p (num lf p - v)) l = subJ left r (j + 1) v l := by
  intro l
  have hnew := row_new hr hj
  rw [num_set _ _ hpl]
  unfold subJ at h ⊢
  rw [List.take_add_one, List.getElem?_eq_getElem hj]
  simp only [Option.toList_some, List.contains_append, Bool.or_eq_true, hp]
  by_cases e : l = p
  · subst e
    rw [if_pos rfl, h l]
    have h1 : ¬ (r.take j).contains (l : Int) = true := by
      rw [List.contains_iff_mem, ← hp]; exact hnew
    rw [if_neg h1, if_pos (.inr (by simp))]
    omega
  · rw [if_neg e, h l]
    have h2 : ([(p : Int)].contains (l : Int)) = false := by simp; omega
    by_cases h1 : (r.take j).contains (l : Int) = true
    · rw [if_pos h1, if_pos (.inl h1)]
    · rw [if_neg h1, if_neg (by rw [h2]; simpa using h1)]
theorem pk_step {n : Net} {d : Int} {k : Nat} {left out lf : List Int} {v : Int} (h : PK n d k left out) (hk : k < n.f.length) (hv0 : 0 ≤ v) (hv1 : v ≤ 1000 * d) (hv2 : 0 < num n.l k → v ≤ num n.l k * d)
    (hv3 : ∀ l : Nat, (l : Int) ∈ n.f[k]?.getD [] → v ≤ num left l) (hll : lf.length = left.length) (hlf : ∀ l, num lf l = subJ left (n.f[k]?.getD []) (n.f[k]?.getD []).length v l) : PK n d (k + 1) lf (out.set k v) := by
  have hko : k < out.length := by rw [h.lo]; exact hk
  refine ⟨by rw [hll, h.ll], by simp [h.lo], fun l hl => ?_, fun l hl => ?_, fun l hl => ?_, fun i => ?_, fun i hi => ?_, fun i hi => ?_⟩
  · rw [sI, sI_congr (g := onS n out l) (fun i hi => by
      have e9 : num (out.set k v) i = num out i := by rw [num_set _ _ hko, if_neg (show ¬ i = k by omega)]
      unfold onS
      rw [e9]), hlf l]
    have h1 := h.sum l hl
    unfold subJ
    rw [List.take_length]
    unfold onS
    rw [num_set _ _ hko, if_pos rfl]
    have e : onF n.f (l : Int) k = (n.f[k]?.getD []).contains (l : Int) := rfl
    rw [e]
    unfold onS at h1
    split <;> omega
  · rw [hlf l]
    have h1 := h.pos l hl
    unfold subJ
    rw [List.take_length]
    split
    · rename_i hc
      rw [List.contains_iff_mem] at hc
      have := hv3 l hc
      omega
    · omega
  · rw [hlf l]
    have h1 := h.top l hl
    unfold subJ
    split <;> omega
  · rw [num_set _ _ hko]
    split
    · exact ⟨hv0, hv1⟩
    · exact h.nn i
  · rw [num_set _ _ hko]
    split
    · rename_i e; subst e; exact hv2 hi
    · exact h.lim i hi
  · rw [num_set _ _ hko, if_neg (by omega)]
    exact h.zero i (by omega)
/-- in memory: since W1, blocks L and O -/
structure PW (W1 : World) (L O : Nat) (left out : List Int) (w : World) : Prop where
  gr : Gr W1 w
  hL : W1.heap.size ≤ L
  hO : W1.heap.size ≤ O
  ne : L ≠ O
  lft : w.heap[L]? = some (.cells (iC left).toArray 3 (0, 0))
  outs : w.heap[O]? = some (.cells (iC out).toArray 3 (0, 0))
theorem PW.up {W1 : World} {L O : Nat} {left out : List Int} {w w' : World} (h : PW W1 L O left out w) (hg : Gr w w') : PW W1 L O left out w' := ⟨h.gr.tr hg, h.hL, h.hO, h.ne, grBlk hg h.lft, grBlk hg h.outs⟩
theorem PW.setL {W1 : World} {L O : Nat} {left out : List Int} {w : World} (h : PW W1 L O left out w) (i : Nat) (v : Int) : PW W1 L O (left.set i v) out (w.setCell ⟨L, i, none⟩ (.int .i64 v)) :=
  ⟨Below.setCell (p := ⟨L, i, none⟩) h.gr h.hL _, h.hL, h.hO, h.ne, iC_put h.lft v, (Below.heap_setCell _ _ _ _ (fun e => h.ne e.symm)).trans h.outs⟩
theorem PW.setO {W1 : World} {L O : Nat} {left out : List Int} {w : World} (h : PW W1 L O left out w) (i : Nat) (v : Int) : PW W1 L O left (out.set i v) (w.setCell ⟨O, i, none⟩ (.int .i64 v)) :=
  ⟨Below.setCell (p := ⟨O, i, none⟩) h.gr h.hO _, h.hL, h.hO, h.ne, (Below.heap_setCell _ _ _ _ h.ne).trans h.lft, iC_put h.outs v⟩
end Go.Proofs.Ytbjhdfakocfapaa
