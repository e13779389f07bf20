/- Law 10: the memory of the reference's Trace: the state now, the stack, both of the call's own. -/
import Derived.Test.YthgngkajdiclcaaDoorNiA
import Derived.Test.YthgngkajdiclcaaDoorNhC
namespace Go.Proofs.YthgngkajdiclcaaDoor
open Go.RowKit
set_option linter.unusedVariables false
set_option linter.unusedSimpArgs false
namespace N
open K
theorem iC_len (l : List Int) : (iCells l).length = l.length := by simp [iCells]
theorem iC_at (l : List Int) (j : Nat) : (iCells l)[j]? = (l[j]?).map (Value.int .i64) := by simp [iCells]
theorem iC_one (l : List Int) : ∀ u ∈ iCells l, u.oneCell' = true := by intro u hu; obtain ⟨n, -, rfl⟩ := List.mem_map.1 hu; rfl
/-- append of numbers in memory -/
theorem wpList_append_ints {w : World} {ops : Array Oper} {rest : List Oper} {o : Oper} {a : Act} {Q : Exit → Act → World → Prop} (hgd : o.guard = none) (s x : Operand)
    (ho : o.op = .call { callee := .builtin .append, args := #[s, x], argTypes := #[27, 27] })
    (base : Nat) (v : Value) (n : Nat) (xs : List Value) (hs : a.eval s = v) (hown : w.ownsRow base 3 1 v n xs) (l : List Int) (A : Option Addr) (c : Nat) (hx : a.eval x = .slice A l.length c) (hy : IntsR w l A) (h63 : n + l.length ≤ 100000) (hbase : base ≤ w.heap.size)
    (h : ∀ v' w', w'.ownsRow base 3 1 v' (n + l.length) (xs ++ iCells l) → w.grownBy w' v.ownBlock → wpList Tryd.prog ops Q rest (a.put o.dst v') w') : wpList Tryd.prog ops Q (o :: rest) a w := by
  obtain ⟨ix, hi, hz0, hz1, hz2⟩ := info_parts2 intInfo
  cases A with
  | none =>
    have hl : l = [] := by
      rcases hy with h | ⟨g, o2, h, -⟩
      · exact h
      · cases h
    subst hl
    refine wpList_plain hgd fun K hK => ?_
    have hrun := run_append_empty (w := w) base 27 o.type 3 ix 1 Tryd.underlying27 hi v n xs c hown
    unfold Oper.wp
    simp only [List.length_nil] at hx
    simp [execOp, ho, resolve, invoke, builtin, hs, hx, hrun, Result.andThen]
    refine hK _ _ (h v w (by simpa [iCells] using hown) (gbRefl _ _))
  | some ad =>
    refine wpList_append_own w hgd s x 27 ho base 3 ix _ 1 8 Tryd.underlying27 hi hz0 hz1 hz2 rfl (by decide) v n xs hs hown ad l.length c (iCells l) hx (by rw [iC_len, Nat.mul_one]) (fun j u hu => ?_) (iC_one l) (by unfold maxLen; omega) (by omega) hbase (fun v' w' h2 h3 _ => h v' w' h2 h3)
    rcases hy with h | ⟨g, o2, h, hat⟩
    · subst h; simp [iCells] at hu
    · cases h
      rw [addN]
      rw [iC_at] at hu
      cases hl : l[j]? with
      | none => rw [hl] at hu; cases hu
      | some m => rw [hl] at hu; cases hu; exact hat j m hl
/-- the state now and the stack: blocks of their own -/
structure TrO (B : Nat) (w : World) (N S : Value) (st s : List Int) : Prop where
  now : w.ownsRow B 3 1 N st.length (iCells st)
  stk : w.ownsRow B 3 1 S s.length (iCells s.reverse)
  ne : ∀ k, S.ownBlock = some k → N.ownBlock ≠ some k
theorem TrO.gr {B : Nat} {w w' : World} {N S : Value} {st s : List Int} (h : TrO B w N S st s) (hg : Gr w w') : TrO B w' N S st s := ⟨owns_gr h.now hg, owns_gr h.stk hg, h.ne⟩
theorem own_cap {w : World} {B : Nat} {T : TypeId} {v : Value} {n : Nat} {xs : List Value} (h : w.ownsRow B T 1 v n xs) (hn : 0 < n) : ∃ g cap, v = .slice (some ⟨g, 0, none⟩) n cap ∧ n ≤ cap ∧ B ≤ g ∧ g < w.heap.size := by
  rcases h.2 with ⟨_, h0⟩ | ⟨g, cap, cur, hv, hb, hg, hc, _⟩
  · omega
  · exact ⟨g, cap, hv, hc, hb, blkLt hg⟩
theorem own_pre {w : World} {B : Nat} {T : TypeId} {g n m cap : Nat} {xs ys : List Value} (h : w.ownsRow B T 1 (.slice (some ⟨g, 0, none⟩) (n + m) cap) (n + m) (xs ++ ys)) (hx : xs.length = n) : w.ownsRow B T 1 (.slice (some ⟨g, 0, none⟩) n cap) n xs := by
  refine ⟨by omega, .inr ?_⟩
  rcases h.2 with ⟨h', _⟩ | ⟨g', cap', cur, h', hb, hg, hc, hm, hs, ht⟩
  · simp at h'
  · simp only [Value.slice.injEq, Option.some.injEq, Addr.mk.injEq, and_true, true_and] at h'
    obtain ⟨rfl, rfl⟩ := h'
    refine ⟨g, cap, cur, rfl, hb, hg, by omega, hm, hs, ?_⟩
    rw [Nat.mul_one] at ht ⊢
    have := congrArg (List.take n) ht
    rw [List.take_take, Nat.min_eq_left (by omega)] at this
    rw [this, List.take_append_of_le_length (by omega), List.take_of_length_le (by omega)]
/-- the stack's top, and what is left without it -/
theorem TrO.top {B : Nat} {w : World} {N S : Value} {st r : List Int} {b : Int} (h : TrO B w N S st (b :: r)) : ∃ g cap, S = .slice (some ⟨g, 0, none⟩) (r.length + 1) cap ∧ r.length + 1 ≤ cap ∧ w.cell? ⟨g, r.length, none⟩ = some (.int .i64 b) ∧ TrO B w N (.slice (some ⟨g, 0, none⟩) r.length cap) st r := by
  have hs := h.stk
  rw [List.length_cons] at hs
  obtain ⟨g, cap, rfl, hc, -, -⟩ := own_cap hs (Nat.succ_pos _)
  refine ⟨g, cap, rfl, hc, ?_, h.now, ?_, h.ne⟩
  · rw [World.ownsRow.cellAt hs r.length (by omega), iC_at]
    simp
  · rw [List.reverse_cons, show iCells (r.reverse ++ [b]) = iCells r.reverse ++ iCells [b] by simp [iCells]] at hs
    exact own_pre hs (by simp [iC_len])
/-- a store into the state -/
theorem TrO.set {B : Nat} {w : World} {N S : Value} {st s : List Int} {k : Nat} {m : Int} (h : TrO B w N S st s) (hk : st[k]? = some m) : ∃ g cap, N = .slice (some ⟨g, 0, none⟩) st.length cap ∧ w.cell? ⟨g, k, none⟩ = some (.int .i64 m) ∧ w.frozen? ⟨g, k, none⟩ = false ∧ B ≤ g ∧ g < w.heap.size ∧
    ∀ b : Int, TrO B (w.setCell ⟨g, k, none⟩ (.int .i64 b)) N S (st.set k b) s := by
  have hkl : k < st.length := (List.getElem?_eq_some_iff.1 hk).1
  have hn := h.now
  obtain ⟨g, cap, rfl, hc, hb, hl⟩ := own_cap hn (by omega)
  refine ⟨g, cap, rfl, ?_, World.ownsRow.frozenAt hn k, hb, hl, fun b => ?_⟩
  · rw [World.ownsRow.cellAt hn k (by omega), iC_at, hk]; rfl
  · obtain ⟨k1, k2⟩ := World.ownsRow.stored hn k (.int .i64 b)
    refine ⟨?_, World.ownsRow.kept h.stk k2 ?_, h.ne⟩
    · rw [List.length_set, show iCells (st.set k b) = (iCells st).set k (.int .i64 b) by simp [iCells, List.map_set]]; exact k1
    · by_cases h0 : S.ownBlock = none
      · exact .inl h0
      · right
        intro e
        exact h.ne g e rfl
/-- one number more on the stack -/
theorem wpList_push {w : World} {ops : Array Oper} {rest : List Oper} {o : Oper} {a : Act} {Q : Exit → Act → World → Prop} (hgd : o.guard = none) (sl x : Operand)
    (ho : o.op = .call { callee := .builtin .append, args := #[sl, x], argTypes := #[27, 27] })
    (B : Nat) (N S : Value) (st s : List Int) (hs : a.eval sl = S) (h : TrO B w N S st s) (b : Int) (q : Nat) (hx : a.eval x = .slice (some ⟨q, 0, none⟩) 1 1) (hq : w.cell? ⟨q, 0, none⟩ = some (.int .i64 b)) (h63 : s.length ≤ 100) (hbase : B ≤ w.heap.size)
    (hK : ∀ v' w', TrO B w' N v' st (b :: s) → Below B w w' → wpList Tryd.prog ops Q rest (a.put o.dst v') w') : wpList Tryd.prog ops Q (o :: rest) a w := by
  obtain ⟨ix, hi, hz0, hz1, hz2⟩ := info_parts2 intInfo
  refine wpList_append_lies w hgd sl x 27 ho B 3 ix _ 1 8 Tryd.underlying27 hi hz0 hz1 hz2 rfl (by decide) S s.length (iCells s.reverse) hs h.stk ⟨q, 0, none⟩ 1 1 [.int .i64 b] hx rfl (fun j u hu => ?_) (iC_one [b]) (by decide) (by unfold maxLen; omega) (by omega) hbase _ rfl (fun g cap w' h2 h3 h4 h5 => hK _ w' ⟨?_, ?_, ?_⟩ ?_)
  · match j, hu with
    | 0, hu => cases hu; rw [addN]; exact hq
    | j + 1, hu => simp at hu
  · refine World.ownsRow.kept h.now h3 ?_
    by_cases h0 : N.ownBlock = none
    · exact .inl h0
    · right
      intro e
      cases hS : S.ownBlock with
      | none => rw [hS] at e; exact h0 e
      | some k => rw [hS] at e; exact h.ne k hS e
  · rw [List.reverse_cons, show iCells (s.reverse ++ [b]) = iCells s.reverse ++ [.int .i64 b] by simp [iCells]]
    exact h2
  · intro k hk e
    have hgk : g = k := by simpa [Value.ownBlock] using hk
    subst hgk
    rcases h4 with h4 | h4
    · exact h.ne g h4 e
    · have := (World.ownsRow.lt h.now g e).2
      omega
  · exact gbBelow h3 hbase (fun k e => (World.ownsRow.lt h.stk k e).1)
end N
end Go.Proofs.YthgngkajdiclcaaDoor
