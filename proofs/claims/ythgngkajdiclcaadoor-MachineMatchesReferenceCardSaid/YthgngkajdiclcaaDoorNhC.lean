/- Law package 10: joined. No condition. -/
import Derived.Test.YthgngkajdiclcaaDoorNhB
import Derived.Test.YthgngkajdiclcaaDoorNdD
import Derived.Laws.AppendOwnNone
import Derived.Laws.OwnMore
import Derived.Laws.MakeOwn
namespace Go.Proofs.YthgngkajdiclcaaDoor
open Go.RowKit
set_option linter.unusedVariables false
set_option linter.unusedSimpArgs false
namespace N
open K
def insC (l : List In) : List Value := l.flatMap (fun x => [.int .i64 x.op, .int .i64 x.n, .int .i64 x.r])
theorem insC_cons (x : In) (l : List In) : insC (x :: l) = .int .i64 x.op :: .int .i64 x.n :: .int .i64 x.r :: insC l := by simp [insC]
theorem insC_app (a b : List In) : insC (a ++ b) = insC a ++ insC b := by simp [insC]
theorem insC_len : ∀ l : List In, (insC l).length = l.length * 3
  | [] => rfl
  | x :: l => by rw [insC_cons]; simp only [List.length_cons, insC_len l]; omega
theorem insC_one : ∀ l : List In, ∀ u ∈ insC l, u.oneCell' = true
  | [], u, h => by simp [insC] at h
  | x :: l, u, h => by
    rw [insC_cons] at h
    simp only [List.mem_cons] at h
    rcases h with rfl | rfl | rfl | h
    · rfl
    · rfl
    · rfl
    · exact insC_one l u h
theorem insC_mem {w : World} {g : Nat} : ∀ (l : List In) (o : Nat), (∀ (i : Nat) (x : In), l[i]? = some x → InAt w g (o + i * 3) x) → ∀ (j : Nat) (u : Value), (insC l)[j]? = some u → w.cell? ⟨g, o + j, none⟩ = some u
  | [], o, h, j, u, hu => by simp [insC] at hu
  | x :: l, o, h, j, u, hu => by
    rw [insC_cons] at hu
    obtain ⟨h0, h1, h2⟩ := h 0 x rfl
    rw [Nat.zero_mul, Nat.add_zero] at h0 h1 h2
    match j, hu with
    | 0, hu => cases hu; exact h0
    | 1, hu => cases hu; exact h1
    | 2, hu => cases hu; exact h2
    | j + 3, hu =>
      have := insC_mem l (o + 3) (fun i y hy => by
        have := h (i + 1) y (by simpa using hy)
        rw [show o + (i + 1) * 3 = o + 3 + i * 3 by omega] at this
        exact this) j u (by simpa using hu)
      rw [show o + (j + 3) = o + 3 + j by omega]
      exact this
theorem insC_at : ∀ (l : List In) (i : Nat) (x : In), l[i]? = some x → (insC l)[i * 3]? = some (.int .i64 x.op) ∧ (insC l)[i * 3 + 1]? = some (.int .i64 x.n) ∧ (insC l)[i * 3 + 2]? = some (.int .i64 x.r)
  | [], i, x, h => by simp at h
  | y :: l, 0, x, h => by simp at h; subst h; rw [insC_cons]; exact ⟨rfl, rfl, rfl⟩
  | y :: l, i + 1, x, h => by
    have := insC_at l i x (by simpa using h)
    rw [insC_cons, show (i + 1) * 3 = i * 3 + 3 by omega]
    exact this
theorem own_ins {w : World} {B : Nat} {v : Value} {l : List In} {n : Nat} (h : w.ownsRow B 42 3 v n (insC l)) (hn : n = l.length) : ∃ A c, v = .slice A l.length c ∧ InsR w l A ∧ (∀ a, A = some a → B ≤ a.block) := by
  subst hn
  rcases h.2 with ⟨rfl, h0⟩ | ⟨g, cap, cur, rfl, hb, hg, hn, hc, hs, ht⟩
  · obtain rfl : l = [] := List.eq_nil_of_length_eq_zero h0
    exact ⟨none, 0, rfl, .inl rfl, fun a h => by cases h⟩
  · refine ⟨_, cap, rfl, .inr ⟨g, 0, rfl, fun i x hx => ?_⟩, fun a h => by cases h; exact hb⟩
    have hce := World.ownsRow.cells h (g := g) rfl
    obtain ⟨k0, k1, k2⟩ := insC_at l i x hx
    have f : ∀ (j : Nat) (u : Value), (insC l)[j]? = some u → w.cell? ⟨g, j, none⟩ = some u := fun j u hu => by
      have := hce j u hu
      rw [addN] at this
      simpa using this
    rw [Nat.zero_add]
    exact ⟨f _ _ k0, f _ _ k1, f _ _ k2⟩
theorem insInfo : (Tryd.prog.info? 42).map (fun i => (i.zero, i.size, i.bytes)) = some (some (.agg #[.int .i64 0, .int .i64 0, .int .i64 0]), 3, 24) := by kernel_rfl
theorem run_append_empty {w : World} (base : Nat) (t ty e : TypeId) (i : TypeInfo) (size : Nat) (ht : Tryd.prog.underlying t = some (.slice e)) (hi : Tryd.prog.info? e = some i)
    (v : Value) (n : Nat) (xs : List Value) (c : Nat) (hown : w.ownsRow base e size v n xs) :
    (Builtin.append_ #[t, t] ty #[v, .slice none 0 c]).run Tryd.prog w = .ok v w := by
  rcases hown.2 with ⟨rfl, rfl⟩ | ⟨g, cap, cur, rfl, _, _, hnc, _⟩
  · simp [Builtin.append_, run_underlying ht, sizeOf, typeInfo, hi, Builtin.lenOf, Builtin.firstCells]
  · simp [Builtin.append_, run_underlying ht, sizeOf, typeInfo, hi, Builtin.lenOf, Builtin.firstCells, hnc, storeCells]
/-- append of instructions in memory -/
theorem wpList_append_hd {w : World} {ops : Array Oper} {rest : List Oper} {o : Oper} {a : Act} {Q : Exit → Act → World → Prop} (hgd : o.guard = none) (s x : Operand)
    (ho : o.op = .call { callee := .builtin .append, args := #[s, x], argTypes := #[23, 23] })
    (base : Nat) (v : Value) (n : Nat) (xs : List Value) (hs : a.eval s = v) (hown : w.ownsRow base 42 3 v n xs) (y : Hd) (hx : a.eval x = hdV y) (hy : InsR w y.l y.A) (h63 : n + y.l.length ≤ 100000) (hbase : base ≤ w.heap.size)
    (h : ∀ v' w', w'.ownsRow base 42 3 v' (n + y.l.length) (xs ++ insC y.l) → w.grownBy w' v.ownBlock → wpList Tryd.prog ops Q rest (a.put o.dst v') w') : wpList Tryd.prog ops Q (o :: rest) a w := by
  obtain ⟨ix, hi, hz0, hz1, hz2⟩ := info_parts2 insInfo
  obtain ⟨l, A, c⟩ := y
  simp only at *
  cases A with
  | none =>
    have hl : l = [] := by
      rcases hy with h | ⟨g, o2, h, -⟩
      · exact h
      · cases h
    subst hl
    refine wpList_plain hgd fun K hK => ?_
    have hrun := run_append_empty (w := w) base 23 o.type 42 ix 3 Tryd.underlying23 hi v n xs c hown
    unfold Oper.wp
    simp only [hdV, List.length_nil] at hx
    simp [execOp, ho, resolve, invoke, builtin, hs, hx, hrun, Result.andThen]
    refine hK _ _ (h v w (by simpa [insC] using hown) (gbRefl _ _))
  | some ad =>
    refine wpList_append_own w hgd s x 23 ho base 42 ix _ 3 24 Tryd.underlying23 hi hz0 hz1 hz2 rfl (by decide) v n xs hs hown ad l.length c (insC l) hx (insC_len l) (fun j u hu => ?_) (insC_one l) (by unfold maxLen; omega) (by omega) hbase (fun v' w' h2 h3 _ => h v' w' h2 h3)
    rcases hy with h | ⟨g, o2, h, hat⟩
    · subst h; simp [insC] at hu
    · cases h
      rw [addN]
      exact insC_mem l o2 hat j u hu
theorem ins1j {w : World} {b : Nat} {x : In} {T : TypeId} (h : w.heap[b]? = some (.cells #[.int .i64 x.op, .int .i64 x.n, .int .i64 x.r] T (0, 0))) : InsR w [x] (some ⟨b, 0, none⟩) := by
  obtain ⟨c0, c1, c2⟩ := cells3k h
  refine .inr ⟨b, 0, rfl, fun i y hy => ?_⟩
  rcases i with _ | i
  · simp at hy; subst hy; exact ⟨c0, c1, c2⟩
  · simp at hy
theorem owns_gr {w w' : World} {B : Nat} {T : TypeId} {sz : Nat} {v : Value} {n : Nat} {xs : List Value} (h : w.ownsRow B T sz v n xs) (hb : Gr w w') : w'.ownsRow B T sz v n xs := by
  refine ⟨h.1, ?_⟩
  rcases h.2 with hn | ⟨g, cap, cur, hv, hg, hh, rest⟩
  · exact .inl hn
  · exact .inr ⟨g, cap, cur, hv, hg, grBlk hb hh, rest⟩
theorem jn_next {a b : List In} {k : Nat} {x : In} (hx : b[k]? = some x) : insC (jn a (b.take k)) ++ insC [sh a.length x] = insC (jn a (b.take (k + 1))) := by
  unfold jn
  rw [List.take_add_one, hx]
  simp only [Option.toList_some, List.map_append, ← List.append_assoc, insC_app]
  rfl
theorem insSet {w : World} {l : List In} {A : Option Addr} {b i : Nat} {v : Value} (h : InsR w l A) (hb : ∀ ad, A = some ad → ad.block ≠ b) : InsR (w.setCell ⟨b, i, none⟩ v) l A := by
  rcases h with h | ⟨g, o, rfl, h⟩
  · exact .inl h
  · have hne := hb _ rfl
    have f : ∀ (j : Nat) (u : Value), w.cell? ⟨g, j, none⟩ = some u → (w.setCell ⟨b, i, none⟩ v).cell? ⟨g, j, none⟩ = some u := fun j u hu => (World.cell?_of_block (heap_setCell_other w _ g v (by simp only; intro e; exact hne (by first | exact e | exact e.symm)))).trans hu
    exact .inr ⟨g, o, rfl, fun j x hx => ⟨f _ _ (h j x hx).1, f _ _ (h j x hx).2.1, f _ _ (h j x hx).2.2⟩⟩
/-- what joined leaves -/
def JnP (a b : List In) (w : World) (e : Ending) (w' : World) : Prop := (∃ z : Hd, e = .returned (hdV z) ∧ z.l = jn a b ∧ InsR w' z.l z.A ∧ ∀ ad, z.A = some ad → w.heap.size ≤ ad.block) ∧ Gr w w'
set_option maxHeartbeats 4000000 in
set_option maxRecDepth 100000 in
theorem joined_any (al bl : List In) (aA bA : Option Addr) (ac bc : Nat) (w : World) (ha : InsR w al aA) (hb : InsR w bl bA) (hal : al.length ≤ 4000) (hbl : bl.length ≤ 4000) (hjn : ∀ x ∈ bl, x.op = 12 ∨ x.op = 13 → 0 ≤ x.n ∧ x.n ≤ 100000) :
    Calls Tryd.prog 17 #[.slice aA al.length ac, .slice bA bl.length bc] w (JnP al bl w) := by
  obtain ⟨ix, hi, hz0, hz1, hz2⟩ := info_parts2 insInfo
  obtain ⟨n, hn⟩ : ∃ n, n = al.length + bl.length := ⟨_, rfl⟩
  have c1 : IntKind.i64.wrap ((al.length : Int) + (bl.length : Int)) = (n : Int) := by rw [IntWalk.i64_in _ (by omega)]; omega
  obtain ⟨cs, hcs⟩ : ∃ cs, cs = madeCells (Value.agg #[.int .i64 0, .int .i64 0, .int .i64 0]).cells (n * 3) := ⟨_, rfl⟩
  have hmk : ∀ wx : World, (Instr.makeSlice 23 (.int .i64 0) (.int .i64 n)).run Tryd.prog wx = .ok (.slice (some ⟨wx.heap.size, 0, none⟩) 0 n) (wx.alloc (.cells cs 42)) := fun wx => by
    have := run_make wx 23 42 ix _ Tryd.underlying23 hi hz0 .i64 .i64 0 n (by omega) (by omega) (by rw [hz2]; omega) (by omega)
    rw [this, hz1, hcs]
    rfl
  have hO1 := Lib.hid (World.ownsRow_made (base := w.heap.size) (size := 3) (e := 42) w cs n (Nat.le_refl _) (by unfold maxLen; omega) (by rw [hcs]; simp [madeCells]))
  have hG1 := Lib.hid (grAlloc w (.cells cs 42))
  have hRa := Lib.hid (ha.gr hG1.out)
  have hRb := Lib.hid hb
  have hjnH := Lib.hid hjn
  clear hi hz0 hz1 hz2 hcs hn ha hb hjn
  generalize hla : al.length = la at *
  have hlaH := Lib.hid hla
  clear hla
  go_enter Tryd.func17, Tryd.ntmps17
  go_upto_region 2 with (at_builtin; refine wpList_append_hd rfl _ _ rfl w.heap.size _ 0 [] rfl hO1.out ⟨al, aA, ac⟩ (by rw [hdV, hlaH.out]; rfl) hRa.out (by simp only [hlaH.out]; omega) (by simp) ?_)
  intro v2 w2 hown2 hgrow2
  simp only [Nat.zero_add, List.nil_append, hlaH.out] at hown2
  have hO2 := Lib.hid hown2
  have hW2 := Lib.hid (Below.trans hG1.out (gbBelow (B := w.heap.size) hgrow2 (by simp) (fun k e => by simp [Value.ownBlock] at e; omega)))
  clear hown2 hgrow2 hmk hG1 hO1 hRa c1
  go_upto_region 3 with fail
  go_loopg [5, 6] (bl.length) (fun gk v i wr => ∃ k : Nat, k + gk = bl.length ∧ i = .int .i64 k ∧ Hid (wr.ownsRow w.heap.size 42 3 v (la + k) (insC (jn al (bl.take k)))) ∧ Hid (Below w.heap.size w wr))
  case atStart => exact ⟨0, by omega, rfl, Lib.hid (by simpa [jn] using hO2.out), hW2⟩
  case round =>
    obtain ⟨k, hk, rfl, hO, hW⟩ := hrel
    by_cases hlt : k < bl.length
    · obtain ⟨g, rfl⟩ : ∃ g, gk = g + 1 := ⟨gk - 1, by omega⟩
      obtain ⟨gb, ob, rfl, hat⟩ := (hRb.out.gr hW.out).addr (by omega)
      have hx := List.getElem?_eq_getElem hlt
      have hxm := List.getElem_mem hlt
      generalize bl[k] = x at hx hxm
      obtain ⟨e0, e1, e2⟩ := hat k x hx
      have hjx := Lib.hid (hjnH.out x hxm)
      have hnext := Lib.hid (jn_next (a := al) hx)
      rw [hlaH.out] at hnext
      have hs1 := Lib.hid (hW.out.size)
      clear hat hx hxm hO2 hW2
      by_cases h12 : x.op = 12
      · obtain ⟨j0, j1⟩ := hjx.out (.inl h12)
        have q : IntKind.i64.wrap (x.n + (la : Int)) = x.n + (la : Int) := IntWalk.i64_in _ (by omega)
        have hsn : Hid (sh la x = ⟨x.op, x.n + la, x.r⟩) := Lib.hid (by unfold sh; rw [if_pos (.inl h12)])
        have t12 : (x.op == 12) = true := by simp; omega
        have t12' : decide (x.op = 12) = true := decide_eq_true h12
        clear h12 hjx j0 j1
        have hgr := Lib.hid (Gr.tr (grAlloc wr (.cells #[.int .i64 x.op, .int .i64 (x.n + (la : Int)), .int .i64 x.r] 42)) (grAlloc _ (.cells #[.int .i64 x.op, .int .i64 (x.n + (la : Int)), .int .i64 x.r] 42)))
        have hown := owns_gr hO.out hgr.out
        have hlt2 := Lib.hid (hown.lt)
        have hWk := Lib.hid (hW.out.trans (hgr.out.mono hs1.out))
        go_wp2_with (at_builtin; refine wpList_append_hd rfl _ _ rfl w.heap.size _ (la + k) _ rfl hown ⟨[sh la x], some ⟨wr.heap.size + 1, 0, none⟩, 1⟩ rfl ?c2 ?c3 ?c4 ?_)
        case c2 => rw [hsn.out]; exact ins1j (nBlk _ _ _ (by simp))
        case c3 => omega
        case c4 => exact hWk.out.size
        intro v3 w3 hown3 hgrow3
        rw [hnext.out] at hown3
        have hO3 := Lib.hid hown3
        have hW3 := Lib.hid (hWk.out.trans (gbBelow (B := w.heap.size) hgrow3 hWk.out.size (fun k e => (hlt2.out k e).1)))
        clear hown3 hgrow3 hown hlt2 hWk hgr hnext hO hW
        go_wp2
        go_roundg g
        case measure => omega
        case rel => exact ⟨k + 1, by omega, by go_num, hO3, hW3⟩
      · by_cases h13 : x.op = 13
        · obtain ⟨j0, j1⟩ := hjx.out (.inr h13)
          have q : IntKind.i64.wrap (x.n + (la : Int)) = x.n + (la : Int) := IntWalk.i64_in _ (by omega)
          have hsn : Hid (sh la x = ⟨x.op, x.n + la, x.r⟩) := Lib.hid (by unfold sh; rw [if_pos (.inr h13)])
          have t12 : (x.op == 12) = false := by simp; omega
          have t12' : decide (x.op = 12) = false := decide_eq_false h12
          have t13 : (x.op == 13) = true := by simp; omega
          have t13' : decide (x.op = 13) = true := decide_eq_true h13
          clear h12 h13 hjx j0 j1
          have hgr := Lib.hid (Gr.tr (grAlloc wr (.cells #[.int .i64 x.op, .int .i64 (x.n + (la : Int)), .int .i64 x.r] 42)) (grAlloc _ (.cells #[.int .i64 x.op, .int .i64 (x.n + (la : Int)), .int .i64 x.r] 42)))
          have hown := owns_gr hO.out hgr.out
          have hlt2 := Lib.hid (hown.lt)
          have hWk := Lib.hid (hW.out.trans (hgr.out.mono hs1.out))
          go_wp2_with (at_builtin; refine wpList_append_hd rfl _ _ rfl w.heap.size _ (la + k) _ rfl hown ⟨[sh la x], some ⟨wr.heap.size + 1, 0, none⟩, 1⟩ rfl ?c2 ?c3 ?c4 ?_)
          case c2 => rw [hsn.out]; exact ins1j (nBlk _ _ _ (by simp))
          case c3 => omega
          case c4 => exact hWk.out.size
          intro v3 w3 hown3 hgrow3
          rw [hnext.out] at hown3
          have hO3 := Lib.hid hown3
          have hW3 := Lib.hid (hWk.out.trans (gbBelow (B := w.heap.size) hgrow3 hWk.out.size (fun k e => (hlt2.out k e).1)))
          clear hown3 hgrow3 hown hlt2 hWk hgr hnext hO hW
          go_wp2
          go_roundg g
          case measure => omega
          case rel => exact ⟨k + 1, by omega, by go_num, hO3, hW3⟩
        · have hsn : Hid (sh la x = x) := Lib.hid (by unfold sh; rw [if_neg (by omega)])
          have t12 : (x.op == 12) = false := by simp; omega
          have t12' : decide (x.op = 12) = false := decide_eq_false h12
          have t13 : (x.op == 13) = false := by simp; omega
          have t13' : decide (x.op = 13) = false := decide_eq_false h13
          clear h12 h13 hjx
          have hgr := Lib.hid (Gr.tr (grAlloc wr (.cells #[.int .i64 x.op, .int .i64 (x.n), .int .i64 x.r] 42)) (grAlloc _ (.cells #[.int .i64 x.op, .int .i64 (x.n), .int .i64 x.r] 42)))
          have hown := owns_gr hO.out hgr.out
          have hlt2 := Lib.hid (hown.lt)
          have hWk := Lib.hid (hW.out.trans (hgr.out.mono hs1.out))
          go_wp2_with (at_builtin; refine wpList_append_hd rfl _ _ rfl w.heap.size _ (la + k) _ rfl hown ⟨[sh la x], some ⟨wr.heap.size + 1, 0, none⟩, 1⟩ rfl ?c2 ?c3 ?c4 ?_)
          case c2 => rw [hsn.out]; exact ins1j (nBlk _ _ _ (by simp))
          case c3 => omega
          case c4 => exact hWk.out.size
          intro v3 w3 hown3 hgrow3
          rw [hnext.out] at hown3
          have hO3 := Lib.hid hown3
          have hW3 := Lib.hid (hWk.out.trans (gbBelow (B := w.heap.size) hgrow3 hWk.out.size (fun k e => (hlt2.out k e).1)))
          clear hown3 hgrow3 hown hlt2 hWk hgr hnext hO hW
          go_wp2
          go_roundg g
          case measure => omega
          case rel => exact ⟨k + 1, by omega, by go_num, hO3, hW3⟩
    · obtain rfl : gk = 0 := by omega
      obtain rfl : k = bl.length := by omega
      obtain ⟨A, c, rfl, hz, hzb⟩ := own_ins (l := jn al bl) (n := la + bl.length) (by have := hO.out; rwa [List.take_length] at this) (by rw [jn_len, hlaH.out])
      have hz := Lib.hid hz
      have hzb := Lib.hid hzb
      clear hlt hO hO2 hW2
      go_wp2_with fail
      exact bodyPost_ret (v := .slice A (jn al bl).length c) (by simp [results, Tryd.results17, go_sem]) rfl ⟨⟨⟨jn al bl, A, c⟩, rfl, rfl, hz.out, hzb.out⟩, hW.out⟩
end N
end Go.Proofs.YthgngkajdiclcaaDoor
