/- Two expressions and their units: the mathematics of the operations; the equality of units. -/
import Derived.Test.YtmofclpheioepaaDoorUxP
import Derived.Laws.StructEq
namespace Go.Proofs.YtmofclpheioepaaDoor
open Go.RowKit
set_option linter.unusedVariables false
set_option linter.unusedSimpArgs false

theorem resP_ok {r : Except Int Pw} {p : Pw} (he : ∀ er, r = .error er → er ≠ 0) (h : resP r = (p, 0)) : r = .ok p := by
  rcases r with er | q
  · have := he er rfl
    simp [resP] at h
    exact absurd h.2 this
  · simp [resP] at h
    rw [h]
theorem node_two (s : List Pw) (op : Int) (p q : Pw) (h4 : 4 ≤ op) (h10 : op ≤ 10) : nodeP s op 0 0 [p, q] = twoP op p q := by
  have hf : formB s.length op 0 0 2 = true := by
    unfold formB
    rw [if_neg (by omega), if_neg (by omega), if_neg (by omega)]
    simp [btw, h4, h10]
  unfold nodeP
  rw [List.length_cons, List.length_cons, List.length_nil, if_pos hf, if_neg (by omega), if_neg (by omega), if_neg (by omega)]
  rfl
theorem infer_two {us : List Int} {a b : Ex} {op : Int} {p q : Pw} (h4 : 4 ≤ op) (h10 : op ≤ 10) (hs : a.size + b.size ≤ 59) (ha : inferM us a = (p, 0)) (hb : inferM us b = (q, 0)) :
    inferM us (.mk op 0 0 [a, b]) = resP (twoP op p q) ∧ rgB p = true ∧ rgB q = true := by
  rcases hc : scopeM us with _ | s
  · rw [inferM_none hc] at ha
    simp at ha
  · have hp := b.size_pos
    have hp2 := a.size_pos
    rw [inferM_ok hc (by omega)] at ha hb
    rw [inferM_ok hc (by rw [two_size]; omega)]
    have ha := resP_ok (fun er h => by have := inf_err a h; omega) ha
    have hb := resP_ok (fun er h => by have := inf_err b h; omega) hb
    obtain ⟨hrg, -, -⟩ := scopeM_rg hc
    refine ⟨?_, inf_rg hrg a ha, inf_rg hrg b hb⟩
    simp only [inf, infK, ha, hb]
    rw [node_two s op p q h4 h10]
theorem run_u_eq (p q : Pw) (w : World) : (Op.equalIn 10000 34 (.agg #[.int .i64 p.a, .int .i64 p.b, .int .i64 p.c]) (.agg #[.int .i64 q.a, .int .i64 q.b, .int .i64 q.c])).run Tryd.prog w = .ok (decide (p = q)) w := by
  have hk : Tryd.prog.plainKey 3 = true := by kernel_rfl
  have he : ∀ x y : Int, (Op.equalIn 9999 3 (.int .i64 x) (.int .i64 y)).run Tryd.prog w = .ok (x == y) w := fun x y => run_equalIn_int w 9998 3 .i64 .i64 x y Tryd.underlying3
  have hp : ∀ x y z : Value, (part 3 #[x, y, z] 0).run Tryd.prog w = .ok x w ∧ (part 3 #[x, y, z] 1).run Tryd.prog w = .ok y w ∧ (part 3 #[x, y, z] 2).run Tryd.prog w = .ok z w :=
    fun x y z => ⟨run_part_plain w hk rfl, run_part_plain w hk rfl, run_part_plain w hk rfl⟩
  rw [show (10000 : Nat) = 9999 + 1 from rfl, run_equalIn_struct w 9999 _ _ _ (by kernel_rfl) (by kernel_rfl)]
  simp only [Program.fieldsOf, Tryd.underlying34]
  obtain ⟨a, b, c⟩ := p
  obtain ⟨a', b', c'⟩ := q
  have h0 := (hp (.int .i64 a) (.int .i64 b) (.int .i64 c))
  have h1 := (hp (.int .i64 a') (.int .i64 b') (.int .i64 c'))
  by_cases ea : a = a'
  · subst ea
    by_cases eb : b = b'
    · subst eb
      by_cases ec : c = c'
      · subst ec
        simp [Op.eqFields, Sem.run_bind, h0, h1, he]
      · simp [Op.eqFields, Sem.run_bind, h0, h1, he, ec]
    · simp [Op.eqFields, Sem.run_bind, h0, h1, he, eb]
  · simp [Op.eqFields, Sem.run_bind, h0, h1, he, ea]
end Go.Proofs.YtmofclpheioepaaDoor
