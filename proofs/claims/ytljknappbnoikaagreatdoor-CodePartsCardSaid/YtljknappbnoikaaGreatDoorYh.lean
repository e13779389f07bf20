/- Texts of one proof: UxT. -/
import Derived.Test.YtljknappbnoikaaGreatDoorYe
import Derived.Laws.StructEq
set_option linter.unusedVariables false
set_option linter.unusedSimpArgs false
set_option maxRecDepth 100000
set_option maxHeartbeats 8000000
namespace Go.Proofs.YtljknappbnoikaaGreatDoor.U
open Go.RowKit
theorem run_u_eq (p q : Pw) (w : World) : (Op.equalIn 10000 119 (.agg #[.int .i64 p.a, .int .i64 p.b, .int .i64 p.c]) (.agg #[.int .i64 q.a, .int .i64 q.b, .int .i64 q.c])).run Tryz.prog w = .ok (decide (p = q)) w := by
 have hk : Tryz.prog.plainKey 3 = true := by kernel_rfl
 have he : ∀ x y : Int, (Op.equalIn 9999 3 (.int .i64 x) (.int .i64 y)).run Tryz.prog w = .ok (x == y) w := fun x y => run_equalIn_int w 9998 3 .i64 .i64 x y Tryz.underlying3
 have hp : ∀ x y z : Value, (part 3 #[x, y, z] 0).run Tryz.prog w = .ok x w ∧ (part 3 #[x, y, z] 1).run Tryz.prog w = .ok y w ∧ (part 3 #[x, y, z] 2).run Tryz.prog w = .ok z w :=
  fun x y z => ⟨run_part_plain w hk rfl, run_part_plain w hk rfl, run_part_plain w hk rfl⟩
 rw [show (10000 : Nat) = 9999 + 1 from rfl, run_equalIn_struct w 9999 _ _ _ (by kernel_rfl) (by kernel_rfl)]
 simp only [Program.fieldsOf, Tryz.underlying119]
 obtain ⟨a, b, c⟩ := p
 obtain ⟨a', b', c'⟩ := q
 have h0 := (hp (.int .i64 a) (.int .i64 b) (.int .i64 c))
 have h1 := (hp (.int .i64 a') (.int .i64 b') (.int .i64 c'))
 by_cases ea : a = a'
 ·subst ea
  by_cases eb : b = b'
  ·subst eb
   by_cases ec : c = c'
   ·subst ec
    simp [Op.eqFields, Sem.run_bind, h0, h1, he]
   ·simp [Op.eqFields, Sem.run_bind, h0, h1, he, ec]
  ·simp [Op.eqFields, Sem.run_bind, h0, h1, he, eb]
 ·simp [Op.eqFields, Sem.run_bind, h0, h1, he, ea]
end Go.Proofs.YtljknappbnoikaaGreatDoor.U
