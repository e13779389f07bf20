/- Package maxmin: whether a link is full; whether a flow has a stop. -/
import Derived.Test.YtbjhdfakocfapaaMsR
namespace Go.Proofs.Ytbjhdfakocfapaa
open Go.RowKit
set_option linter.unusedVariables false
set_option linter.unusedSimpArgs false
def qEq (s t : Q) : Bool := decide (s.n = t.n) && decide (s.d = t.d)
theorem qEq_rfl (s : Q) : qEq s s = true := by simp [qEq]
theorem qEq_iff {s t : Q} : qEq s t = true ↔ s = t := by cases s; cases t; simp [qEq]
theorem run_q_eq (s t : Q) (w : World) : (Op.equalIn 10000 35 (.agg #[.int .i64 s.n, .int .i64 s.d]) (.agg #[.int .i64 t.n, .int .i64 t.d])).run Try.prog w = .ok (qEq s t) w := by
  have hk : Try.prog.plainKey 3 = true := by kernel_rfl
  have he : ∀ x y : Int, (Op.equalIn 9999 3 (.int .i64 x) (.int .i64 y)).run Try.prog w = .ok (x == y) w := fun x y => run_equalIn_int w 9998 3 .i64 .i64 x y Try.underlying3
  have hp : ∀ x y : Value, (part 3 #[x, y] 0).run Try.prog w = .ok x w ∧ (part 3 #[x, y] 1).run Try.prog w = .ok y w :=
    fun x y => ⟨run_part_plain w hk rfl, run_part_plain w hk rfl⟩
  rw [show (10000 : Nat) = 9999 + 1 from rfl, run_equalIn_struct w 9999 _ _ _ (by kernel_rfl) (by kernel_rfl)]
  simp only [Program.fieldsOf, Try.underlying35]
  obtain ⟨a, b⟩ := s
  obtain ⟨a', b'⟩ := t
  have h0 := (hp (.int .i64 a) (.int .i64 b))
  have h1 := (hp (.int .i64 a') (.int .i64 b'))
  by_cases ea : a = a'
  · subst ea
    by_cases eb : b = b'
    · subst eb
      simp [Op.eqFields, Sem.run_bind, h0, h1, he, qEq]
    · simp [Op.eqFields, Sem.run_bind, h0, h1, he, eb, qEq]
  · simp [Op.eqFields, Sem.run_bind, h0, h1, he, ea, qEq]
def fullM (n : Net) (xs : List Q) (l : Nat) : Bool := qEq ((loadM n xs (l : Int)).getD ⟨0, 0⟩) ⟨num n.c l, 1⟩
set_option maxHeartbeats 4000000 in
set_option maxRecDepth 100000 in
theorem isFull_any (n : Net) (a : NetA) (xs : List Q) (XA : Option Addr) (xm : Nat) (l : Nat) (hl : l < n.c.length) (w : World) (hA : Alc w n a xs XA) :
    Calls Try.prog 86 #[alv n a xs XA xm, .int .i64 (l : Int)] w (VV (.bool (fullM n xs l)) w) := by
  obtain ⟨W1, hW1⟩ : ∃ W1, W1 = w.alloc (alB n a xs XA xm) := ⟨_, rfl⟩
  have G1 : Gr w W1 := by rw [hW1]; exact grAlloc _ _
  have A1 : W1.heap[w.heap.size]? = some (alB n a xs XA xm) := by rw [hW1]; exact newBlk _ _ _ rfl
  obtain ⟨a0, a1, a2, a3⟩ := cells4 A1
  have HLd := Lib.hid (load_any n a xs XA xm (l : Int) W1 (hA.gr G1))
  obtain ⟨g, o, hCA, hcs⟩ := hA.net.1.addr (by omega)
  have hc0 := Lib.hid (hcs l _ (num_get hl))
  unfold fullM
  obtain ⟨r, hr⟩ : ∃ r, loadM n xs (l : Int) = r := ⟨_, rfl⟩
  rw [hr] at HLd ⊢
  obtain ⟨q, hq⟩ : ∃ q, r.getD ⟨0, 0⟩ = q := ⟨_, rfl⟩
  obtain ⟨b, hb⟩ : ∃ b, r.isSome = b := ⟨_, rfl⟩
  have e : ldV r = .tuple #[qv q, .bool b] := by unfold ldV; rw [hq, hb]
  rw [e] at HLd
  rw [hq]
  generalize num n.c l = cap at *
  have HWh := Lib.hid (fun wx => whole_any cap wx)
  have hqe : ∀ wx, (Op.equalIn 10000 35 (.agg #[.int .i64 q.n, .int .i64 q.d]) (.agg #[.int .i64 cap, .int .i64 1])).run Try.prog wx = .ok (qEq q ⟨cap, 1⟩) wx := run_q_eq q ⟨cap, 1⟩
  generalize qEq q ⟨cap, 1⟩ = eq at *
  have HG := Lib.hid G1
  have HA1 := Lib.hid A1
  have HCA := Lib.hid hCA
  clear hCA hA G1 hcs hr hq hb e A1
  go_enter Try.func86, Try.ntmps86
  go_upto_region 1 with fail
  rw [← hW1]
  clear hW1
  go_upto_region 2 with (go_at_call 50; refine HLd.out.mono ?_; rintro e w2 ⟨rfl, hb2⟩; have hb2 := Lib.hid hb2)
  have A2 := grBlk hb2.out HA1.out
  have hl2 := blkLt A2
  obtain ⟨W3, hW3⟩ : ∃ W3, w2.alloc (qb q) = W3 := ⟨_, rfl⟩
  have G3 : Gr w2 W3 := by rw [← hW3]; exact grAlloc _ _
  have Q3 : W3.heap[w2.heap.size]? = some (qb q) := by rw [← hW3]; exact newBlk _ _ _ rfl
  rw [hW3]
  clear a0 a1 a2 a3
  obtain ⟨a0, -⟩ := cells4 (grBlk G3 A2)
  rw [HCA.out] at a0
  obtain ⟨⟨q0, q1⟩, -⟩ := cells2 Q3
  have gall := Lib.hid (show Gr w W3 from Gr.tr HG.out (Gr.tr hb2.out G3))
  have c0 := grCell gall.out hc0.out
  clear hW3 G3 A2 Q3 hl2 HLd hb2 HA1 hc0
  refine wp_region_G (S := fun wq => Gr W3 wq) (by kernel_rfl) (grDrew _) (fun hHeld => ?_)
  have hSG : Hid (∀ wp wq : World, Gr W3 wp → Gr wp wq → Gr W3 wq) := Lib.hid (fun _ _ h k => h.tr k)
  have hmv := Lib.hid (fun (wq : World) (hq : Gr W3 wq) => And.intro (grCell hq q0) (And.intro (grCell hq q1) (And.intro (grCell hq a0) (grCell hq c0))))
  first
   | (refine tk hSG 0 (v := ?_) rfl (by kernel_rfl) (fun _ _ _ h => h) (by rfl) ?_ hHeld ?_; rotate_left; focus (intro w' hSw; obtain ⟨q0, q1, a0, c0⟩ := hmv.out _ hSw; go_simp; (try with_reducible rfl)))
   | refine tn hSG 0 rfl (by kernel_rfl) (fun _ _ _ h => h) (by rfl) hHeld ?_
  (try simp only [zq1, zq2, zq3, Act.put, zq4, zq5, zq6])
  first
   | (refine tk hSG 1 (v := ?_) rfl (by kernel_rfl) (fun _ _ _ h => h) (by rfl) ?_ hHeld ?_; rotate_left; focus (intro w' hSw; obtain ⟨q0, q1, a0, c0⟩ := hmv.out _ hSw; go_simp; (try with_reducible rfl)))
   | refine tn hSG 1 rfl (by kernel_rfl) (fun _ _ _ h => h) (by rfl) hHeld ?_
  (try simp only [zq1, zq2, zq3, Act.put, zq4, zq5, zq6])
  first
   | (refine tk hSG 2 (v := ?_) rfl (by kernel_rfl) (fun _ _ _ h => h) (by rfl) ?_ hHeld ?_; rotate_left; focus (intro w' hSw; obtain ⟨q0, q1, a0, c0⟩ := hmv.out _ hSw; go_simp; (try with_reducible rfl)))
   | refine tn hSG 2 rfl (by kernel_rfl) (fun _ _ _ h => h) (by rfl) hHeld ?_
  (try simp only [zq1, zq2, zq3, Act.put, zq4, zq5, zq6])
  first
   | (refine tk hSG 3 (v := ?_) rfl (by kernel_rfl) (fun _ _ _ h => h) (by rfl) ?_ hHeld ?_; rotate_left; focus (intro w' hSw; obtain ⟨q0, q1, a0, c0⟩ := hmv.out _ hSw; go_simp; (try with_reducible rfl)))
   | refine tn hSG 3 rfl (by kernel_rfl) (fun _ _ _ h => h) (by rfl) hHeld ?_
  (try simp only [zq1, zq2, zq3, Act.put, zq4, zq5, zq6])
  first
   | (refine tk hSG 4 (v := ?_) rfl (by kernel_rfl) (fun _ _ _ h => h) (by rfl) ?_ hHeld ?_; rotate_left; focus (intro w' hSw; obtain ⟨q0, q1, a0, c0⟩ := hmv.out _ hSw; go_simp; (try with_reducible rfl)))
   | refine tn hSG 4 rfl (by kernel_rfl) (fun _ _ _ h => h) (by rfl) hHeld ?_
  (try simp only [zq1, zq2, zq3, Act.put, zq4, zq5, zq6])
  refine tk hSG 5 (v := .pointer (some ⟨g, o + l, none⟩)) rfl (by kernel_rfl) (fun _ _ _ h => h) (by rfl) ?_ hHeld ?_
  focus (intro w' hSw; obtain ⟨q0, q1, a0, c0⟩ := hmv.out _ hSw; go_simp; (try (intro hq; omega)))
  (try simp only [zq1, zq2, zq3, Act.put, zq4, zq5, zq6])
  first
   | (refine tk hSG 6 (v := ?_) rfl (by kernel_rfl) (fun _ _ _ h => h) (by rfl) ?_ hHeld ?_; rotate_left; focus (intro w' hSw; obtain ⟨q0, q1, a0, c0⟩ := hmv.out _ hSw; go_simp; (try with_reducible rfl)))
   | refine tn hSG 6 rfl (by kernel_rfl) (fun _ _ _ h => h) (by rfl) hHeld ?_
  (try simp only [zq1, zq2, zq3, Act.put, zq4, zq5, zq6])
  refine tc hSG 7 (v := qv ⟨cap, 1⟩) rfl (by kernel_rfl) (fun _ _ _ h => h) (by rfl) ?_ hHeld ?_
  focus (intro wz hSw K hK; obtain ⟨q0, q1, a0, c0⟩ := hmv.out _ hSw; go_simp; go_at_call 52; refine (HWh.out _).mono ?_; rintro e w2 ⟨rfl, hb2⟩; first | exact hK.out _ hb2 | (have h9 := hK.out _ hb2; (try simp only [zq1, zq2, zq3, Act.put, zq4, zq5, zq6] at h9 ⊢); exact h9) | (have h9 := hK.out _ hb2; go_simp; exact h9))
  (try simp only [zq1, zq2, zq3, Act.put, zq4, zq5, zq6])
  refine tk hSG 8 (v := .bool eq) rfl (by kernel_rfl) (fun _ _ _ h => h) (by rfl) ?_ hHeld ?_
  focus (intro w' hSw; obtain ⟨q0, q1, a0, c0⟩ := hmv.out _ hSw; go_simp)
  (try simp only [zq1, zq2, zq3, Act.put, zq4, zq5, zq6])
  first
   | (refine tk hSG 9 (v := ?_) rfl (by kernel_rfl) (fun _ _ _ h => h) (by rfl) ?_ hHeld ?_; rotate_left; focus (intro w' hSw; obtain ⟨q0, q1, a0, c0⟩ := hmv.out _ hSw; go_simp; (try with_reducible rfl)))
   | refine tn hSG 9 rfl (by kernel_rfl) (fun _ _ _ h => h) (by rfl) hHeld ?_
  (try simp only [zq1, zq2, zq3, Act.put, zq4, zq5, zq6])
  refine wpAnyG_done (by kernel_rfl) (fun w9 hgD => ?_) _
  have hg9 : Gr W3 w9 := (grDrew W3).tr hgD
  clear hgD hSG hHeld
  clear q0 q1 a0 c0
  go_wp2
  go_ret
  exact ⟨rfl, Gr.tr gall.out hg9⟩
end Go.Proofs.Ytbjhdfakocfapaa
