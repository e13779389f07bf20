/- Law package 04: value's contract, and how it grows with the number of packets. -/
import Derived.Test.YtmofclpheioepaaDoorUxZ
namespace Go.Proofs.YtmofclpheioepaaDoor
open Go.RowKit
set_option linter.unusedVariables false
set_option linter.unusedSimpArgs false

theorem two_of {ks : List Ex} (h : ks.length = 2) : ∃ a b, ks = [a, b] := by
  match ks, h with
  | [a, b], _ => exact ⟨a, b, rfl⟩
theorem kids_two {w : World} {a b : Ex} {op n u : Int} {A : Option Addr} (h : KidsE w (Ex.mk op n u [a, b]).kids A) : ∃ g o, A = some ⟨g, o, none⟩ ∧ OneE w a g o ∧ OneE w b g (o + 4) := by
  have h : KidsE w [a, b] A := h
  unfold KidsE at h
  obtain ⟨g, o, hA, ha, h⟩ := h
  unfold KidsE at h
  obtain ⟨g', o', he, hb, -⟩ := h
  cases he
  exact ⟨g, o, hA, ha, hb⟩
set_option maxRecDepth 100000 in
theorem value_step (vs : List Vr) (VA : Option Addr) (vm : Nat) (st : List Int) (SA : Option Addr) (sm : Nat) (i : Inp) (t : Int) (hi : i.ok) (e : Ex) (ih : ∀ u ∈ e.kids, ValC vs VA vm st SA sm i t u) : ValC vs VA vm st SA sm i t e := by
  intro w A c hV hS hK
  obtain ⟨op, n, u, ks⟩ := e
  obtain ⟨hi0, hi1, hi2, hi3⟩ := hi
  by_cases p1 : op = 1
  · subst p1
    rw [show valE (vs.map (·.u)) st i t (.mk 1 n u ks) = (scM t (digM n) u, true) by simp [valE, leafV]]
    exact val_num vs.length vm st.length sm ks.length c VA SA A i t n u w
  · by_cases p2 : op = 2
    · subst p2
      have hE : valE (vs.map (·.u)) st i t (.mk 2 n u ks) = leafV (vs.map (·.u)) st i t 2 n u := by simp [valE]
      by_cases hb : n < 0 ∨ (st.length : Int) ≤ n ∨ (vs.length : Int) ≤ n
      · rw [hE, show leafV (vs.map (·.u)) st i t 2 n u = (0, false) by
          unfold leafV
          rw [if_neg (by decide), if_pos rfl, if_pos (by rw [List.length_map]; exact hb)]]
        exact val_varN vs.length vm st.length sm ks.length c VA SA A i t n u w hb
      · obtain ⟨j, rfl⟩ : ∃ j : Nat, n = j := ⟨n.toNat, by omega⟩
        have hjs : j < st.length := by omega
        have hjv : j < vs.length := by omega
        obtain ⟨g1, q1, rfl, hat1⟩ := hS.addr (by omega)
        obtain ⟨g2, q2, rfl, hat2⟩ := hV.addr (by omega)
        obtain ⟨hb1, hb8⟩ := hat1 j _ (List.getElem?_eq_getElem hjs)
        have hk := (hat2 j _ (List.getElem?_eq_getElem hjv)).2.1
        rw [hE, show leafV (vs.map (·.u)) st i t 2 j u = (scM t st[j] vs[j].u, true) by
          unfold leafV
          rw [if_neg (by decide), if_pos rfl, if_neg (by rw [List.length_map]; exact hb)]
          simp [List.getD_eq_getElem?_getD, hjs, hjv]]
        exact val_var vs.length vm st.length sm ks.length c _ _ A i t j u w j g1 q1 g2 q2 _ _ rfl hjs hjv rfl rfl hb1 hb8 hk
    · by_cases p3 : op = 3
      · subst p3
        have hE : valE (vs.map (·.u)) st i t (.mk 3 n u ks) = leafV (vs.map (·.u)) st i t 3 n u := by simp [valE]
        rw [hE]
        by_cases n0 : n = 0
        · subst n0
          exact val_in0 vs.length vm st.length sm ks.length c VA SA A i t u w hi0
        by_cases n1 : n = 1
        · subst n1
          exact val_in1 vs.length vm st.length sm ks.length c VA SA A i t u w hi1
        by_cases n2 : n = 2
        · subst n2
          exact val_in2 vs.length vm st.length sm ks.length c VA SA A i t u w hi2
        by_cases n3 : n = 3
        · subst n3
          exact val_in3 vs.length vm st.length sm ks.length c VA SA A i t u w hi3
        rw [show leafV (vs.map (·.u)) st i t 3 n u = (0, false) by
          unfold leafV
          rw [if_neg (by decide), if_neg (by decide), if_neg n0, if_neg n1, if_neg n2, if_neg n3]]
        exact val_inN vs.length vm st.length sm ks.length c VA SA A i t n u w (by omega)
      · have hE : valE (vs.map (·.u)) st i t (.mk op n u ks) = bothV op (valK (vs.map (·.u)) st i t ks) := by
          rw [valE, if_neg (by simp [p1, p2, p3])]
        rw [hE]
        by_cases hl : ks.length = 2
        · obtain ⟨a, b, rfl⟩ := two_of hl
          · obtain ⟨g, o, rfl, ha, hr⟩ := kids_two hK
            have hb := hr
            obtain ⟨A1, ac, ⟨q0, q1, q2, q3⟩, -, hKa⟩ := ha.cells
            obtain ⟨B1, bc, ⟨q4, q5, q6, q7⟩, -, hKb⟩ := hb.cells
            have iha := ih a (by simp [Ex.kids])
            have ihb := ih b (by simp [Ex.kids])
            have hEE : bothV op (valK (vs.map (·.u)) st i t [a, b]) = opV op (valE (vs.map (·.u)) st i t a) (valE (vs.map (·.u)) st i t b) := by simp only [valK, bothV]
            rw [hEE]
            have ca := fun (wx : World) (h : Below w.heap.size w wx) => iha wx A1 ac (hV.below h) (hS.below h) (hKa.below h)
            have cb := fun (wx : World) (h : Below w.heap.size w wx) => ihb wx B1 bc (hV.below h) (hS.below h) (hKb.below h)
            clear iha ihb ih hEE hE
            generalize valE (vs.map (·.u)) st i t a = va at *
            generalize valE (vs.map (·.u)) st i t b = vb at *
            obtain ⟨xa, oa⟩ := va
            obtain ⟨xb, ob⟩ := vb
            exact val_two vs.length vm st.length sm c VA SA i t op n u w a b g o ac bc A1 B1 xa xb oa ob p1 p2 p3 q0 q1 q2 q3 q4 q5 q6 q7 ca cb
        · rw [bothV_not (by rw [valK_len]; exact hl)]
          exact val_kidsN vs.length vm st.length sm ks.length c VA SA A i t n u w op p1 p2 p3 hl
mutual
theorem value_any (vs : List Vr) (VA : Option Addr) (vm : Nat) (st : List Int) (SA : Option Addr) (sm : Nat) (i : Inp) (t : Int) (hi : i.ok) : ∀ e : Ex, ValC vs VA vm st SA sm i t e
  | .mk k x m kids => value_step vs VA vm st SA sm i t hi (.mk k x m kids) (value_all vs VA vm st SA sm i t hi kids)
theorem value_all (vs : List Vr) (VA : Option Addr) (vm : Nat) (st : List Int) (SA : Option Addr) (sm : Nat) (i : Inp) (t : Int) (hi : i.ok) : ∀ (ts : List Ex), ∀ u ∈ ts, ValC vs VA vm st SA sm i t u
  | [], u, hu => by cases hu
  | e :: ts, u, hu => by
    rcases List.mem_cons.1 hu with h | h
    · rw [h]; exact value_any vs VA vm st SA sm i t hi e
    · exact value_all vs VA vm st SA sm i t hi ts u h
end

def lv (s : Nat) : Nat := (s + 1) / 2
theorem pow81 {m : Nat} (h : m ≤ 8) : 81 ^ m ≤ 1853020188851841 := by
  have := Nat.pow_le_pow_right (n := 81) (by decide) h
  simpa using this
theorem pow81_one {m : Nat} (h : 1 ≤ m) : 81 ≤ 81 ^ m := by
  have := Nat.pow_le_pow_right (n := 81) (by decide) h
  simpa using this
theorem sum_prod {X Y : Nat} (hX : 2 ≤ X) (hY : 2 ≤ Y) : X + Y ≤ X * Y := by
  obtain ⟨p, rfl⟩ : ∃ p, X = p + 2 := ⟨X - 2, by omega⟩
  obtain ⟨q, rfl⟩ : ∃ q, Y = q + 2 := ⟨Y - 2, by omega⟩
  rw [Nat.add_mul, Nat.mul_add]
  omega
theorem opV_bnd {op : Int} {x y : Int × Bool} {m n : Nat} (hx : x.1.natAbs ≤ 81 ^ m) (hy : y.1.natAbs ≤ 81 ^ n) (hm : 1 ≤ m) (hn : 1 ≤ n) (h8 : m + n ≤ 8) :
    (opV op x y).1.natAbs ≤ 81 ^ (m + n) ∧ (op = 4 → (opV op x y).1 = x.1 + y.1) ∧ (op = 5 → (opV op x y).1 = x.1 - y.1) ∧ (op = 6 → (opV op x y).1 = x.1 * y.1) := by
  have hX := pow81_one hm
  have hY := pow81_one hn
  have hs := sum_prod (show 2 ≤ 81 ^ m by omega) (show 2 ≤ 81 ^ n by omega)
  have h9 := pow81 h8
  have hmul : x.1.natAbs * y.1.natAbs ≤ 81 ^ m * 81 ^ n := Nat.mul_le_mul hx hy
  have hab := Int.natAbs_mul x.1 y.1
  rw [Nat.pow_add] at h9 ⊢
  generalize 81 ^ m = X at *
  generalize 81 ^ n = Y at *
  generalize X * Y = Z at *
  generalize hxy : x.1 * y.1 = xy at *
  generalize x.1.natAbs * y.1.natAbs = xn at *
  have w1 : IntKind.i64.wrap (x.1 + y.1) = x.1 + y.1 := IntWalk.i64_in _ (by omega)
  have w2 : IntKind.i64.wrap (x.1 - y.1) = x.1 - y.1 := IntWalk.i64_in _ (by omega)
  have w3 : IntKind.i64.wrap xy = xy := IntWalk.i64_in _ (by omega)
  refine ⟨?_, fun h => ?_, fun h => ?_, fun h => ?_⟩
  · unfold opV
    rw [hxy, w1, w2, w3]
    repeat' split
    all_goals simp only
    all_goals omega
  · subst h; simp [opV, w1]
  · subst h; simp [opV, w2]
  · subst h; simp [opV, hxy, w3]
theorem scM_bnd {t n k : Int} (ht : 1 ≤ t ∧ t ≤ 9) (hn : u8 n) : (scM t n k).natAbs ≤ 81 ∧ scM t n k = (if k = 1 then n % 10 * t else n % 10) := by
  unfold scM
  obtain ⟨h0, h1⟩ := hn
  have hm : 0 ≤ n % 10 * t ∧ n % 10 * t ≤ 81 := by
    have a : 0 ≤ n % 10 ∧ n % 10 ≤ 9 := by omega
    generalize n % 10 = d at *
    have h1 := Int.mul_nonneg a.1 (show 0 ≤ t by omega)
    have h2 := Int.mul_le_mul a.2 ht.2 (show 0 ≤ t by omega) (by decide)
    omega
  have hw : IntKind.i64.wrap (n % 10 * t) = n % 10 * t := IntWalk.i64_in _ (by omega)
  by_cases hk : k = 1
  · simp only [if_pos hk, hw]
    exact ⟨by omega, trivial⟩
  · simp only [if_neg hk]
    exact ⟨by omega, trivial⟩
theorem getD_u8 {st : List Int} (h : ∀ b ∈ st, u8 b) (j : Nat) : u8 (st.getD j 0) := by
  rw [List.getD_eq_getElem?_getD]
  rcases hj : st[j]? with _ | b
  · exact ⟨by decide, by decide⟩
  · exact h b (List.mem_of_getElem? hj)
theorem leafV_bnd {us st : List Int} {i : Inp} {t op n u : Int} (ht : 1 ≤ t ∧ t ≤ 9) (hi : i.ok) (hst : ∀ b ∈ st, u8 b) : (leafV us st i t op n u).1.natAbs ≤ 81 := by
  obtain ⟨h0, h1, h2, h3⟩ := hi
  by_cases p1 : op = 1
  · rw [leafV, if_pos p1]; exact (scM_bnd ht (digM_u8 _)).1
  rw [leafV, if_neg p1]
  by_cases p2 : op = 2
  · rw [if_pos p2]
    by_cases hb : n < 0 ∨ (st.length : Int) ≤ n ∨ (us.length : Int) ≤ n
    · rw [if_pos hb]; decide
    · rw [if_neg hb]; exact (scM_bnd ht (getD_u8 hst _)).1
  rw [if_neg p2]
  by_cases n0 : n = 0
  · rw [if_pos n0]; exact (scM_bnd (k := 1) ht h0).1
  rw [if_neg n0]
  by_cases n1 : n = 1
  · rw [if_pos n1]; exact (scM_bnd (k := 0) ht h1).1
  rw [if_neg n1]
  by_cases n2 : n = 2
  · rw [if_pos n2]; exact (scM_bnd (k := 0) ht h2).1
  rw [if_neg n2]
  by_cases n3 : n = 3
  · rw [if_pos n3]; exact (scM_bnd (k := 1) ht h3).1
  rw [if_neg n3]
  decide
theorem val_leaf {us st : List Int} {i : Inp} {t op n u : Int} {ks : List Ex} (h : op = 1 ∨ op = 2 ∨ op = 3) : valE us st i t (.mk op n u ks) = leafV us st i t op n u := by rw [valE, if_pos h]
theorem val_node {us st : List Int} {i : Inp} {t op n u : Int} {ks : List Ex} (h : ¬ (op = 1 ∨ op = 2 ∨ op = 3)) : valE us st i t (.mk op n u ks) = bothV op (valK us st i t ks) := by rw [valE, if_neg h]
theorem lv_two {a b : Ex} : 1 ≤ lv a.size ∧ 1 ≤ lv b.size ∧ lv a.size + lv b.size ≤ lv (1 + (a.size + (b.size + 0))) := by
  have := a.size_pos
  have := b.size_pos
  unfold lv
  omega
theorem val_bnd (us st : List Int) (i : Inp) (t : Int) (ht : 1 ≤ t ∧ t ≤ 9) (hi : i.ok) (hst : ∀ b ∈ st, u8 b) : ∀ (k : Nat) (e : Ex), e.size ≤ k → e.size ≤ 15 → (valE us st i t e).1.natAbs ≤ 81 ^ lv e.size := by
  intro k
  induction k with
  | zero => intro e h; have := e.size_pos; omega
  | succ k ih =>
    intro e hk h15
    have hp := e.size_pos
    have hl1 : 1 ≤ lv e.size := by unfold lv; omega
    have h81 := pow81_one hl1
    obtain ⟨op, n, u, ks⟩ := e
    by_cases h : op = 1 ∨ op = 2 ∨ op = 3
    · rw [val_leaf h]
      have := leafV_bnd (us := us) (op := op) (n := n) (u := u) ht hi hst
      omega
    · rw [val_node h]
      by_cases hl : ks.length = 2
      · obtain ⟨a, b, rfl⟩ := two_of hl
        · have hsz : (Ex.mk op n u [a, b]).size = 1 + (a.size + (b.size + 0)) := by simp only [Ex.size, szK]
          rw [hsz] at hk h15 ⊢
          obtain ⟨la, lb, lab⟩ := lv_two (a := a) (b := b)
          have l15 : lv (1 + (a.size + (b.size + 0))) ≤ 8 := by unfold lv; omega
          have h1 := (opV_bnd (op := op) (ih a (by omega) (by omega)) (ih b (by omega) (by omega)) la lb (by omega)).1
          exact Nat.le_trans h1 (Nat.pow_le_pow_right (by decide) lab)
      · rw [bothV_not (by rw [valK_len]; exact hl)]
        simp
theorem kindP_a (k : Int) : (kindP k).a = if k = 1 then 1 else 0 := by
  unfold kindP
  repeat' split
  all_goals first | rfl | omega
theorem scM_scale {t n k : Int} (ht : 1 ≤ t ∧ t ≤ 9) (hn : u8 n) : 0 ≤ (kindP k).a ∧ scM t n k = t ^ (kindP k).a.toNat * scM 1 n k := by
  rw [(scM_bnd ht hn).2, (scM_bnd (t := 1) ⟨by decide, by decide⟩ hn).2, kindP_a]
  by_cases hk : k = 1
  · simp only [if_pos hk]
    refine ⟨by decide, ?_⟩
    rw [show (1 : Int).toNat = 1 from rfl, Int.pow_succ, Int.pow_zero, Int.one_mul, Int.mul_one, Int.mul_comm]
  · simp only [if_neg hk]
    exact ⟨by decide, by rw [show (0 : Int).toNat = 0 from rfl, Int.pow_zero, Int.one_mul]⟩
theorem min_scale {T x y : Int} (hT : 0 ≤ T) : min (T * x) (T * y) = T * min x y := by
  rcases Int.le_total x y with h | h
  · rw [Int.min_eq_left h, Int.min_eq_left (Int.mul_le_mul_of_nonneg_left h hT)]
  · rw [Int.min_eq_right h, Int.min_eq_right (Int.mul_le_mul_of_nonneg_left h hT)]
theorem max_scale {T x y : Int} (hT : 0 ≤ T) : max (T * x) (T * y) = T * max x y := by
  rcases Int.le_total x y with h | h
  · rw [Int.max_eq_right h, Int.max_eq_right (Int.mul_le_mul_of_nonneg_left h hT)]
  · rw [Int.max_eq_left h, Int.max_eq_left (Int.mul_le_mul_of_nonneg_left h hT)]
theorem pow_nonneg' {t : Int} (h : 0 ≤ t) : ∀ n : Nat, 0 ≤ t ^ n
  | 0 => by rw [Int.pow_zero]; decide
  | n + 1 => by rw [Int.pow_succ]; exact Int.mul_nonneg (pow_nonneg' h n) h
theorem inf_two {s : List Pw} {op n u : Int} {a b : Ex} {p : Pw} (h : inf s (.mk op n u [a, b]) = .ok p) (h0 : ¬ (op = 1 ∨ op = 2 ∨ op = 3)) : ∃ q r, inf s a = .ok q ∧ inf s b = .ok r ∧ twoP op q r = .ok p ∧ 4 ≤ op ∧ op ≤ 10 := by
  rw [inf] at h
  rcases ha : inf s a with er | q
  · simp [infK, ha] at h
  · rcases hb : inf s b with er | r
    · simp [infK, ha, hb] at h
    · simp only [infK, ha, hb] at h
      unfold nodeP at h
      split at h
      · rename_i hf
        have hf2 : 4 ≤ op ∧ op ≤ 10 := by
          unfold formB at hf
          rw [if_neg (by omega), if_neg (by omega), if_neg (by omega)] at hf
          simpa [btw] using hf
        rw [if_neg (by omega), if_neg (by omega), if_neg (by omega)] at h
        exact ⟨q, r, rfl, rfl, h, hf2⟩
      · simp at h
theorem val_scale (us st : List Int) (i : Inp) (t : Int) (ht : 1 ≤ t ∧ t ≤ 9) (hi : i.ok) (hst : ∀ b ∈ st, u8 b) : ∀ (k : Nat) (e : Ex), e.size ≤ k → e.size ≤ 15 → ∀ p, inf (us.map kindP) e = .ok p →
    (valE us st i t e).2 = true → (valE us st i 1 e).2 = true → 0 ≤ p.a ∧ (valE us st i t e).1 = t ^ p.a.toNat * (valE us st i 1 e).1 := by
  intro k
  induction k with
  | zero => intro e h; have := e.size_pos; omega
  | succ k ih =>
    intro e hk h15 p hp ok1 ok2
    obtain ⟨op, n, u, ks⟩ := e
    obtain ⟨hi0, hi1, hi2, hi3⟩ := id hi
    by_cases h : op = 1 ∨ op = 2 ∨ op = 3
    · rw [val_leaf h] at ok1 ok2 ⊢
      rw [val_leaf h]
      rw [inf] at hp
      rcases hks : infK (us.map kindP) ks with er | ps
      · rw [hks] at hp; simp at hp
      · rw [hks] at hp
        simp only at hp
        unfold nodeP at hp
        split at hp
        · rename_i hf
          rcases h with rfl | rfl | rfl
          · simp at hp
            subst hp
            simp only [leafV, if_pos]
            exact scM_scale ht (digM_u8 n)
          · rw [if_neg (by decide), if_pos rfl] at hp
            simp only [Except.ok.injEq] at hp
            subst hp
            simp only [leafV, if_neg (show ¬ (2 : Int) = 1 by decide), if_pos] at ok1 ok2 ⊢
            by_cases hb : n < 0 ∨ (st.length : Int) ≤ n ∨ (us.length : Int) ≤ n
            · simp [hb] at ok1
            · simp only [if_neg hb]
              have hj : n.toNat < us.length := by omega
              have he : (us.map kindP).getD n.toNat ⟨0, 0, 0⟩ = kindP (us.getD n.toNat 0) := by
                simp [List.getD_eq_getElem?_getD, hj]
              rw [he]
              exact scM_scale ht (getD_u8 hst _)
          · rw [if_neg (by decide), if_neg (by decide), if_pos rfl] at hp
            simp only [Except.ok.injEq] at hp
            subst hp
            simp only [leafV, if_neg (show ¬ (3 : Int) = 1 by decide), if_neg (show ¬ (3 : Int) = 2 by decide)] at ok1 ok2 ⊢
            by_cases n0 : n = 0
            · subst n0; simp only [if_pos]; exact scM_scale (k := 1) ht hi0
            by_cases n1 : n = 1
            · subst n1
              simp only [if_neg (show ¬ (1 : Int) = 0 by decide), if_pos]
              have := scM_scale (k := 0) ht hi1
              exact this
            by_cases n2 : n = 2
            · subst n2
              simp only [if_neg (show ¬ (2 : Int) = 0 by decide), if_neg (show ¬ (2 : Int) = 1 by decide), if_pos]
              have := scM_scale (k := 0) ht hi2
              exact this
            by_cases n3 : n = 3
            · subst n3
              simp only [if_neg (show ¬ (3 : Int) = 0 by decide), if_neg (show ¬ (3 : Int) = 1 by decide), if_neg (show ¬ (3 : Int) = 2 by decide), if_pos]
              exact scM_scale (k := 1) ht hi3
            · simp [n0, n1, n2, n3] at ok1
        · simp at hp
    · rw [val_node h] at ok1 ok2 ⊢
      rw [val_node h]
      by_cases hl : ks.length = 2
      · obtain ⟨a, b, rfl⟩ := two_of hl
        · have hsz : (Ex.mk op n u [a, b]).size = 1 + (a.size + (b.size + 0)) := by simp only [Ex.size, szK]
          rw [hsz] at hk h15
          obtain ⟨la, lb, lab⟩ := lv_two (a := a) (b := b)
          have l15 : lv (1 + (a.size + (b.size + 0))) ≤ 8 := by unfold lv; omega
          obtain ⟨q, r, ha, hb, hq, h4, h10⟩ := inf_two hp h
          have bt := opV_bnd (op := op) (val_bnd us st i t ht hi hst k a (by omega) (by omega)) (val_bnd us st i t ht hi hst k b (by omega) (by omega)) la lb (by omega)
          have b1 := opV_bnd (op := op) (val_bnd us st i 1 ⟨by decide, by decide⟩ hi hst k a (by omega) (by omega)) (val_bnd us st i 1 ⟨by decide, by decide⟩ hi hst k b (by omega) (by omega)) la lb (by omega)
          have iha := ih a (by omega) (by omega) q ha
          have ihb := ih b (by omega) (by omega) r hb
          change (opV op (valE us st i t a) (valE us st i t b)).2 = true at ok1
          change (opV op (valE us st i 1 a) (valE us st i 1 b)).2 = true at ok2
          show 0 ≤ p.a ∧ (opV op (valE us st i t a) (valE us st i t b)).1 = t ^ p.a.toNat * (opV op (valE us st i 1 a) (valE us st i 1 b)).1
          generalize valE us st i t a = xt at *
          generalize valE us st i t b = yt at *
          generalize valE us st i 1 a = x1 at *
          generalize valE us st i 1 b = y1 at *
          have hand : xt.2 = true ∧ yt.2 = true ∧ x1.2 = true ∧ y1.2 = true := by
            unfold opV at ok1 ok2
            split at ok1
            · simp_all
            split at ok1
            · simp_all
            split at ok1
            · simp_all
            split at ok1
            · simp_all
            split at ok1
            · simp_all
            · simp at ok1
          obtain ⟨g1, g2, g3, g4⟩ := hand
          obtain ⟨q0, ea⟩ := iha g1 g3
          obtain ⟨r0, eb⟩ := ihb g2 g4
          have hT := pow_nonneg' (show 0 ≤ t by omega) p.a.toNat
          by_cases o6 : op = 6
          · subst o6
            rw [bt.2.2.2 rfl, b1.2.2.2 rfl, ea, eb]
            unfold twoP at hq
            rw [if_pos rfl] at hq
            unfold limP at hq
            split at hq
            · simp only [Except.ok.injEq] at hq
              have hpa : p.a = q.a + r.a := by rw [← hq]; simp [addP]
              refine ⟨by omega, ?_⟩
              rw [hpa, Int.toNat_add q0 r0, Int.pow_add]
              simp only [Int.mul_assoc, Int.mul_left_comm, Int.mul_comm]
            · simp at hq
          · by_cases o78 : op = 7 ∨ op = 8
            · exfalso
              unfold opV at ok1
              rcases o78 with rfl | rfl <;> simp at ok1
            · unfold twoP at hq
              rw [if_neg o6, if_neg o78] at hq
              split at hq
              · rename_i hqr
                subst hqr
                simp only [Except.ok.injEq] at hq
                subst hq
                refine ⟨q0, ?_⟩
                rcases (show op = 4 ∨ op = 5 ∨ op = 9 ∨ op = 10 by omega) with rfl | rfl | rfl | rfl
                · rw [bt.2.1 rfl, b1.2.1 rfl, ea, eb, Int.mul_add]
                · rw [bt.2.2.1 rfl, b1.2.2.1 rfl, ea, eb, Int.mul_sub]
                · simp only [opV]
                  simp only [ea, eb]
                  exact min_scale hT
                · simp only [opV]
                  simp only [ea, eb]
                  exact max_scale hT
              · simp at hq
      · rw [bothV_not (by rw [valK_len]; exact hl)] at ok1
        simp at ok1
end Go.Proofs.YtmofclpheioepaaDoor
