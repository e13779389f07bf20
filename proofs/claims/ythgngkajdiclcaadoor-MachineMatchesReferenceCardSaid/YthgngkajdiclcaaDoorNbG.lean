/- Package machine: each operation of the table is a step of the model. -/
import Derived.Test.YthgngkajdiclcaaDoorNbF
namespace Go.Proofs.YthgngkajdiclcaaDoor
open Go.RowKit
set_option linter.unusedVariables false
set_option linter.unusedSimpArgs false
namespace N
open K
theorem PuP.op {W0 : World} {b : Nat} {VS : Value} {SA : Option Addr} {sl sc : Nat} {i0 i1 i2 i3 : Int} {s st : List Int} {at_ : Nat} {r : Int × Int} {w w' : World} {e : Ending} (h : PuP b VS (.slice SA sl sc) i0 i1 i2 i3 s r w e w') (hO : StO W0.heap.size b w st SA) (hG : Gr W0 w) (hb : W0.heap.size ≤ b) :
    OpP W0 b VS SA sl sc i0 i1 i2 i3 (psh s st at_ r) w e w' := by
  obtain ⟨h1, h2, h3⟩ := h
  have hG2 : Gr W0 w' := hG.trans (gbBelow h3 hG.size (fun k hk => by cases hk; exact hb))
  have hO2 := hO.gb h3
  unfold psh
  by_cases h0 : r.2 = 0
  · rw [if_pos h0] at h2 ⊢
    exact ⟨by rw [h1, h0], h2, hO2, hG2, Kp.gb h3⟩
  · rw [if_neg h0] at h2 ⊢
    exact ⟨h1, h2, hO2, hG2, Kp.gb h3⟩
theorem step_1 {vs : List (Int × Int)} {ins : List Int} {x : In} {i : Nat} {s st : List Int} (h : x.op = 1) : step vs ins x i s st = psh s st (i + 1) (rng x.n) := by unfold step; rw [if_pos h]
theorem step_2 {vs : List (Int × Int)} {ins : List Int} {x : In} {i : Nat} {s st : List Int} (h : x.op = 2) : step vs ins x i s st = psh s st (i + 1) (rng (gt st x.n)) := by unfold step; rw [if_neg (by omega), if_pos h]
theorem step_3 {vs : List (Int × Int)} {ins : List Int} {x : In} {i : Nat} {s st : List Int} (h : x.op = 3) : step vs ins x i s st = psh s st (i + 1) (rng (gt ins x.n)) := by unfold step; rw [if_neg (by omega), if_neg (by omega), if_pos h]
theorem step_13 {vs : List (Int × Int)} {ins : List Int} {x : In} {i : Nat} {s st : List Int} (h : x.op = 13) : step vs ins x i s st = (⟨s, st, x.n.toNat⟩, 0) := by unfold step; rw [if_neg (by omega), if_neg (by omega), if_neg (by omega), if_pos h]
theorem step_11 {vs : List (Int × Int)} {ins : List Int} {x : In} {i : Nat} {b : Int} {r st : List Int} (h : x.op = 11) : step vs ins x i (b :: r) st = if btw2 b ((vs[x.n.toNat]?).getD (0, 0)) = true then (⟨r, st.set x.n.toNat b, i + 1⟩, 0) else (⟨r, st, i + 1⟩, 15) := by
  unfold step; rw [if_neg (by omega), if_neg (by omega), if_neg (by omega), if_neg (by omega)]; simp only; rw [if_pos h]
theorem step_12 {vs : List (Int × Int)} {ins : List Int} {x : In} {i : Nat} {a b : Int} {r st : List Int} (h : x.op = 12) : step vs ins x i (b :: a :: r) st = (⟨r, st, if rlB a x.r b = true then i + 1 else x.n.toNat⟩, 0) := by
  unfold step; rw [if_neg (by omega), if_neg (by omega), if_neg (by omega), if_neg (by omega)]; simp only; rw [if_neg (by omega), if_pos h]
theorem step_two {vs : List (Int × Int)} {ins : List Int} {x : In} {i : Nat} {a b : Int} {r st : List Int} (h : 4 ≤ x.op ∧ x.op ≤ 10) : step vs ins x i (b :: a :: r) st = psh r st (i + 1) (clc x.op a b) := by
  unfold step; rw [if_neg (by omega), if_neg (by omega), if_neg (by omega), if_neg (by omega)]; simp only; rw [if_neg (by omega), if_neg (by omega)]
/-- the contract of one operation of the table -/
def OpC (W0 : World) (b : Nat) (VS : Value) (SA : Option Addr) (sl sc : Nat) (i0 i1 i2 i3 : Int) (s st : List Int) (F : FuncId) (n : Int) (r : Cf × Int) : Prop :=
  ∀ w, MAt w b VS (.slice SA sl sc) i0 i1 i2 i3 s → StO W0.heap.size b w st SA → Gr W0 w → Calls Tryd.prog F #[.pointer (some ⟨b, 0, none⟩), .int .i64 n] w (OpP W0 b VS SA sl sc i0 i1 i2 i3 r w)
theorem op_any (W0 : World) (b : Nat) (hb : W0.heap.size ≤ b) (vs : List (Int × Int)) (VA : Option Addr) (vc : Nat) (hV : VsR W0 vs VA) (SA : Option Addr) (sc : Nat) (i0 i1 i2 i3 : Int) (x : In) (i many : Nat) (s st : List Int)
    (hf : formI x i many vs.length = true) (hst : st.length = vs.length) (hs : ∀ n ∈ s, vN n = true) (ht : tko x.op ≤ s.length) (h64 : (s.length : Int) - tko x.op + pt x.op ≤ 64) (h12 : x.op ≠ 12) (h13 : x.op ≠ 13) :
    ∃ F, (opsA .nilFunc b)[x.op.toNat]? = some (mf F b) ∧ (∀ wx : World, (callFunc F #[.pointer (some ⟨b, 0, none⟩), .int .i64 x.n]).run Tryd.prog wx = .ok (.enter F #[.pointer (some ⟨b, 0, none⟩), .int .i64 x.n]) wx) ∧ OpC W0 b (.slice VA vs.length vc) SA st.length sc i0 i1 i2 i3 s st F x.n (step vs [i0, i1, i2, i3] x i s st) := by
  have hop := form_op hf
  have hcase : x.op = 1 ∨ x.op = 2 ∨ x.op = 3 ∨ x.op = 4 ∨ x.op = 5 ∨ x.op = 6 ∨ x.op = 7 ∨ x.op = 8 ∨ x.op = 9 ∨ x.op = 10 ∨ x.op = 11 := by omega
  rcases hcase with h | h | h | h | h | h | h | h | h | h | h
  · refine ⟨45, by rw [h]; rfl, fun _ => rfl, fun w hM hO hG => ?_⟩
    have hl : s.length < 64 := by rw [h] at h64; simp [tko, pt] at h64; omega
    rw [step_1 h]
    exact (push_any x.n b _ _ i0 i1 i2 i3 s w hM hl).mono (fun e w' hp => hp.op hO hG hb)
  · refine ⟨46, by rw [h]; rfl, fun _ => rfl, fun w hM hO hG => ?_⟩
    have hl : s.length < 64 := by rw [h] at h64; simp [tko, pt] at h64; omega
    have hn := form_var hf (.inl h)
    obtain ⟨k, hk⟩ := Int.eq_ofNat_of_zero_le hn.1
    have hkl : k < st.length := by omega
    rw [step_2 h, show gt st x.n = st[k] by unfold gt; rw [hk]; simp [hkl], hk]
    exact (pushVariable_any W0.heap.size k st[k] st SA sc (List.getElem?_eq_getElem hkl) b _ i0 i1 i2 i3 s w hM hO hl).mono (fun e w' hp => hp.op hO hG hb)
  · refine ⟨47, by rw [h]; rfl, fun _ => rfl, fun w hM hO hG => ?_⟩
    have hl : s.length < 64 := by rw [h] at h64; simp [tko, pt] at h64; omega
    have hn := form_in hf h
    obtain ⟨k, hk⟩ := Int.eq_ofNat_of_zero_le hn.1
    have hkl : k < [i0, i1, i2, i3].length := by simp; omega
    rw [step_3 h, show gt [i0, i1, i2, i3] x.n = [i0, i1, i2, i3][k] by unfold gt; rw [hk]; simp only [Int.ofNat_eq_natCast, Int.toNat_natCast]; rw [List.getElem?_eq_getElem hkl]; rfl, hk]
    exact (pushInput_any k _ b _ _ i0 i1 i2 i3 (List.getElem?_eq_getElem hkl) s w hM hl).mono (fun e w' hp => hp.op hO hG hb)
  · refine ⟨48, by rw [h]; rfl, fun _ => rfl, fun w hM hO hG => ?_⟩
    obtain ⟨y, a, r, rfl⟩ := two_of (s := s) (t := s.length) (by rw [h] at ht; simpa [tko] using ht) rfl
    rw [step_two (by omega), h]
    exact (add_any a y x.n (hs _ (by simp)) (hs _ (by simp)) b _ _ i0 i1 i2 i3 r w hM).mono (fun e w' hp => hp.op hO hG hb)
  · refine ⟨49, by rw [h]; rfl, fun _ => rfl, fun w hM hO hG => ?_⟩
    obtain ⟨y, a, r, rfl⟩ := two_of (s := s) (t := s.length) (by rw [h] at ht; simpa [tko] using ht) rfl
    rw [step_two (by omega), h]
    exact (subtract_any a y x.n (hs _ (by simp)) (hs _ (by simp)) b _ _ i0 i1 i2 i3 r w hM).mono (fun e w' hp => hp.op hO hG hb)
  · refine ⟨50, by rw [h]; rfl, fun _ => rfl, fun w hM hO hG => ?_⟩
    obtain ⟨y, a, r, rfl⟩ := two_of (s := s) (t := s.length) (by rw [h] at ht; simpa [tko] using ht) rfl
    rw [step_two (by omega), h]
    exact (multiply_any a y x.n (hs _ (by simp)) (hs _ (by simp)) b _ _ i0 i1 i2 i3 r w hM).mono (fun e w' hp => hp.op hO hG hb)
  · refine ⟨51, by rw [h]; rfl, fun _ => rfl, fun w hM hO hG => ?_⟩
    obtain ⟨y, a, r, rfl⟩ := two_of (s := s) (t := s.length) (by rw [h] at ht; simpa [tko] using ht) rfl
    rw [step_two (by omega), h]
    exact (divideDown_any a y x.n (hs _ (by simp)) (hs _ (by simp)) b _ _ i0 i1 i2 i3 r w hM).mono (fun e w' hp => hp.op hO hG hb)
  · refine ⟨52, by rw [h]; rfl, fun _ => rfl, fun w hM hO hG => ?_⟩
    obtain ⟨y, a, r, rfl⟩ := two_of (s := s) (t := s.length) (by rw [h] at ht; simpa [tko] using ht) rfl
    rw [step_two (by omega), h]
    exact (divideUp_any a y x.n (hs _ (by simp)) (hs _ (by simp)) b _ _ i0 i1 i2 i3 r w hM).mono (fun e w' hp => hp.op hO hG hb)
  · refine ⟨53, by rw [h]; rfl, fun _ => rfl, fun w hM hO hG => ?_⟩
    obtain ⟨y, a, r, rfl⟩ := two_of (s := s) (t := s.length) (by rw [h] at ht; simpa [tko] using ht) rfl
    rw [step_two (by omega), h]
    exact (pushLesser_any a y x.n (hs _ (by simp)) (hs _ (by simp)) b _ _ i0 i1 i2 i3 r w hM).mono (fun e w' hp => hp.op hO hG hb)
  · refine ⟨54, by rw [h]; rfl, fun _ => rfl, fun w hM hO hG => ?_⟩
    obtain ⟨y, a, r, rfl⟩ := two_of (s := s) (t := s.length) (by rw [h] at ht; simpa [tko] using ht) rfl
    rw [step_two (by omega), h]
    exact (pushGreater_any a y x.n (hs _ (by simp)) (hs _ (by simp)) b _ _ i0 i1 i2 i3 r w hM).mono (fun e w' hp => hp.op hO hG hb)
  · refine ⟨55, by rw [h]; rfl, fun _ => rfl, fun w hM hO hG => ?_⟩
    have hn := form_var hf (.inr h)
    obtain ⟨k, hk⟩ := Int.eq_ofNat_of_zero_le hn.1
    have hkl : k < st.length := by omega
    have hkv : k < vs.length := by omega
    obtain ⟨y, r, rfl⟩ := one_of (s := s) (t := s.length) (by rw [h] at ht; simpa [tko] using ht) rfl
    rw [step_11 h, hk]
    simp only [Int.ofNat_eq_natCast, Int.toNat_natCast]
    rw [List.getElem?_eq_getElem hkv]
    exact store_any W0 k y st[k] vs[k] st SA sc vs VA vc (List.getElem?_eq_getElem hkl) (List.getElem?_eq_getElem hkv) b i0 i1 i2 i3 r w hM hO hV hG hb (i + 1)
end N
end Go.Proofs.YthgngkajdiclcaaDoor
