/- Texts of one proof: UyF. -/
import Derived.Test.YtljknappbnoikaaGreatDoorYf
import Derived.Test.YtljknappbnoikaaGreatDoorZg
set_option linter.unusedVariables false
set_option linter.unusedSimpArgs false
set_option maxRecDepth 100000
set_option maxHeartbeats 8000000
namespace Go.Proofs.YtljknappbnoikaaGreatDoor.U
open Go.RowKit
mutual
def cntS : St → Nat
 | .mk k _ _ _ _ th el => if k = 2 then 1 + cntL th + cntL el else 1
def cntL : List St → Nat
 | [] => 0
 | x :: xs => cntS x + cntL xs
end
mutual
def shS : St → Bool
 | .mk k _ _ a b th el => decide (a.size ≤ 60) && (!decide (k = 2) || (decide (b.size ≤ 60) && (shA th && shA el)))
def shA : List St → Bool
 | [] => true
 | x :: xs => shS x && shA xs
end
mutual
theorem mnS_min : ∀ (x : St) (b n : Int), 0 ≤ n → n ≤ b → b ≤ 10000 → mnS x b n = min (n + cntS x) (b + 1)
 | .mk k v r a c th el, b, n, h0, h1, h2 => by
  have w1 : IntKind.i64.wrap (n + 1) = n + 1 := IntWalk.i64_in _ (by omega)
  have w2 : IntKind.i64.wrap (b - (n + 1)) = b - (n + 1) := IntWalk.i64_in _ (by omega)
  rw [mnS, cntS, w1]
  by_cases hk : k = 2
  ·rw [if_pos hk, if_pos hk, w2]
   have e1 := mnL_min th (b - (n + 1)) 0 (by omega) (by omega) (by omega)
   rw [e1]
   have w3 : IntKind.i64.wrap (n + 1 + min (0 + (cntL th : Int)) (b - (n + 1) + 1)) = n + 1 + min (0 + (cntL th : Int)) (b - (n + 1) + 1) := IntWalk.i64_in _ (by omega)
   rw [w3]
   obtain ⟨m, hm⟩ : ∃ m, n + 1 + min (0 + (cntL th : Int)) (b - (n + 1) + 1) = m := ⟨_, rfl⟩
   have w4 : IntKind.i64.wrap (b - m) = b - m := IntWalk.i64_in _ (by omega)
   simp only [hm]
   rw [w4, mnL_min el (b - m) 0 (by omega) (by omega) (by omega)]
   have w5 : IntKind.i64.wrap (m + min (0 + (cntL el : Int)) (b - m + 1)) = m + min (0 + (cntL el : Int)) (b - m + 1) := IntWalk.i64_in _ (by omega)
   rw [w5]
   omega
  ·rw [if_neg hk, if_neg hk]
   omega
theorem mnL_min : ∀ (l : List St) (b n : Int), 0 ≤ n → n ≤ b + 1 → b ≤ 10000 → mnL l b n = min (n + cntL l) (b + 1)
 | [], b, n, h0, h1, h2 => by rw [mnL, cntL]; omega
 | x :: xs, b, n, h0, h1, h2 => by
  rw [mnL, cntL]
  by_cases h : n ≤ b
  ·have e := mnS_min x b n h0 h h2
   rw [if_pos h, e, mnL_min xs b _ (by omega) (by omega) h2]
   omega
  ·rw [if_neg h]
   omega
end
mutual
theorem evS_iff : ∀ (x : St) (n : Int), 0 ≤ n → ((evS x n).1 = true ↔ (cntS x : Int) ≤ n ∧ shS x = true) ∧ ((evS x n).1 = true → (evS x n).2 = n - cntS x)
 | .mk k v r a b th el, n, h => by
  rw [evS, cntS, shS]
  by_cases h0 : 0 ≤ n - 1
  ·by_cases ha : a.size ≤ 60
   ·by_cases hk : k = 2
    ·by_cases hb : b.size ≤ 60
     ·have ho : okS k a b (n - 1) = true := by simp [okS]; omega
      rw [if_pos ho, if_pos hk, if_pos hk]
      have e1 := evL_iff th (n - 1) h0
      rcases he : evL th (n - 1) with ⟨b1, m⟩
      rw [he] at e1
      cases b1 with
      | false =>
       simp only [Bool.false_eq_true, false_iff, not_and, Bool.not_eq_true] at e1 ⊢
       refine ⟨fun hc => ?_, fun hc => absurd hc (by simp)⟩
       have := e1.1 (by omega)
       simp [ha, hb, hk, this]
      | true =>
       simp only [true_iff, true_implies] at e1
       obtain ⟨⟨c1, s1⟩, rfl⟩ := e1
       have e2 := evL_iff el (n - 1 - cntL th) (by omega)
       simp only [ha, hb, hk, s1, decide_true, Bool.true_and, Bool.not_true, Bool.false_or]
       refine ⟨e2.1.trans ⟨fun ⟨a1, a2⟩ => ⟨by omega, a2⟩, fun ⟨a1, a2⟩ => ⟨by omega, a2⟩⟩, fun hc => by have := e2.2 hc; omega⟩
     ·have ho : ¬ okS k a b (n - 1) = true := by simp [okS, hk]; omega
      rw [if_neg ho]
      simp [ha, hb, hk]
    ·have ho : okS k a b (n - 1) = true := by simp [okS, hk]; omega
     rw [if_pos ho, if_neg hk, if_neg hk]
     simp [ha, hk]
     omega
   ·have ho : ¬ okS k a b (n - 1) = true := by simp [okS]; omega
    rw [if_neg ho]
    simp [ha]
  ·have ho : ¬ okS k a b (n - 1) = true := by simp [okS]; omega
   rw [if_neg ho]
   by_cases hk : k = 2
   ·rw [if_pos hk]
    simp
    omega
   ·rw [if_neg hk]
    simp
    omega
theorem evL_iff : ∀ (l : List St) (n : Int), 0 ≤ n → ((evL l n).1 = true ↔ (cntL l : Int) ≤ n ∧ shA l = true) ∧ ((evL l n).1 = true → (evL l n).2 = n - cntL l)
 | [], n, h => by rw [evL, cntL, shA]; simp; omega
 | x :: xs, n, h => by
  rw [evL, cntL, shA]
  have e1 := evS_iff x n h
  rcases he : evS x n with ⟨b1, m⟩
  rw [he] at e1
  cases b1 with
  | false =>
   simp only [Bool.false_eq_true, false_iff, not_and, Bool.not_eq_true] at e1 ⊢
   refine ⟨fun hc => ?_, fun hc => absurd hc (by simp)⟩
   have := e1.1 (by omega)
   simp [this]
  | true =>
   simp only [true_iff, true_implies] at e1
   obtain ⟨⟨c1, s1⟩, rfl⟩ := e1
   have e2 := evL_iff xs (n - cntS x) (by omega)
   simp only [s1, Bool.true_and]
   refine ⟨e2.1.trans ⟨fun ⟨a1, a2⟩ => ⟨by omega, a2⟩, fun ⟨a1, a2⟩ => ⟨by omega, a2⟩⟩, fun hc => by have := e2.2 hc; omega⟩
end
theorem evL_100 (l : List St) : (evL l 100).1 = (!decide (mnL l 100 0 > 100) && shA l) := by
 have h1 := (evL_iff l 100 (by decide)).1
 have h2 := mnL_min l 100 0 (by decide) (by decide) (by decide)
 rw [h2]
 cases hs : shA l with
 | false =>
  rw [hs] at h1
  simp at h1 ⊢
  exact h1
 | true =>
  rw [hs] at h1
  rw [Bool.and_true]
  by_cases hc : (cntL l : Int) ≤ 100
  ·rw [h1.2 ⟨hc, rfl⟩]
   simp
   omega
  ·have : ¬ (evL l 100).1 = true := fun h => hc (h1.1 h).1
   rw [Bool.not_eq_true] at this
   rw [this]
   simp
   omega
theorem shA_drop (l : List St) (k : Nat) (hk : k < l.length) : shA (l.drop k) = (shS l[k] && shA (l.drop (k + 1))) := by
 rw [List.drop_eq_getElem_cons hk, shA]
theorem shS_eq (x : St) : shS x = (decide (x.a.size ≤ 60) && (!decide (x.kind = 2) || (decide (x.b.size ≤ 60) && (shA x.th && shA x.el)))) := by
 obtain ⟨k, v, r, a, b, th, el⟩ := x
 rw [shS]
 rfl
def ShortC (l : List St) : Prop := ∀ (w : World) (A : Option Addr) (m : Nat), StsR w l A → l.length ≤ maxLen → Calls Tryz.prog 68 #[.slice A l.length m] w (BB (shA l) w)
theorem Short_step (l : List St) (ih : ∀ x ∈ l, ShortC x.th ∧ ShortC x.el) : ShortC l := by
 intro w A m hR hlen
 have IH := Lib.hid ih
 have HR := Lib.hid hR
 obtain ⟨r, hr⟩ : ∃ r, shA l = r := ⟨_, rfl⟩
 rw [hr]
 have HM : Hid (shA (l.drop 0) = r) := Lib.hid hr
 clear ih hR hr
 go_enter Tryz.func68, Tryz.ntmps68
 go_wp2
 go_loopg [3] (l.length) (fun gk i wr => ∃ (k : Nat), k + gk = l.length ∧ i = .int .i64 k ∧ Hid (shA (l.drop k) = r) ∧ Hid (Below w.heap.size w wr))
 case atStart => exact ⟨0, by omega, rfl, HM, Lib.hid (Below.refl _ _)⟩
 case round =>
  obtain ⟨k, hk, rfl, hM, hW⟩ := hrel
  by_cases hlt : k < l.length
  ·obtain ⟨g, rfl⟩ : ∃ g, gk = g + 1 := ⟨gk - 1, by omega⟩
   have hk64 : (k : Int) + 1 < 9223372036854775808 := by unfold maxLen at hlen; omega
   have hM1 := hM.out
   rw [shA_drop _ _ hlt, shS_eq] at hM1
   have hRw : StsR wr l A := HR.out.below hW.out
   obtain ⟨ga, oa, rfl⟩ := hRw.addr (by omega)
   obtain ⟨A1, c1, B1, d1, T1, m1, E1, n1, hS, hKA, hKB, hT, hE, hlt1, hle1⟩ := (hRw.get _ _ _ k _ (List.getElem?_eq_getElem hlt)).cells
   have hI := IH.out _ (List.getElem_mem hlt)
   have HT := Lib.hid (fun (w2 : World) (h : Below wr.heap.size wr w2) => hI.1 w2 T1 m1 (hT.below h) hlt1)
   have HE := Lib.hid (fun (w2 : World) (h : Below wr.heap.size wr w2) => hI.2 w2 E1 n1 (hE.below h) hle1)
   have HA := Lib.hid (fun (w2 : World) (h : Below wr.heap.size wr w2) => Size_any l[k].a w2 60 A1 c1 (by decide) (by decide) (hKA.below h))
   have HBx := Lib.hid (fun (w2 : World) (h : Below wr.heap.size wr w2) => Size_any l[k].b w2 60 B1 d1 (by decide) (by decide) (hKB.below h))
   have hra := rsE_min l[k].a 60 (by decide)
   have hrb := rsE_min l[k].b 60 (by decide)
   have hM1 := Lib.hid hM1
   obtain ⟨s0, s1, s2, s3, s4, s5, s6, s7, s8, s9, s10, s11, s12⟩ := hS
   clear hM hRw hI hT hE hKA hKB
   generalize l[k] = u at *
   have hB1 : Hid (Below wr.heap.size wr (wr.alloc (.cells (sArr u A1 c1 B1 d1 T1 m1 E1 n1) 69))) := Lib.hid (bAlloc (Below.refl _ _))
   have hX1 : Hid ((wr.alloc (.cells (sArr u A1 c1 B1 d1 T1 m1 E1 n1) 69)).heap[wr.heap.size]? = some (.cells (sArr u A1 c1 B1 d1 T1 m1 E1 n1) 69 (0, 0))) := Lib.hid (newBlk _ _ _ rfl)
   generalize hrae : rsE u.a 60 = ra at *
   generalize hrbe : rsE u.b 60 = rb at *
   have ea : decide (u.a.size ≤ 60) = !decide (ra > 60) := by by_cases h : u.a.size ≤ 60 <;> simp [h] <;> omega
   have eb : decide (u.b.size ≤ 60) = !decide (rb > 60) := by by_cases h : u.b.size ≤ 60 <;> simp [h] <;> omega
   have hM1 := hM1.out
   rw [ea, eb] at hM1
   generalize shA u.th = bt at *
   generalize shA u.el = be at *
   have hM1 := Lib.hid hM1
   clear hra hrb hrae hrbe ea eb
   by_cases h1 : ra > 60
   ·have g1 : decide (ra > 60) = true := by simp; omega
    have hF : Hid (false = r) := Lib.hid (by have := hM1.out; simpa [h1] using this)
    clear hM1
    go_wp2_with (first
     | (go_at_call_of 33 (Value.slice A1 u.a.kids.length (u.a.kids.length + c1)); refine (HA.out _ hB1.out).mono ?_; rintro e w2 ⟨rfl, hb2⟩; have HB := Lib.hid (bCall hB1.out hb2); have hX := Lib.hid ((hb2.block _ (by simp)).trans hX1.out); obtain ⟨x0, x1, x2, x3, x4, x5, x6, x7, x8, x9, x10, x11, x12⟩ := cells13 hX.out; have hx := blkLt hX.out; clear hb2)
     | (go_at_call_of 68 (Value.slice T1 u.th.length m1); refine (HT.out _ HB.out).mono ?_; rintro e w2 ⟨rfl, hb2⟩; have HB := Lib.hid (bCall HB.out hb2); have hX := Lib.hid ((hb2.block _ hx).trans hX.out); clear x0 x1 x2 x3 x4 x5 x6 x7 x8 x9 x10 x11 x12 hx; obtain ⟨x0, x1, x2, x3, x4, x5, x6, x7, x8, x9, x10, x11, x12⟩ := cells13 hX.out; have hx := blkLt hX.out; clear hb2)
     | (go_at_call_of 68 (Value.slice E1 u.el.length n1); refine (HE.out _ HB.out).mono ?_; rintro e w2 ⟨rfl, hb2⟩; have HB := Lib.hid (bCall HB.out hb2); have hX := Lib.hid ((hb2.block _ hx).trans hX.out); clear x0 x1 x2 x3 x4 x5 x6 x7 x8 x9 x10 x11 x12 hx; obtain ⟨x0, x1, x2, x3, x4, x5, x6, x7, x8, x9, x10, x11, x12⟩ := cells13 hX.out; have hx := blkLt hX.out; clear hb2)
     | (go_at_call_of 33 (Value.slice B1 u.b.kids.length (u.b.kids.length + d1)); refine (HBx.out _ HB.out).mono ?_; rintro e w2 ⟨rfl, hb2⟩; have HB := Lib.hid (bCall HB.out hb2); have hX := Lib.hid ((hb2.block _ hx).trans hX.out); clear x0 x1 x2 x3 x4 x5 x6 x7 x8 x9 x10 x11 x12 hx; obtain ⟨x0, x1, x2, x3, x4, x5, x6, x7, x8, x9, x10, x11, x12⟩ := cells13 hX.out; have hx := blkLt hX.out; clear hb2))
    go_ret
    exact ⟨ret_bl hF.out, bCall hW.out HB.out⟩
   ·have g1 : decide (ra > 60) = false := by simp; omega
    by_cases hkd : u.kind = 2
    ·unfold sArr at hB1 hX1
     rw [hkd] at hB1 hX1
     by_cases h2 : rb > 60
     ·have g2 : decide (rb > 60) = true := by simp; omega
      have hF : Hid (false = r) := Lib.hid (by have := hM1.out; simpa [h1, h2, hkd] using this)
      clear hM1
      go_wp2_with (first
       | (go_at_call_of 33 (Value.slice A1 u.a.kids.length (u.a.kids.length + c1)); refine (HA.out _ hB1.out).mono ?_; rintro e w2 ⟨rfl, hb2⟩; have HB := Lib.hid (bCall hB1.out hb2); have hX := Lib.hid ((hb2.block _ (by simp)).trans hX1.out); obtain ⟨x0, x1, x2, x3, x4, x5, x6, x7, x8, x9, x10, x11, x12⟩ := cells13 hX.out; have hx := blkLt hX.out; clear hb2)
       | (go_at_call_of 68 (Value.slice T1 u.th.length m1); refine (HT.out _ HB.out).mono ?_; rintro e w2 ⟨rfl, hb2⟩; have HB := Lib.hid (bCall HB.out hb2); have hX := Lib.hid ((hb2.block _ hx).trans hX.out); clear x0 x1 x2 x3 x4 x5 x6 x7 x8 x9 x10 x11 x12 hx; obtain ⟨x0, x1, x2, x3, x4, x5, x6, x7, x8, x9, x10, x11, x12⟩ := cells13 hX.out; have hx := blkLt hX.out; clear hb2)
       | (go_at_call_of 68 (Value.slice E1 u.el.length n1); refine (HE.out _ HB.out).mono ?_; rintro e w2 ⟨rfl, hb2⟩; have HB := Lib.hid (bCall HB.out hb2); have hX := Lib.hid ((hb2.block _ hx).trans hX.out); clear x0 x1 x2 x3 x4 x5 x6 x7 x8 x9 x10 x11 x12 hx; obtain ⟨x0, x1, x2, x3, x4, x5, x6, x7, x8, x9, x10, x11, x12⟩ := cells13 hX.out; have hx := blkLt hX.out; clear hb2)
       | (go_at_call_of 33 (Value.slice B1 u.b.kids.length (u.b.kids.length + d1)); refine (HBx.out _ HB.out).mono ?_; rintro e w2 ⟨rfl, hb2⟩; have HB := Lib.hid (bCall HB.out hb2); have hX := Lib.hid ((hb2.block _ hx).trans hX.out); clear x0 x1 x2 x3 x4 x5 x6 x7 x8 x9 x10 x11 x12 hx; obtain ⟨x0, x1, x2, x3, x4, x5, x6, x7, x8, x9, x10, x11, x12⟩ := cells13 hX.out; have hx := blkLt hX.out; clear hb2))
      go_ret
      exact ⟨ret_bl hF.out, bCall hW.out HB.out⟩
     ·have g2 : decide (rb > 60) = false := by simp; omega
      cases bt with
      | false =>
       have hF : Hid (false = r) := Lib.hid (by have := hM1.out; simpa [h1, h2, hkd] using this)
       clear hM1
       go_wp2_with (first
        | (go_at_call_of 33 (Value.slice A1 u.a.kids.length (u.a.kids.length + c1)); refine (HA.out _ hB1.out).mono ?_; rintro e w2 ⟨rfl, hb2⟩; have HB := Lib.hid (bCall hB1.out hb2); have hX := Lib.hid ((hb2.block _ (by simp)).trans hX1.out); obtain ⟨x0, x1, x2, x3, x4, x5, x6, x7, x8, x9, x10, x11, x12⟩ := cells13 hX.out; have hx := blkLt hX.out; clear hb2)
        | (go_at_call_of 68 (Value.slice T1 u.th.length m1); refine (HT.out _ HB.out).mono ?_; rintro e w2 ⟨rfl, hb2⟩; have HB := Lib.hid (bCall HB.out hb2); have hX := Lib.hid ((hb2.block _ hx).trans hX.out); clear x0 x1 x2 x3 x4 x5 x6 x7 x8 x9 x10 x11 x12 hx; obtain ⟨x0, x1, x2, x3, x4, x5, x6, x7, x8, x9, x10, x11, x12⟩ := cells13 hX.out; have hx := blkLt hX.out; clear hb2)
        | (go_at_call_of 68 (Value.slice E1 u.el.length n1); refine (HE.out _ HB.out).mono ?_; rintro e w2 ⟨rfl, hb2⟩; have HB := Lib.hid (bCall HB.out hb2); have hX := Lib.hid ((hb2.block _ hx).trans hX.out); clear x0 x1 x2 x3 x4 x5 x6 x7 x8 x9 x10 x11 x12 hx; obtain ⟨x0, x1, x2, x3, x4, x5, x6, x7, x8, x9, x10, x11, x12⟩ := cells13 hX.out; have hx := blkLt hX.out; clear hb2)
        | (go_at_call_of 33 (Value.slice B1 u.b.kids.length (u.b.kids.length + d1)); refine (HBx.out _ HB.out).mono ?_; rintro e w2 ⟨rfl, hb2⟩; have HB := Lib.hid (bCall HB.out hb2); have hX := Lib.hid ((hb2.block _ hx).trans hX.out); clear x0 x1 x2 x3 x4 x5 x6 x7 x8 x9 x10 x11 x12 hx; obtain ⟨x0, x1, x2, x3, x4, x5, x6, x7, x8, x9, x10, x11, x12⟩ := cells13 hX.out; have hx := blkLt hX.out; clear hb2))
       go_ret
       exact ⟨ret_bl hF.out, bCall hW.out HB.out⟩
      | true =>
       cases be with
       | false =>
        have hF : Hid (false = r) := Lib.hid (by have := hM1.out; simpa [h1, h2, hkd] using this)
        clear hM1
        go_wp2_with (first
         | (go_at_call_of 33 (Value.slice A1 u.a.kids.length (u.a.kids.length + c1)); refine (HA.out _ hB1.out).mono ?_; rintro e w2 ⟨rfl, hb2⟩; have HB := Lib.hid (bCall hB1.out hb2); have hX := Lib.hid ((hb2.block _ (by simp)).trans hX1.out); obtain ⟨x0, x1, x2, x3, x4, x5, x6, x7, x8, x9, x10, x11, x12⟩ := cells13 hX.out; have hx := blkLt hX.out; clear hb2)
         | (go_at_call_of 68 (Value.slice T1 u.th.length m1); refine (HT.out _ HB.out).mono ?_; rintro e w2 ⟨rfl, hb2⟩; have HB := Lib.hid (bCall HB.out hb2); have hX := Lib.hid ((hb2.block _ hx).trans hX.out); clear x0 x1 x2 x3 x4 x5 x6 x7 x8 x9 x10 x11 x12 hx; obtain ⟨x0, x1, x2, x3, x4, x5, x6, x7, x8, x9, x10, x11, x12⟩ := cells13 hX.out; have hx := blkLt hX.out; clear hb2)
         | (go_at_call_of 68 (Value.slice E1 u.el.length n1); refine (HE.out _ HB.out).mono ?_; rintro e w2 ⟨rfl, hb2⟩; have HB := Lib.hid (bCall HB.out hb2); have hX := Lib.hid ((hb2.block _ hx).trans hX.out); clear x0 x1 x2 x3 x4 x5 x6 x7 x8 x9 x10 x11 x12 hx; obtain ⟨x0, x1, x2, x3, x4, x5, x6, x7, x8, x9, x10, x11, x12⟩ := cells13 hX.out; have hx := blkLt hX.out; clear hb2)
         | (go_at_call_of 33 (Value.slice B1 u.b.kids.length (u.b.kids.length + d1)); refine (HBx.out _ HB.out).mono ?_; rintro e w2 ⟨rfl, hb2⟩; have HB := Lib.hid (bCall HB.out hb2); have hX := Lib.hid ((hb2.block _ hx).trans hX.out); clear x0 x1 x2 x3 x4 x5 x6 x7 x8 x9 x10 x11 x12 hx; obtain ⟨x0, x1, x2, x3, x4, x5, x6, x7, x8, x9, x10, x11, x12⟩ := cells13 hX.out; have hx := blkLt hX.out; clear hb2))
        go_ret
        exact ⟨ret_bl hF.out, bCall hW.out HB.out⟩
       | true =>
        have hM2 : Hid (shA (l.drop (k + 1)) = r) := Lib.hid (by have := hM1.out; simpa [h1, h2, hkd] using this)
        clear hM1
        go_wp2_with (first
         | (go_at_call_of 33 (Value.slice A1 u.a.kids.length (u.a.kids.length + c1)); refine (HA.out _ hB1.out).mono ?_; rintro e w2 ⟨rfl, hb2⟩; have HB := Lib.hid (bCall hB1.out hb2); have hX := Lib.hid ((hb2.block _ (by simp)).trans hX1.out); obtain ⟨x0, x1, x2, x3, x4, x5, x6, x7, x8, x9, x10, x11, x12⟩ := cells13 hX.out; have hx := blkLt hX.out; clear hb2)
         | (go_at_call_of 68 (Value.slice T1 u.th.length m1); refine (HT.out _ HB.out).mono ?_; rintro e w2 ⟨rfl, hb2⟩; have HB := Lib.hid (bCall HB.out hb2); have hX := Lib.hid ((hb2.block _ hx).trans hX.out); clear x0 x1 x2 x3 x4 x5 x6 x7 x8 x9 x10 x11 x12 hx; obtain ⟨x0, x1, x2, x3, x4, x5, x6, x7, x8, x9, x10, x11, x12⟩ := cells13 hX.out; have hx := blkLt hX.out; clear hb2)
         | (go_at_call_of 68 (Value.slice E1 u.el.length n1); refine (HE.out _ HB.out).mono ?_; rintro e w2 ⟨rfl, hb2⟩; have HB := Lib.hid (bCall HB.out hb2); have hX := Lib.hid ((hb2.block _ hx).trans hX.out); clear x0 x1 x2 x3 x4 x5 x6 x7 x8 x9 x10 x11 x12 hx; obtain ⟨x0, x1, x2, x3, x4, x5, x6, x7, x8, x9, x10, x11, x12⟩ := cells13 hX.out; have hx := blkLt hX.out; clear hb2)
         | (go_at_call_of 33 (Value.slice B1 u.b.kids.length (u.b.kids.length + d1)); refine (HBx.out _ HB.out).mono ?_; rintro e w2 ⟨rfl, hb2⟩; have HB := Lib.hid (bCall HB.out hb2); have hX := Lib.hid ((hb2.block _ hx).trans hX.out); clear x0 x1 x2 x3 x4 x5 x6 x7 x8 x9 x10 x11 x12 hx; obtain ⟨x0, x1, x2, x3, x4, x5, x6, x7, x8, x9, x10, x11, x12⟩ := cells13 hX.out; have hx := blkLt hX.out; clear hb2))
        go_roundg g
        case measure => omega
        case rel => exact ⟨k + 1, by omega, by go_num, hM2, Lib.hid (bCall hW.out HB.out)⟩
    ·have hkf : (u.kind == 2) = false := by simp [hkd]
     have hM2 : Hid (shA (l.drop (k + 1)) = r) := Lib.hid (by have := hM1.out; simpa [h1, hkd] using this)
     clear hM1
     go_wp2_with (first
      | (go_at_call_of 33 (Value.slice A1 u.a.kids.length (u.a.kids.length + c1)); refine (HA.out _ hB1.out).mono ?_; rintro e w2 ⟨rfl, hb2⟩; have HB := Lib.hid (bCall hB1.out hb2); have hX := Lib.hid ((hb2.block _ (by simp)).trans hX1.out); obtain ⟨x0, x1, x2, x3, x4, x5, x6, x7, x8, x9, x10, x11, x12⟩ := cells13 hX.out; have hx := blkLt hX.out; clear hb2)
      | (go_at_call_of 68 (Value.slice T1 u.th.length m1); refine (HT.out _ HB.out).mono ?_; rintro e w2 ⟨rfl, hb2⟩; have HB := Lib.hid (bCall HB.out hb2); have hX := Lib.hid ((hb2.block _ hx).trans hX.out); clear x0 x1 x2 x3 x4 x5 x6 x7 x8 x9 x10 x11 x12 hx; obtain ⟨x0, x1, x2, x3, x4, x5, x6, x7, x8, x9, x10, x11, x12⟩ := cells13 hX.out; have hx := blkLt hX.out; clear hb2)
      | (go_at_call_of 68 (Value.slice E1 u.el.length n1); refine (HE.out _ HB.out).mono ?_; rintro e w2 ⟨rfl, hb2⟩; have HB := Lib.hid (bCall HB.out hb2); have hX := Lib.hid ((hb2.block _ hx).trans hX.out); clear x0 x1 x2 x3 x4 x5 x6 x7 x8 x9 x10 x11 x12 hx; obtain ⟨x0, x1, x2, x3, x4, x5, x6, x7, x8, x9, x10, x11, x12⟩ := cells13 hX.out; have hx := blkLt hX.out; clear hb2)
      | (go_at_call_of 33 (Value.slice B1 u.b.kids.length (u.b.kids.length + d1)); refine (HBx.out _ HB.out).mono ?_; rintro e w2 ⟨rfl, hb2⟩; have HB := Lib.hid (bCall HB.out hb2); have hX := Lib.hid ((hb2.block _ hx).trans hX.out); clear x0 x1 x2 x3 x4 x5 x6 x7 x8 x9 x10 x11 x12 hx; obtain ⟨x0, x1, x2, x3, x4, x5, x6, x7, x8, x9, x10, x11, x12⟩ := cells13 hX.out; have hx := blkLt hX.out; clear hb2))
     go_roundg g
     case measure => omega
     case rel => exact ⟨k + 1, by omega, by go_num, hM2, Lib.hid (bCall hW.out HB.out)⟩
  ·have hF : Hid (true = r) := Lib.hid (by have := hM.out; rw [List.drop_eq_nil_of_le (by omega), shA] at this; exact this)
   clear hM
   go_wp2
   go_ret
   exact ⟨ret_bl hF.out, hW.out⟩
mutual
theorem Short_any : ∀ x : St, ShortC x.th ∧ ShortC x.el
 | .mk _ _ _ _ _ th el => ⟨Short_step th (Short_all th), Short_step el (Short_all el)⟩
theorem Short_all : ∀ (l : List St), ∀ x ∈ l, ShortC x.th ∧ ShortC x.el
 | [], x, hx => by cases hx
 | y :: ys, x, hx => by
  rcases List.mem_cons.1 hx with h | h
  ·rw [h]; exact Short_any y
  ·exact Short_all ys x h
end
theorem Short_of (l : List St) : ShortC l := Short_step l (Short_all l)
end Go.Proofs.YtljknappbnoikaaGreatDoor.U
