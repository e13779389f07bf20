/- Law package 04: the reference's Many, Small and Few; no condition. -/
import Derived.Test.YtmofclpheioepaaDoorUxM
import Derived.Test.YtmofclpheioepaaDoorUxP
namespace Go.Proofs.YtmofclpheioepaaDoor
open Go.RowKit
set_option linter.unusedVariables false
set_option linter.unusedSimpArgs false

theorem ret_bl {a b : Bool} (h : a = b) : Ending.returned (.bool a) = .returned (.bool b) := by rw [h]
theorem ret_v {a b : Int} (h : a = b) : Ending.returned (.int .i64 a) = .returned (.int .i64 b) := by rw [h]
mutual
/-- the reference's number of statements behind some -/
def mnS : St → Int → Int → Int
  | .mk k _ _ _ _ th el, b, n =>
    if k = 2 then (let n2 := IntKind.i64.wrap (IntKind.i64.wrap (n + 1) + mnL th (IntKind.i64.wrap (b - IntKind.i64.wrap (n + 1))) 0); IntKind.i64.wrap (n2 + mnL el (IntKind.i64.wrap (b - n2)) 0)) else IntKind.i64.wrap (n + 1)
def mnL : List St → Int → Int → Int
  | [], _, n => n
  | x :: xs, b, n => if n ≤ b then mnL xs b (mnS x b n) else n
end
mutual
/-- all expressions of a statement are small -/
def smS : St → Bool
  | .mk _ _ _ a b th el => !decide (150 < rsE a 150) && (!decide (150 < rsE b 150) && ((smA th && decide (th.length ≤ 150)) && (smA el && decide (el.length ≤ 150))))
def smA : List St → Bool
  | [] => true
  | x :: xs => smS x && smA xs
end
def smL (l : List St) : Bool := smA l && decide (l.length ≤ 150)
theorem mnL_drop (l : List St) (k : Nat) (hk : k < l.length) (b n : Int) (h : n ≤ b) : mnL (l.drop k) b n = mnL (l.drop (k + 1)) b (mnS l[k] b n) := by
  rw [List.drop_eq_getElem_cons hk, mnL, if_pos h]
theorem mnL_stop (l : List St) (k : Nat) (b n : Int) (h : b < n) : mnL (l.drop k) b n = n := by
  cases hd : l.drop k with
  | nil => rfl
  | cons t us => rw [mnL, if_neg (by omega)]
theorem smA_drop (l : List St) (k : Nat) (hk : k < l.length) : smA (l.drop k) = (smS l[k] && smA (l.drop (k + 1))) := by
  rw [List.drop_eq_getElem_cons hk, smA]
theorem mnS_two {x : St} (h : x.kind = 2) (b n : Int) {n1 n2 n3 : Int} (h1 : n1 = IntKind.i64.wrap (n + 1)) (h2 : n2 = IntKind.i64.wrap (n1 + mnL x.th (IntKind.i64.wrap (b - n1)) 0)) (h3 : n3 = IntKind.i64.wrap (n2 + mnL x.el (IntKind.i64.wrap (b - n2)) 0)) : mnS x b n = n3 := by
  obtain ⟨k, v, r, a, c, th, el⟩ := x
  subst h1 h2 h3
  simp only [St.kind] at h
  rw [mnS, if_pos h]
  rfl
theorem mnS_one {x : St} (h : ¬ x.kind = 2) (b n : Int) : mnS x b n = IntKind.i64.wrap (n + 1) := by
  obtain ⟨k, v, r, a, c, th, el⟩ := x
  simp only [St.kind] at h
  rw [mnS, if_neg h]
theorem smS_eq (x : St) : smS x = (!decide (150 < rsE x.a 150) && (!decide (150 < rsE x.b 150) && (smL x.th && smL x.el))) := by
  obtain ⟨k, v, r, a, c, th, el⟩ := x
  rw [smS]
  rfl
def ManyC (l : List St) : Prop := ∀ (w : World) (A : Option Addr) (m : Nat) (b : Int), StsR w l A → l.length ≤ maxLen → Calls Tryd.prog 27 #[.slice A l.length m, .int .i64 b] w (VV (.int .i64 (mnL l b 0)) w)
def SmallC (l : List St) : Prop := ∀ (w : World) (A : Option Addr) (m : Nat), StsR w l A → l.length ≤ maxLen → Calls Tryd.prog 26 #[.slice A l.length m] w (BB (smL l) w)
set_option maxHeartbeats 1000000 in
set_option maxRecDepth 100000 in
theorem Many_step (l : List St) (ih : ∀ x ∈ l, ManyC x.th ∧ ManyC x.el) : ManyC l := by
  intro w A m b hR hlen
  have IH := Lib.hid ih
  have HR := Lib.hid hR
  obtain ⟨r, hr⟩ : ∃ r, mnL l b 0 = r := ⟨_, rfl⟩
  rw [hr]
  have HM : Hid (mnL (l.drop 0) b 0 = r) := Lib.hid hr
  clear ih hR hr
  go_enter Tryd.func27, Tryd.ntmps27
  go_wp2
  go_loopg [5, 6] (l.length) (fun gk n i wr => ∃ (k : Nat) (mv : Int), k + gk = l.length ∧ i = .int .i64 k ∧ n = .int .i64 mv ∧ Hid (mnL (l.drop k) b mv = r) ∧ Hid (Below w.heap.size w wr))
  case atStart => exact ⟨0, 0, by omega, rfl, rfl, HM, Lib.hid (Below.refl _ _)⟩
  case round =>
    obtain ⟨k, mv, hk, rfl, rfl, hM, hW⟩ := hrel
    by_cases hneg : mv ≤ b
    · by_cases hlt : k < l.length
      · obtain ⟨g, rfl⟩ : ∃ g, gk = g + 1 := ⟨gk - 1, by omega⟩
        have hk64 : (k : Int) + 1 < 9223372036854775808 := by unfold maxLen at hlen; omega
        have hM1 := hM.out
        rw [mnL_drop _ _ hlt _ _ hneg] at hM1
        have hRw : StsR wr l A := HR.out.below hW.out
        obtain ⟨ga, oa, rfl⟩ := hRw.addr (by omega)
        obtain ⟨A1, c1, B1, d1, T1, m1, E1, n1, hS, -, -, hT, hE, hlt1, hle1⟩ := (hRw.get _ _ _ k _ (List.getElem?_eq_getElem hlt)).cells
        have hI := IH.out _ (List.getElem_mem hlt)
        have HT := Lib.hid (fun (w2 : World) (h : Below wr.heap.size wr w2) (b : Int) => hI.1 w2 T1 m1 b (hT.below h) hlt1)
        have HE := Lib.hid (fun (w2 : World) (h : Below wr.heap.size wr w2) (b : Int) => hI.2 w2 E1 n1 b (hE.below h) hle1)
        have hgl := World.block_lt_of_cell? _ _ hS.1
        have HS := Lib.hid hS
        obtain ⟨e0, -, -, -, -, -, -, -, -, -, -, e11, -⟩ := hS
        have hM1 := Lib.hid hM1
        clear hM hRw hI hT hE
        generalize l[k] = u at *
        by_cases hkd : u.kind = 2
        · obtain ⟨q1, hq1⟩ : ∃ q, IntKind.i64.wrap (mv + 1) = q := ⟨_, rfl⟩
          obtain ⟨b1, hb1⟩ : ∃ q, IntKind.i64.wrap (b - q1) = q := ⟨_, rfl⟩
          obtain ⟨q2, hq2⟩ : ∃ q, mnL u.th b1 0 = q := ⟨_, rfl⟩
          obtain ⟨q3, hq3⟩ : ∃ q, IntKind.i64.wrap (q1 + q2) = q := ⟨_, rfl⟩
          obtain ⟨b3, hb3⟩ : ∃ q, IntKind.i64.wrap (b - q3) = q := ⟨_, rfl⟩
          obtain ⟨q4, hq4⟩ : ∃ q, mnL u.el b3 0 = q := ⟨_, rfl⟩
          obtain ⟨q5, hq5⟩ : ∃ q, IntKind.i64.wrap (q3 + q4) = q := ⟨_, rfl⟩
          have hU : mnS u b mv = q5 := mnS_two (n1 := q1) (n2 := q3) (n3 := q5) hkd b mv hq1.symm (by rw [hb1, hq2, hq3]) (by rw [hb3, hq4, hq5])
          rw [hU] at hM1
          have HT1 := Lib.hid (fun w2 h => by have := HT.out w2 h b1; rw [hq2] at this; exact this)
          have HE1 := Lib.hid (fun w2 h => by have := HE.out w2 h b3; rw [hq4] at this; exact this)
          clear hU HT HE hq2 hq4
          go_wp2_with (first
            | (go_at_call_of 27 (Value.slice T1 u.th.length m1); refine (HT1.out _ (Below.refl _ _)).mono ?_; rintro e w2 ⟨rfl, hb2⟩; have HB2 := Lib.hid hb2; have e12 := (HS.out.keep (hb2.block _ hgl)).2.2.2.2.2.2.2.2.2.2.2.2; clear hb2)
            | (go_at_call_of 27 (Value.slice E1 u.el.length n1); refine (HE1.out _ HB2.out).mono ?_; rintro e w3 ⟨rfl, hb3⟩; have hW2 := Lib.hid (hW.out.trans ((HB2.out.trans (hb3.mono HB2.out.size)).mono hW.out.size)); clear hb3))
          go_roundg g
          case measure => omega
          case rel => exact ⟨k + 1, q5, by omega, by go_num, rfl, hM1, hW2⟩
        · obtain ⟨q1, hq1⟩ : ∃ q, IntKind.i64.wrap (mv + 1) = q := ⟨_, rfl⟩
          have hM1 := Lib.hid (by have := hM1.out; rw [mnS_one hkd, hq1] at this; exact this)
          have hkf : (u.kind == 2) = false := by simp [hkd]
          clear HT HE
          go_wp2_with fail
          go_roundg g
          case measure => omega
          case rel => exact ⟨k + 1, q1, by omega, by go_num, rfl, hM1, hW⟩
      · have hF : Hid (mv = r) := by have := hM.out; rw [List.drop_eq_nil_of_le (by omega), mnL] at this; exact Lib.hid this
        clear hM
        go_wp2
        go_ret
        exact ⟨ret_v hF.out, hW.out⟩
    · have hF : Hid (mv = r) := by have := hM.out; rw [mnL_stop _ _ _ _ (by omega)] at this; exact Lib.hid this
      have hng : decide (mv ≤ b) = false := by simp; omega
      clear hM
      by_cases hlt : k < l.length
      all_goals
        go_wp2
        go_ret
        exact ⟨ret_v hF.out, hW.out⟩
mutual
theorem Many_any : ∀ x : St, ManyC x.th ∧ ManyC x.el
  | .mk _ _ _ _ _ th el => ⟨Many_step th (Many_all th), Many_step el (Many_all el)⟩
theorem Many_all : ∀ (l : List St), ∀ x ∈ l, ManyC x.th ∧ ManyC x.el
  | [], x, hx => by cases hx
  | y :: ys, x, hx => by
    rcases List.mem_cons.1 hx with h | h
    · rw [h]; exact Many_any y
    · exact Many_all ys x h
end
theorem Many_of (l : List St) : ManyC l := Many_step l (Many_all l)
set_option maxHeartbeats 2000000 in
set_option maxRecDepth 100000 in
theorem Small_step (l : List St) (ih : ∀ x ∈ l, SmallC x.th ∧ SmallC x.el) : SmallC l := by
  intro w A m hR hlen
  have IH := Lib.hid ih
  have HR := Lib.hid hR
  obtain ⟨r, hr⟩ : ∃ r, smL l = r := ⟨_, rfl⟩
  rw [hr]
  have HM : Hid ((smA (l.drop 0) && decide (l.length ≤ 150)) = r) := Lib.hid hr
  clear ih hR hr
  go_enter Tryd.func26, Tryd.ntmps26
  go_wp2
  go_loopg [3] (l.length) (fun gk i wr => ∃ (k : Nat), k + gk = l.length ∧ i = .int .i64 k ∧ Hid ((smA (l.drop k) && decide (l.length ≤ 150)) = r) ∧ Hid (Below w.heap.size w wr))
  case atStart => exact ⟨0, by omega, rfl, HM, Lib.hid (Below.refl _ _)⟩
  case round =>
    obtain ⟨k, hk, rfl, hM, hW⟩ := hrel
    by_cases hlt : k < l.length
    · obtain ⟨g, rfl⟩ : ∃ g, gk = g + 1 := ⟨gk - 1, by omega⟩
      have hk64 : (k : Int) + 1 < 9223372036854775808 := by unfold maxLen at hlen; omega
      have hM1 := hM.out
      rw [smA_drop _ _ hlt, smS_eq] at hM1
      have hRw : StsR wr l A := HR.out.below hW.out
      obtain ⟨ga, oa, rfl⟩ := hRw.addr (by omega)
      obtain ⟨A1, c1, B1, d1, T1, m1, E1, n1, hS, hKA, hKB, hT, hE, hlt1, hle1⟩ := (hRw.get _ _ _ k _ (List.getElem?_eq_getElem hlt)).cells
      have hI := IH.out _ (List.getElem_mem hlt)
      have HT := Lib.hid (fun (w2 : World) (h : Below wr.heap.size wr w2) => hI.1 w2 T1 m1 (hT.below h) hlt1)
      have HE := Lib.hid (fun (w2 : World) (h : Below wr.heap.size wr w2) => hI.2 w2 E1 n1 (hE.below h) hle1)
      have HA := Lib.hid (fun (w2 : World) (h : Below wr.heap.size wr w2) => Size_any l[k].a w2 150 A1 c1 (by decide) (by decide) (hKA.below h))
      have HBx := Lib.hid (fun (w2 : World) (h : Below wr.heap.size wr w2) => Size_any l[k].b w2 150 B1 d1 (by decide) (by decide) (hKB.below h))
      have hgl := World.block_lt_of_cell? _ _ hS.1
      have HS := Lib.hid hS
      obtain ⟨-, -, -, -, -, -, -, -, -, -, -, e11, -⟩ := hS
      have hM1 := Lib.hid hM1
      clear hM hRw hI hT hE hKA hKB
      generalize l[k] = u at *
      generalize rsE u.a 150 = ra at *
      generalize rsE u.b 150 = rb at *
      generalize smL u.th = bt at *
      generalize smL u.el = be at *
      have HB := Lib.hid (Below.refl wr.heap.size wr)
      by_cases h1 : 150 < ra
      · have g1 : decide (ra > 150) = true := by simp; omega
        have hF : Hid (false = r) := Lib.hid (by have := hM1.out; simpa [h1] using this)
        clear hM1
        go_wp2_with (first
          | (go_at_call_of 26 (Value.slice T1 u.th.length m1); refine (HT.out _ HB.out).mono ?_; rintro e w2 ⟨rfl, hb2⟩; have HB := Lib.hid (HB.out.trans (hb2.mono HB.out.size)); have hSS := HS.out.keep (HB.out.block _ hgl); obtain ⟨-, -, -, -, -, -, -, -, -, -, -, -, e12⟩ := hSS; clear hb2)
          | (go_at_call_of 26 (Value.slice E1 u.el.length n1); refine (HE.out _ HB.out).mono ?_; rintro e w2 ⟨rfl, hb2⟩; have HB := Lib.hid (HB.out.trans (hb2.mono HB.out.size)); have hSS := HS.out.keep (HB.out.block _ hgl); obtain ⟨-, -, -, f3, f4, f5, f6, -, -, -, -, -, -⟩ := hSS; clear hb2)
          | (go_at_call_of 10 (Value.slice A1 u.a.kids.length (u.a.kids.length + c1)); refine (HA.out _ HB.out).mono ?_; rintro e w2 ⟨rfl, hb2⟩; have HB := Lib.hid (HB.out.trans (hb2.mono HB.out.size)); have hSS := HS.out.keep (HB.out.block _ hgl); obtain ⟨-, -, -, -, -, -, -, f7, f8, f9, f10, -, -⟩ := hSS; clear hb2)
          | (go_at_call_of 10 (Value.slice B1 u.b.kids.length (u.b.kids.length + d1)); refine (HBx.out _ HB.out).mono ?_; rintro e w2 ⟨rfl, hb2⟩; have HB := Lib.hid (HB.out.trans (hb2.mono HB.out.size)); have hSS := HS.out.keep (HB.out.block _ hgl); clear hb2 hSS))
        go_ret
        exact ⟨ret_bl hF.out, hW.out.trans (HB.out.mono hW.out.size)⟩
      · have g1 : decide (ra > 150) = false := by simp; omega
        by_cases h2 : 150 < rb
        · have g2 : decide (rb > 150) = true := by simp; omega
          have hF : Hid (false = r) := Lib.hid (by have := hM1.out; simpa [h1, h2] using this)
          clear hM1
          go_wp2_with (first
            | (go_at_call_of 26 (Value.slice T1 u.th.length m1); refine (HT.out _ HB.out).mono ?_; rintro e w2 ⟨rfl, hb2⟩; have HB := Lib.hid (HB.out.trans (hb2.mono HB.out.size)); have hSS := HS.out.keep (HB.out.block _ hgl); obtain ⟨-, -, -, -, -, -, -, -, -, -, -, -, e12⟩ := hSS; clear hb2)
            | (go_at_call_of 26 (Value.slice E1 u.el.length n1); refine (HE.out _ HB.out).mono ?_; rintro e w2 ⟨rfl, hb2⟩; have HB := Lib.hid (HB.out.trans (hb2.mono HB.out.size)); have hSS := HS.out.keep (HB.out.block _ hgl); obtain ⟨-, -, -, f3, f4, f5, f6, -, -, -, -, -, -⟩ := hSS; clear hb2)
            | (go_at_call_of 10 (Value.slice A1 u.a.kids.length (u.a.kids.length + c1)); refine (HA.out _ HB.out).mono ?_; rintro e w2 ⟨rfl, hb2⟩; have HB := Lib.hid (HB.out.trans (hb2.mono HB.out.size)); have hSS := HS.out.keep (HB.out.block _ hgl); obtain ⟨-, -, -, -, -, -, -, f7, f8, f9, f10, -, -⟩ := hSS; clear hb2)
            | (go_at_call_of 10 (Value.slice B1 u.b.kids.length (u.b.kids.length + d1)); refine (HBx.out _ HB.out).mono ?_; rintro e w2 ⟨rfl, hb2⟩; have HB := Lib.hid (HB.out.trans (hb2.mono HB.out.size)); have hSS := HS.out.keep (HB.out.block _ hgl); clear hb2 hSS))
          go_ret
          exact ⟨ret_bl hF.out, hW.out.trans (HB.out.mono hW.out.size)⟩
        · have g2 : decide (rb > 150) = false := by simp; omega
          cases bt with
          | false =>
            have hF : Hid (false = r) := Lib.hid (by have := hM1.out; simpa [h1, h2] using this)
            clear hM1
            go_wp2_with (first
              | (go_at_call_of 26 (Value.slice T1 u.th.length m1); refine (HT.out _ HB.out).mono ?_; rintro e w2 ⟨rfl, hb2⟩; have HB := Lib.hid (HB.out.trans (hb2.mono HB.out.size)); have hSS := HS.out.keep (HB.out.block _ hgl); obtain ⟨-, -, -, -, -, -, -, -, -, -, -, -, e12⟩ := hSS; clear hb2)
              | (go_at_call_of 26 (Value.slice E1 u.el.length n1); refine (HE.out _ HB.out).mono ?_; rintro e w2 ⟨rfl, hb2⟩; have HB := Lib.hid (HB.out.trans (hb2.mono HB.out.size)); have hSS := HS.out.keep (HB.out.block _ hgl); obtain ⟨-, -, -, f3, f4, f5, f6, -, -, -, -, -, -⟩ := hSS; clear hb2)
              | (go_at_call_of 10 (Value.slice A1 u.a.kids.length (u.a.kids.length + c1)); refine (HA.out _ HB.out).mono ?_; rintro e w2 ⟨rfl, hb2⟩; have HB := Lib.hid (HB.out.trans (hb2.mono HB.out.size)); have hSS := HS.out.keep (HB.out.block _ hgl); obtain ⟨-, -, -, -, -, -, -, f7, f8, f9, f10, -, -⟩ := hSS; clear hb2)
              | (go_at_call_of 10 (Value.slice B1 u.b.kids.length (u.b.kids.length + d1)); refine (HBx.out _ HB.out).mono ?_; rintro e w2 ⟨rfl, hb2⟩; have HB := Lib.hid (HB.out.trans (hb2.mono HB.out.size)); have hSS := HS.out.keep (HB.out.block _ hgl); clear hb2 hSS))
            go_ret
            exact ⟨ret_bl hF.out, hW.out.trans (HB.out.mono hW.out.size)⟩
          | true =>
            cases be with
            | false =>
              have hF : Hid (false = r) := Lib.hid (by have := hM1.out; simpa [h1, h2] using this)
              clear hM1
              go_wp2_with (first
                | (go_at_call_of 26 (Value.slice T1 u.th.length m1); refine (HT.out _ HB.out).mono ?_; rintro e w2 ⟨rfl, hb2⟩; have HB := Lib.hid (HB.out.trans (hb2.mono HB.out.size)); have hSS := HS.out.keep (HB.out.block _ hgl); obtain ⟨-, -, -, -, -, -, -, -, -, -, -, -, e12⟩ := hSS; clear hb2)
                | (go_at_call_of 26 (Value.slice E1 u.el.length n1); refine (HE.out _ HB.out).mono ?_; rintro e w2 ⟨rfl, hb2⟩; have HB := Lib.hid (HB.out.trans (hb2.mono HB.out.size)); have hSS := HS.out.keep (HB.out.block _ hgl); obtain ⟨-, -, -, f3, f4, f5, f6, -, -, -, -, -, -⟩ := hSS; clear hb2)
                | (go_at_call_of 10 (Value.slice A1 u.a.kids.length (u.a.kids.length + c1)); refine (HA.out _ HB.out).mono ?_; rintro e w2 ⟨rfl, hb2⟩; have HB := Lib.hid (HB.out.trans (hb2.mono HB.out.size)); have hSS := HS.out.keep (HB.out.block _ hgl); obtain ⟨-, -, -, -, -, -, -, f7, f8, f9, f10, -, -⟩ := hSS; clear hb2)
                | (go_at_call_of 10 (Value.slice B1 u.b.kids.length (u.b.kids.length + d1)); refine (HBx.out _ HB.out).mono ?_; rintro e w2 ⟨rfl, hb2⟩; have HB := Lib.hid (HB.out.trans (hb2.mono HB.out.size)); have hSS := HS.out.keep (HB.out.block _ hgl); clear hb2 hSS))
              go_ret
              exact ⟨ret_bl hF.out, hW.out.trans (HB.out.mono hW.out.size)⟩
            | true =>
              have hM2 : Hid ((smA (l.drop (k + 1)) && decide (l.length ≤ 150)) = r) := Lib.hid (by have := hM1.out; simpa [h1, h2] using this)
              clear hM1
              go_wp2_with (first
                | (go_at_call_of 26 (Value.slice T1 u.th.length m1); refine (HT.out _ HB.out).mono ?_; rintro e w2 ⟨rfl, hb2⟩; have HB := Lib.hid (HB.out.trans (hb2.mono HB.out.size)); have hSS := HS.out.keep (HB.out.block _ hgl); obtain ⟨-, -, -, -, -, -, -, -, -, -, -, -, e12⟩ := hSS; clear hb2)
                | (go_at_call_of 26 (Value.slice E1 u.el.length n1); refine (HE.out _ HB.out).mono ?_; rintro e w2 ⟨rfl, hb2⟩; have HB := Lib.hid (HB.out.trans (hb2.mono HB.out.size)); have hSS := HS.out.keep (HB.out.block _ hgl); obtain ⟨-, -, -, f3, f4, f5, f6, -, -, -, -, -, -⟩ := hSS; clear hb2)
                | (go_at_call_of 10 (Value.slice A1 u.a.kids.length (u.a.kids.length + c1)); refine (HA.out _ HB.out).mono ?_; rintro e w2 ⟨rfl, hb2⟩; have HB := Lib.hid (HB.out.trans (hb2.mono HB.out.size)); have hSS := HS.out.keep (HB.out.block _ hgl); obtain ⟨-, -, -, -, -, -, -, f7, f8, f9, f10, -, -⟩ := hSS; clear hb2)
                | (go_at_call_of 10 (Value.slice B1 u.b.kids.length (u.b.kids.length + d1)); refine (HBx.out _ HB.out).mono ?_; rintro e w2 ⟨rfl, hb2⟩; have HB := Lib.hid (HB.out.trans (hb2.mono HB.out.size)); have hSS := HS.out.keep (HB.out.block _ hgl); clear hb2 hSS))
              go_roundg g
              case measure => omega
              case rel => exact ⟨k + 1, by omega, by go_num, hM2, Lib.hid (hW.out.trans (HB.out.mono hW.out.size))⟩
    · have hF : Hid (decide ((l.length : Int) ≤ 150) = r) := Lib.hid (by have := hM.out; rw [List.drop_eq_nil_of_le (by omega), smA] at this; rw [← this]; simp; omega)
      clear hM
      go_wp2
      go_ret
      exact ⟨ret_bl hF.out, hW.out⟩
mutual
theorem Small_any : ∀ x : St, SmallC x.th ∧ SmallC x.el
  | .mk _ _ _ _ _ th el => ⟨Small_step th (Small_all th), Small_step el (Small_all el)⟩
theorem Small_all : ∀ (l : List St), ∀ x ∈ l, SmallC x.th ∧ SmallC x.el
  | [], x, hx => by cases hx
  | y :: ys, x, hx => by
    rcases List.mem_cons.1 hx with h | h
    · rw [h]; exact Small_any y
    · exact Small_all ys x h
end
theorem Small_of (l : List St) : SmallC l := Small_step l (Small_all l)
def fewL (l : List (List St)) : Bool := l.all fun x => !decide (150 < mnL x 150 0) && smL x
def fewM (n : Nat) (s : Nat) (o : On) : Bool := fewL o.list && (decide ((n : Int) ≤ 30) && decide ((s : Int) ≤ 100))
set_option maxHeartbeats 4000000 in
set_option maxRecDepth 100000 in
theorem Few_any (x : ByteArray) (VA : Option Addr) (vn vm : Nat) (o : On) (a : OnA) (wi pa : Int) (w : World) (hO : OnR w o a) :
    Calls Tryd.prog 9 #[pgv x VA vn vm o a wi pa] w (BB (fewM vn x.size o) w) := by
  have hb0 := (Below.refl w.heap.size w).alloc (Nat.le_refl _) (.cells (pgArr x VA vn vm o a wi pa) 26)
  have HX0 := Lib.hid (newBlk w (.cells (pgArr x VA vn vm o a wi pa) 26) _ rfl)
  have HB0 := Lib.hid hb0
  have HO := Lib.hid hO
  obtain ⟨r, hr⟩ : ∃ r, fewM vn x.size o = r := ⟨_, rfl⟩
  rw [hr]
  have HR : Hid ((fewL (o.list.drop 0) && (decide ((vn : Int) ≤ 30) && decide ((x.size : Int) ≤ 100))) = r) := Lib.hid hr
  clear hr hO hb0
  have HM := Lib.hid (fun (wx : World) (l : List St) (A : Option Addr) (m : Nat) (hb : Below w.heap.size w wx) (hR : StsR w l A) (hn : l.length ≤ maxLen) => Many_of l wx A m 150 (hR.below hb) hn)
  have HS := Lib.hid (fun (wx : World) (l : List St) (A : Option Addr) (m : Nat) (hb : Below w.heap.size w wx) (hR : StsR w l A) (hn : l.length ≤ maxLen) => Small_of l wx A m (hR.below hb) hn)
  go_enter Tryd.func9, Tryd.ntmps9
  go_wp2_with fail
  go_loopg [3] 5 (fun gk i wr => ∃ (j : Nat), j + gk = 5 ∧ i = .int .i64 j ∧ Hid ((fewL (o.list.drop j) && (decide ((vn : Int) ≤ 30) && decide ((x.size : Int) ≤ 100))) = r) ∧ Hid (Below w.heap.size w wr) ∧ Hid (wr.heap[w.heap.size]? = some (.cells (pgArr x VA vn vm o a wi pa) 26 (0, 0))))
  case atStart => exact ⟨0, rfl, rfl, HR, HB0, HX0⟩
  case round =>
    obtain ⟨j, hj, rfl, hE, hW, hX⟩ := hrel
    clear HR HB0 HX0
    obtain ⟨s0, s1, s2, s3, s4, s5, s6, s7, s8⟩ := cells9 hX.out
    have hx0 := blkLt hX.out
    match j, hj with
    | 0, hj =>
      obtain rfl : gk = 5 := by omega
      have hE1 : ((!decide (150 < mnL o.l0 150 0) && smL o.l0) && fewL (o.list.drop 1) && (decide ((vn : Int) ≤ 30) && decide ((x.size : Int) ≤ 100))) = r := hE.out
      have HJS := Lib.hid (HS.out wr o.l0 a.a0 a.m0 hW.out HO.out.r0 HO.out.n0)
      have HB := Lib.hid (Below.refl wr.heap.size wr)
      obtain ⟨q, hq⟩ : ∃ q, mnL o.l0 150 0 = q := ⟨_, rfl⟩
      rw [hq] at hE1
      generalize smL o.l0 = bs at *
      have hq := Lib.hid hq
      clear hE
      by_cases h1 : 150 < q
      · have g1 : decide (q > 150) = true := by simp; omega
        have hF : Hid (false = r) := Lib.hid (by rw [← hE1]; simp [h1])
        clear hE1
        go_wp2_with (first
          | (go_at_call 26; refine HJS.out.mono ?_; rintro e w2 ⟨rfl, hb2⟩; have HB := Lib.hid (HB.out.trans (hb2.mono HB.out.size)); have HX1 := Lib.hid ((HB.out.block _ hx0).trans hX.out); have t0 := (cells9 HX1.out).2.2.1; clear hb2)
          | (go_at_call 27; refine (HM.out _ o.l0 a.a0 a.m0 (hW.out.trans (HB.out.mono hW.out.size)) HO.out.r0 HO.out.n0).mono ?_; rintro e w2 ⟨he, hb2⟩; rw [hq.out] at he; subst he; have HB := Lib.hid (HB.out.trans (hb2.mono HB.out.size)); have HX1 := Lib.hid ((HB.out.block _ hx0).trans hX.out); clear hb2))
        go_ret
        exact ⟨ret_bl hF.out, hW.out.trans (HB.out.mono hW.out.size)⟩
      · have g1 : decide (q > 150) = false := by simp; omega
        cases bs with
        | false =>
          have hF : Hid (false = r) := Lib.hid (by rw [← hE1]; simp [h1])
          clear hE1
          go_wp2_with (first
            | (go_at_call 26; refine HJS.out.mono ?_; rintro e w2 ⟨rfl, hb2⟩; have HB := Lib.hid (HB.out.trans (hb2.mono HB.out.size)); have HX1 := Lib.hid ((HB.out.block _ hx0).trans hX.out); have t0 := (cells9 HX1.out).2.2.1; clear hb2)
            | (go_at_call 27; refine (HM.out _ o.l0 a.a0 a.m0 (hW.out.trans (HB.out.mono hW.out.size)) HO.out.r0 HO.out.n0).mono ?_; rintro e w2 ⟨he, hb2⟩; rw [hq.out] at he; subst he; have HB := Lib.hid (HB.out.trans (hb2.mono HB.out.size)); have HX1 := Lib.hid ((HB.out.block _ hx0).trans hX.out); clear hb2))
          go_ret
          exact ⟨ret_bl hF.out, hW.out.trans (HB.out.mono hW.out.size)⟩
        | true =>
          have hG : Hid ((fewL (o.list.drop 1) && (decide ((vn : Int) ≤ 30) && decide ((x.size : Int) ≤ 100))) = r) := Lib.hid (by rw [← hE1]; simp [h1])
          clear hE1
          go_wp2_with (first
            | (go_at_call 26; refine HJS.out.mono ?_; rintro e w2 ⟨rfl, hb2⟩; have HB := Lib.hid (HB.out.trans (hb2.mono HB.out.size)); have HX1 := Lib.hid ((HB.out.block _ hx0).trans hX.out); have t0 := (cells9 HX1.out).2.2.1; clear hb2)
            | (go_at_call 27; refine (HM.out _ o.l0 a.a0 a.m0 (hW.out.trans (HB.out.mono hW.out.size)) HO.out.r0 HO.out.n0).mono ?_; rintro e w2 ⟨he, hb2⟩; rw [hq.out] at he; subst he; have HB := Lib.hid (HB.out.trans (hb2.mono HB.out.size)); have HX1 := Lib.hid ((HB.out.block _ hx0).trans hX.out); clear hb2))
          go_roundg 4
          case measure => omega
          case rel => exact ⟨1, by omega, by go_num, hG, Lib.hid (hW.out.trans (HB.out.mono hW.out.size)), HX1⟩
    | 1, hj =>
      obtain rfl : gk = 4 := by omega
      have hE1 : ((!decide (150 < mnL o.l1 150 0) && smL o.l1) && fewL (o.list.drop 2) && (decide ((vn : Int) ≤ 30) && decide ((x.size : Int) ≤ 100))) = r := hE.out
      have HJS := Lib.hid (HS.out wr o.l1 a.a1 a.m1 hW.out HO.out.r1 HO.out.n1)
      have HB := Lib.hid (Below.refl wr.heap.size wr)
      obtain ⟨q, hq⟩ : ∃ q, mnL o.l1 150 0 = q := ⟨_, rfl⟩
      rw [hq] at hE1
      generalize smL o.l1 = bs at *
      have hq := Lib.hid hq
      clear hE
      by_cases h1 : 150 < q
      · have g1 : decide (q > 150) = true := by simp; omega
        have hF : Hid (false = r) := Lib.hid (by rw [← hE1]; simp [h1])
        clear hE1
        go_wp2_with (first
          | (go_at_call 26; refine HJS.out.mono ?_; rintro e w2 ⟨rfl, hb2⟩; have HB := Lib.hid (HB.out.trans (hb2.mono HB.out.size)); have HX1 := Lib.hid ((HB.out.block _ hx0).trans hX.out); have t1 := (cells9 HX1.out).2.2.2.1; clear hb2)
          | (go_at_call 27; refine (HM.out _ o.l1 a.a1 a.m1 (hW.out.trans (HB.out.mono hW.out.size)) HO.out.r1 HO.out.n1).mono ?_; rintro e w2 ⟨he, hb2⟩; rw [hq.out] at he; subst he; have HB := Lib.hid (HB.out.trans (hb2.mono HB.out.size)); have HX1 := Lib.hid ((HB.out.block _ hx0).trans hX.out); clear hb2))
        go_ret
        exact ⟨ret_bl hF.out, hW.out.trans (HB.out.mono hW.out.size)⟩
      · have g1 : decide (q > 150) = false := by simp; omega
        cases bs with
        | false =>
          have hF : Hid (false = r) := Lib.hid (by rw [← hE1]; simp [h1])
          clear hE1
          go_wp2_with (first
            | (go_at_call 26; refine HJS.out.mono ?_; rintro e w2 ⟨rfl, hb2⟩; have HB := Lib.hid (HB.out.trans (hb2.mono HB.out.size)); have HX1 := Lib.hid ((HB.out.block _ hx0).trans hX.out); have t1 := (cells9 HX1.out).2.2.2.1; clear hb2)
            | (go_at_call 27; refine (HM.out _ o.l1 a.a1 a.m1 (hW.out.trans (HB.out.mono hW.out.size)) HO.out.r1 HO.out.n1).mono ?_; rintro e w2 ⟨he, hb2⟩; rw [hq.out] at he; subst he; have HB := Lib.hid (HB.out.trans (hb2.mono HB.out.size)); have HX1 := Lib.hid ((HB.out.block _ hx0).trans hX.out); clear hb2))
          go_ret
          exact ⟨ret_bl hF.out, hW.out.trans (HB.out.mono hW.out.size)⟩
        | true =>
          have hG : Hid ((fewL (o.list.drop 2) && (decide ((vn : Int) ≤ 30) && decide ((x.size : Int) ≤ 100))) = r) := Lib.hid (by rw [← hE1]; simp [h1])
          clear hE1
          go_wp2_with (first
            | (go_at_call 26; refine HJS.out.mono ?_; rintro e w2 ⟨rfl, hb2⟩; have HB := Lib.hid (HB.out.trans (hb2.mono HB.out.size)); have HX1 := Lib.hid ((HB.out.block _ hx0).trans hX.out); have t1 := (cells9 HX1.out).2.2.2.1; clear hb2)
            | (go_at_call 27; refine (HM.out _ o.l1 a.a1 a.m1 (hW.out.trans (HB.out.mono hW.out.size)) HO.out.r1 HO.out.n1).mono ?_; rintro e w2 ⟨he, hb2⟩; rw [hq.out] at he; subst he; have HB := Lib.hid (HB.out.trans (hb2.mono HB.out.size)); have HX1 := Lib.hid ((HB.out.block _ hx0).trans hX.out); clear hb2))
          go_roundg 3
          case measure => omega
          case rel => exact ⟨2, by omega, by go_num, hG, Lib.hid (hW.out.trans (HB.out.mono hW.out.size)), HX1⟩
    | 2, hj =>
      obtain rfl : gk = 3 := by omega
      have hE1 : ((!decide (150 < mnL o.l2 150 0) && smL o.l2) && fewL (o.list.drop 3) && (decide ((vn : Int) ≤ 30) && decide ((x.size : Int) ≤ 100))) = r := hE.out
      have HJS := Lib.hid (HS.out wr o.l2 a.a2 a.m2 hW.out HO.out.r2 HO.out.n2)
      have HB := Lib.hid (Below.refl wr.heap.size wr)
      obtain ⟨q, hq⟩ : ∃ q, mnL o.l2 150 0 = q := ⟨_, rfl⟩
      rw [hq] at hE1
      generalize smL o.l2 = bs at *
      have hq := Lib.hid hq
      clear hE
      by_cases h1 : 150 < q
      · have g1 : decide (q > 150) = true := by simp; omega
        have hF : Hid (false = r) := Lib.hid (by rw [← hE1]; simp [h1])
        clear hE1
        go_wp2_with (first
          | (go_at_call 26; refine HJS.out.mono ?_; rintro e w2 ⟨rfl, hb2⟩; have HB := Lib.hid (HB.out.trans (hb2.mono HB.out.size)); have HX1 := Lib.hid ((HB.out.block _ hx0).trans hX.out); have t2 := (cells9 HX1.out).2.2.2.2.1; clear hb2)
          | (go_at_call 27; refine (HM.out _ o.l2 a.a2 a.m2 (hW.out.trans (HB.out.mono hW.out.size)) HO.out.r2 HO.out.n2).mono ?_; rintro e w2 ⟨he, hb2⟩; rw [hq.out] at he; subst he; have HB := Lib.hid (HB.out.trans (hb2.mono HB.out.size)); have HX1 := Lib.hid ((HB.out.block _ hx0).trans hX.out); clear hb2))
        go_ret
        exact ⟨ret_bl hF.out, hW.out.trans (HB.out.mono hW.out.size)⟩
      · have g1 : decide (q > 150) = false := by simp; omega
        cases bs with
        | false =>
          have hF : Hid (false = r) := Lib.hid (by rw [← hE1]; simp [h1])
          clear hE1
          go_wp2_with (first
            | (go_at_call 26; refine HJS.out.mono ?_; rintro e w2 ⟨rfl, hb2⟩; have HB := Lib.hid (HB.out.trans (hb2.mono HB.out.size)); have HX1 := Lib.hid ((HB.out.block _ hx0).trans hX.out); have t2 := (cells9 HX1.out).2.2.2.2.1; clear hb2)
            | (go_at_call 27; refine (HM.out _ o.l2 a.a2 a.m2 (hW.out.trans (HB.out.mono hW.out.size)) HO.out.r2 HO.out.n2).mono ?_; rintro e w2 ⟨he, hb2⟩; rw [hq.out] at he; subst he; have HB := Lib.hid (HB.out.trans (hb2.mono HB.out.size)); have HX1 := Lib.hid ((HB.out.block _ hx0).trans hX.out); clear hb2))
          go_ret
          exact ⟨ret_bl hF.out, hW.out.trans (HB.out.mono hW.out.size)⟩
        | true =>
          have hG : Hid ((fewL (o.list.drop 3) && (decide ((vn : Int) ≤ 30) && decide ((x.size : Int) ≤ 100))) = r) := Lib.hid (by rw [← hE1]; simp [h1])
          clear hE1
          go_wp2_with (first
            | (go_at_call 26; refine HJS.out.mono ?_; rintro e w2 ⟨rfl, hb2⟩; have HB := Lib.hid (HB.out.trans (hb2.mono HB.out.size)); have HX1 := Lib.hid ((HB.out.block _ hx0).trans hX.out); have t2 := (cells9 HX1.out).2.2.2.2.1; clear hb2)
            | (go_at_call 27; refine (HM.out _ o.l2 a.a2 a.m2 (hW.out.trans (HB.out.mono hW.out.size)) HO.out.r2 HO.out.n2).mono ?_; rintro e w2 ⟨he, hb2⟩; rw [hq.out] at he; subst he; have HB := Lib.hid (HB.out.trans (hb2.mono HB.out.size)); have HX1 := Lib.hid ((HB.out.block _ hx0).trans hX.out); clear hb2))
          go_roundg 2
          case measure => omega
          case rel => exact ⟨3, by omega, by go_num, hG, Lib.hid (hW.out.trans (HB.out.mono hW.out.size)), HX1⟩
    | 3, hj =>
      obtain rfl : gk = 2 := by omega
      have hE1 : ((!decide (150 < mnL o.l3 150 0) && smL o.l3) && fewL (o.list.drop 4) && (decide ((vn : Int) ≤ 30) && decide ((x.size : Int) ≤ 100))) = r := hE.out
      have HJS := Lib.hid (HS.out wr o.l3 a.a3 a.m3 hW.out HO.out.r3 HO.out.n3)
      have HB := Lib.hid (Below.refl wr.heap.size wr)
      obtain ⟨q, hq⟩ : ∃ q, mnL o.l3 150 0 = q := ⟨_, rfl⟩
      rw [hq] at hE1
      generalize smL o.l3 = bs at *
      have hq := Lib.hid hq
      clear hE
      by_cases h1 : 150 < q
      · have g1 : decide (q > 150) = true := by simp; omega
        have hF : Hid (false = r) := Lib.hid (by rw [← hE1]; simp [h1])
        clear hE1
        go_wp2_with (first
          | (go_at_call 26; refine HJS.out.mono ?_; rintro e w2 ⟨rfl, hb2⟩; have HB := Lib.hid (HB.out.trans (hb2.mono HB.out.size)); have HX1 := Lib.hid ((HB.out.block _ hx0).trans hX.out); have t3 := (cells9 HX1.out).2.2.2.2.2.1; clear hb2)
          | (go_at_call 27; refine (HM.out _ o.l3 a.a3 a.m3 (hW.out.trans (HB.out.mono hW.out.size)) HO.out.r3 HO.out.n3).mono ?_; rintro e w2 ⟨he, hb2⟩; rw [hq.out] at he; subst he; have HB := Lib.hid (HB.out.trans (hb2.mono HB.out.size)); have HX1 := Lib.hid ((HB.out.block _ hx0).trans hX.out); clear hb2))
        go_ret
        exact ⟨ret_bl hF.out, hW.out.trans (HB.out.mono hW.out.size)⟩
      · have g1 : decide (q > 150) = false := by simp; omega
        cases bs with
        | false =>
          have hF : Hid (false = r) := Lib.hid (by rw [← hE1]; simp [h1])
          clear hE1
          go_wp2_with (first
            | (go_at_call 26; refine HJS.out.mono ?_; rintro e w2 ⟨rfl, hb2⟩; have HB := Lib.hid (HB.out.trans (hb2.mono HB.out.size)); have HX1 := Lib.hid ((HB.out.block _ hx0).trans hX.out); have t3 := (cells9 HX1.out).2.2.2.2.2.1; clear hb2)
            | (go_at_call 27; refine (HM.out _ o.l3 a.a3 a.m3 (hW.out.trans (HB.out.mono hW.out.size)) HO.out.r3 HO.out.n3).mono ?_; rintro e w2 ⟨he, hb2⟩; rw [hq.out] at he; subst he; have HB := Lib.hid (HB.out.trans (hb2.mono HB.out.size)); have HX1 := Lib.hid ((HB.out.block _ hx0).trans hX.out); clear hb2))
          go_ret
          exact ⟨ret_bl hF.out, hW.out.trans (HB.out.mono hW.out.size)⟩
        | true =>
          have hG : Hid ((fewL (o.list.drop 4) && (decide ((vn : Int) ≤ 30) && decide ((x.size : Int) ≤ 100))) = r) := Lib.hid (by rw [← hE1]; simp [h1])
          clear hE1
          go_wp2_with (first
            | (go_at_call 26; refine HJS.out.mono ?_; rintro e w2 ⟨rfl, hb2⟩; have HB := Lib.hid (HB.out.trans (hb2.mono HB.out.size)); have HX1 := Lib.hid ((HB.out.block _ hx0).trans hX.out); have t3 := (cells9 HX1.out).2.2.2.2.2.1; clear hb2)
            | (go_at_call 27; refine (HM.out _ o.l3 a.a3 a.m3 (hW.out.trans (HB.out.mono hW.out.size)) HO.out.r3 HO.out.n3).mono ?_; rintro e w2 ⟨he, hb2⟩; rw [hq.out] at he; subst he; have HB := Lib.hid (HB.out.trans (hb2.mono HB.out.size)); have HX1 := Lib.hid ((HB.out.block _ hx0).trans hX.out); clear hb2))
          go_roundg 1
          case measure => omega
          case rel => exact ⟨4, by omega, by go_num, hG, Lib.hid (hW.out.trans (HB.out.mono hW.out.size)), HX1⟩
    | 4, hj =>
      obtain rfl : gk = 1 := by omega
      have hE1 : ((!decide (150 < mnL o.l4 150 0) && smL o.l4) && fewL (o.list.drop 5) && (decide ((vn : Int) ≤ 30) && decide ((x.size : Int) ≤ 100))) = r := hE.out
      have HJS := Lib.hid (HS.out wr o.l4 a.a4 a.m4 hW.out HO.out.r4 HO.out.n4)
      have HB := Lib.hid (Below.refl wr.heap.size wr)
      obtain ⟨q, hq⟩ : ∃ q, mnL o.l4 150 0 = q := ⟨_, rfl⟩
      rw [hq] at hE1
      generalize smL o.l4 = bs at *
      have hq := Lib.hid hq
      clear hE
      by_cases h1 : 150 < q
      · have g1 : decide (q > 150) = true := by simp; omega
        have hF : Hid (false = r) := Lib.hid (by rw [← hE1]; simp [h1])
        clear hE1
        go_wp2_with (first
          | (go_at_call 26; refine HJS.out.mono ?_; rintro e w2 ⟨rfl, hb2⟩; have HB := Lib.hid (HB.out.trans (hb2.mono HB.out.size)); have HX1 := Lib.hid ((HB.out.block _ hx0).trans hX.out); have t4 := (cells9 HX1.out).2.2.2.2.2.2.1; clear hb2)
          | (go_at_call 27; refine (HM.out _ o.l4 a.a4 a.m4 (hW.out.trans (HB.out.mono hW.out.size)) HO.out.r4 HO.out.n4).mono ?_; rintro e w2 ⟨he, hb2⟩; rw [hq.out] at he; subst he; have HB := Lib.hid (HB.out.trans (hb2.mono HB.out.size)); have HX1 := Lib.hid ((HB.out.block _ hx0).trans hX.out); clear hb2))
        go_ret
        exact ⟨ret_bl hF.out, hW.out.trans (HB.out.mono hW.out.size)⟩
      · have g1 : decide (q > 150) = false := by simp; omega
        cases bs with
        | false =>
          have hF : Hid (false = r) := Lib.hid (by rw [← hE1]; simp [h1])
          clear hE1
          go_wp2_with (first
            | (go_at_call 26; refine HJS.out.mono ?_; rintro e w2 ⟨rfl, hb2⟩; have HB := Lib.hid (HB.out.trans (hb2.mono HB.out.size)); have HX1 := Lib.hid ((HB.out.block _ hx0).trans hX.out); have t4 := (cells9 HX1.out).2.2.2.2.2.2.1; clear hb2)
            | (go_at_call 27; refine (HM.out _ o.l4 a.a4 a.m4 (hW.out.trans (HB.out.mono hW.out.size)) HO.out.r4 HO.out.n4).mono ?_; rintro e w2 ⟨he, hb2⟩; rw [hq.out] at he; subst he; have HB := Lib.hid (HB.out.trans (hb2.mono HB.out.size)); have HX1 := Lib.hid ((HB.out.block _ hx0).trans hX.out); clear hb2))
          go_ret
          exact ⟨ret_bl hF.out, hW.out.trans (HB.out.mono hW.out.size)⟩
        | true =>
          have hG : Hid ((fewL (o.list.drop 5) && (decide ((vn : Int) ≤ 30) && decide ((x.size : Int) ≤ 100))) = r) := Lib.hid (by rw [← hE1]; simp [h1])
          clear hE1
          go_wp2_with (first
            | (go_at_call 26; refine HJS.out.mono ?_; rintro e w2 ⟨rfl, hb2⟩; have HB := Lib.hid (HB.out.trans (hb2.mono HB.out.size)); have HX1 := Lib.hid ((HB.out.block _ hx0).trans hX.out); have t4 := (cells9 HX1.out).2.2.2.2.2.2.1; clear hb2)
            | (go_at_call 27; refine (HM.out _ o.l4 a.a4 a.m4 (hW.out.trans (HB.out.mono hW.out.size)) HO.out.r4 HO.out.n4).mono ?_; rintro e w2 ⟨he, hb2⟩; rw [hq.out] at he; subst he; have HB := Lib.hid (HB.out.trans (hb2.mono HB.out.size)); have HX1 := Lib.hid ((HB.out.block _ hx0).trans hX.out); clear hb2))
          go_roundg 0
          case measure => omega
          case rel => exact ⟨5, by omega, by go_num, hG, Lib.hid (hW.out.trans (HB.out.mono hW.out.size)), HX1⟩
    | 5, hj =>
      obtain rfl : gk = 0 := by omega
      have hE1 : (decide ((vn : Int) ≤ 30) && decide ((x.size : Int) ≤ 100)) = r := hE.out
      have hF := Lib.hid hE1
      clear hE hE1
      by_cases hv : (vn : Int) ≤ 30
      · have hvd : decide ((vn : Int) ≤ 30) = true := by simp; omega
        go_wp2
        go_ret
        exact ⟨ret_bl (by rw [← hF.out]; (try simp [hv]) <;> omega), hW.out⟩
      · have hvd : decide ((vn : Int) ≤ 30) = false := by simp; omega
        go_wp2
        go_ret
        exact ⟨ret_bl (by rw [← hF.out]; (try simp [hv]) <;> omega), hW.out⟩
    | j + 6, hj => omega
end Go.Proofs.YtmofclpheioepaaDoor
