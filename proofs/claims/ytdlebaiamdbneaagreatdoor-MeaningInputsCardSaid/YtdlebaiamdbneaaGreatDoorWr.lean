/- Texts of one proof: VxI. -/
import Derived.Test.YtdlebaiamdbneaaGreatDoorYq
import Derived.Test.YtdlebaiamdbneaaGreatDoorZw
set_option linter.unusedVariables false
set_option linter.unusedSimpArgs false
set_option maxRecDepth 100000
set_option maxHeartbeats 8000000
namespace Go.Proofs.YtdlebaiamdbneaaGreatDoor
open Go.RowKit
namespace M
open I
open U (Ex St StsR StR StAt btw btw_iff ev eArr KidsE newBlk blkLt Vr VarsR VrAt KpL sArr two_kids owns_below new_cells gbRefl gbAlloc gbTrans gbBelow kbS kbL kbS_mk kbL_mem)
open R (epanic bAllocX insR LeftP erOf cell1 limS WfL)
open C (V1)
theorem usE_eq (k : Int) (t : Ex) : usE k t = (usK k t.kids || (decide (t.op = 3) && decide (t.n = k))) := by cases t; rw [usE]; rfl
def UsesC (t : Ex) : Prop := ∀ (w : World) (k : Int) (A : Option Addr) (c : Nat), t.kids.length ≤ maxLen → KidsE w t.kids A → Calls Tryz.prog 31 #[ev t A c, .int .i64 k] w (V1 (.bool (usE k t)) w)
theorem uses_step (t : Ex) (ih : ∀ u ∈ t.kids, UsesC u) : UsesC t := by
 intro w k A c hkl hK
 have IH := Lib.hid ih
 have hKH := Lib.hid hK
 have HX := Lib.hid (newBlk w (.cells (eArr t A c) 46) _ rfl)
 have HB0 := Lib.hid (grAlloc w (.cells (eArr t A c) 46))
 obtain ⟨⟨b0, b1, b2, b3⟩, -⟩ := C.cells4C HX.out
 obtain ⟨r, hr⟩ : ∃ r, usE k t = r := ⟨_, rfl⟩
 rw [hr]
 have HR : Hid ((usK k (t.kids.drop 0) || (decide (t.op = 3) && decide (t.n = k))) = r) := Lib.hid (by rw [← hr, usE_eq]; rfl)
 clear ih hK hr b0 b1 b2
 go_enter Tryz.func31, Tryz.ntmps31
 go_wp2
 go_loopg [10] (t.kids.length) (fun gk i wr => ∃ (j : Nat), j + gk = t.kids.length ∧ i = .int .i64 j ∧ Hid ((usK k (t.kids.drop j) || (decide (t.op = 3) && decide (t.n = k))) = r) ∧ Hid (wr.heap[w.heap.size]? = some (.cells (eArr t A c) 46 (0, 0))) ∧ Hid (Gr w wr))
 case atStart => exact ⟨0, by omega, rfl, HR, HX, HB0⟩
 case round =>
  obtain ⟨j, hj, rfl, hM, hB, hW⟩ := hrel
  clear HX HB0 HR b3
  by_cases hlt : j < t.kids.length
  ·obtain ⟨gq, rfl⟩ : ∃ g, gk = g + 1 := ⟨gk - 1, by omega⟩
   have hk64 : (j : Int) + 1 < 9223372036854775808 := by unfold maxLen at hkl; omega
   have hKw : KidsE wr t.kids A := hKH.out.below hW.out
   obtain ⟨ga, oa, rfl⟩ := hKw.addr (by omega)
   obtain ⟨A1, c1, ⟨e0, e1, e2, e3⟩, hkl1, hK1⟩ := (hKw.get _ _ _ j _ (List.getElem?_eq_getElem hlt)).cells
   have hmem : t.kids[j] ∈ t.kids := List.getElem_mem hlt
   have hI0 := IH.out _ hmem
   have hM1 := hM.out
   rw [List.drop_eq_getElem_cons hlt, usK] at hM1
   clear hKw hmem hM
   generalize t.kids[j] = u at *
   obtain ⟨W5, hW5⟩ : ∃ W5, W5 = wr.alloc (.cells (eArr u A1 c1) 46) := ⟨_, rfl⟩
   have hG5 : Gr wr W5 := by rw [hW5]; exact grAlloc _ _
   have hQ5 : W5.heap[wr.heap.size]? = some (.cells (eArr u A1 c1) 46 (0, 0)) := by rw [hW5]; exact newBlk _ _ _ rfl
   have hI := Lib.hid (hI0 W5 k A1 c1 hkl1 (hK1.below hG5))
   have hB5 := Lib.hid (grBlk hG5 hB.out)
   have hW6 := Lib.hid (Gr.tr hW.out hG5)
   have hlt2 : j < t.kids.length := hlt
   clear hK1 hI0
   go_upto_region 4 with fail
   rw [← hW5]
   clear hW5 e0 e1 e2 e3 hB hW
   obtain ⟨⟨n0, n1, n2, n3⟩, -⟩ := C.cells4C hQ5
   clear hQ5
   cases hu : usE k u with
   | true =>
    rw [hu] at hI hM1
    obtain rfl : true = r := by simpa using hM1
    clear hu hM1
    go_wp2_with (go_at_call 31; refine hI.out.mono ?_; rintro e w2 ⟨rfl, hb2⟩; have hW2 := Lib.hid (Gr.tr hW6.out hb2); clear hb2 n0 n1 n2 n3)
    go_ret
    exact ⟨rfl, hW2.out⟩
   | false =>
    rw [hu] at hI hM1
    have hM2 := Lib.hid (by rw [Bool.false_or] at hM1; exact hM1)
    clear hu hM1
    go_wp2_with (go_at_call 31; refine hI.out.mono ?_; rintro e w2 ⟨rfl, hb2⟩; have hB2 := Lib.hid (grBlk hb2 hB5.out); have hW2 := Lib.hid (Gr.tr hW6.out hb2); clear hb2 n0 n1 n2 n3)
    go_roundg gq
    case measure => omega
    case rel => exact ⟨j + 1, by omega, by go_num, hM2, hB2, hW2⟩
  ·have hF : Hid ((decide (t.op = 3) && decide (t.n = k)) = r) := Lib.hid (by have := hM.out; rw [List.drop_eq_nil_of_le (by omega), usK, Bool.false_or] at this; exact this)
   obtain ⟨⟨b0, b1, b2, b3⟩, -⟩ := C.cells4C hB.out
   clear hM b2 b3
   by_cases h3 : t.op = 3
   ·have t3 : (t.op == 3) = true := by simp [h3]
    by_cases h4 : t.n = k
    ·have t4 : (t.n == k) = true := by simp [h4]
     obtain rfl : true = r := by have h := hF.out; rw [decide_eq_true h3, decide_eq_true h4] at h; exact h
     clear h3 h4 hF
     go_wp2
     go_ret
     exact ⟨rfl, hW.out⟩
    ·have t4 : (t.n == k) = false := by simp [h4]
     obtain rfl : false = r := by have h := hF.out; rw [decide_eq_true h3, decide_eq_false h4] at h; exact h
     clear h3 h4 hF
     go_wp2
     go_ret
     exact ⟨rfl, hW.out⟩
   ·have t3 : (t.op == 3) = false := by simp [h3]
    obtain rfl : false = r := by have h := hF.out; rw [decide_eq_false h3] at h; exact h
    clear h3 hF
    go_wp2
    go_ret
    exact ⟨rfl, hW.out⟩
mutual
theorem uses_any : ∀ t : Ex, UsesC t
 | .mk _ _ _ kids => uses_step _ (uses_all kids)
theorem uses_all : ∀ (ts : List Ex), ∀ u ∈ ts, UsesC u
 | [], u, hu => by cases hu
 | t :: ts, u, hu => by
  rcases List.mem_cons.1 hu with h | h
  ·rw [h]; exact uses_any t
  ·exact uses_all ts u h
end
theorem rdS_eq (k : Int) (x : St) : rdS k x = (usE k x.a || (decide (x.kind = 2) && (usE k x.b || (rdL k x.th || rdL k x.el)))) := by cases x; rw [rdS]; rfl
theorem ret_v1 {a b : Bool} (h : a = b) : Ending.returned (.bool a) = .returned (.bool b) := by rw [h]
def readsC (l : List St) : Prop := ∀ (w : World) (k : Int) (A : Option Addr) (m : Nat), l.length ≤ maxLen → kbL l → StsR w l A → Calls Tryz.prog 14 #[.slice A l.length m, .int .i64 k] w (V1 (.bool (rdL k l)) w)
theorem reads_step (l : List St) (ih : ∀ x ∈ l, readsC x.th ∧ readsC x.el) : readsC l := by
 intro w k A m hlen hkb hR
 have IH := Lib.hid ih
 have HR := Lib.hid hR
 have HK := Lib.hid hkb
 obtain ⟨r, hr⟩ : ∃ r, rdL k l = r := ⟨_, rfl⟩
 rw [hr]
 have HM : Hid (rdL k (l.drop 0) = r) := Lib.hid hr
 clear ih hR hkb hr
 go_enter Tryz.func14, Tryz.ntmps14
 go_wp2
 go_loopg [9] (l.length) (fun gk i wr => ∃ (j : Nat), j + gk = l.length ∧ i = .int .i64 j ∧ Hid (rdL k (l.drop j) = r) ∧ Hid (Gr w wr))
 case atStart => exact ⟨0, by omega, rfl, HM, Lib.hid (Below.refl _ _)⟩
 case round =>
  obtain ⟨j, hj, rfl, hM, hW⟩ := hrel
  clear HM
  by_cases hlt : j < l.length
  ·obtain ⟨gq, rfl⟩ : ∃ g, gk = g + 1 := ⟨gk - 1, by omega⟩
   have hk64 : (j : Int) + 1 < 9223372036854775808 := by unfold maxLen at hlen; omega
   have hRw : StsR wr l A := HR.out.below hW.out
   obtain ⟨ga, oa, rfl⟩ := hRw.addr (by omega)
   obtain ⟨A1, c1, B1, d1, T1, m1, E1, n1, hat, hKA, hKB, hT, hE, hlt1, hle1⟩ := (hRw.get _ _ _ j _ (List.getElem?_eq_getElem hlt)).cells
   have hI := IH.out _ (List.getElem_mem hlt)
   obtain ⟨ka, kb, kt, ke⟩ := kbS_mk (kbL_mem HK.out _ (List.getElem_mem hlt))
   have hM1 := hM.out
   rw [List.drop_eq_getElem_cons hlt, rdL, rdS_eq] at hM1
   clear hRw hM
   generalize l[j] = u at *
   obtain ⟨e0, e1, e2, e3, e4, e5, e6, e7, e8, e9, ea, eb, ec⟩ := hat
   obtain ⟨W5, hW5⟩ : ∃ W5, W5 = wr.alloc (.cells (sArr u A1 c1 B1 d1 T1 m1 E1 n1) 65) := ⟨_, rfl⟩
   have hG5 : Gr wr W5 := by rw [hW5]; exact grAlloc _ _
   have hQ5 : Hid (W5.heap[wr.heap.size]? = some (.cells (sArr u A1 c1 B1 d1 T1 m1 E1 n1) 65 (0, 0))) := Lib.hid (by rw [hW5]; exact newBlk _ _ _ rfl)
   have HUA := Lib.hid (fun (w2 : World) (h : Gr wr w2) => uses_any u.a w2 k A1 c1 ka (hKA.below h))
   have HUB := Lib.hid (fun (w2 : World) (h : Gr wr w2) => uses_any u.b w2 k B1 d1 kb (hKB.below h))
   have HT := Lib.hid (fun (w2 : World) (h : Gr wr w2) => hI.1 w2 k T1 m1 hlt1 kt (hT.below h))
   have HE := Lib.hid (fun (w2 : World) (h : Gr wr w2) => hI.2 w2 k E1 n1 hle1 ke (hE.below h))
   have HG := Lib.hid hG5
   have hlt2 : j < l.length := hlt
   clear hKA hKB hT hE hI ka kb kt ke
   go_upto_region 4 with fail
   rw [← hW5]
   clear hW5 hG5 e0 e1 e2 e3 e4 e5 e6 e7 e8 e9 ea eb ec
   obtain ⟨y0, y1, y2, y3, y4, y5, y6, y7, y8, y9, ya, yb, yc⟩ := U.cells13 hQ5.out
   generalize usE k u.a = fa at *
   generalize usE k u.b = fb at *
   generalize rdL k u.th = ft at *
   generalize rdL k u.el = fe at *
   cases fa with
   | true =>
    obtain rfl : true = r := by simpa using hM1
    clear hM1
    go_wp2_with (first
     | (go_at_call_of 31 (Value.slice A1 u.a.kids.length (u.a.kids.length + c1)); refine (HUA.out _ HG.out).mono ?_; rintro e w2 ⟨rfl, hb2⟩; have HG := Lib.hid (Gr.tr HG.out hb2); have hQ5 := Lib.hid (grBlk hb2 hQ5.out); clear hb2 y0 y1 y2 y3 y4 y5 y6 y7 y8 y9 ya yb yc; obtain ⟨y0, y1, y2, y3, y4, y5, y6, y7, y8, y9, ya, yb, yc⟩ := U.cells13 hQ5.out)
     | (go_at_call_of 31 (Value.slice B1 u.b.kids.length (u.b.kids.length + d1)); refine (HUB.out _ HG.out).mono ?_; rintro e w2 ⟨rfl, hb2⟩; have HG := Lib.hid (Gr.tr HG.out hb2); have hQ5 := Lib.hid (grBlk hb2 hQ5.out); clear hb2 y0 y1 y2 y3 y4 y5 y6 y7 y8 y9 ya yb yc; obtain ⟨y0, y1, y2, y3, y4, y5, y6, y7, y8, y9, ya, yb, yc⟩ := U.cells13 hQ5.out)
     | (go_at_call_of 14 (Value.slice T1 u.th.length m1); refine (HT.out _ HG.out).mono ?_; rintro e w2 ⟨rfl, hb2⟩; have HG := Lib.hid (Gr.tr HG.out hb2); have hQ5 := Lib.hid (grBlk hb2 hQ5.out); clear hb2 y0 y1 y2 y3 y4 y5 y6 y7 y8 y9 ya yb yc; obtain ⟨y0, y1, y2, y3, y4, y5, y6, y7, y8, y9, ya, yb, yc⟩ := U.cells13 hQ5.out)
     | (go_at_call_of 14 (Value.slice E1 u.el.length n1); refine (HE.out _ HG.out).mono ?_; rintro e w2 ⟨rfl, hb2⟩; have HG := Lib.hid (Gr.tr HG.out hb2); have hQ5 := Lib.hid (grBlk hb2 hQ5.out); clear hb2 y0 y1 y2 y3 y4 y5 y6 y7 y8 y9 ya yb yc; obtain ⟨y0, y1, y2, y3, y4, y5, y6, y7, y8, y9, ya, yb, yc⟩ := U.cells13 hQ5.out))
    go_ret
    exact ⟨rfl, Gr.tr hW.out HG.out⟩
   | false =>
    by_cases h2 : u.kind = 2
    ·have t2 : (u.kind == 2) = true := by simp [h2]
     cases fb with
     | true =>
      obtain rfl : true = r := by simpa [h2] using hM1
      clear hM1
      go_wp2_with (first
       | (go_at_call_of 31 (Value.slice A1 u.a.kids.length (u.a.kids.length + c1)); refine (HUA.out _ HG.out).mono ?_; rintro e w2 ⟨rfl, hb2⟩; have HG := Lib.hid (Gr.tr HG.out hb2); have hQ5 := Lib.hid (grBlk hb2 hQ5.out); clear hb2 y0 y1 y2 y3 y4 y5 y6 y7 y8 y9 ya yb yc; obtain ⟨y0, y1, y2, y3, y4, y5, y6, y7, y8, y9, ya, yb, yc⟩ := U.cells13 hQ5.out)
       | (go_at_call_of 31 (Value.slice B1 u.b.kids.length (u.b.kids.length + d1)); refine (HUB.out _ HG.out).mono ?_; rintro e w2 ⟨rfl, hb2⟩; have HG := Lib.hid (Gr.tr HG.out hb2); have hQ5 := Lib.hid (grBlk hb2 hQ5.out); clear hb2 y0 y1 y2 y3 y4 y5 y6 y7 y8 y9 ya yb yc; obtain ⟨y0, y1, y2, y3, y4, y5, y6, y7, y8, y9, ya, yb, yc⟩ := U.cells13 hQ5.out)
       | (go_at_call_of 14 (Value.slice T1 u.th.length m1); refine (HT.out _ HG.out).mono ?_; rintro e w2 ⟨rfl, hb2⟩; have HG := Lib.hid (Gr.tr HG.out hb2); have hQ5 := Lib.hid (grBlk hb2 hQ5.out); clear hb2 y0 y1 y2 y3 y4 y5 y6 y7 y8 y9 ya yb yc; obtain ⟨y0, y1, y2, y3, y4, y5, y6, y7, y8, y9, ya, yb, yc⟩ := U.cells13 hQ5.out)
       | (go_at_call_of 14 (Value.slice E1 u.el.length n1); refine (HE.out _ HG.out).mono ?_; rintro e w2 ⟨rfl, hb2⟩; have HG := Lib.hid (Gr.tr HG.out hb2); have hQ5 := Lib.hid (grBlk hb2 hQ5.out); clear hb2 y0 y1 y2 y3 y4 y5 y6 y7 y8 y9 ya yb yc; obtain ⟨y0, y1, y2, y3, y4, y5, y6, y7, y8, y9, ya, yb, yc⟩ := U.cells13 hQ5.out))
      go_ret
      exact ⟨rfl, Gr.tr hW.out HG.out⟩
     | false =>
      cases ft with
      | true =>
       obtain rfl : true = r := by simpa [h2] using hM1
       clear hM1
       go_wp2_with (first
        | (go_at_call_of 31 (Value.slice A1 u.a.kids.length (u.a.kids.length + c1)); refine (HUA.out _ HG.out).mono ?_; rintro e w2 ⟨rfl, hb2⟩; have HG := Lib.hid (Gr.tr HG.out hb2); have hQ5 := Lib.hid (grBlk hb2 hQ5.out); clear hb2 y0 y1 y2 y3 y4 y5 y6 y7 y8 y9 ya yb yc; obtain ⟨y0, y1, y2, y3, y4, y5, y6, y7, y8, y9, ya, yb, yc⟩ := U.cells13 hQ5.out)
        | (go_at_call_of 31 (Value.slice B1 u.b.kids.length (u.b.kids.length + d1)); refine (HUB.out _ HG.out).mono ?_; rintro e w2 ⟨rfl, hb2⟩; have HG := Lib.hid (Gr.tr HG.out hb2); have hQ5 := Lib.hid (grBlk hb2 hQ5.out); clear hb2 y0 y1 y2 y3 y4 y5 y6 y7 y8 y9 ya yb yc; obtain ⟨y0, y1, y2, y3, y4, y5, y6, y7, y8, y9, ya, yb, yc⟩ := U.cells13 hQ5.out)
        | (go_at_call_of 14 (Value.slice T1 u.th.length m1); refine (HT.out _ HG.out).mono ?_; rintro e w2 ⟨rfl, hb2⟩; have HG := Lib.hid (Gr.tr HG.out hb2); have hQ5 := Lib.hid (grBlk hb2 hQ5.out); clear hb2 y0 y1 y2 y3 y4 y5 y6 y7 y8 y9 ya yb yc; obtain ⟨y0, y1, y2, y3, y4, y5, y6, y7, y8, y9, ya, yb, yc⟩ := U.cells13 hQ5.out)
        | (go_at_call_of 14 (Value.slice E1 u.el.length n1); refine (HE.out _ HG.out).mono ?_; rintro e w2 ⟨rfl, hb2⟩; have HG := Lib.hid (Gr.tr HG.out hb2); have hQ5 := Lib.hid (grBlk hb2 hQ5.out); clear hb2 y0 y1 y2 y3 y4 y5 y6 y7 y8 y9 ya yb yc; obtain ⟨y0, y1, y2, y3, y4, y5, y6, y7, y8, y9, ya, yb, yc⟩ := U.cells13 hQ5.out))
       go_ret
       exact ⟨rfl, Gr.tr hW.out HG.out⟩
      | false =>
       cases fe with
       | true =>
        obtain rfl : true = r := by simpa [h2] using hM1
        clear hM1
        go_wp2_with (first
         | (go_at_call_of 31 (Value.slice A1 u.a.kids.length (u.a.kids.length + c1)); refine (HUA.out _ HG.out).mono ?_; rintro e w2 ⟨rfl, hb2⟩; have HG := Lib.hid (Gr.tr HG.out hb2); have hQ5 := Lib.hid (grBlk hb2 hQ5.out); clear hb2 y0 y1 y2 y3 y4 y5 y6 y7 y8 y9 ya yb yc; obtain ⟨y0, y1, y2, y3, y4, y5, y6, y7, y8, y9, ya, yb, yc⟩ := U.cells13 hQ5.out)
         | (go_at_call_of 31 (Value.slice B1 u.b.kids.length (u.b.kids.length + d1)); refine (HUB.out _ HG.out).mono ?_; rintro e w2 ⟨rfl, hb2⟩; have HG := Lib.hid (Gr.tr HG.out hb2); have hQ5 := Lib.hid (grBlk hb2 hQ5.out); clear hb2 y0 y1 y2 y3 y4 y5 y6 y7 y8 y9 ya yb yc; obtain ⟨y0, y1, y2, y3, y4, y5, y6, y7, y8, y9, ya, yb, yc⟩ := U.cells13 hQ5.out)
         | (go_at_call_of 14 (Value.slice T1 u.th.length m1); refine (HT.out _ HG.out).mono ?_; rintro e w2 ⟨rfl, hb2⟩; have HG := Lib.hid (Gr.tr HG.out hb2); have hQ5 := Lib.hid (grBlk hb2 hQ5.out); clear hb2 y0 y1 y2 y3 y4 y5 y6 y7 y8 y9 ya yb yc; obtain ⟨y0, y1, y2, y3, y4, y5, y6, y7, y8, y9, ya, yb, yc⟩ := U.cells13 hQ5.out)
         | (go_at_call_of 14 (Value.slice E1 u.el.length n1); refine (HE.out _ HG.out).mono ?_; rintro e w2 ⟨rfl, hb2⟩; have HG := Lib.hid (Gr.tr HG.out hb2); have hQ5 := Lib.hid (grBlk hb2 hQ5.out); clear hb2 y0 y1 y2 y3 y4 y5 y6 y7 y8 y9 ya yb yc; obtain ⟨y0, y1, y2, y3, y4, y5, y6, y7, y8, y9, ya, yb, yc⟩ := U.cells13 hQ5.out))
        go_ret
        exact ⟨rfl, Gr.tr hW.out HG.out⟩
       | false =>
        have hM2 := Lib.hid (show _ = _ by simpa [h2] using hM1)
        clear hM1
        go_wp2_with (first
         | (go_at_call_of 31 (Value.slice A1 u.a.kids.length (u.a.kids.length + c1)); refine (HUA.out _ HG.out).mono ?_; rintro e w2 ⟨rfl, hb2⟩; have HG := Lib.hid (Gr.tr HG.out hb2); have hQ5 := Lib.hid (grBlk hb2 hQ5.out); clear hb2 y0 y1 y2 y3 y4 y5 y6 y7 y8 y9 ya yb yc; obtain ⟨y0, y1, y2, y3, y4, y5, y6, y7, y8, y9, ya, yb, yc⟩ := U.cells13 hQ5.out)
         | (go_at_call_of 31 (Value.slice B1 u.b.kids.length (u.b.kids.length + d1)); refine (HUB.out _ HG.out).mono ?_; rintro e w2 ⟨rfl, hb2⟩; have HG := Lib.hid (Gr.tr HG.out hb2); have hQ5 := Lib.hid (grBlk hb2 hQ5.out); clear hb2 y0 y1 y2 y3 y4 y5 y6 y7 y8 y9 ya yb yc; obtain ⟨y0, y1, y2, y3, y4, y5, y6, y7, y8, y9, ya, yb, yc⟩ := U.cells13 hQ5.out)
         | (go_at_call_of 14 (Value.slice T1 u.th.length m1); refine (HT.out _ HG.out).mono ?_; rintro e w2 ⟨rfl, hb2⟩; have HG := Lib.hid (Gr.tr HG.out hb2); have hQ5 := Lib.hid (grBlk hb2 hQ5.out); clear hb2 y0 y1 y2 y3 y4 y5 y6 y7 y8 y9 ya yb yc; obtain ⟨y0, y1, y2, y3, y4, y5, y6, y7, y8, y9, ya, yb, yc⟩ := U.cells13 hQ5.out)
         | (go_at_call_of 14 (Value.slice E1 u.el.length n1); refine (HE.out _ HG.out).mono ?_; rintro e w2 ⟨rfl, hb2⟩; have HG := Lib.hid (Gr.tr HG.out hb2); have hQ5 := Lib.hid (grBlk hb2 hQ5.out); clear hb2 y0 y1 y2 y3 y4 y5 y6 y7 y8 y9 ya yb yc; obtain ⟨y0, y1, y2, y3, y4, y5, y6, y7, y8, y9, ya, yb, yc⟩ := U.cells13 hQ5.out))
        go_roundg gq
        case measure => omega
        case rel => exact ⟨j + 1, by omega, by go_num, hM2, Lib.hid (Gr.tr hW.out HG.out)⟩
    ·have t2 : (u.kind == 2) = false := by simp [h2]
     have hM2 := Lib.hid (show _ = _ by simpa [h2] using hM1)
     clear hM1
     go_wp2_with (first
      | (go_at_call_of 31 (Value.slice A1 u.a.kids.length (u.a.kids.length + c1)); refine (HUA.out _ HG.out).mono ?_; rintro e w2 ⟨rfl, hb2⟩; have HG := Lib.hid (Gr.tr HG.out hb2); have hQ5 := Lib.hid (grBlk hb2 hQ5.out); clear hb2 y0 y1 y2 y3 y4 y5 y6 y7 y8 y9 ya yb yc; obtain ⟨y0, y1, y2, y3, y4, y5, y6, y7, y8, y9, ya, yb, yc⟩ := U.cells13 hQ5.out)
      | (go_at_call_of 31 (Value.slice B1 u.b.kids.length (u.b.kids.length + d1)); refine (HUB.out _ HG.out).mono ?_; rintro e w2 ⟨rfl, hb2⟩; have HG := Lib.hid (Gr.tr HG.out hb2); have hQ5 := Lib.hid (grBlk hb2 hQ5.out); clear hb2 y0 y1 y2 y3 y4 y5 y6 y7 y8 y9 ya yb yc; obtain ⟨y0, y1, y2, y3, y4, y5, y6, y7, y8, y9, ya, yb, yc⟩ := U.cells13 hQ5.out)
      | (go_at_call_of 14 (Value.slice T1 u.th.length m1); refine (HT.out _ HG.out).mono ?_; rintro e w2 ⟨rfl, hb2⟩; have HG := Lib.hid (Gr.tr HG.out hb2); have hQ5 := Lib.hid (grBlk hb2 hQ5.out); clear hb2 y0 y1 y2 y3 y4 y5 y6 y7 y8 y9 ya yb yc; obtain ⟨y0, y1, y2, y3, y4, y5, y6, y7, y8, y9, ya, yb, yc⟩ := U.cells13 hQ5.out)
      | (go_at_call_of 14 (Value.slice E1 u.el.length n1); refine (HE.out _ HG.out).mono ?_; rintro e w2 ⟨rfl, hb2⟩; have HG := Lib.hid (Gr.tr HG.out hb2); have hQ5 := Lib.hid (grBlk hb2 hQ5.out); clear hb2 y0 y1 y2 y3 y4 y5 y6 y7 y8 y9 ya yb yc; obtain ⟨y0, y1, y2, y3, y4, y5, y6, y7, y8, y9, ya, yb, yc⟩ := U.cells13 hQ5.out))
     go_roundg gq
     case measure => omega
     case rel => exact ⟨j + 1, by omega, by go_num, hM2, Lib.hid (Gr.tr hW.out HG.out)⟩
  ·have hF : Hid (false = r) := Lib.hid (by have := hM.out; rw [List.drop_eq_nil_of_le (by omega), rdL] at this; exact this)
   clear hM
   go_wp2
   go_ret
   exact ⟨ret_v1 hF.out, hW.out⟩
mutual
theorem reads_any : ∀ x : St, readsC x.th ∧ readsC x.el
 | .mk _ _ _ _ _ th el => ⟨reads_step th (reads_all th), reads_step el (reads_all el)⟩
theorem reads_all : ∀ (l : List St), ∀ x ∈ l, readsC x.th ∧ readsC x.el
 | [], x, hx => by cases hx
 | y :: ys, x, hx => by
  rcases List.mem_cons.1 hx with h | h
  ·rw [h]; exact reads_any y
  ·exact reads_all ys x h
end
theorem reads_of (l : List St) : readsC l := reads_step l (reads_all l)
end M
end Go.Proofs.YtdlebaiamdbneaaGreatDoor
