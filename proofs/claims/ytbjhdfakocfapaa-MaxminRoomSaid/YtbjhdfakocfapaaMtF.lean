/- The law's head. -/
import Derived.Test.YtbjhdfakocfapaaMtE
import Derived.Test.YtbjhdfakocfapaaDgS
namespace Go.Proofs.Ytbjhdfakocfapaa
open Go.RowKit
set_option linter.unusedVariables false
set_option linter.unusedSimpArgs false
theorem ints_blk {w : World} {B : Nat} {l : List Int} {T : TypeId} (h : w.heap[B]? = some (.cells (l.map (Value.int .i64)).toArray T (0, 0))) : IntsR w l (some ⟨B, 0, none⟩) := by
  refine .inr ⟨B, 0, rfl, fun i n hi => ?_⟩
  rw [Nat.zero_add, cell_of_row _ _ i _ _ (0, 0) h]
  simp [hi]
theorem rows_blk {w : World} {B : Nat} (rs : List (List Int × Option Addr × Nat)) {T : TypeId} (h : w.heap[B]? = some (.cells (rs.map (fun r => Value.slice r.2.1 r.1.length r.2.2)).toArray T (0, 0)))
    (hr : ∀ r ∈ rs, IntsR w r.1 r.2.1) : RowsR w (rs.map (·.1)) (some ⟨B, 0, none⟩) := by
  refine .inr ⟨B, 0, rfl, fun i n hi => ?_⟩
  rw [List.getElem?_map] at hi
  cases hx : rs[i]? with
  | none => rw [hx] at hi; cases hi
  | some r =>
    rw [hx] at hi
    obtain rfl : r.1 = n := by simpa using hi
    refine ⟨r.2.1, r.2.2, ?_, hr r (List.mem_of_getElem? hx)⟩
    rw [Nat.zero_add, cell_of_row _ _ i _ _ (0, 0) h]
    simp [hx]
theorem is_true {n : Net} {xs : List Q} (h : isM n xs = true) (a : NetA) (XA : Option Addr) (xm : Nat) (w : World) (hn : NetR w n a) (hx : QsR w xs XA) (hs : n.c.length ≤ maxLen ∧ n.f.length ≤ maxLen ∧ n.l.length ≤ maxLen) (hm : xs.length ≤ maxLen) :
    Calls Try.prog 27 #[nv n a, .slice XA xs.length xm] w (VV (.bool true) w) := by
  have := is_any n a xs XA xm w hn hs hx hm
  rwa [h] at this
theorem all1 {α : Type} {p : α → Prop} {a : α} (h : p a) : ∀ r ∈ [a], p r := by simpa using h
theorem all2 {α : Type} {p : α → Prop} {a b : α} (h : p a) (h2 : p b) : ∀ r ∈ [a, b], p r := by simp [h, h2]
theorem all3 {α : Type} {p : α → Prop} {a b c : α} (h : p a) (h2 : p b) (h3 : p c) : ∀ r ∈ [a, b, c], p r := by simp [h, h2, h3]
theorem share5 {w w' : World} {e : Ending} (h : ShareP ex5 w e w') : Gr w w' ∧ e = .returned (.tuple #[.slice none 0 0, .int .i64 1]) := by
  have h2 := h.2
  rw [ex5_not] at h2
  exact ⟨h.1, by simpa using h2⟩
def Rh4 (b1 : Nat) (i : Nat) (v : Value) (w : World) : Prop :=
  match i with
  | 2 => ∃ A, v = .slice A 1 1 ∧ IntsR w [10] A
  | 3 => v = .slice (some ⟨b1, 0, none⟩) 3 3
  | 4 => ∃ A, v = .slice A 3 3 ∧ IntsR w [1, 0, 0] A
  | 5 => ∃ a : NetA, v = .agg #[.slice a.ca 1 a.cm, .slice a.fa 3 a.fm, .slice a.la 3 a.lm] ∧ NetR w ex3 a
  | 6 => v = qv ⟨1, 1⟩
  | 7 => v = qv ⟨9, 2⟩
  | 8 => v = qv ⟨9, 2⟩
  | 9 => ∃ A, v = .slice A 3 3 ∧ QsR w [⟨1, 1⟩, ⟨9, 2⟩, ⟨9, 2⟩] A
  | 13 => ∃ A, v = .slice A 2 2 ∧ IntsR w [0, 5] A
  | 14 => ∃ A, v = .slice A 2 2 ∧ IntsR w [0, 1] A
  | 15 => ∃ A, v = .slice A 1 1 ∧ IntsR w [1] A
  | 16 => ∃ A, v = .slice A 2 2 ∧ RowsR w [[0, 1], [1]] A
  | 17 => ∃ A, v = .slice A 2 2 ∧ IntsR w [0, 0] A
  | 18 => ∃ a : NetA, v = .agg #[.slice a.ca 2 a.cm, .slice a.fa 2 a.fm, .slice a.la 2 a.lm] ∧ NetR w ex4 a
  | 19 => v = qv ⟨0, 1⟩
  | 20 => v = qv ⟨5, 1⟩
  | 21 => ∃ A, v = .slice A 2 2 ∧ QsR w [⟨0, 1⟩, ⟨5, 1⟩] A
  | _ => v = .bool true
theorem Rh4_gr (b1 : Nat) (i : Nat) (v : Value) (w w' : World) (h : Rh4 b1 i v w) (hg : Gr w w') : Rh4 b1 i v w' := by
  unfold Rh4 at h ⊢
  split at h <;> first
    | exact h
    | (obtain ⟨A, e, h1⟩ := h; exact ⟨A, e, h1.gr hg⟩)
set_option maxHeartbeats 4000000 in
set_option maxRecDepth 100000 in
theorem head_any (w : World) : Calls Try.prog 10 #[] w (VV (.bool true) w) := by
  go_enter Try.func10, Try.ntmps10
  go_upto_region 3 with fail
  generalize hW2 : ((((((w.alloc _).alloc _).alloc _).alloc _).alloc _).alloc _) = W2
  have F1 : RowsR W2 [[0], [0], [0]] (some ⟨w.heap.size + 1 + 1 + 1, 0, none⟩) := by
    rw [← hW2]
    exact rows_blk [([0], some ⟨w.heap.size, 0, none⟩, 1), ([0], some ⟨w.heap.size + 1, 0, none⟩, 1), ([0], some ⟨w.heap.size + 1 + 1, 0, none⟩, 1)] (by (repeat' (first | (refine newBlk _ _ _ ?_; (simp; done)) | refine mvAlloc ?_))) (all3 (ints_blk (by (repeat' (first | (refine newBlk _ _ _ ?_; (simp; done)) | refine mvAlloc ?_)))) (ints_blk (by (repeat' (first | (refine newBlk _ _ _ ?_; (simp; done)) | refine mvAlloc ?_)))) (ints_blk (by (repeat' (first | (refine newBlk _ _ _ ?_; (simp; done)) | refine mvAlloc ?_)))))
  have F2 : W2.heap[w.heap.size + 1 + 1 + 1 + 1]? = some (qb ⟨10, 3⟩) := by rw [← hW2]; (repeat' (first | (refine newBlk _ _ _ ?_; (simp; done)) | refine mvAlloc ?_))
  have F3 : W2.heap[w.heap.size + 1 + 1 + 1 + 1 + 1]? = some (qb ⟨9, 2⟩) := by rw [← hW2]; (repeat' (first | (refine newBlk _ _ _ ?_; (simp; done)) | refine mvAlloc ?_))
  have G2 : Gr w W2 := by
    rw [← hW2]
    exact Gr.tr (Gr.tr (Gr.tr (Gr.tr (Gr.tr (grAlloc _ _) (grAlloc _ _)) (grAlloc _ _)) (grAlloc _ _)) (grAlloc _ _)) (grAlloc _ _)
  clear hW2
  generalize w.heap.size + 1 + 1 + 1 + 1 + 1 = b3 at *
  generalize w.heap.size + 1 + 1 + 1 + 1 = b2 at *
  generalize w.heap.size + 1 + 1 + 1 = b1 at *
  have F1 := Lib.hid F1
  have F2 := Lib.hid F2
  have F3 := Lib.hid F3
  have G2 := Lib.hid G2
  go_cut [1, 2, 3, 4] (fun s1 s2 s3 s4 wx => s1 = .slice (some ⟨b1, 0, none⟩) 3 3 ∧ s2 = .pointer (some ⟨b2, 0, none⟩) ∧ s3 = .pointer (some ⟨b3, 0, none⟩) ∧ s4 = .bool true ∧ Hid (Gr W2 wx))
  case first =>
    have C2 := Lib.hid (cells2 F2.out).1
    have mk := Lib.hid (fun (wx : World) (hg : Gr W2 wx) => And.intro (F1.out.gr hg) (And.intro (grBlk hg F2.out) (grBlk hg F3.out)))
    go_wp2_with (first
      | (have gg := D2; fail)
      | (have gg := N1; go_at_call 28; refine (lwhole_any _ _).mono ?_; rintro e w9 ⟨rfl, hb⟩; replace N1 := Lib.hid (N1.out.gr hb); replace H9 := Lib.hid (Gr.tr H9.out hb))
      | (go_at_call 28; refine (lwhole_any _ _).mono ?_; rintro e w9 ⟨rfl, hb⟩; have N1 := Lib.hid (NetR.gr (n := ex1) (a := ⟨some ⟨W2.heap.size, 0, none⟩, 2, some ⟨W2.heap.size + 1 + 1 + 1 + 1, 0, none⟩, 3, some ⟨W2.heap.size + 1 + 1 + 1 + 1 + 1, 0, none⟩, 3⟩) ⟨ints_blk (l := [10, 4]) (by (repeat' (first | (refine newBlk _ _ _ ?_; (simp; done)) | refine mvAlloc ?_))), rows_blk [([0, 1], some ⟨W2.heap.size + 1, 0, none⟩, 2), ([0], some ⟨W2.heap.size + 1 + 1, 0, none⟩, 1), ([1], some ⟨W2.heap.size + 1 + 1 + 1, 0, none⟩, 1)] (by (repeat' (first | (refine newBlk _ _ _ ?_; (simp; done)) | refine mvAlloc ?_))) (all3 (ints_blk (l := [0, 1]) (by (repeat' (first | (refine newBlk _ _ _ ?_; (simp; done)) | refine mvAlloc ?_)))) (ints_blk (l := [0]) (by (repeat' (first | (refine newBlk _ _ _ ?_; (simp; done)) | refine mvAlloc ?_)))) (ints_blk (l := [1]) (by (repeat' (first | (refine newBlk _ _ _ ?_; (simp; done)) | refine mvAlloc ?_))))), ints_blk (l := [0, 0, 0]) (by (repeat' (first | (refine newBlk _ _ _ ?_; (simp; done)) | refine mvAlloc ?_)))⟩ hb); have H9 : Hid (Gr W2 w9) := Lib.hid (Gr.tr (by repeat (first | exact Below.refl _ _ | refine Gr.tr ?_ (grAlloc _ _))) hb))
      | (have gg := D1; go_at_call 27; refine (is_true ex2_is ⟨some ⟨w9.heap.size, 0, none⟩, 1, some ⟨b1, 0, none⟩, 3, some ⟨w9.heap.size + 1, 0, none⟩, 3⟩ (some ⟨w9.heap.size + 1 + 1, 0, none⟩) 3 _ ⟨ints_blk (l := [10]) (by (repeat' (first | (refine newBlk _ _ _ ?_; (simp; done)) | refine mvAlloc ?_))), (mk.out _ H9.out).1.gr (Gr.tr (Gr.tr (grAlloc _ _) (grAlloc _ _)) (grAlloc _ _)), ints_blk (l := [0, 0, 0]) (by (repeat' (first | (refine newBlk _ _ _ ?_; (simp; done)) | refine mvAlloc ?_)))⟩ (qs_blk (by (repeat' (first | (refine newBlk _ _ _ ?_; (simp; done)) | refine mvAlloc ?_)))) (by decide) (by decide)).mono ?_; rintro e w8 ⟨rfl, hb⟩; have D2 := Lib.hid (Gr.tr (Gr.tr (Gr.tr (Gr.tr H9.out (grAlloc _ _)) (grAlloc _ _)) (grAlloc _ _)) hb))
      | (go_at_call 27; refine (is_true ex1_is _ (some ⟨w9.heap.size, 0, none⟩) 3 _ (N1.out.gr (grAlloc _ _)) (qs_blk (by (repeat' (first | (refine newBlk _ _ _ ?_; (simp; done)) | refine mvAlloc ?_)))) (by decide) (by decide)).mono ?_; rintro e w9 ⟨rfl, hb⟩; have D1 := hb; replace H9 := Lib.hid (Gr.tr (Gr.tr H9.out (grAlloc _ _)) hb); clear N1; obtain ⟨z0, z1⟩ := (cells2 (mk.out _ H9.out).2.1).1; have hl9 := blkLt (mk.out _ H9.out).2.1))
    go_meet
    exact ⟨rfl, rfl, rfl, rfl, D2⟩
  case rest =>
    obtain ⟨rfl, rfl, rfl, rfl, hW⟩ := hcut
    generalize wc = wr0 at *
    have mk := Lib.hid (fun (wx : World) (hg : Gr wr0.drew wx) => And.intro (F1.out.gr (Gr.tr hW.out (Gr.tr (grDrew _) hg))) (And.intro (grBlk (Gr.tr hW.out (Gr.tr (grDrew _) hg)) F2.out) (grBlk (Gr.tr hW.out (Gr.tr (grDrew _) hg)) F3.out)))
    go_upto_region 4 with fail
    refine wp_region_G (S := fun wq => Gr wr0 wq) (by kernel_rfl) (grDrew _) (fun hHeld => ?_)
    have hSG : Hid (∀ wp wq : World, Gr wr0 wp → Gr wp wq → Gr wr0 wq) := Lib.hid (fun _ _ h k => h.tr k)
    first
     | (refine tk hSG 0 (v := ?_) rfl (by kernel_rfl) (fun _ _ _ h => h) (by rfl) ?_ hHeld ?_; rotate_left; focus (intro w' hSw; go_simp; (try with_reducible rfl)))
     | refine tn hSG 0 rfl (by kernel_rfl) (fun _ _ _ h => h) (by rfl) hHeld ?_
    (try simp only [zq1, zq2, zq3, Act.put, zq4, zq5, zq6])
    first
     | (refine tk hSG 1 (v := ?_) rfl (by kernel_rfl) (fun _ _ _ h => h) (by rfl) ?_ hHeld ?_; rotate_left; focus (intro w' hSw; go_simp; (try with_reducible rfl)))
     | refine tn hSG 1 rfl (by kernel_rfl) (fun _ _ _ h => h) (by rfl) hHeld ?_
    (try simp only [zq1, zq2, zq3, Act.put, zq4, zq5, zq6])
    refine wpAnyG_specs (f := fun vs => ⟨#[Value.bool false, .slice (some ⟨b1, 0, none⟩) 3 3, .pointer (some ⟨b2, 0, none⟩), .pointer (some ⟨b3, 0, none⟩), vs 24, undef, undef, u7, u8, u9, u10, u11, u12, u13, u14, u15, u16, u17, u18, u19, u20, u21, u22, u23, u24, u25, u26, u27, u28, u29, u30, u31, u32, u33, u34, u35, vs 0, vs 1, vs 2, vs 3, vs 4, vs 5, vs 6, vs 7, vs 8, vs 9, vs 10, vs 11, vs 12, vs 13, vs 14, vs 15, vs 16, vs 17, vs 18, vs 19, vs 20, vs 21, vs 22, vs 23, u60, u61, u62, u63, u64, u65, u66, u67, u68, u69, u70, u71, u72, u73, u74, u75, u76, u77, u78, u79, u80, u81, u82, u83, u84, u85, u86, u87, u88, u89, u90, u91], []⟩) (R := Rh4 b1) (W := wr0.drew) [2, 3, 4, 5, 6, 7, 8, 9, 10, 11, 12, 13, 14, 15, 16, 17, 18, 19, 20, 21, 22, 23, 24] (fun i => match i with | 0 => .bool true | 1 => .bool true | 24 => .bool true | 2 => u38 | 3 => u39 | 4 => u40 | 5 => u41 | 6 => u42 | 7 => u43 | 8 => u44 | 9 => u45 | 10 => u46 | 11 => u47 | 12 => u48 | 13 => u49 | 14 => u50 | 15 => u51 | 16 => u52 | 17 => u53 | 18 => u54 | 19 => u55 | 20 => u56 | 21 => u57 | 22 => u58 | 23 => u59 | _ => undef) rfl (by kernel_rfl) (by kernel_rfl) (Rh4_gr b1) (fun _ hg => Gr.tr (grDrew _) hg) (fun i hi => match i, hi with | 0, _ => fun vs v => by kernel_rfl | 1, _ => fun vs v => by kernel_rfl | 2, _ => fun vs v => by kernel_rfl | 3, _ => fun vs v => by kernel_rfl | 4, _ => fun vs v => by kernel_rfl | 5, _ => fun vs v => by kernel_rfl | 6, _ => fun vs v => by kernel_rfl | 7, _ => fun vs v => by kernel_rfl | 8, _ => fun vs v => by kernel_rfl | 9, _ => fun vs v => by kernel_rfl | 10, _ => fun vs v => by kernel_rfl | 11, _ => fun vs v => by kernel_rfl | 12, _ => fun vs v => by kernel_rfl | 13, _ => fun vs v => by kernel_rfl | 14, _ => fun vs v => by kernel_rfl | 15, _ => fun vs v => by kernel_rfl | 16, _ => fun vs v => by kernel_rfl | 17, _ => fun vs v => by kernel_rfl | 18, _ => fun vs v => by kernel_rfl | 19, _ => fun vs v => by kernel_rfl | 20, _ => fun vs v => by kernel_rfl | 21, _ => fun vs v => by kernel_rfl | 22, _ => fun vs v => by kernel_rfl | 23, _ => fun vs v => by kernel_rfl | 24, _ => fun vs v => by kernel_rfl | n + 25, hi => absurd hi (by simp)) ?hvs ?hstep ?hend
    case hvs =>
      intro i hi hl
      match i, hi, hl with
      | 0, _, _ => exact rfl
      | 1, _, _ => exact rfl
      | 2, _, hl => exact nomatch (show false = true from hl)
      | 3, _, hl => exact nomatch (show false = true from hl)
      | 4, _, hl => exact nomatch (show false = true from hl)
      | 5, _, hl => exact nomatch (show false = true from hl)
      | 6, _, hl => exact nomatch (show false = true from hl)
      | 7, _, hl => exact nomatch (show false = true from hl)
      | 8, _, hl => exact nomatch (show false = true from hl)
      | 9, _, hl => exact nomatch (show false = true from hl)
      | 10, _, hl => exact nomatch (show false = true from hl)
      | 11, _, hl => exact nomatch (show false = true from hl)
      | 12, _, hl => exact nomatch (show false = true from hl)
      | 13, _, hl => exact nomatch (show false = true from hl)
      | 14, _, hl => exact nomatch (show false = true from hl)
      | 15, _, hl => exact nomatch (show false = true from hl)
      | 16, _, hl => exact nomatch (show false = true from hl)
      | 17, _, hl => exact nomatch (show false = true from hl)
      | 18, _, hl => exact nomatch (show false = true from hl)
      | 19, _, hl => exact nomatch (show false = true from hl)
      | 20, _, hl => exact nomatch (show false = true from hl)
      | 21, _, hl => exact nomatch (show false = true from hl)
      | 22, _, hl => exact nomatch (show false = true from hl)
      | 23, _, hl => exact nomatch (show false = true from hl)
      | 24, _, hl => exact nomatch (show false = true from hl)
      | n + 25, hi, _ => exact absurd hi (by simp)
    case hstep =>
      refine AllS.cons rfl (fun vs wr hgr hd K hK => ?_) ?_
      focus
        have hK := hK.out
        dsimp only at hK ⊢
        have e1 : vs 1 = .bool true := hd.out 1 (by kernel_rfl)
        generalize vs 1 = x1 at hK e1 ⊢
        subst e1
        go_simp
        exact hK _ _ (grAlloc _ _) ⟨_, rfl, ints_blk (l := [10]) (by (repeat' (first | (refine newBlk _ _ _ ?_; (simp; done)) | refine mvAlloc ?_)))⟩
      refine AllS.cons rfl (fun vs wr hgr hd K hK => ?_) ?_
      focus
        have hK := hK.out
        dsimp only at hK ⊢
        have e1 : vs 1 = .bool true := hd.out 1 (by kernel_rfl)
        generalize vs 1 = x1 at hK e1 ⊢
        subst e1
        go_simp
        exact hK _ _ (Below.refl _ _) rfl
      refine AllS.cons rfl (fun vs wr hgr hd K hK => ?_) ?_
      focus
        have hK := hK.out
        dsimp only at hK ⊢
        have e1 : vs 1 = .bool true := hd.out 1 (by kernel_rfl)
        generalize vs 1 = x1 at hK e1 ⊢
        subst e1
        go_simp
        exact hK _ _ (grAlloc _ _) ⟨_, rfl, ints_blk (l := [1, 0, 0]) (by (repeat' (first | (refine newBlk _ _ _ ?_; (simp; done)) | refine mvAlloc ?_)))⟩
      refine AllS.cons rfl (fun vs wr hgr hd K hK => ?_) ?_
      focus
        have hK := hK.out
        dsimp only at hK ⊢
        have e1 : vs 1 = .bool true := hd.out 1 (by kernel_rfl)
        generalize vs 1 = x1 at hK e1 ⊢
        subst e1
        obtain ⟨A2, e2, h2⟩ : ∃ A, vs 2 = .slice A 1 1 ∧ _ := hd.out 2 (by kernel_rfl)
        generalize vs 2 = x2 at hK e2 ⊢
        subst e2
        have e3 : vs 3 = .slice (some ⟨b1, 0, none⟩) 3 3 := hd.out 3 (by kernel_rfl)
        generalize vs 3 = x3 at hK e3 ⊢
        subst e3
        obtain ⟨A4, e4, h4⟩ : ∃ A, vs 4 = .slice A 3 3 ∧ _ := hd.out 4 (by kernel_rfl)
        generalize vs 4 = x4 at hK e4 ⊢
        subst e4
        go_simp
        exact hK _ _ (Below.refl _ _) ⟨⟨A2, 1, some ⟨b1, 0, none⟩, 3, A4, 3⟩, rfl, h2, (mk.out _ (hgr)).1, h4⟩
      refine AllS.cons rfl (fun vs wr hgr hd K hK => ?_) ?_
      focus
        have hK := hK.out
        dsimp only at hK ⊢
        have e1 : vs 1 = .bool true := hd.out 1 (by kernel_rfl)
        generalize vs 1 = x1 at hK e1 ⊢
        subst e1
        go_simp
        go_at_call 28
        refine (lwhole_any _ _).mono ?_
        rintro e w9 ⟨rfl, hb⟩
        exact hK _ _ hb rfl
      refine AllS.cons rfl (fun vs wr hgr hd K hK => ?_) ?_
      focus
        have hK := hK.out
        dsimp only at hK ⊢
        have e1 : vs 1 = .bool true := hd.out 1 (by kernel_rfl)
        generalize vs 1 = x1 at hK e1 ⊢
        subst e1
        obtain ⟨z0, z1⟩ := (cells2 (mk.out _ hgr).2.2).1
        go_simp
        exact hK _ _ (Below.refl _ _) rfl
      refine AllS.cons rfl (fun vs wr hgr hd K hK => ?_) ?_
      focus
        have hK := hK.out
        dsimp only at hK ⊢
        have e1 : vs 1 = .bool true := hd.out 1 (by kernel_rfl)
        generalize vs 1 = x1 at hK e1 ⊢
        subst e1
        obtain ⟨z0, z1⟩ := (cells2 (mk.out _ hgr).2.2).1
        go_simp
        exact hK _ _ (Below.refl _ _) rfl
      refine AllS.cons rfl (fun vs wr hgr hd K hK => ?_) ?_
      focus
        have hK := hK.out
        dsimp only at hK ⊢
        have e1 : vs 1 = .bool true := hd.out 1 (by kernel_rfl)
        generalize vs 1 = x1 at hK e1 ⊢
        subst e1
        have e6 : vs 6 = qv ⟨1, 1⟩ := hd.out 6 (by kernel_rfl)
        generalize vs 6 = x6 at hK e6 ⊢
        subst e6
        have e7 : vs 7 = qv ⟨9, 2⟩ := hd.out 7 (by kernel_rfl)
        generalize vs 7 = x7 at hK e7 ⊢
        subst e7
        have e8 : vs 8 = qv ⟨9, 2⟩ := hd.out 8 (by kernel_rfl)
        generalize vs 8 = x8 at hK e8 ⊢
        subst e8
        go_simp
        exact hK _ _ (grAlloc _ _) ⟨_, rfl, qs_blk (by (repeat' (first | (refine newBlk _ _ _ ?_; (simp; done)) | refine mvAlloc ?_)))⟩
      refine AllS.cons rfl (fun vs wr hgr hd K hK => ?_) ?_
      focus
        have hK := hK.out
        dsimp only at hK ⊢
        have e1 : vs 1 = .bool true := hd.out 1 (by kernel_rfl)
        generalize vs 1 = x1 at hK e1 ⊢
        subst e1
        obtain ⟨a, e5, h5⟩ : ∃ a : NetA, vs 5 = .agg #[.slice a.ca 1 a.cm, .slice a.fa 3 a.fm, .slice a.la 3 a.lm] ∧ _ := hd.out 5 (by kernel_rfl)
        generalize vs 5 = x5 at hK e5 ⊢
        subst e5
        obtain ⟨A9, e9, h9⟩ : ∃ A, vs 9 = .slice A 3 3 ∧ _ := hd.out 9 (by kernel_rfl)
        generalize vs 9 = x9 at hK e9 ⊢
        subst e9
        go_simp
        go_at_call 27
        refine (is_true ex3_is a A9 3 _ h5 h9 (by decide) (by decide)).mono ?_
        rintro e w9 ⟨rfl, hb⟩
        exact hK _ _ hb rfl
      refine AllS.cons rfl (fun vs wr hgr hd K hK => ?_) ?_
      focus
        have hK := hK.out
        dsimp only at hK ⊢
        have e1 : vs 1 = .bool true := hd.out 1 (by kernel_rfl)
        generalize vs 1 = x1 at hK e1 ⊢
        subst e1
        have e10 : vs 10 = .bool true := hd.out 10 (by kernel_rfl)
        generalize vs 10 = x10 at hK e10 ⊢
        subst e10
        go_simp
        exact hK _ _ (Below.refl _ _) rfl
      refine AllS.cons rfl (fun vs wr hgr hd K hK => ?_) ?_
      focus
        have hK := hK.out
        dsimp only at hK ⊢
        have e11 : vs 11 = .bool true := hd.out 11 (by kernel_rfl)
        generalize vs 11 = x11 at hK e11 ⊢
        subst e11
        go_simp
        exact hK _ _ (Below.refl _ _) rfl
      refine AllS.cons rfl (fun vs wr hgr hd K hK => ?_) ?_
      focus
        have hK := hK.out
        dsimp only at hK ⊢
        have e12 : vs 12 = .bool true := hd.out 12 (by kernel_rfl)
        generalize vs 12 = x12 at hK e12 ⊢
        subst e12
        go_simp
        exact hK _ _ (grAlloc _ _) ⟨_, rfl, ints_blk (l := [0, 5]) (by (repeat' (first | (refine newBlk _ _ _ ?_; (simp; done)) | refine mvAlloc ?_)))⟩
      refine AllS.cons rfl (fun vs wr hgr hd K hK => ?_) ?_
      focus
        have hK := hK.out
        dsimp only at hK ⊢
        have e12 : vs 12 = .bool true := hd.out 12 (by kernel_rfl)
        generalize vs 12 = x12 at hK e12 ⊢
        subst e12
        go_simp
        exact hK _ _ (grAlloc _ _) ⟨_, rfl, ints_blk (l := [0, 1]) (by (repeat' (first | (refine newBlk _ _ _ ?_; (simp; done)) | refine mvAlloc ?_)))⟩
      refine AllS.cons rfl (fun vs wr hgr hd K hK => ?_) ?_
      focus
        have hK := hK.out
        dsimp only at hK ⊢
        have e12 : vs 12 = .bool true := hd.out 12 (by kernel_rfl)
        generalize vs 12 = x12 at hK e12 ⊢
        subst e12
        go_simp
        exact hK _ _ (grAlloc _ _) ⟨_, rfl, ints_blk (l := [1]) (by (repeat' (first | (refine newBlk _ _ _ ?_; (simp; done)) | refine mvAlloc ?_)))⟩
      refine AllS.cons rfl (fun vs wr hgr hd K hK => ?_) ?_
      focus
        have hK := hK.out
        dsimp only at hK ⊢
        have e12 : vs 12 = .bool true := hd.out 12 (by kernel_rfl)
        generalize vs 12 = x12 at hK e12 ⊢
        subst e12
        obtain ⟨A14, e14, h14⟩ : ∃ A, vs 14 = .slice A 2 2 ∧ _ := hd.out 14 (by kernel_rfl)
        generalize vs 14 = x14 at hK e14 ⊢
        subst e14
        obtain ⟨A15, e15, h15⟩ : ∃ A, vs 15 = .slice A 1 1 ∧ _ := hd.out 15 (by kernel_rfl)
        generalize vs 15 = x15 at hK e15 ⊢
        subst e15
        go_simp
        exact hK _ _ (grAlloc _ _) ⟨_, rfl, rows_blk [([0, 1], A14, 2), ([1], A15, 1)] (by (repeat' (first | (refine newBlk _ _ _ ?_; (simp; done)) | refine mvAlloc ?_))) (all2 (h14.gr (grAlloc _ _)) (h15.gr (grAlloc _ _)))⟩
      refine AllS.cons rfl (fun vs wr hgr hd K hK => ?_) ?_
      focus
        have hK := hK.out
        dsimp only at hK ⊢
        have e12 : vs 12 = .bool true := hd.out 12 (by kernel_rfl)
        generalize vs 12 = x12 at hK e12 ⊢
        subst e12
        go_simp
        exact hK _ _ (grAlloc _ _) ⟨_, rfl, ints_blk (l := [0, 0]) (by (repeat' (first | (refine newBlk _ _ _ ?_; (simp; done)) | refine mvAlloc ?_)))⟩
      refine AllS.cons rfl (fun vs wr hgr hd K hK => ?_) ?_
      focus
        have hK := hK.out
        dsimp only at hK ⊢
        have e12 : vs 12 = .bool true := hd.out 12 (by kernel_rfl)
        generalize vs 12 = x12 at hK e12 ⊢
        subst e12
        obtain ⟨A13, e13, h13⟩ : ∃ A, vs 13 = .slice A 2 2 ∧ _ := hd.out 13 (by kernel_rfl)
        generalize vs 13 = x13 at hK e13 ⊢
        subst e13
        obtain ⟨A16, e16, h16⟩ : ∃ A, vs 16 = .slice A 2 2 ∧ _ := hd.out 16 (by kernel_rfl)
        generalize vs 16 = x16 at hK e16 ⊢
        subst e16
        obtain ⟨A17, e17, h17⟩ : ∃ A, vs 17 = .slice A 2 2 ∧ _ := hd.out 17 (by kernel_rfl)
        generalize vs 17 = x17 at hK e17 ⊢
        subst e17
        go_simp
        exact hK _ _ (Below.refl _ _) ⟨⟨A13, 2, A16, 2, A17, 2⟩, rfl, h13, h16, h17⟩
      refine AllS.cons rfl (fun vs wr hgr hd K hK => ?_) ?_
      focus
        have hK := hK.out
        dsimp only at hK ⊢
        have e12 : vs 12 = .bool true := hd.out 12 (by kernel_rfl)
        generalize vs 12 = x12 at hK e12 ⊢
        subst e12
        go_simp
        go_at_call 28
        refine (lwhole_any _ _).mono ?_
        rintro e w9 ⟨rfl, hb⟩
        exact hK _ _ hb rfl
      refine AllS.cons rfl (fun vs wr hgr hd K hK => ?_) ?_
      focus
        have hK := hK.out
        dsimp only at hK ⊢
        have e12 : vs 12 = .bool true := hd.out 12 (by kernel_rfl)
        generalize vs 12 = x12 at hK e12 ⊢
        subst e12
        go_simp
        go_at_call 28
        refine (lwhole_any _ _).mono ?_
        rintro e w9 ⟨rfl, hb⟩
        exact hK _ _ hb rfl
      refine AllS.cons rfl (fun vs wr hgr hd K hK => ?_) ?_
      focus
        have hK := hK.out
        dsimp only at hK ⊢
        have e12 : vs 12 = .bool true := hd.out 12 (by kernel_rfl)
        generalize vs 12 = x12 at hK e12 ⊢
        subst e12
        have e19 : vs 19 = qv ⟨0, 1⟩ := hd.out 19 (by kernel_rfl)
        generalize vs 19 = x19 at hK e19 ⊢
        subst e19
        have e20 : vs 20 = qv ⟨5, 1⟩ := hd.out 20 (by kernel_rfl)
        generalize vs 20 = x20 at hK e20 ⊢
        subst e20
        go_simp
        exact hK _ _ (grAlloc _ _) ⟨_, rfl, qs_blk (by (repeat' (first | (refine newBlk _ _ _ ?_; (simp; done)) | refine mvAlloc ?_)))⟩
      refine AllS.cons rfl (fun vs wr hgr hd K hK => ?_) ?_
      focus
        have hK := hK.out
        dsimp only at hK ⊢
        have e12 : vs 12 = .bool true := hd.out 12 (by kernel_rfl)
        generalize vs 12 = x12 at hK e12 ⊢
        subst e12
        obtain ⟨a, e18, h18⟩ : ∃ a : NetA, vs 18 = .agg #[.slice a.ca 2 a.cm, .slice a.fa 2 a.fm, .slice a.la 2 a.lm] ∧ _ := hd.out 18 (by kernel_rfl)
        generalize vs 18 = x18 at hK e18 ⊢
        subst e18
        obtain ⟨A21, e21, h21⟩ : ∃ A, vs 21 = .slice A 2 2 ∧ _ := hd.out 21 (by kernel_rfl)
        generalize vs 21 = x21 at hK e21 ⊢
        subst e21
        go_simp
        go_at_call 27
        refine (is_true ex4_is a A21 2 _ h18 h21 (by decide) (by decide)).mono ?_
        rintro e w9 ⟨rfl, hb⟩
        exact hK _ _ hb rfl
      refine AllS.cons rfl (fun vs wr hgr hd K hK => ?_) ?_
      focus
        have hK := hK.out
        dsimp only at hK ⊢
        have e12 : vs 12 = .bool true := hd.out 12 (by kernel_rfl)
        generalize vs 12 = x12 at hK e12 ⊢
        subst e12
        have e22 : vs 22 = .bool true := hd.out 22 (by kernel_rfl)
        generalize vs 22 = x22 at hK e22 ⊢
        subst e22
        go_simp
        exact hK _ _ (Below.refl _ _) rfl
      refine AllS.cons rfl (fun vs wr hgr hd K hK => ?_) ?_
      focus
        have hK := hK.out
        dsimp only at hK ⊢
        have e23 : vs 23 = .bool true := hd.out 23 (by kernel_rfl)
        generalize vs 23 = x23 at hK e23 ⊢
        subst e23
        go_simp
        exact hK _ _ (Below.refl _ _) rfl
      exact AllS.nil
    case hend =>
      intro vs w9 hg9 hall
      dsimp only
      have e24 : vs 24 = .bool true := hall.out 24 (by simp)
      generalize vs 24 = x24 at e24 ⊢
      subst e24
      have mk9 := Lib.hid (fun (wx : World) (hg : Gr w9 wx) => (mk.out _ (Gr.tr hg9 hg)).1)
      have G9 := Lib.hid (Gr.tr G2.out (Gr.tr hW.out (Gr.tr (grDrew _) hg9)))
      clear hW mk hall hg9 F1 F2 F3 G2
      go_upto_region 6 with (go_at_call 12; refine (Share_any ex5 ⟨some ⟨w9.heap.size, 0, none⟩, 1, some ⟨w9.heap.size + 1 + 1, 0, none⟩, 1, some ⟨w9.heap.size + 1 + 1 + 1, 0, none⟩, 1⟩ _ ⟨ints_blk (l := [1]) (by (repeat' (first | (refine newBlk _ _ _ ?_; (simp; done)) | refine mvAlloc ?_))), rows_blk [([], some ⟨w9.heap.size + 1, 0, none⟩, 0)] (by (repeat' (first | (refine newBlk _ _ _ ?_; (simp; done)) | refine mvAlloc ?_))) (all1 (.inl rfl)), ints_blk (l := [0]) (by (repeat' (first | (refine newBlk _ _ _ ?_; (simp; done)) | refine mvAlloc ?_)))⟩ (by decide)).mono ?_; intro e w8 hP; obtain ⟨hb, rfl⟩ := share5 hP; have E1 : Hid (Gr w9 w8) := Lib.hid (Gr.tr (by repeat (first | exact Below.refl _ _ | refine Gr.tr ?_ (grAlloc _ _))) hb))
      go_wp2_with (first
        | (have gg := E3; go_at_call 17; refine (Valid13_any ex6 ⟨some ⟨w7.heap.size, 0, none⟩, 1, none, 0, none, 0⟩ _ ⟨ints_blk (l := [1001]) (by (repeat' (first | (refine newBlk _ _ _ ?_; (simp; done)) | refine mvAlloc ?_))), .inl rfl, .inl rfl⟩ (by decide)).mono ?_; rw [ex6_not]; rintro e w6 ⟨rfl, hb⟩; have E4 := Lib.hid (Gr.tr (Gr.tr E3.out (grAlloc _ _)) hb))
        | (have gg := N2; go_at_call 28; refine (lwhole_any _ _).mono ?_; rintro e w7 ⟨rfl, hb⟩; replace N2 := Lib.hid (N2.out.gr hb); replace E2 := Lib.hid (Gr.tr E2.out hb))
        | (go_at_call 28; refine (lwhole_any _ _).mono ?_; rintro e w7 ⟨rfl, hb⟩; have N2 := Lib.hid (NetR.gr (n := ex2) (a := ⟨some ⟨w8.heap.size, 0, none⟩, 1, some ⟨b1, 0, none⟩, 3, some ⟨w8.heap.size + 1, 0, none⟩, 3⟩) ⟨ints_blk (l := [10]) (by (repeat' (first | (refine newBlk _ _ _ ?_; (simp; done)) | refine mvAlloc ?_))), (mk9.out _ E1.out).gr (Gr.tr (grAlloc _ _) (grAlloc _ _)), ints_blk (l := [0, 0, 0]) (by (repeat' (first | (refine newBlk _ _ _ ?_; (simp; done)) | refine mvAlloc ?_)))⟩ hb); have E2 : Hid (Gr w9 w7) := Lib.hid (Gr.tr (Gr.tr (Gr.tr E1.out (grAlloc _ _)) (grAlloc _ _)) hb))
        | (go_at_call 15; refine (Check_any ex2 _ [⟨3, 1⟩, ⟨3, 1⟩, ⟨4, 1⟩] (some ⟨w7.heap.size, 0, none⟩) 3 _ (N2.out.gr (grAlloc _ _)) (by decide) (qs_blk (by (repeat' (first | (refine newBlk _ _ _ ?_; (simp; done)) | refine mvAlloc ?_)))) (by decide)).mono ?_; rw [ex2_not]; rintro e w7 ⟨rfl, hb⟩; have E3 := Lib.hid (Gr.tr (Gr.tr E2.out (grAlloc _ _)) hb)))
      go_ret
      exact ⟨rfl, Gr.tr G9.out E4.out⟩
end Go.Proofs.Ytbjhdfakocfapaa
