/- The reference 09's Handler is the handlers' verification. -/
import Derived.Test.YthgngkajdiclcaaDoorNeA
import Derived.Test.YthgngkajdiclcaaDoorKyH
namespace Go.Proofs.YthgngkajdiclcaaDoor
open Go.RowKit
set_option linter.unusedVariables false
set_option linter.unusedSimpArgs false
namespace K
def put (hs : List Int) (j : Nat) (h : Int) : Option (List Int) := if 0 ≤ (hs[j]?).getD 0 ∧ (hs[j]?).getD 0 ≠ h then none else some (hs.set j h)
def badR (hs : List Int) (x : In) (i : Nat) : Prop := (hs[i]?).getD 0 < 0 ∨ (hs[i]?).getD 0 < tko x.op ∨ 64 < (hs[i]?).getD 0 - tko x.op + pt x.op
instance (hs : List Int) (x : In) (i : Nat) : Decidable (badR hs x i) := by unfold badR; infer_instance
def stepR (hs : List Int) (x : In) (i : Nat) : Option (List Int) :=
  if badR hs x i then none
  else if x.op = 13 then put hs x.n.toNat ((hs[i]?).getD 0 - tko x.op + pt x.op)
  else if x.op = 12 then (put hs x.n.toNat ((hs[i]?).getD 0 - tko x.op + pt x.op)).bind (fun h1 => put h1 (i + 1) ((hs[i]?).getD 0 - tko x.op + pt x.op))
  else put hs (i + 1) ((hs[i]?).getD 0 - tko x.op + pt x.op)
theorem form_op1 {op n r : Int} {i many : Nat} {vars : Int} (hf : formI ⟨op, n, r⟩ i many vars = true) : 1 ≤ op ∧ op ≤ 13 := (formI_iff.1 hf).1
theorem put_reach {hs : List Int} {j : Nat} {h : Int} (hb : ∀ n ∈ hs, -1 ≤ n ∧ n ≤ 64) (hj : j < hs.length) (h0 : 0 ≤ h) (h64 : h ≤ 64) : put hs j h = if (reach hs j h).2 = true then some (reach hs j h).1 else none := by
  have hv : -1 ≤ (hs[j]?).getD 0 := by rw [List.getElem?_eq_getElem hj]; exact (hb _ (List.getElem_mem hj)).1
  unfold put reach
  by_cases h1 : (hs[j]?).getD 0 = -1
  · rw [if_neg (by omega), if_pos h1]; simp [h64]
  · rw [if_neg h1]
    by_cases h2 : (hs[j]?).getD 0 = h
    · rw [if_neg (by omega)]
      have : hs.set j h = hs := by
        rw [List.getElem?_eq_getElem hj] at h2
        simp only [Option.getD_some] at h2
        rw [← h2]; simp
      rw [this]; simp [h2, h64]
    · rw [if_pos ⟨by omega, h2⟩]; simp [h2]
theorem put_comm {hs : List Int} {a b : Nat} {h : Int} : (put hs a h).bind (fun h1 => put h1 b h) = (put hs b h).bind (fun h1 => put h1 a h) := by
  by_cases hab : a = b
  · subst hab; rfl
  · unfold put
    by_cases pa : 0 ≤ (hs[a]?).getD 0 ∧ (hs[a]?).getD 0 ≠ h
    · rw [if_pos pa]
      by_cases pb : 0 ≤ (hs[b]?).getD 0 ∧ (hs[b]?).getD 0 ≠ h
      · rw [if_pos pb]; rfl
      · rw [if_neg pb]
        simp only [Option.bind_none, Option.bind_some]
        rw [List.getElem?_set_ne (Ne.symm hab), if_pos pa]
    · rw [if_neg pa]
      by_cases pb : 0 ≤ (hs[b]?).getD 0 ∧ (hs[b]?).getD 0 ≠ h
      · rw [if_pos pb]
        simp only [Option.bind_none, Option.bind_some]
        rw [List.getElem?_set_ne hab, if_pos pb]
      · rw [if_neg pb]
        simp only [Option.bind_some]
        rw [List.getElem?_set_ne hab, List.getElem?_set_ne (Ne.symm hab), if_neg pa, if_neg pb, List.set_comm _ _ hab]
theorem stepR_eq {hs : List Int} {x : In} {i many : Nat} {vars : Int} (hl : hs.length = many + 1) (hi : i < many) (hf : formI x i many vars = true) (hb : ∀ n ∈ hs, -1 ≤ n ∧ n ≤ 64) :
    stepR hs x i = if (soundI hs x i).2 = true then some (soundI hs x i).1 else none := by
  have t1 := tko_pos x.op
  have t2 := pt_pos x.op
  unfold stepR soundI
  by_cases h0 : (hs[i]?).getD 0 - tko x.op < 0
  · rw [if_pos (show badR hs x i from .inr (.inl (by omega))), if_pos h0]; rfl
  rw [if_neg h0]
  generalize hh : (hs[i]?).getD 0 - tko x.op + pt x.op = h
  by_cases h64 : 64 < h
  · rw [if_pos (show badR hs x i from .inr (.inr (by omega)))]
    have rb : ∀ (ts : List Int) (j : Nat), (reach ts j h).2 = false := fun ts j => by
      unfold reach
      split <;> simp <;> omega
    split
    · have := rb hs (i + 1)
      rcases hr : reach hs (i + 1) h with ⟨q, b⟩
      rw [hr] at this
      simp only at this
      subst this
      rfl
    · split
      · rw [rb]; rfl
      · rw [rb]; rfl
  rw [if_neg (show ¬ badR hs x i from fun hq => by unfold badR at hq; omega)]
  by_cases h13 : x.op = 13
  · have hn := form_n hf (.inr h13)
    rw [if_pos h13, if_neg (show ¬ x.op = 12 by omega), if_pos h13]
    exact put_reach hb (by omega) (by omega) (by omega)
  · rw [if_neg h13]
    by_cases h12 : x.op = 12
    · have hn := form_n hf (.inl h12)
      rw [if_pos h12, if_pos h12, put_comm, put_reach hb (by omega) (by omega) (by omega)]
      rcases hr : reach hs (i + 1) h with ⟨q, b⟩
      cases b with
      | false => rfl
      | true =>
        simp only [if_true, Option.bind_some]
        have hq := reach_ext hr
        exact put_reach (reach_bd hb (by omega) hr) (by rw [← hq.1]; omega) (by omega) (by omega)
    · rw [if_neg h12, if_neg h12, if_neg h13]
      exact put_reach hb (by omega) (by omega) (by omega)
theorem rest_R {vars : Int} {many i : Nat} {hs : List Int} {x : In} {xs : List In} (hl : hs.length = many + 1) (hi : i < many) (hb : ∀ n ∈ hs, -1 ≤ n ∧ n ≤ 64) (hf : formI x i many vars = true) :
    (stepR hs x i = none → restB vars many hs i (x :: xs) = false) ∧ (∀ h2, stepR hs x i = some h2 → restB vars many hs i (x :: xs) = restB vars many h2 (i + 1) xs ∧ h2.length = many + 1 ∧ ∀ n ∈ h2, -1 ≤ n ∧ n ≤ 64) := by
  have e := stepR_eq hl hi hf hb
  rcases hs2 : soundI hs x i with ⟨h3, b⟩
  rw [hs2] at e
  cases b with
  | false =>
    have e : stepR hs x i = none := e
    exact ⟨fun _ => rest_bad hf hs2, fun h2 h => by rw [e] at h; cases h⟩
  | true =>
    have e : stepR hs x i = some h3 := e
    refine ⟨fun h => (by rw [e] at h; cases h), fun h2 h => ?_⟩
    rw [e] at h
    cases h
    exact ⟨rest_ok hf hs2, by rw [← (sound_spec hl hi hf hs2).1.1]; exact hl, sound_bd hb hs2⟩
/-- the heights at first, up to k -/
def ini (k n : Nat) : List Int := (0 :: List.replicate k (-1)) ++ List.replicate (n - k) 0
theorem ini_len {k n : Nat} (h : k ≤ n) : (ini k n).length = n + 1 := by simp [ini]; omega
theorem ini_next {k n : Nat} (h : k < n) : (ini k n).set (k + 1) (-1) = ini (k + 1) n := by
  unfold ini
  rw [List.set_append_right _ _ (by simp), List.replicate_succ' (n := k)]
  simp only [List.length_cons, List.length_replicate, Nat.sub_self]
  rw [show n - k = (n - (k + 1)) + 1 by omega, List.replicate_succ]
  simp
theorem ini_all (n : Nat) : ini n n = 0 :: List.replicate n (-1) := by simp [ini]
theorem ini_zero (n : Nat) : ini 0 n = List.replicate (n + 1) 0 := by simp [ini, List.replicate_succ]
theorem iA_zero (n : Nat) : iA (List.replicate n 0) = Array.replicate n (Value.int .i64 0) := by simp [iA]
set_option maxHeartbeats 16000000 in
set_option maxRecDepth 100000 in
theorem RHandler_any (l : List In) (A : Option Addr) (c : Nat) (vars : Int) (w : World) (hR : InsR w l A) (hlen : l.length ≤ 100000) :
    Calls Tryd.prog 28 #[.slice A l.length c, .int .i64 vars] w (GG (.bool (verH l vars)) w) := by
  obtain ⟨R, hRR⟩ : ∃ R, verH l vars = R := ⟨_, rfl⟩
  rw [hRR]
  by_cases h4 : 4000 < l.length
  · have t4 : decide ((l.length : Int) > 4000) = true := by simp; omega
    obtain rfl : false = R := by rw [← hRR, verH_rest]; simp; omega
    clear hRR hR
    go_enter Tryd.func28, Tryd.ntmps28
    go_wp2
    go_ret
    exact ⟨rfl, Below.refl _ _⟩
  have t4 : decide ((l.length : Int) > 4000) = false := by simp; omega
  have hRH := Lib.hid (show restB vars l.length (0 :: List.replicate l.length (-1)) 0 (l.drop 0) = R by rw [← hRR, verH_rest, List.drop_zero]; simp; omega)
  have HR := Lib.hid hR
  have hlH := Lib.hid (show l.length ≤ 4000 by omega)
  clear hRR hR h4 hlen
  obtain ⟨ix, hi, hz0, hz1, hz2⟩ := info_parts intInfo
  have q0 : IntKind.i64.wrap ((l.length : Int) + 1) = (l.length : Int) + 1 := IntWalk.i64_in _ (by have := hlH.out; omega)
  have hmk : ∀ wx : World, (Instr.makeSlice 27 (.int .i64 ((l.length : Int) + 1)) (.int .i64 ((l.length : Int) + 1))).run Tryd.prog wx = .ok (.slice (some ⟨wx.heap.size, 0, none⟩) (l.length + 1) (l.length + 1)) (wx.alloc (.cells (iA (List.replicate (l.length + 1) 0)) 3)) := fun wx => by
    have := run_make wx 27 3 ix (.int .i64 0) Tryd.underlying27 hi hz0 .i64 .i64 ((l.length : Int) + 1) ((l.length : Int) + 1) (by omega) (by omega) (by rw [hz2]; have := hlH.out; omega) (by have := hlH.out; omega)
    rw [this, show ((l.length : Int) + 1).toNat = l.length + 1 by omega]
    simp [hz1, Value.cells, made1, iA]
  obtain ⟨g, hg⟩ : ∃ g, g = w.heap.size := ⟨_, rfl⟩
  have hgH := Lib.hid hg
  obtain ⟨W1, hW1⟩ : ∃ W1, W1 = w.alloc (.cells (iA (List.replicate (l.length + 1) 0)) 3) := ⟨_, rfl⟩
  have HX1 := Lib.hid (show W1.heap[g]? = some (.cells (iA (ini 0 l.length)) 3 (0, 0)) by rw [hW1, hg, ini_zero]; exact nBlk _ _ _ rfl)
  have HB1 := Lib.hid (show Gr w W1 by rw [hW1]; exact grAlloc _ _)
  go_enter Tryd.func28, Tryd.ntmps28
  go_upto_region 4 with fail
  rw [← hW1, ← hg]
  clear hW1 hmk hi hz0 hz1 hz2 hg
  go_wp2
  go_loopg [6] (l.length) (fun gk a6 wr => ∃ k j : Nat, k + gk = l.length ∧ j = k + 1 ∧ a6 = .int .i64 (j : Int) ∧ Hid (wr.heap[g]? = some (.cells (iA (ini k l.length)) 3 (0, 0))) ∧ Hid (Gr w wr))
  case atStart => exact ⟨0, 1, by omega, rfl, rfl, HX1, HB1⟩
  case round =>
    obtain ⟨k, j, hk, hj, rfl, hX, hB⟩ := hrel
    clear HX1 HB1
    have hjH := Lib.hid hj
    by_cases hlt : k < l.length
    · obtain ⟨gq, rfl⟩ : ∃ g, gk = g + 1 := ⟨gk - 1, by omega⟩
      have hln := hlH.out
      have tle : decide ((j : Int) ≤ (l.length : Int)) = true := by simp; omega
      have q1 : IntKind.i64.wrap ((j : Int) + 1) = ((j + 1 : Nat) : Int) := by rw [IntWalk.i64_in _ (by omega)]; omega
      have hX1 := hX.out
      have c0 := iA_at hX1 (i := j) (by rw [ini_len (by omega)]; omega)
      have d0 := frz hX1 j
      obtain ⟨W2, hW2⟩ : ∃ W2, W2 = wr.setCell ⟨g, j, none⟩ (.int .i64 (-1)) := ⟨_, rfl⟩
      have HX2 := Lib.hid (show W2.heap[g]? = some (.cells (iA (ini (k + 1) l.length)) 3 (0, 0)) by rw [hW2, ← ini_next hlt, ← hj]; exact iA_set hX1 _ _)
      have HB2 := Lib.hid (show Gr w W2 by rw [hW2]; exact belK hB.out (by rw [hgH.out]; exact Nat.le_refl _))
      have hW2H := Lib.hid hW2
      have hjl : j < l.length + 1 := by omega
      have hkm := Lib.hid (show k + 1 + gq = l.length by omega)
      clear hX hX1 hB hW2 hj hk hlt hln
      go_upto_region 6 with fail
      rw [← hW2H.out]
      clear c0 d0
      go_wp2
      go_roundg gq
      case measure => omega
      case rel => exact ⟨k + 1, j + 1, hkm.out, by rw [hjH.out], by go_num, HX2, HB2⟩
    · have hke : k = l.length := by omega
      have tle : decide ((j : Int) ≤ (l.length : Int)) = false := by simp; omega
      have hjn : l.length < j := by omega
      have tle2 : decide (j ≤ l.length) = false := by simp; omega
      have HX0 := Lib.hid (show wr.heap[g]? = some (.cells (iA (0 :: List.replicate l.length (-1))) 3 (0, 0)) by rw [← ini_all, ← hke, hke]; have := hX.out; rw [hke] at this; exact this)
      have HB0 := hB
      have hil0 := Lib.hid (show ((0 : Int) :: List.replicate l.length (-1)).length = l.length + 1 by simp)
      have hi0 := Lib.hid (show (∀ n ∈ (0 : Int) :: List.replicate l.length (-1), -1 ≤ n ∧ n ≤ 64) from fun n hn => by
        rcases List.mem_cons.1 hn with rfl | hn
        · omega
        · rw [List.eq_of_mem_replicate hn]; omega)
      clear hX hB hj hk hlt hke
      go_wp2
      go_loopg [7] (l.length) (fun gk a7 wr => ∃ (i : Nat) (hs : List Int), i + gk = l.length ∧ a7 = .int .i64 (i : Int) ∧ Hid (restB vars l.length hs i (l.drop i) = R) ∧ Hid (hs.length = l.length + 1) ∧ Hid (∀ n ∈ hs, -1 ≤ n ∧ n ≤ 64) ∧ Hid (wr.heap[g]? = some (.cells (iA hs) 3 (0, 0))) ∧ Hid (Gr w wr))
      case atStart => exact ⟨0, _, by omega, rfl, hRH, hil0, hi0, HX0, HB0⟩
      case round =>
        obtain ⟨i, hs, hij, rfl, hG, hhl, hhb, hX, hB⟩ := hrel
        clear HX0 HB0 hil0 hi0 hRH
        by_cases hlt : i < l.length
        · obtain ⟨gq, rfl⟩ : ∃ g, gk = g + 1 := ⟨gk - 1, by omega⟩
          have hx : l[i]? = some l[i] := List.getElem?_eq_getElem hlt
          have hGd := hG.out
          rw [List.drop_eq_getElem_cons hlt] at hGd
          obtain ⟨gl, ol, hLA, hat⟩ := (HR.out.gr hB.out).addr (by omega)
          subst hLA
          obtain ⟨e0, e1, e2⟩ := hat i _ hx
          have hrst := Lib.hid (fun (hf : formI l[i] i l.length vars = true) => rest_R (vars := vars) (xs := l.drop (i + 1)) hhl.out hlt hhb.out (x := l[i]) hf)
          clear hx hat hG
          generalize l[i] = x at *
          obtain ⟨op, n, r⟩ := x
          simp only at e0 e1 e2
          obtain ⟨W5, hW5⟩ : ∃ W5, W5 = wr.alloc (.cells #[.int .i64 op, .int .i64 n, .int .i64 r] 42) := ⟨_, rfl⟩
          have hg5 : Gr wr W5 := by rw [hW5]; exact grAlloc _ _
          have HI5 := Lib.hid (show W5.heap[wr.heap.size]? = some (.cells #[.int .i64 op, .int .i64 n, .int .i64 r] 42 (0, 0)) by rw [hW5]; exact nBlk _ _ _ rfl)
          have HX5 := Lib.hid (grBlk hg5 hX.out)
          have HB5 := Lib.hid (hB.out.tr hg5)
          have hgl := Lib.hid (blkLt hX.out)
          have HIn := Lib.hid (instr_any op n r i l.length vars)
          have hln := hlH.out
          have q1 : IntKind.i64.wrap ((i : Int) + 1) = ((i + 1 : Nat) : Int) := by rw [IntWalk.i64_in _ (by omega)]; omega
          have hih : i < hs.length := by rw [hhl.out]; omega
          have hbi : -1 ≤ (hs[i]?).getD 0 ∧ (hs[i]?).getD 0 ≤ 64 := by rw [List.getElem?_eq_getElem hih]; exact hhb.out _ (List.getElem_mem hih)
          clear hg5 hX hB
          go_upto_region 12 with fail
          rw [← hW5]
          clear hW5 e0 e1 e2
          obtain ⟨y0, y1, y2⟩ := cells3k HI5.out
          rcases hfm : formI ⟨op, n, r⟩ i l.length vars with _ | _
          · rw [hfm] at HIn
            rw [rest_form hfm] at hGd
            subst hGd
            clear hrst hfm
            go_wp2_with (go_at_call 38; refine (HIn.out _).mono ?_; rintro e w6 ⟨rfl, hg6⟩; have HB6 := Lib.hid (Gr.tr HB5.out hg6); clear hg6)
            go_ret
            exact ⟨rfl, HB6.out⟩
          · rw [hfm] at HIn
            have hrst := Lib.hid (hrst.out hfm)
            have hop := form_op1 hfm
            have hnn : op = 12 ∨ op = 13 → (0 ≤ n ∧ n.toNat < hs.length) := fun h => by
              have := form_n hfm h
              rw [hhl.out]
              simp only at this
              omega
            clear hfm
            have HTk := Lib.hid (Takes_any op hop)
            have t1 := tko_pos op
            have t2 := pt_pos op
            have t3 : tko op ≤ 2 ∧ pt op ≤ 1 := by constructor <;> (first | (unfold tko; split <;> (try split) <;> (try split) <;> omega) | (unfold pt; split <;> (try split) <;> (try split) <;> (try split) <;> omega))
            have hGH := Lib.hid hGd
            clear hGd
            have c5 := iA_at HX5.out hih
            unfold stepR badR at hrst
            simp only at hrst
            generalize hhi : (hs[i]?).getD 0 = hv at *
            generalize tko op = tq at *
            generalize pt op = pq at *
            have qa : IntKind.i64.wrap (hv - tq) = hv - tq := IntWalk.i64_in _ (by omega)
            have qb : IntKind.i64.wrap (hv - tq + pq) = hv - tq + pq := IntWalk.i64_in _ (by omega)
            have hhiH := Lib.hid hhi
            clear hhi
            obtain ⟨S, hSe⟩ : ∃ S, S = (if hv < 0 ∨ hv < tq ∨ 64 < hv - tq + pq then none else if op = 13 then put hs n.toNat (hv - tq + pq) else if op = 12 then (put hs n.toNat (hv - tq + pq)).bind (fun h1 => put h1 (i + 1) (hv - tq + pq)) else put hs (i + 1) (hv - tq + pq)) := ⟨_, rfl⟩
            have hst := Lib.hid (show (S = none → false = R) ∧ ∀ h2, S = some h2 → restB vars l.length h2 (i + 1) (l.drop (i + 1)) = R ∧ h2.length = l.length + 1 ∧ ∀ n ∈ h2, -1 ≤ n ∧ n ≤ 64 from ⟨fun hq => by
                rw [← hGH.out]; exact (hrst.out.1 (by rw [← hSe]; exact hq)).symm, fun h2 hq => by
                have k := hrst.out.2 h2 (by rw [← hSe]; exact hq)
                exact ⟨by rw [← hGH.out]; exact k.1.symm, k.2⟩⟩)
            clear hrst hGH
            by_cases p0 : hv < 0
            · have tz : decide (hv < 0) = true := by simp; omega
              obtain rfl : false = R := hst.out.1 (by rw [hSe]; exact if_pos (.inl p0))
              clear hst hSe p0
              go_wp2_with (go_at_call 38; refine (HIn.out _).mono ?_; rintro e w6 ⟨rfl, hg6⟩; have HB6 := Lib.hid (Gr.tr HB5.out hg6); have HX6 := Lib.hid (grBlk hg6 HX5.out); have HI6 := Lib.hid (grBlk hg6 HI5.out); have c6 := grCell hg6 c5; have y0 := grCell hg6 y0; have y1 := grCell hg6 y1; have y2 := grCell hg6 y2; clear hg6)
              go_ret
              exact ⟨rfl, HB6.out⟩
            have tz : decide (hv < 0) = false := by simp; omega
            go_upto_region 15 with (first | (go_at_call 38; refine (HIn.out _).mono ?_; rintro e w6 ⟨rfl, hg6⟩; have HB6 := Lib.hid (Gr.tr HB5.out hg6); have HX6 := Lib.hid (grBlk hg6 HX5.out); have HI6 := Lib.hid (grBlk hg6 HI5.out); have c6 := grCell hg6 c5; have y0 := grCell hg6 y0; have y1 := grCell hg6 y1; have y2 := grCell hg6 y2; clear hg6) | (go_at_call 39; refine (HTk.out _).mono ?_; rintro e w7 ⟨rfl, hw⟩; rw [hw]; clear hw))
            clear HI5 HX5 HB5 c5
            obtain ⟨h, hhe⟩ : ∃ h, hv - tq + pq = h := ⟨_, rfl⟩
            have qc : IntKind.i64.wrap (hv - tq + pq) = h := by rw [qb, hhe]
            rw [hhe] at hSe
            clear qb
            have hheH := Lib.hid hhe
            clear hhe
            by_cases p1 : hv < tq
            · have te : decide (hv < tq) = true := by simp; omega
              obtain rfl : false = R := hst.out.1 (by rw [hSe]; exact if_pos (.inr (.inl p1)))
              clear hst hSe p1
              go_wp2
              go_ret
              exact ⟨rfl, HB6.out⟩
            have te : decide (hv < tq) = false := by simp; omega
            by_cases p2 : 64 < h
            · have tf : decide (h > 64) = true := by simp; omega
              obtain rfl : false = R := hst.out.1 (by rw [hSe]; exact if_pos (.inr (.inr p2)))
              clear hst hSe p2
              go_wp2
              go_ret
              exact ⟨rfl, HB6.out⟩
            have tf : decide (h > 64) = false := by simp; omega
            rw [if_neg (by omega)] at hSe
            clear p0 p1 p2 tz
            by_cases h13 : op = 13
            · have t13 : (op == 13) = true := by simp [h13]
              have t13n : (op != 13) = false := by simp [h13]
              rw [if_pos h13] at hSe
              obtain ⟨hn0, hnl⟩ := hnn (.inr h13)
              obtain ⟨jn, hjn⟩ := Int.eq_ofNat_of_zero_le hn0
              have hjnH := Lib.hid hjn
              rw [hjn] at y1
              rw [hjn, Int.toNat_natCast] at hSe hnl
              have hnl2 : jn < l.length + 1 := by rw [← hhl.out]; exact hnl
              have hSS := Lib.hid hSe
              clear h13 hjn hn0 hnn hSe
              go_upto_region 19 with fail
              have cn := iA_at HX6.out (i := jn) (by exact hnl)
              have dn := frz HX6.out jn
              generalize hhn : ((hs)[jn]?).getD 0 = hn at *
              have hhnH := Lib.hid hhn
              clear hhn
              by_cases pn : 0 ≤ hn ∧ hn ≠ h
              · have ta : decide (hn ≥ 0) = true := by simp; omega
                have tb : (hn != h) = true := by simp; omega
                obtain rfl : false = R := hst.out.1 (by rw [hSS.out]; unfold put; rw [hhnH.out]; exact if_pos pn)
                clear hst pn hSS
                go_wp2
                go_ret
                exact ⟨rfl, HB6.out⟩
              · have hput := Lib.hid (show put (hs) jn h = some ((hs).set jn h) by unfold put; rw [hhnH.out]; exact if_neg pn)
                obtain ⟨W7, hW7⟩ : ∃ W7, W7 = w6.setCell ⟨g, jn, none⟩ (.int .i64 h) := ⟨_, rfl⟩
                have HX7 := Lib.hid (show W7.heap[g]? = some (.cells (iA ((hs).set jn h)) 3 (0, 0)) by rw [hW7]; exact iA_set HX6.out _ _)
                have HB7 := Lib.hid (show Gr w W7 by rw [hW7]; exact belK HB6.out (by rw [hgH.out]; exact Nat.le_refl _))
                have hIW7 := Lib.hid (show W7.heap[wr.heap.size]? = some (.cells #[.int .i64 op, .int .i64 n, .int .i64 r] 42 (0, 0)) by rw [hW7]; exact (heap_setCell_other _ _ _ _ (show wr.heap.size ≠ g by have := hgl.out; omega)).trans HI6.out)
                have hW7H := Lib.hid hW7
                clear hW7
                by_cases pa : 0 ≤ hn
                · have ta : decide (hn ≥ 0) = true := by simp; omega
                  have tb : (hn != h) = false := by simp; omega
                  clear pn pa
                  go_upto_region 22 with fail
                  rw [← hW7H.out]
                  clear cn dn ta tb
                  clear y0 y1 y2; obtain ⟨y0, y1, y2⟩ := cells3k hIW7.out
                  obtain ⟨g1, g2, g3⟩ := hst.out.2 _ (by rw [hSS.out]; exact hput.out)
                  have g1 := Lib.hid g1
                  have g2 := Lib.hid g2
                  have g3 := Lib.hid g3
                  clear hst hSS
                  go_wp2
                  go_roundg gq
                  case measure => omega
                  case rel => exact ⟨i + 1, _, by omega, by go_num, g1, g2, g3, HX7, HB7⟩
                · have ta : decide (hn ≥ 0) = false := by simp; omega
                  clear pn pa
                  go_upto_region 22 with fail
                  rw [← hW7H.out]
                  clear cn dn ta
                  clear y0 y1 y2; obtain ⟨y0, y1, y2⟩ := cells3k hIW7.out
                  obtain ⟨g1, g2, g3⟩ := hst.out.2 _ (by rw [hSS.out]; exact hput.out)
                  have g1 := Lib.hid g1
                  have g2 := Lib.hid g2
                  have g3 := Lib.hid g3
                  clear hst hSS
                  go_wp2
                  go_roundg gq
                  case measure => omega
                  case rel => exact ⟨i + 1, _, by omega, by go_num, g1, g2, g3, HX7, HB7⟩
            · have t13 : (op == 13) = false := by simp [h13]
              have t13n : (op != 13) = true := by simp [h13]
              rw [if_neg h13] at hSe
              by_cases h12 : op = 12
              · have t12 : (op == 12) = true := by simp [h12]
                rw [if_pos h12] at hSe
                obtain ⟨hn0, hnl⟩ := hnn (.inl h12)
                obtain ⟨jn, hjn⟩ := Int.eq_ofNat_of_zero_le hn0
                have hjnH := Lib.hid hjn
                rw [hjn] at y1
                rw [hjn, Int.toNat_natCast] at hSe hnl
                have hnl2 : jn < l.length + 1 := by rw [← hhl.out]; exact hnl
                have hSe0 := Lib.hid hSe
                clear h12 h13 hjn hn0 hnn hSe
                go_upto_region 19 with fail
                have cn := iA_at HX6.out (i := jn) (by exact hnl)
                have dn := frz HX6.out jn
                generalize hhn : ((hs)[jn]?).getD 0 = hn at *
                have hhnH := Lib.hid hhn
                clear hhn
                by_cases pn : 0 ≤ hn ∧ hn ≠ h
                · have ta : decide (hn ≥ 0) = true := by simp; omega
                  have tb : (hn != h) = true := by simp; omega
                  obtain rfl : false = R := hst.out.1 (by rw [hSe0.out, show put hs jn h = none by unfold put; rw [hhnH.out]; exact if_pos pn]; rfl)
                  clear hst pn
                  go_wp2
                  go_ret
                  exact ⟨rfl, HB6.out⟩
                · have hput := Lib.hid (show put (hs) jn h = some ((hs).set jn h) by unfold put; rw [hhnH.out]; exact if_neg pn)
                  obtain ⟨W7, hW7⟩ : ∃ W7, W7 = w6.setCell ⟨g, jn, none⟩ (.int .i64 h) := ⟨_, rfl⟩
                  have HX7 := Lib.hid (show W7.heap[g]? = some (.cells (iA ((hs).set jn h)) 3 (0, 0)) by rw [hW7]; exact iA_set HX6.out _ _)
                  have HB7 := Lib.hid (show Gr w W7 by rw [hW7]; exact belK HB6.out (by rw [hgH.out]; exact Nat.le_refl _))
                  have hIW7 := Lib.hid (show W7.heap[wr.heap.size]? = some (.cells #[.int .i64 op, .int .i64 n, .int .i64 r] 42 (0, 0)) by rw [hW7]; exact (heap_setCell_other _ _ _ _ (show wr.heap.size ≠ g by have := hgl.out; omega)).trans HI6.out)
                  have hW7H := Lib.hid hW7
                  clear hW7
                  by_cases pa : 0 ≤ hn
                  · have ta : decide (hn ≥ 0) = true := by simp; omega
                    have tb : (hn != h) = false := by simp; omega
                    clear pn pa
                    go_upto_region 22 with fail
                    rw [← hW7H.out]
                    clear cn dn ta tb
                    have hSS := Lib.hid (show S = put (hs.set jn h) (i + 1) h by rw [hSe0.out, hput.out]; rfl)
                    have hll2 := Lib.hid (show i + 1 < (hs.set jn h).length by rw [List.length_set, hhl.out]; omega)
                    clear hput hhnH y0 y1 y2
                    generalize hs.set jn h = hz at *
                    obtain ⟨y0, y1, y2⟩ := cells3k hIW7.out
                    have cn := iA_at HX7.out (i := (i + 1)) (by exact hll2.out)
                    have dn := frz HX7.out (i + 1)
                    generalize hhn : ((hz)[(i + 1)]?).getD 0 = hn at *
                    have hhnH := Lib.hid hhn
                    clear hhn
                    by_cases pn : 0 ≤ hn ∧ hn ≠ h
                    · have ta : decide (hn ≥ 0) = true := by simp; omega
                      have tb : (hn != h) = true := by simp; omega
                      obtain rfl : false = R := hst.out.1 (by rw [hSS.out]; unfold put; rw [hhnH.out]; exact if_pos pn)
                      clear hst pn hSS
                      go_wp2
                      go_ret
                      exact ⟨rfl, HB7.out⟩
                    · have hput := Lib.hid (show put (hz) (i + 1) h = some ((hz).set (i + 1) h) by unfold put; rw [hhnH.out]; exact if_neg pn)
                      obtain ⟨W8, hW8⟩ : ∃ W8, W8 = W7.setCell ⟨g, (i + 1), none⟩ (.int .i64 h) := ⟨_, rfl⟩
                      have HX8 := Lib.hid (show W8.heap[g]? = some (.cells (iA ((hz).set (i + 1) h)) 3 (0, 0)) by rw [hW8]; exact iA_set HX7.out _ _)
                      have HB8 := Lib.hid (show Gr w W8 by rw [hW8]; exact belK HB7.out (by rw [hgH.out]; exact Nat.le_refl _))
                      have hIW8 := Lib.hid (show W8.heap[wr.heap.size]? = some (.cells #[.int .i64 op, .int .i64 n, .int .i64 r] 42 (0, 0)) by rw [hW8]; exact (heap_setCell_other _ _ _ _ (show wr.heap.size ≠ g by have := hgl.out; omega)).trans hIW7.out)
                      have hW8H := Lib.hid hW8
                      clear hW8
                      by_cases pa : 0 ≤ hn
                      · have ta : decide (hn ≥ 0) = true := by simp; omega
                        have tb : (hn != h) = false := by simp; omega
                        clear pn pa
                        go_upto_region 10 with fail
                        rw [← hW8H.out]
                        clear cn dn ta tb
                        obtain ⟨g1, g2, g3⟩ := hst.out.2 _ (by rw [hSS.out]; exact hput.out)
                        have g1 := Lib.hid g1
                        have g2 := Lib.hid g2
                        have g3 := Lib.hid g3
                        clear hst hSS
                        go_wp2
                        go_roundg gq
                        case measure => omega
                        case rel => exact ⟨i + 1, _, by omega, by go_num, g1, g2, g3, HX8, HB8⟩
                      · have ta : decide (hn ≥ 0) = false := by simp; omega
                        clear pn pa
                        go_upto_region 10 with fail
                        rw [← hW8H.out]
                        clear cn dn ta
                        obtain ⟨g1, g2, g3⟩ := hst.out.2 _ (by rw [hSS.out]; exact hput.out)
                        have g1 := Lib.hid g1
                        have g2 := Lib.hid g2
                        have g3 := Lib.hid g3
                        clear hst hSS
                        go_wp2
                        go_roundg gq
                        case measure => omega
                        case rel => exact ⟨i + 1, _, by omega, by go_num, g1, g2, g3, HX8, HB8⟩
                  · have ta : decide (hn ≥ 0) = false := by simp; omega
                    clear pn pa
                    go_upto_region 22 with fail
                    rw [← hW7H.out]
                    clear cn dn ta
                    have hSS := Lib.hid (show S = put (hs.set jn h) (i + 1) h by rw [hSe0.out, hput.out]; rfl)
                    have hll2 := Lib.hid (show i + 1 < (hs.set jn h).length by rw [List.length_set, hhl.out]; omega)
                    clear hput hhnH y0 y1 y2
                    generalize hs.set jn h = hz at *
                    obtain ⟨y0, y1, y2⟩ := cells3k hIW7.out
                    have cn := iA_at HX7.out (i := (i + 1)) (by exact hll2.out)
                    have dn := frz HX7.out (i + 1)
                    generalize hhn : ((hz)[(i + 1)]?).getD 0 = hn at *
                    have hhnH := Lib.hid hhn
                    clear hhn
                    by_cases pn : 0 ≤ hn ∧ hn ≠ h
                    · have ta : decide (hn ≥ 0) = true := by simp; omega
                      have tb : (hn != h) = true := by simp; omega
                      obtain rfl : false = R := hst.out.1 (by rw [hSS.out]; unfold put; rw [hhnH.out]; exact if_pos pn)
                      clear hst pn hSS
                      go_wp2
                      go_ret
                      exact ⟨rfl, HB7.out⟩
                    · have hput := Lib.hid (show put (hz) (i + 1) h = some ((hz).set (i + 1) h) by unfold put; rw [hhnH.out]; exact if_neg pn)
                      obtain ⟨W8, hW8⟩ : ∃ W8, W8 = W7.setCell ⟨g, (i + 1), none⟩ (.int .i64 h) := ⟨_, rfl⟩
                      have HX8 := Lib.hid (show W8.heap[g]? = some (.cells (iA ((hz).set (i + 1) h)) 3 (0, 0)) by rw [hW8]; exact iA_set HX7.out _ _)
                      have HB8 := Lib.hid (show Gr w W8 by rw [hW8]; exact belK HB7.out (by rw [hgH.out]; exact Nat.le_refl _))
                      have hIW8 := Lib.hid (show W8.heap[wr.heap.size]? = some (.cells #[.int .i64 op, .int .i64 n, .int .i64 r] 42 (0, 0)) by rw [hW8]; exact (heap_setCell_other _ _ _ _ (show wr.heap.size ≠ g by have := hgl.out; omega)).trans hIW7.out)
                      have hW8H := Lib.hid hW8
                      clear hW8
                      by_cases pa : 0 ≤ hn
                      · have ta : decide (hn ≥ 0) = true := by simp; omega
                        have tb : (hn != h) = false := by simp; omega
                        clear pn pa
                        go_upto_region 10 with fail
                        rw [← hW8H.out]
                        clear cn dn ta tb
                        obtain ⟨g1, g2, g3⟩ := hst.out.2 _ (by rw [hSS.out]; exact hput.out)
                        have g1 := Lib.hid g1
                        have g2 := Lib.hid g2
                        have g3 := Lib.hid g3
                        clear hst hSS
                        go_wp2
                        go_roundg gq
                        case measure => omega
                        case rel => exact ⟨i + 1, _, by omega, by go_num, g1, g2, g3, HX8, HB8⟩
                      · have ta : decide (hn ≥ 0) = false := by simp; omega
                        clear pn pa
                        go_upto_region 10 with fail
                        rw [← hW8H.out]
                        clear cn dn ta
                        obtain ⟨g1, g2, g3⟩ := hst.out.2 _ (by rw [hSS.out]; exact hput.out)
                        have g1 := Lib.hid g1
                        have g2 := Lib.hid g2
                        have g3 := Lib.hid g3
                        clear hst hSS
                        go_wp2
                        go_roundg gq
                        case measure => omega
                        case rel => exact ⟨i + 1, _, by omega, by go_num, g1, g2, g3, HX8, HB8⟩
              · have t12 : (op == 12) = false := by simp [h12]
                rw [if_neg h12] at hSe
                have hSS := Lib.hid hSe
                clear h12 h13 hnn hSe
                go_upto_region 23 with fail
                have cn := iA_at HX6.out (i := (i + 1)) (by rw [hhl.out]; omega)
                have dn := frz HX6.out (i + 1)
                generalize hhn : ((hs)[(i + 1)]?).getD 0 = hn at *
                have hhnH := Lib.hid hhn
                clear hhn
                by_cases pn : 0 ≤ hn ∧ hn ≠ h
                · have ta : decide (hn ≥ 0) = true := by simp; omega
                  have tb : (hn != h) = true := by simp; omega
                  obtain rfl : false = R := hst.out.1 (by rw [hSS.out]; unfold put; rw [hhnH.out]; exact if_pos pn)
                  clear hst pn hSS
                  go_wp2
                  go_ret
                  exact ⟨rfl, HB6.out⟩
                · have hput := Lib.hid (show put (hs) (i + 1) h = some ((hs).set (i + 1) h) by unfold put; rw [hhnH.out]; exact if_neg pn)
                  obtain ⟨W7, hW7⟩ : ∃ W7, W7 = w6.setCell ⟨g, (i + 1), none⟩ (.int .i64 h) := ⟨_, rfl⟩
                  have HX7 := Lib.hid (show W7.heap[g]? = some (.cells (iA ((hs).set (i + 1) h)) 3 (0, 0)) by rw [hW7]; exact iA_set HX6.out _ _)
                  have HB7 := Lib.hid (show Gr w W7 by rw [hW7]; exact belK HB6.out (by rw [hgH.out]; exact Nat.le_refl _))
                  have hIW7 := Lib.hid (show W7.heap[wr.heap.size]? = some (.cells #[.int .i64 op, .int .i64 n, .int .i64 r] 42 (0, 0)) by rw [hW7]; exact (heap_setCell_other _ _ _ _ (show wr.heap.size ≠ g by have := hgl.out; omega)).trans HI6.out)
                  have hW7H := Lib.hid hW7
                  clear hW7
                  by_cases pa : 0 ≤ hn
                  · have ta : decide (hn ≥ 0) = true := by simp; omega
                    have tb : (hn != h) = false := by simp; omega
                    clear pn pa
                    go_upto_region 10 with fail
                    rw [← hW7H.out]
                    clear cn dn ta tb
                    obtain ⟨g1, g2, g3⟩ := hst.out.2 _ (by rw [hSS.out]; exact hput.out)
                    have g1 := Lib.hid g1
                    have g2 := Lib.hid g2
                    have g3 := Lib.hid g3
                    clear hst hSS
                    go_wp2
                    go_roundg gq
                    case measure => omega
                    case rel => exact ⟨i + 1, _, by omega, by go_num, g1, g2, g3, HX7, HB7⟩
                  · have ta : decide (hn ≥ 0) = false := by simp; omega
                    clear pn pa
                    go_upto_region 10 with fail
                    rw [← hW7H.out]
                    clear cn dn ta
                    obtain ⟨g1, g2, g3⟩ := hst.out.2 _ (by rw [hSS.out]; exact hput.out)
                    have g1 := Lib.hid g1
                    have g2 := Lib.hid g2
                    have g3 := Lib.hid g3
                    clear hst hSS
                    go_wp2
                    go_roundg gq
                    case measure => omega
                    case rel => exact ⟨i + 1, _, by omega, by go_num, g1, g2, g3, HX7, HB7⟩
        · have hie : i = l.length := by omega
          have hGe := hG.out
          rw [hie, List.drop_eq_nil_of_le (Nat.le_refl _)] at hGe
          have hGe : decide ((hs[l.length]?).getD 0 = 0) = R := hGe
          have c0 := iA_at hX.out (i := l.length) (by rw [hhl.out]; omega)
          have tq : ((hs[l.length]?).getD 0 == 0) = R := by rw [← hGe]; by_cases h : (hs[l.length]?).getD 0 = 0 <;> simp [h]
          have hkl : decide ((i : Int) < (l.length : Int)) = false := by simp; omega
          clear hGe hG hie
          generalize (hs[l.length]?).getD 0 = q at *
          go_wp2
          go_ret
          exact ⟨rfl, hB.out⟩
end K
end Go.Proofs.YthgngkajdiclcaaDoor
