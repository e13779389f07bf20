/- Texts of one proof: PxW. -/
import Derived.Test.YtdaghppcomckbaaGreatDoorPxV
/- The parser: paths, flows. -/
namespace Go.Proofs.YtdaghppcomckbaaGreatDoor
open Go.RowKit
set_option linter.unusedVariables false
set_option linter.unusedSimpArgs false

theorem VNds.appL {B B' : Nat} {w w2 : World} {v : Value} {ts us : List Nd} {g cap H : Nat} {vs vs2 : List Value} (hown : w.ownsRow B 25 6 v ts.length vs) (hr : RowsR w (Beside B v) ts vs) (hk : RowsR w (From B') us vs2)
    (hv : ∀ k, v.ownBlock = some k → k < B') (hB : B ≤ B') (hg : w.grownBy w2 v.ownBlock)
    (hown2 : w2.ownsRow B 25 6 (.slice (some ⟨g, 0, none⟩) (ts.length + us.length) cap) (ts.length + us.length) (vs ++ vs2)) (hat : v.ownBlock = some g ∨ g = H) (hH : w.heap.size ≤ H) :
    VNds B w2 (.slice (some ⟨g, 0, none⟩) (ts.length + us.length) cap) (ts ++ us) := by
  have hkeep : ∀ k, Beside B v k → k < w.heap.size → w2.heap[k]? = w.heap[k]? ∧ Beside B (.slice (some ⟨g, 0, none⟩) (ts.length + us.length) cap) k := by
    intro k hk1 hk2
    refine ⟨hg.block k hk2 (fun e => hk1.2 e.symm), hk1.1, ?_⟩
    simp only [Value.ownBlock]
    intro e
    rcases hat with h1 | h1
    · exact hk1.2 (h1.trans e)
    · cases e; omega
  have hk' : RowsR w2 (Beside B (.slice (some ⟨g, 0, none⟩) (ts.length + us.length) cap)) us vs2 :=
    hk.keep (fun k hk1 hk2 => hkeep k ⟨Nat.le_trans hB hk1, fun e => by have := hv k e; exact absurd this (Nat.not_lt.2 hk1)⟩ hk2)
  exact ⟨vs ++ vs2, by simpa using hown2, RowsR.app hk' ts vs (hr.keep hkeep)⟩
theorem StrS.drew {w : World} {g : Nat} {ws : List ByteArray} (h : StrS w g ws) : StrS w.drew g ws := h
theorem rows_one {w : World} {P : Nat → Prop} : ∀ (ts : List Nd) (vs : List Value), RowsR w P ts vs → ∀ u ∈ vs, u.oneCell' = true
  | [], vs, h => by unfold RowsR at h; subst h; simp
  | t :: ts, vs, h => by
    obtain ⟨A, c, rest, rfl, h2, h3⟩ := h
    intro u hu
    rcases List.mem_append.1 hu with h4 | h4
    · exact nd_one t A c u h4
    · exact rows_one ts rest h3 u h4
theorem names_len : ∀ (f : Nat) (acc : List Nd) (l : List Tk) (ts : List Nd) (l1 : List Tk), namesF f acc l = .ok ts l1 → acc.length ≤ ts.length ∧ ts.length ≤ acc.length + f
  | 0, acc, l, ts, l1, h => by obtain ⟨rfl, -⟩ := ok_inj h; omega
  | f + 1, acc, l, ts, l1, h => by
    rw [namesF] at h
    split at h
    · obtain ⟨x, l2, h1, h⟩ := bind_ok h
      have := names_len f _ _ _ _ h
      simp at this
      omega
    · obtain ⟨rfl, -⟩ := ok_inj h; omega
theorem names_pos (f : Nat) (l : List Tk) (ts : List Nd) (l1 : List Tk) (h : namesF (f + 1) [] l = .ok ts l1) : 1 ≤ ts.length ∧ ts.length ≤ f + 1 := by
  have h2 := (names_len _ _ _ _ _ h).2
  rw [namesF, if_pos (.inl rfl)] at h
  obtain ⟨x, l2, h1, h⟩ := bind_ok h
  have := (names_len _ _ _ _ _ h).1
  simp at this h2
  exact ⟨this, by omega⟩
def namesM (l : List Tk) : Res (List Nd) := namesF (l.length + 1) [] l
def backWs : List ByteArray := [⟨#[98, 97, 99, 107]⟩]
def pathM (l : List Tk) : Res Nd := (nameM l).bind fun x l1 => (namesM l1).bind fun ts l2 => (settingsF backWs [] l2).bind fun us l3 => (wordM ⟨#[59]⟩ l3).bind fun _ l4 => .ok (.mk 4 x 0 0 0 (ts ++ us)) l4
def flowWs : List ByteArray := [⟨#[115, 105, 122, 101]⟩, ⟨#[119, 105, 110, 100, 111, 119]⟩, ⟨#[115, 116, 97, 114, 116]⟩]
def flowM (l : List Tk) : Res Nd := (nameM l).bind fun x l1 => (wordM ⟨#[112, 114, 111, 103, 114, 97, 109]⟩ l1).bind fun _ l2 => (nameM l2).bind fun y l3 => (wordM ⟨#[112, 97, 116, 104, 115]⟩ l3).bind fun _ l4 => (namesM l4).bind fun ts l5 => (settingsF flowWs [] l5).bind fun us l6 => (wordM ⟨#[59]⟩ l6).bind fun _ l7 => .ok (.mk 5 x 0 0 0 ([nmNd y (hd l2).a] ++ ts ++ us)) l7
theorem names_any' (C : Cx) (w : World) (nx : Nat) (dv : Value) (ds : List (Int × Int)) (h : PS C w nx dv ds) (hds : ds.length ≤ 100) :
    Calls Tryz.prog 61 #[.pointer (some ⟨C.R, 0, none⟩)] w (Out C nx dv ds w VNds (namesM (C.l nx))) := names_any C w nx dv ds h hds
theorem own1 {w : World} {B b : Nat} {y : ByteArray} {a : Int} (h : w.heap[b]? = some (.cells #[.int .i64 14, .string y, .int .i64 0, .int .i64 0, .int .i64 a, .slice none 0 0] 25 (0, 0))) (hB : B ≤ b) :
    VNds B w (.slice (some ⟨b, 0, none⟩) 1 1) [nmNd y a] :=
  ⟨nCells (nmNd y a) none 0, ⟨rfl, .inr ⟨b, 1, _, rfl, hB, h, Nat.le_refl _, by unfold maxLen; decide, rfl, rfl⟩⟩, RowsR.one (nmNd y a) none 0 trivial⟩

set_option maxHeartbeats 2000000 in
set_option maxRecDepth 100000 in
theorem path_any (C : Cx) (w : World) (nx : Nat) (dv : Value) (ds : List (Int × Int))  (h : PS C w nx dv ds) (hds : ds.length ≤ 100) :
    Calls Tryz.prog 40 #[.pointer (some ⟨C.R, 0, none⟩)] w (Out C nx dv ds w VNd (pathM (C.l nx))) := by
  have h0 := Lib.hid h
  have hR0 := h.RLt
  have hA0 := Lib.hid (At.start h)
  have hn0 : nx ≤ nx := Nat.le_refl _
  obtain ⟨r, hr⟩ : ∃ r, pathM (C.l nx) = r := ⟨_, rfl⟩
  rw [hr]
  unfold pathM at hr
  have hrH := Lib.hid hr
  clear hr h
  have hr := Lib.hid hrH.out
  clear hrH
  go_enter Tryz.func40, Tryz.ntmps40
  go_wp2_with fail
  refine (name_any C _ nx dv ds (hA0.out.loc h0.out (b := w.heap.size) (by repeat with_reducible first | exact gbRefl _ _ | apply gbAlloc | apply gbDrew | apply gbSet) (Nat.le_refl _)).ps hds).mono ?_
  intro e w1 ho
  rcases hm : nameM (C.l nx) with ⟨x, l1⟩ | ⟨er, l1⟩
  rotate_left
  · have hre : Hid (Res.err er l1 = r) := by have := hr.out; rw [hm] at this; exact this
    rw [hm] at ho
    clear hm
    obtain ⟨nxe, hle, hne, ⟨T, pv, rfl⟩, ⟨dv', hPe⟩, hke⟩ := ho
    have hF := Lib.hid (Out.fail (V := VNd) hre.out hle hn0 hne ⟨T, pv, rfl⟩ hPe (hA0.out.loc h0.out (b := w.heap.size) (by repeat with_reducible first | exact gbRefl _ _ | apply gbAlloc | apply gbDrew | apply gbSet) (Nat.le_refl _)).kp hke)
    clear hPe hke hle
    go_wp2
    exact ⟨rfl, hF.out⟩
  have hrn := hr.out
  rw [hm, Res.bind_ok] at hrn
  clear hr
  have hr := Lib.hid hrn
  clear hrn
  rw [hm] at ho
  clear hm
  obtain ⟨nx1, v1, hl, hn, rfl, hv, hP, hk⟩ := ho
  unfold VStr at hv
  subst hv hl
  have hn1 : nx ≤ nx1 := Nat.le_trans hn0 hn
  have hA1 := Lib.hid ((hA0.out.loc h0.out (b := w.heap.size) (by repeat with_reducible first | exact gbRefl _ _ | apply gbAlloc | apply gbDrew | apply gbSet) (Nat.le_refl _)).step hP hk)
  have hs1 : w.heap.size + 1 ≤ w1.heap.size := (by have := hk.size; (try simp at this); omega)
  have b2' := Lib.hid (hk.blk (b := w.heap.size) (Eq.trans (gbBlk (row := none) (by repeat with_reducible first | exact gbRefl _ _ | apply gbAlloc | apply gbDrew | apply gbSet) (by simp <;> omega) (by simp)) (newBlk w _ _ (by simp))) (by omega))
  have b2 := Lib.hid b2'.out
  clear b2'
  have xb2_1 : w.heap.size < w1.heap.size := blkLt b2.out
  have hr1 : C.R < w1.heap.size := hA1.out.ps.RLt
  clear hP hk hn
  go_wp2_with fail
  refine (names_any' C _ nx1 dv ds (hA1.out.loc h0.out (b := w.heap.size) (by repeat with_reducible first | exact gbRefl _ _ | apply gbAlloc | apply gbDrew | apply gbSet) (Nat.le_refl _)).ps hds).mono ?_
  intro e w2 ho
  rcases hm : namesM (C.l nx1) with ⟨ts, l2⟩ | ⟨er, l2⟩
  rotate_left
  · have hre : Hid (Res.err er l2 = r) := by have := hr.out; rw [hm] at this; exact this
    rw [hm] at ho
    clear hm
    obtain ⟨nxe, hle, hne, ⟨T, pv, rfl⟩, ⟨dv', hPe⟩, hke⟩ := ho
    have hF := Lib.hid (Out.fail (V := VNd) hre.out hle hn1 hne ⟨T, pv, rfl⟩ hPe (hA1.out.loc h0.out (b := w.heap.size) (by repeat with_reducible first | exact gbRefl _ _ | apply gbAlloc | apply gbDrew | apply gbSet) (Nat.le_refl _)).kp hke)
    clear hPe hke hle
    go_wp2
    exact ⟨rfl, hF.out⟩
  have hrn := hr.out
  rw [hm, Res.bind_ok] at hrn
  clear hr
  have hr := Lib.hid hrn
  clear hrn
  have hlt3 : ts.length ≤ 3002 := by
    have h1 := (names_pos _ _ _ _ hm).2
    have h2 := hA1.out.ps.lt
    have h3 := hA1.out.ps.le
    rw [Cx.llen] at h1
    omega
  rw [hm] at ho
  clear hm
  obtain ⟨nx2, v2, hl, hn, rfl, hv, hP, hk⟩ := ho
  have OLn := Lib.hid hv
  obtain ⟨A2, c2, rfl⟩ := hv.own
  clear hv
  subst hl
  have hn2 : nx ≤ nx2 := Nat.le_trans hn1 hn
  have hA2 := Lib.hid ((hA1.out.loc h0.out (b := w.heap.size) (by repeat with_reducible first | exact gbRefl _ _ | apply gbAlloc | apply gbDrew | apply gbSet) (Nat.le_refl _)).step hP hk)
  have hs2 : w1.heap.size + 1 ≤ w2.heap.size := (by have := hk.size; (try simp at this); omega)
  have b2' := Lib.hid (hk.blk (b := w.heap.size) (Eq.trans (gbBlk (row := none) (by repeat with_reducible first | exact gbRefl _ _ | apply gbAlloc | apply gbDrew | apply gbSet) (blkLt b2.out) (by simp)) b2.out) (by omega))
  have b3' := Lib.hid (hk.blk (b := w1.heap.size) (Eq.trans (gbBlk (row := none) (by repeat with_reducible first | exact gbRefl _ _ | apply gbAlloc | apply gbDrew | apply gbSet) (by simp <;> omega) (by simp)) (newBlk w1 _ _ (by simp))) (by omega))
  clear b2
  have b2 := Lib.hid b2'.out
  clear b2'
  have xb2_2 : w.heap.size < w2.heap.size := blkLt b2.out
  have b3 := Lib.hid b3'.out
  clear b3'
  have xb3_2 : w1.heap.size < w2.heap.size := blkLt b3.out
  have hr2 : C.R < w2.heap.size := hA2.out.ps.RLt
  have OL := Lib.hid (VNds.low (B' := w1.heap.size + 1) (by simp <;> omega) OLn.out)
  clear OLn
  clear hP hk hn
  have hovl := Lib.hid (fun kk (hkk : Value.ownBlock (.slice A2 ts.length (ts.length + c2)) = some kk) => (let ⟨vs0, ho0, _⟩ := OL.out; (ho0.lt kk hkk).2))
  go_wp2_with fail
  refine (settings_any C _ nx2 dv ds (w2.heap.size) 1 backWs (hA2.out.loc h0.out (b := w.heap.size) (by repeat with_reducible first | exact gbRefl _ _ | apply gbAlloc | apply gbDrew | apply gbSet) (Nat.le_refl _)).ps hds (new_strsE _ _ _ _ rfl _ (by simp)) (by simp) (by omega) (by decide) (idxNe _ (by decide))).mono ?_
  intro e w3 ho
  rcases hm : settingsF backWs [] (C.l nx2) with ⟨us, l3⟩ | ⟨er, l3⟩
  rotate_left
  · have hre : Hid (Res.err er l3 = r) := by have := hr.out; rw [hm] at this; exact this
    rw [hm] at ho
    clear hm
    obtain ⟨nxe, hle, hne, ⟨T, pv, rfl⟩, ⟨dv', hPe⟩, hke⟩ := ho
    have hF := Lib.hid (Out.fail (V := VNd) hre.out hle hn2 hne ⟨T, pv, rfl⟩ hPe (hA2.out.loc h0.out (b := w.heap.size) (by repeat with_reducible first | exact gbRefl _ _ | apply gbAlloc | apply gbDrew | apply gbSet) (Nat.le_refl _)).kp hke)
    clear hPe hke hle
    go_wp2
    exact ⟨rfl, hF.out⟩
  have hrn := hr.out
  rw [hm, Res.bind_ok] at hrn
  clear hr
  have hr := Lib.hid hrn
  clear hrn
  have hlenL : us.length = 1 := settings_len _ _ _ _ _ hm
  have hposL : 0 < us.length := by omega
  have hbd1 := Lib.hid (show ts.length + us.length ≤ maxLen by unfold maxLen; omega)
  have hbd2 : (ts.length + us.length) * 72 ≤ 140737488355328 := by omega
  have hlenH := Lib.hid hlenL
  clear hlenL
  rw [hm] at ho
  clear hm
  obtain ⟨nx3, v3, hl, hn, rfl, hv, hP, hk⟩ := ho
  have OLn := Lib.hid hv
  obtain ⟨A3, c3, rfl⟩ := hv.own
  clear hv
  subst hl
  have hn3 : nx ≤ nx3 := Nat.le_trans hn2 hn
  have hA3 := Lib.hid ((hA2.out.loc h0.out (b := w.heap.size) (by repeat with_reducible first | exact gbRefl _ _ | apply gbAlloc | apply gbDrew | apply gbSet) (Nat.le_refl _)).step hP hk)
  have hs3 : w2.heap.size + 1 ≤ w3.heap.size := (by have := hk.size; (try simp at this); omega)
  have b2' := Lib.hid (hk.blk (b := w.heap.size) (Eq.trans (gbBlk (row := none) (by repeat with_reducible first | exact gbRefl _ _ | apply gbAlloc | apply gbDrew | apply gbSet) (blkLt b2.out) (by simp)) b2.out) (by omega))
  have b3' := Lib.hid (hk.blk (b := w1.heap.size) (Eq.trans (gbBlk (row := none) (by repeat with_reducible first | exact gbRefl _ _ | apply gbAlloc | apply gbDrew | apply gbSet) (blkLt b3.out) (by simp)) b3.out) (by omega))
  clear b2
  have b2 := Lib.hid b2'.out
  clear b2'
  have xb2_3 : w.heap.size < w3.heap.size := blkLt b2.out
  clear b3
  have b3 := Lib.hid b3'.out
  clear b3'
  have xb3_3 : w1.heap.size < w3.heap.size := blkLt b3.out
  have OL' := Lib.hid (VNds.keep (w' := w3) (fun k h1 h2 => (hk.block k (Nat.lt_of_lt_of_le h2 (gbSize (r := none) (by repeat with_reducible first | exact gbRefl _ _ | apply gbAlloc | apply gbDrew | apply gbSet))) (by omega) (by simp)).trans (gbBlk (row := none) (by repeat with_reducible first | exact gbRefl _ _ | apply gbAlloc | apply gbDrew | apply gbSet) h2 (by simp))) OL.out)
  clear OL
  have OL := Lib.hid OL'.out
  clear OL'
  have hr3 : C.R < w3.heap.size := hA3.out.ps.RLt
  have OM := Lib.hid (VNds.low (B' := w2.heap.size) (by simp <;> omega) OLn.out)
  clear OLn
  clear hP hk hn
  obtain ⟨i0, hi, hz0, hz1, hz2⟩ := info_parts nodeInfo
  obtain ⟨vsL, hownL, hrowsL⟩ := OM.out
  have hrowsLH := Lib.hid (RowsR.keep (P' := From (w2.heap.size)) (fun k hk _ => ⟨rfl, hk.1⟩) _ _ hrowsL)
  clear hrowsL
  obtain ⟨gL, capL, hvL, hgL, hltL⟩ := hownL.form hposL
  simp only [Value.slice.injEq] at hvL
  obtain ⟨hvA, -, hvc⟩ := hvL
  subst hvA hvc
  have hone := rows_one _ _ hrowsLH.out
  obtain ⟨vs, hown, hrows⟩ := OL.out
  have hrowsH := Lib.hid hrows
  clear hrows
  go_wp2_with (at_builtin; refine wpList_append_lies _ rfl _ _ 23 rfl (w1.heap.size + 1) 25 i0 (.agg zeroNd) 6 72 Tryz.underlying23 hi hz0 hz1 hz2 rfl (by decide) (.slice A2 ts.length (ts.length + c2)) ts.length vs rfl hown ⟨gL, 0, none⟩ us.length _ vsL rfl hownL.1 (hownL.cells rfl) hone (by omega) hbd1.out hbd2 (by have := hA3.out.kp.size; omega) (w3.heap.size) rfl ?_)
  intro gq4 cap4 w4 hown2 hgrow hat hlt2
  have OLq := Lib.hid (VNds.appL hown hrowsH.out hrowsLH.out hovl.out (by omega) hgrow hown2 hat (Nat.le_refl _))
  have hAq := Lib.hid (hA3.out.locR h0.out hgrow (fun kk hkk => Nat.le_trans (by omega) (hown.lt kk hkk).1))
  have b2q := Lib.hid ((hgrow.block (w.heap.size) (blkLt b2.out) (fun e => by have := (hown.lt _ e.symm).1; omega)).trans b2.out)
  have b3q := Lib.hid ((hgrow.block (w1.heap.size) (blkLt b3.out) (fun e => by have := (hown.lt _ e.symm).1; omega)).trans b3.out)
  have hsq : w3.heap.size ≤ w4.heap.size := hgrow.size
  have hrq : C.R < w4.heap.size := hAq.out.ps.RLt
  have xb2_4 : w.heap.size < w4.heap.size := blkLt b2q.out
  have xb3_4 : w1.heap.size < w4.heap.size := blkLt b3q.out
  clear hgrow hown hown2 hownL hone
  have hA4 := Lib.hid hAq.out
  clear hAq
  have hs4 := hsq
  have hr4 := hrq
  have hn4 := hn3
  clear OL
  have OL := Lib.hid OLq.out
  clear OLq
  clear b2
  have b2 := Lib.hid b2q.out
  clear b2q
  clear b3
  have b3 := Lib.hid b3q.out
  clear b3q
  have yc := (cells6 b3.out).1.2.2.2.2.2
  have yz := (cells6 b3.out).2.2.2.2.2.2
  go_wp2_with fail
  refine (word_any C _ nx3 dv ds ⟨#[59]⟩ (hA4.out.loc h0.out (b := w1.heap.size) (by repeat with_reducible first | exact gbRefl _ _ | apply gbAlloc | apply gbDrew | apply gbSet) (by have := hA4.out.kp.size; have := hA0.out.kp.size; have := hA1.out.kp.size; have := hA2.out.kp.size; have := hA3.out.kp.size; have := hA4.out.kp.size; omega)).ps hds (by decide)).mono ?_
  intro e w5 ho
  rcases hm : wordM ⟨#[59]⟩ (C.l nx3) with ⟨⟨⟩, l5⟩ | ⟨er, l5⟩
  rotate_left
  · have hre : Hid (Res.err er l5 = r) := by have := hr.out; rw [hm] at this; exact this
    rw [hm] at ho
    clear hm
    obtain ⟨nxe, hle, hne, ⟨T, pv, rfl⟩, ⟨dv', hPe⟩, hke⟩ := ho
    have hF := Lib.hid (Out.fail (V := VNd) hre.out hle hn4 hne ⟨T, pv, rfl⟩ hPe (hA4.out.loc h0.out (b := w1.heap.size) (by repeat with_reducible first | exact gbRefl _ _ | apply gbAlloc | apply gbDrew | apply gbSet) (by have := hA4.out.kp.size; have := hA0.out.kp.size; have := hA1.out.kp.size; have := hA2.out.kp.size; have := hA3.out.kp.size; have := hA4.out.kp.size; omega)).kp hke)
    clear hPe hke hle
    go_wp2
    exact ⟨rfl, hF.out⟩
  have hrn := hr.out
  rw [hm, Res.bind_ok] at hrn
  clear hr
  have hr := Lib.hid hrn
  clear hrn
  rw [hm] at ho
  clear hm
  obtain ⟨nx5, v5, hl, hn, rfl, hv, hP, hk⟩ := ho
  unfold VUnit at hv
  subst hv hl
  have hn5 : nx ≤ nx5 := Nat.le_trans hn4 hn
  have hA5 := Lib.hid ((hA4.out.loc h0.out (b := w1.heap.size) (by repeat with_reducible first | exact gbRefl _ _ | apply gbAlloc | apply gbDrew | apply gbSet) (by have := hA4.out.kp.size; have := hA0.out.kp.size; have := hA1.out.kp.size; have := hA2.out.kp.size; have := hA3.out.kp.size; have := hA4.out.kp.size; omega)).step hP hk)
  have hs5 : w4.heap.size + 0 ≤ w5.heap.size := (by have := hk.size; (try simp at this); omega)
  have b2' := Lib.hid (hk.blk (b := w.heap.size) (Eq.trans (gbBlk (row := some (w1.heap.size)) (by repeat with_reducible first | exact gbRefl _ _ | apply gbAlloc | apply gbDrew | apply gbSet) (blkLt b2.out) (by simp; omega)) b2.out) (by omega))
  have b3' := Lib.hid (hk.blk (b := w1.heap.size) (Eq.trans (gbBlk (row := none) (by repeat with_reducible first | exact gbRefl _ _ | apply gbAlloc | apply gbDrew | apply gbSet) (by simpa using blkLt b3.out) (by simp)) (set6_5 b3.out)) (by omega))
  clear b2
  have b2 := Lib.hid b2'.out
  clear b2'
  have xb2_5 : w.heap.size < w5.heap.size := blkLt b2.out
  clear b3
  have b3 := Lib.hid b3'.out
  clear b3'
  have xb3_5 : w1.heap.size < w5.heap.size := blkLt b3.out
  have OL' := Lib.hid (VNds.keep (w' := w5) (fun k h1 h2 => (hk.block k (Nat.lt_of_lt_of_le h2 (gbSize (r := some (w1.heap.size)) (by repeat with_reducible first | exact gbRefl _ _ | apply gbAlloc | apply gbDrew | apply gbSet))) (by omega) (by simp)).trans (gbBlk (row := some (w1.heap.size)) (by repeat with_reducible first | exact gbRefl _ _ | apply gbAlloc | apply gbDrew | apply gbSet) h2 (fun e => by cases e; omega))) OL.out)
  clear OL
  have OL := Lib.hid OL'.out
  clear OL'
  have hr5 : C.R < w5.heap.size := hA5.out.ps.RLt
  clear yc yz
  clear hP hk hn
  have KL := Lib.hid (kidsOf OL.out)
  obtain ⟨cx4, hcx4⟩ := capOf OL.out
  subst hcx4
  obtain ⟨⟨a0, a1, a2, a3, a4, a5⟩, d0, d1, d2, d3, d4, d5⟩ := cells6 b2.out
  obtain ⟨⟨f0, f1, f2, f3, f4, f5⟩, e0, e1, e2, e3, e4, e5⟩ := cells6 b3.out
  go_wp2
  refine bodyPost_ret (v := nv (.mk 4 x 0 0 0 (ts ++ us)) (some ⟨gq4, 0, none⟩) cx4) (by simp [results, Tryz.results40, go_sem, a0, a1, a2, a3, a4, a5, xb2_5, xb3_5, Nd.kind, Nd.name, Nd.n, Nd.unit, Nd.at0, Nd.kids]) rfl ?_
  exact Out.ret hr.out rfl hn5 ⟨(some ⟨gq4, 0, none⟩), cx4, rfl, (KidsR.from (fun k h1 h2 => gbBlk (row := some (w.heap.size)) (by repeat with_reducible first | exact gbRefl _ _ | apply gbAlloc | apply gbDrew | apply gbSet) h2 (fun e => by cases e; omega)) (by omega) KL.out)⟩ ⟨(hA5.out.loc h0.out (b := w.heap.size) (by repeat with_reducible first | exact gbRefl _ _ | apply gbAlloc | apply gbDrew | apply gbSet) (Nat.le_refl _)).ps, (hA5.out.loc h0.out (b := w.heap.size) (by repeat with_reducible first | exact gbRefl _ _ | apply gbAlloc | apply gbDrew | apply gbSet) (Nat.le_refl _)).kp⟩

set_option maxHeartbeats 8000000 in
set_option maxRecDepth 100000 in
theorem flow_any (C : Cx) (w : World) (nx : Nat) (dv : Value) (ds : List (Int × Int))  (h : PS C w nx dv ds) (hds : ds.length ≤ 100) :
    Calls Tryz.prog 41 #[.pointer (some ⟨C.R, 0, none⟩)] w (Out C nx dv ds w VNd (flowM (C.l nx))) := by
  have h0 := Lib.hid h
  have hR0 := h.RLt
  have hA0 := Lib.hid (At.start h)
  have hn0 : nx ≤ nx := Nat.le_refl _
  obtain ⟨r, hr⟩ : ∃ r, flowM (C.l nx) = r := ⟨_, rfl⟩
  rw [hr]
  have f3 := tfield3
  unfold flowM at hr
  have hrH := Lib.hid hr
  clear hr h
  have hr := Lib.hid hrH.out
  clear hrH
  go_enter Tryz.func41, Tryz.ntmps41
  go_wp2_with fail
  refine (name_any C _ nx dv ds (hA0.out.loc h0.out (b := w.heap.size) (by repeat with_reducible first | exact gbRefl _ _ | apply gbAlloc | apply gbDrew | apply gbSet) (Nat.le_refl _)).ps hds).mono ?_
  intro e w1 ho
  rcases hm : nameM (C.l nx) with ⟨x, l1⟩ | ⟨er, l1⟩
  rotate_left
  · have hre : Hid (Res.err er l1 = r) := by have := hr.out; rw [hm] at this; exact this
    rw [hm] at ho
    clear hm
    obtain ⟨nxe, hle, hne, ⟨T, pv, rfl⟩, ⟨dv', hPe⟩, hke⟩ := ho
    have hF := Lib.hid (Out.fail (V := VNd) hre.out hle hn0 hne ⟨T, pv, rfl⟩ hPe (hA0.out.loc h0.out (b := w.heap.size) (by repeat with_reducible first | exact gbRefl _ _ | apply gbAlloc | apply gbDrew | apply gbSet) (Nat.le_refl _)).kp hke)
    clear hPe hke hle
    go_wp2
    exact ⟨rfl, hF.out⟩
  have hrn := hr.out
  rw [hm, Res.bind_ok] at hrn
  clear hr
  have hr := Lib.hid hrn
  clear hrn
  rw [hm] at ho
  clear hm
  obtain ⟨nx1, v1, hl, hn, rfl, hv, hP, hk⟩ := ho
  unfold VStr at hv
  subst hv hl
  have hn1 : nx ≤ nx1 := Nat.le_trans hn0 hn
  have hA1 := Lib.hid ((hA0.out.loc h0.out (b := w.heap.size) (by repeat with_reducible first | exact gbRefl _ _ | apply gbAlloc | apply gbDrew | apply gbSet) (Nat.le_refl _)).step hP hk)
  have hs1 : w.heap.size + 1 ≤ w1.heap.size := (by have := hk.size; (try simp at this); omega)
  have b2' := Lib.hid (hk.blk (b := w.heap.size) (Eq.trans (gbBlk (row := none) (by repeat with_reducible first | exact gbRefl _ _ | apply gbAlloc | apply gbDrew | apply gbSet) (by simp <;> omega) (by simp)) (newBlk w _ _ (by simp))) (by omega))
  have b2 := Lib.hid b2'.out
  clear b2'
  have xb2_1 : w.heap.size < w1.heap.size := blkLt b2.out
  have hr1 : C.R < w1.heap.size := hA1.out.ps.RLt
  clear hP hk hn
  go_wp2_with fail
  refine (word_any C _ nx1 dv ds ⟨#[112, 114, 111, 103, 114, 97, 109]⟩ (hA1.out.loc h0.out (b := w.heap.size) (by repeat with_reducible first | exact gbRefl _ _ | apply gbAlloc | apply gbDrew | apply gbSet) (Nat.le_refl _)).ps hds (by decide)).mono ?_
  intro e w2 ho
  rcases hm : wordM ⟨#[112, 114, 111, 103, 114, 97, 109]⟩ (C.l nx1) with ⟨⟨⟩, l2⟩ | ⟨er, l2⟩
  rotate_left
  · have hre : Hid (Res.err er l2 = r) := by have := hr.out; rw [hm] at this; exact this
    rw [hm] at ho
    clear hm
    obtain ⟨nxe, hle, hne, ⟨T, pv, rfl⟩, ⟨dv', hPe⟩, hke⟩ := ho
    have hF := Lib.hid (Out.fail (V := VNd) hre.out hle hn1 hne ⟨T, pv, rfl⟩ hPe (hA1.out.loc h0.out (b := w.heap.size) (by repeat with_reducible first | exact gbRefl _ _ | apply gbAlloc | apply gbDrew | apply gbSet) (Nat.le_refl _)).kp hke)
    clear hPe hke hle
    go_wp2
    exact ⟨rfl, hF.out⟩
  have hrn := hr.out
  rw [hm, Res.bind_ok] at hrn
  clear hr
  have hr := Lib.hid hrn
  clear hrn
  rw [hm] at ho
  clear hm
  obtain ⟨nx2, v2, hl, hn, rfl, hv, hP, hk⟩ := ho
  unfold VUnit at hv
  subst hv hl
  have hn2 : nx ≤ nx2 := Nat.le_trans hn1 hn
  have hA2 := Lib.hid ((hA1.out.loc h0.out (b := w.heap.size) (by repeat with_reducible first | exact gbRefl _ _ | apply gbAlloc | apply gbDrew | apply gbSet) (Nat.le_refl _)).step hP hk)
  have hs2 : w1.heap.size + 1 ≤ w2.heap.size := (by have := hk.size; (try simp at this); omega)
  have b2' := Lib.hid (hk.blk (b := w.heap.size) (Eq.trans (gbBlk (row := none) (by repeat with_reducible first | exact gbRefl _ _ | apply gbAlloc | apply gbDrew | apply gbSet) (blkLt b2.out) (by simp)) b2.out) (by omega))
  have b3' := Lib.hid (hk.blk (b := w1.heap.size) (Eq.trans (gbBlk (row := none) (by repeat with_reducible first | exact gbRefl _ _ | apply gbAlloc | apply gbDrew | apply gbSet) (by simp <;> omega) (by simp)) (newBlk w1 _ _ (by simp))) (by omega))
  clear b2
  have b2 := Lib.hid b2'.out
  clear b2'
  have xb2_2 : w.heap.size < w2.heap.size := blkLt b2.out
  have b3 := Lib.hid b3'.out
  clear b3'
  have xb3_2 : w1.heap.size < w2.heap.size := blkLt b3.out
  have hr2 : C.R < w2.heap.size := hA2.out.ps.RLt
  clear hP hk hn
  go_wp2_with fail
  refine (token_any C _ nx2 dv ds (hA2.out.loc h0.out (b := w.heap.size) (by repeat with_reducible first | exact gbRefl _ _ | apply gbAlloc | apply gbDrew | apply gbSet) (Nat.le_refl _)).ps).mono ?_
  rintro e w3 ⟨rfl, hb⟩
  have hP := (hA2.out.loc h0.out (b := w.heap.size) (by repeat with_reducible first | exact gbRefl _ _ | apply gbAlloc | apply gbDrew | apply gbSet) (Nat.le_refl _)).ps.below hb
  have hk := Below.kp (R := C.R) (o := none) hb
  have hA3 := Lib.hid ((hA2.out.loc h0.out (b := w.heap.size) (by repeat with_reducible first | exact gbRefl _ _ | apply gbAlloc | apply gbDrew | apply gbSet) (Nat.le_refl _)).step hP hk)
  have hs3 : w2.heap.size + 0 ≤ w3.heap.size := (by have := hk.size; (try simp at this); omega)
  have b2' := Lib.hid (hk.blk (b := w.heap.size) (Eq.trans (gbBlk (row := none) (by repeat with_reducible first | exact gbRefl _ _ | apply gbAlloc | apply gbDrew | apply gbSet) (blkLt b2.out) (by simp)) b2.out) (by omega))
  have b3' := Lib.hid (hk.blk (b := w1.heap.size) (Eq.trans (gbBlk (row := none) (by repeat with_reducible first | exact gbRefl _ _ | apply gbAlloc | apply gbDrew | apply gbSet) (blkLt b3.out) (by simp)) b3.out) (by omega))
  clear b2
  have b2 := Lib.hid b2'.out
  clear b2'
  have xb2_3 : w.heap.size < w3.heap.size := blkLt b2.out
  clear b3
  have b3 := Lib.hid b3'.out
  clear b3'
  have xb3_3 : w1.heap.size < w3.heap.size := blkLt b3.out
  have hr3 : C.R < w3.heap.size := hA3.out.ps.RLt
  have hn3 := hn2
  clear hb hP hk
  go_wp2_with fail
  refine (name_any C _ nx2 dv ds (hA3.out.loc h0.out (b := w.heap.size) (by repeat with_reducible first | exact gbRefl _ _ | apply gbAlloc | apply gbDrew | apply gbSet) (Nat.le_refl _)).ps hds).mono ?_
  intro e w4 ho
  rcases hm : nameM (C.l nx2) with ⟨y, l4⟩ | ⟨er, l4⟩
  rotate_left
  · have hre : Hid (Res.err er l4 = r) := by have := hr.out; rw [hm] at this; exact this
    rw [hm] at ho
    clear hm
    obtain ⟨nxe, hle, hne, ⟨T, pv, rfl⟩, ⟨dv', hPe⟩, hke⟩ := ho
    have hF := Lib.hid (Out.fail (V := VNd) hre.out hle hn3 hne ⟨T, pv, rfl⟩ hPe (hA3.out.loc h0.out (b := w.heap.size) (by repeat with_reducible first | exact gbRefl _ _ | apply gbAlloc | apply gbDrew | apply gbSet) (Nat.le_refl _)).kp hke)
    clear hPe hke hle
    go_wp2
    exact ⟨rfl, hF.out⟩
  have hrn := hr.out
  rw [hm, Res.bind_ok] at hrn
  clear hr
  have hr := Lib.hid hrn
  clear hrn
  rw [hm] at ho
  clear hm
  obtain ⟨nx4, v4, hl, hn, rfl, hv, hP, hk⟩ := ho
  unfold VStr at hv
  subst hv hl
  have hn4 : nx ≤ nx4 := Nat.le_trans hn3 hn
  have hA4 := Lib.hid ((hA3.out.loc h0.out (b := w.heap.size) (by repeat with_reducible first | exact gbRefl _ _ | apply gbAlloc | apply gbDrew | apply gbSet) (Nat.le_refl _)).step hP hk)
  have hs4 : w3.heap.size + 0 ≤ w4.heap.size := (by have := hk.size; (try simp at this); omega)
  have b2' := Lib.hid (hk.blk (b := w.heap.size) (Eq.trans (gbBlk (row := none) (by repeat with_reducible first | exact gbRefl _ _ | apply gbAlloc | apply gbDrew | apply gbSet) (blkLt b2.out) (by simp)) b2.out) (by omega))
  have b3' := Lib.hid (hk.blk (b := w1.heap.size) (Eq.trans (gbBlk (row := none) (by repeat with_reducible first | exact gbRefl _ _ | apply gbAlloc | apply gbDrew | apply gbSet) (blkLt b3.out) (by simp)) b3.out) (by omega))
  clear b2
  have b2 := Lib.hid b2'.out
  clear b2'
  have xb2_4 : w.heap.size < w4.heap.size := blkLt b2.out
  clear b3
  have b3 := Lib.hid b3'.out
  clear b3'
  have xb3_4 : w1.heap.size < w4.heap.size := blkLt b3.out
  have hr4 : C.R < w4.heap.size := hA4.out.ps.RLt
  clear hP hk hn
  have yc := (cells6 b3.out).1.2.2.2.2.2
  have yz := (cells6 b3.out).2.2.2.2.2.2
  go_wp2_with fail
  refine (word_any C _ nx4 dv ds ⟨#[112, 97, 116, 104, 115]⟩ (hA4.out.loc h0.out (b := w1.heap.size) (by repeat with_reducible first | exact gbRefl _ _ | apply gbAlloc | apply gbDrew | apply gbSet) (by have := hA4.out.kp.size; have := hA0.out.kp.size; have := hA1.out.kp.size; have := hA2.out.kp.size; have := hA3.out.kp.size; have := hA4.out.kp.size; omega)).ps hds (by decide)).mono ?_
  intro e w5 ho
  rcases hm : wordM ⟨#[112, 97, 116, 104, 115]⟩ (C.l nx4) with ⟨⟨⟩, l5⟩ | ⟨er, l5⟩
  rotate_left
  · have hre : Hid (Res.err er l5 = r) := by have := hr.out; rw [hm] at this; exact this
    rw [hm] at ho
    clear hm
    obtain ⟨nxe, hle, hne, ⟨T, pv, rfl⟩, ⟨dv', hPe⟩, hke⟩ := ho
    have hF := Lib.hid (Out.fail (V := VNd) hre.out hle hn4 hne ⟨T, pv, rfl⟩ hPe (hA4.out.loc h0.out (b := w1.heap.size) (by repeat with_reducible first | exact gbRefl _ _ | apply gbAlloc | apply gbDrew | apply gbSet) (by have := hA4.out.kp.size; have := hA0.out.kp.size; have := hA1.out.kp.size; have := hA2.out.kp.size; have := hA3.out.kp.size; have := hA4.out.kp.size; omega)).kp hke)
    clear hPe hke hle
    go_wp2
    exact ⟨rfl, hF.out⟩
  have hrn := hr.out
  rw [hm, Res.bind_ok] at hrn
  clear hr
  have hr := Lib.hid hrn
  clear hrn
  rw [hm] at ho
  clear hm
  obtain ⟨nx5, v5, hl, hn, rfl, hv, hP, hk⟩ := ho
  unfold VUnit at hv
  subst hv hl
  have hn5 : nx ≤ nx5 := Nat.le_trans hn4 hn
  have hA5 := Lib.hid ((hA4.out.loc h0.out (b := w1.heap.size) (by repeat with_reducible first | exact gbRefl _ _ | apply gbAlloc | apply gbDrew | apply gbSet) (by have := hA4.out.kp.size; have := hA0.out.kp.size; have := hA1.out.kp.size; have := hA2.out.kp.size; have := hA3.out.kp.size; have := hA4.out.kp.size; omega)).step hP hk)
  have hs5 : w4.heap.size + 1 ≤ w5.heap.size := (by have := hk.size; (try simp at this); omega)
  have b2' := Lib.hid (hk.blk (b := w.heap.size) (Eq.trans (gbBlk (row := some (w1.heap.size)) (by repeat with_reducible first | exact gbRefl _ _ | apply gbAlloc | apply gbDrew | apply gbSet) (blkLt b2.out) (by simp; omega)) b2.out) (by omega))
  have b3' := Lib.hid (hk.blk (b := w1.heap.size) (Eq.trans (gbBlk (row := none) (by repeat with_reducible first | exact gbRefl _ _ | apply gbAlloc | apply gbDrew | apply gbSet) (by simpa using blkLt b3.out) (by simp)) (set6_5 b3.out)) (by omega))
  have b7' := Lib.hid (hk.blk (b := w4.heap.size) (Eq.trans (gbBlk (row := none) (by repeat with_reducible first | exact gbRefl _ _ | apply gbAlloc | apply gbDrew | apply gbSet) (by simp <;> omega) (by simp)) (newBlk (w4.setCell ⟨w1.heap.size, 5, none⟩ _) _ _ (by simp))) (by omega))
  clear b2
  have b2 := Lib.hid b2'.out
  clear b2'
  have xb2_5 : w.heap.size < w5.heap.size := blkLt b2.out
  clear b3
  have b3 := Lib.hid b3'.out
  clear b3'
  have xb3_5 : w1.heap.size < w5.heap.size := blkLt b3.out
  have b7 := Lib.hid b7'.out
  clear b7'
  have xb7_5 : w4.heap.size < w5.heap.size := blkLt b7.out
  have hr5 : C.R < w5.heap.size := hA5.out.ps.RLt
  clear yc yz
  clear hP hk hn
  have OL := Lib.hid (own1 (B := w1.heap.size + 1) b7.out (by omega))
  clear b7
  obtain ⟨i0, hi, hz0, hz1, hz2⟩ := info_parts nodeInfo
  have cq5 := (cells6 b3.out).1.2.2.2.2.2
  rcases hm : namesM (C.l nx5) with ⟨ts, l6⟩ | ⟨er, l6⟩
  rotate_left
  · have hre : Hid (Res.err er l6 = r) := by have := hr.out; rw [hm] at this; exact this
    have hmE := Lib.hid hm
    clear hm
    go_wp2_with fail
    go_region_law (go_simp; go_at_call 61; refine (names_any' C _ nx5 dv ds (hA5.out.loc h0.out (b := w.heap.size) (by repeat with_reducible first | exact gbRefl _ _ | apply gbAlloc | apply gbDrew | apply gbSet) (Nat.le_refl _)).ps hds).mono ?_; intro e we ho; rw [hmE.out] at ho; obtain ⟨nxe, hle, hne, ⟨T, pv, rfl⟩, ⟨dv', hPe⟩, hke⟩ := ho; suffices hz : wpAny Tryz.prog .any #[] (fun _ _ _ => True) 0 #[] ⟨#[], []⟩ we from ⟨rfl, Out.fail (V := VNd) hre.out hle hn5 hne ⟨T, pv, rfl⟩ hPe (hA5.out.loc h0.out (b := w.heap.size) (by repeat with_reducible first | exact gbRefl _ _ | apply gbAlloc | apply gbDrew | apply gbSet) (Nat.le_refl _)).kp hke⟩)
    all_goals trivial
  have hrn := hr.out
  rw [hm, Res.bind_ok] at hrn
  clear hr
  have hr := Lib.hid hrn
  clear hrn
  have hlt3 : ts.length ≤ 3002 := by
    have h1 := (names_pos _ _ _ _ hm).2
    have h2 := hA5.out.ps.lt
    have h3 := hA5.out.ps.le
    rw [Cx.llen] at h1
    omega
  have hposL : 0 < ts.length := (names_pos _ _ _ _ hm).1
  have hbd1 := Lib.hid (show [nmNd y (hd (C.l nx2)).a].length + ts.length ≤ maxLen by simp only [List.length_cons, List.length_nil]; unfold maxLen; omega)
  have hbd2 : ([nmNd y (hd (C.l nx2)).a].length + ts.length) * 72 ≤ 140737488355328 := by simp only [List.length_cons, List.length_nil]; omega
  have hmA := Lib.hid hm
  clear hm
  go_wp2_with fail
  go_region_law (first | (refine step_append_lies _ (by rfl) _ _ _ (by rfl) (w1.heap.size + 1) 25 i0 _ 6 72 Tryz.underlying23 hi hz0 hz1 hz2 rfl (by decide) (.slice (some ⟨w4.heap.size, 0, none⟩) 1 1) [nmNd y (hd (C.l nx2)).a].length vs (by rfl) hown ⟨gL, 0, none⟩ ts.length _ vsL (by rfl) hownL.1 (hownL.cells rfl) hone (by omega) hbd1.out hbd2 (by have := hA6.out.kp.size; omega) (w6.heap.size) rfl ?_; intro gq7 cap7 w7 hown2 hgrow hat hlt2; have OLq := Lib.hid (VNds.appL hown hrowsH.out hrowsLH.out hovl.out (by omega) hgrow hown2 hat (Nat.le_refl _)); have hAq := Lib.hid (hA6.out.locR h0.out hgrow (fun kk hkk => Nat.le_trans (by omega) (hown.lt kk hkk).1)); have b2q := Lib.hid ((hgrow.block (w.heap.size) (blkLt b2.out) (fun e => by have := (hown.lt _ e.symm).1; omega)).trans b2.out); have b3q := Lib.hid ((hgrow.block (w1.heap.size) (blkLt b3.out) (fun e => by have := (hown.lt _ e.symm).1; omega)).trans b3.out); have hsq : w6.heap.size ≤ w7.heap.size := hgrow.size; have hrq : C.R < w7.heap.size := hAq.out.ps.RLt; have xb2_7 : w.heap.size < w7.heap.size := blkLt b2q.out; have xb3_7 : w1.heap.size < w7.heap.size := blkLt b3q.out; have yc := (cells6 b3q.out).1.2.2.2.2.2; have yz := (cells6 b3q.out).2.2.2.2.2.2) | (go_simp; go_at_call 61; refine (names_any' C _ nx5 dv ds (hA5.out.loc h0.out (b := w.heap.size) (by repeat with_reducible first | exact gbRefl _ _ | apply gbAlloc | apply gbDrew | apply gbSet) (Nat.le_refl _)).ps hds).mono ?_; intro e w6 ho; rw [hmA.out] at ho; obtain ⟨nx6, v6, hl, hn, rfl, hv, hP, hk⟩ := ho; have OLn := Lib.hid hv; obtain ⟨A6, c6, rfl⟩ := hv.own; clear hv; subst hl; have hn6 : nx ≤ nx6 := Nat.le_trans hn5 hn; have hovl := Lib.hid (fun kk (hkk : Value.ownBlock (.slice (some ⟨w4.heap.size, 0, none⟩) 1 1) = some kk) => (let ⟨vs0, ho0, _⟩ := OL.out; (ho0.lt kk hkk).2)); have hA6 := Lib.hid ((hA5.out.loc h0.out (b := w.heap.size) (by repeat with_reducible first | exact gbRefl _ _ | apply gbAlloc | apply gbDrew | apply gbSet) (Nat.le_refl _)).step hP hk); have hs6 : w5.heap.size + 0 ≤ w6.heap.size := (by have := hk.size; (try simp at this); omega); have b2' := Lib.hid (hk.blk (b := w.heap.size) (Eq.trans (gbBlk (row := none) (by repeat with_reducible first | exact gbRefl _ _ | apply gbAlloc | apply gbDrew | apply gbSet) (blkLt b2.out) (by simp)) b2.out) (by omega)); have b3' := Lib.hid (hk.blk (b := w1.heap.size) (Eq.trans (gbBlk (row := none) (by repeat with_reducible first | exact gbRefl _ _ | apply gbAlloc | apply gbDrew | apply gbSet) (blkLt b3.out) (by simp)) b3.out) (by omega)); clear b2; have b2 := Lib.hid b2'.out; clear b2'; have xb2_6 : w.heap.size < w6.heap.size := blkLt b2.out; clear b3; have b3 := Lib.hid b3'.out; clear b3'; have xb3_6 : w1.heap.size < w6.heap.size := blkLt b3.out; have OL' := Lib.hid (VNds.keep (w' := w6) (fun k h1 h2 => (hk.block k (Nat.lt_of_lt_of_le h2 (gbSize (r := none) (by repeat with_reducible first | exact gbRefl _ _ | apply gbAlloc | apply gbDrew | apply gbSet))) (by omega) (by simp)).trans (gbBlk (row := none) (by repeat with_reducible first | exact gbRefl _ _ | apply gbAlloc | apply gbDrew | apply gbSet) h2 (by simp))) OL.out); clear OL; have OL := Lib.hid OL'.out; clear OL'; have hr6 : C.R < w6.heap.size := hA6.out.ps.RLt; have OM := Lib.hid (VNds.low (B' := w5.heap.size) (by simp) OLn.out); clear hP hk hn; have cp5 := (cells6 b3.out).1.2.2.2.2.2; obtain ⟨vsL, hownL, hrowsL⟩ := OM.out; have hrowsLH := Lib.hid (RowsR.keep (P' := From (w5.heap.size)) (fun k hk _ => ⟨rfl, hk.1⟩) _ _ hrowsL); clear hrowsL; obtain ⟨gL, capL, hvL, hgL, hltL⟩ := hownL.form hposL; simp only [Value.slice.injEq] at hvL; obtain ⟨hvA, -, hvc⟩ := hvL; subst hvA hvc; have hone := rows_one _ _ hrowsLH.out; obtain ⟨vs, hown, hrows⟩ := OL.out; have hrowsH := Lib.hid hrows; clear hrows))
  all_goals
    clear cq5 cp5 OM
    clear hgrow hown hown2 hownL hone
    have hA7 := Lib.hid hAq.out
    clear hAq
    have hs7 := hsq
    have hr7 := hrq
    have hn7 := hn6
    clear OL
    have OL := Lib.hid OLq.out
    clear OLq
    clear b2
    have b2 := Lib.hid b2q.out
    clear b2q
    clear b3
    have b3 := Lib.hid b3q.out
    clear b3q
    obtain ⟨i0, hi, hz0, hz1, hz2⟩ := info_parts nodeInfo
    have cq5 := (cells6 b3.out).1.2.2.2.2.2
    rcases hm : settingsF flowWs [] (C.l nx6) with ⟨us, l8⟩ | ⟨er, l8⟩
    rotate_left
    · have hre : Hid (Res.err er l8 = r) := by have := hr.out; rw [hm] at this; exact this
      have hmE := Lib.hid hm
      clear hm
      go_wp2_with fail
      go_region_law (go_simp; go_at_call 58; refine (settings_any C _ nx6 dv ds (w7.heap.size) 3 flowWs (hA7.out.loc h0.out (b := w1.heap.size) (by repeat with_reducible first | exact gbRefl _ _ | apply gbAlloc | apply gbDrew | apply gbSet) (by have := hA7.out.kp.size; have := hA0.out.kp.size; have := hA1.out.kp.size; have := hA2.out.kp.size; have := hA3.out.kp.size; have := hA4.out.kp.size; have := hA5.out.kp.size; have := hA6.out.kp.size; have := hA7.out.kp.size; omega)).ps hds (by first | exact new_strsE _ _ _ _ rfl _ (by simp) | exact StrS.drew (new_strsE _ _ _ _ rfl _ (by simp))) (by simp) (by omega) (by decide) (idxNe _ (by decide))).mono ?_; intro e we ho; rw [hmE.out] at ho; obtain ⟨nxe, hle, hne, ⟨T, pv, rfl⟩, ⟨dv', hPe⟩, hke⟩ := ho; suffices hz : wpAny Tryz.prog .any #[] (fun _ _ _ => True) 0 #[] ⟨#[], []⟩ we from ⟨rfl, Out.fail (V := VNd) hre.out hle hn7 hne ⟨T, pv, rfl⟩ hPe (hA7.out.loc h0.out (b := w1.heap.size) (by repeat with_reducible first | exact gbRefl _ _ | apply gbAlloc | apply gbDrew | apply gbSet) (by have := hA7.out.kp.size; have := hA0.out.kp.size; have := hA1.out.kp.size; have := hA2.out.kp.size; have := hA3.out.kp.size; have := hA4.out.kp.size; have := hA5.out.kp.size; have := hA6.out.kp.size; have := hA7.out.kp.size; omega)).kp hke⟩)
      all_goals trivial
    have hrn := hr.out
    rw [hm, Res.bind_ok] at hrn
    clear hr
    have hr := Lib.hid hrn
    clear hrn
    have hlenL : us.length = 3 := settings_len _ _ _ _ _ hm
    have hposL : 0 < us.length := by omega
    have hlenT : ([nmNd y (hd (C.l nx2)).a] ++ ts).length ≤ 3003 := by simp; omega
    have hbd1 := Lib.hid (show ([nmNd y (hd (C.l nx2)).a] ++ ts).length + us.length ≤ maxLen by unfold maxLen; omega)
    have hbd2 : (([nmNd y (hd (C.l nx2)).a] ++ ts).length + us.length) * 72 ≤ 140737488355328 := by omega
    have hlenH := Lib.hid hlenL
    clear hlenL
    have hmA := Lib.hid hm
    clear hm
    go_wp2_with fail
    go_region_law (first | (refine step_append_lies _ (by rfl) _ _ _ (by rfl) (w1.heap.size + 1) 25 i0 _ 6 72 Tryz.underlying23 hi hz0 hz1 hz2 rfl (by decide) (.slice (some ⟨gq7, 0, none⟩) ([nmNd y (hd (C.l nx2)).a].length + ts.length) cap7) ([nmNd y (hd (C.l nx2)).a] ++ ts).length vs (by rfl) hown ⟨gL, 0, none⟩ us.length _ vsL (by rfl) hownL.1 (hownL.cells rfl) hone (by omega) hbd1.out hbd2 (by have := hA8.out.kp.size; omega) (w8.heap.size) rfl ?_; intro gq9 cap9 w9 hown2 hgrow hat hlt2; have OLq := Lib.hid (VNds.appL hown hrowsH.out hrowsLH.out hovl.out (by omega) hgrow hown2 hat (Nat.le_refl _)); have hAq := Lib.hid (hA8.out.locR h0.out hgrow (fun kk hkk => Nat.le_trans (by omega) (hown.lt kk hkk).1)); have b2q := Lib.hid ((hgrow.block (w.heap.size) (blkLt b2.out) (fun e => by have := (hown.lt _ e.symm).1; omega)).trans b2.out); have b3q := Lib.hid ((hgrow.block (w1.heap.size) (blkLt b3.out) (fun e => by have := (hown.lt _ e.symm).1; omega)).trans b3.out); have hsq : w8.heap.size ≤ w9.heap.size := hgrow.size; have hrq : C.R < w9.heap.size := hAq.out.ps.RLt; have xb2_9 : w.heap.size < w9.heap.size := blkLt b2q.out; have xb3_9 : w1.heap.size < w9.heap.size := blkLt b3q.out; have yc := (cells6 b3q.out).1.2.2.2.2.2; have yz := (cells6 b3q.out).2.2.2.2.2.2) | (go_simp; go_at_call 58; refine (settings_any C _ nx6 dv ds (w7.heap.size) 3 flowWs (hA7.out.loc h0.out (b := w1.heap.size) (by repeat with_reducible first | exact gbRefl _ _ | apply gbAlloc | apply gbDrew | apply gbSet) (by have := hA7.out.kp.size; have := hA0.out.kp.size; have := hA1.out.kp.size; have := hA2.out.kp.size; have := hA3.out.kp.size; have := hA4.out.kp.size; have := hA5.out.kp.size; have := hA6.out.kp.size; have := hA7.out.kp.size; omega)).ps hds (by first | exact new_strsE _ _ _ _ rfl _ (by simp) | exact StrS.drew (new_strsE _ _ _ _ rfl _ (by simp))) (by simp) (by omega) (by decide) (idxNe _ (by decide))).mono ?_; intro e w8 ho; rw [hmA.out] at ho; obtain ⟨nx8, v8, hl, hn, rfl, hv, hP, hk⟩ := ho; have OLn := Lib.hid hv; obtain ⟨A8, c8, rfl⟩ := hv.own; clear hv; subst hl; have hn8 : nx ≤ nx8 := Nat.le_trans hn7 hn; have hovl := Lib.hid (fun kk (hkk : Value.ownBlock (.slice (some ⟨gq7, 0, none⟩) ([nmNd y (hd (C.l nx2)).a].length + ts.length) cap7) = some kk) => (let ⟨vs0, ho0, _⟩ := OL.out; (ho0.lt kk hkk).2)); have hA8 := Lib.hid ((hA7.out.loc h0.out (b := w1.heap.size) (by repeat with_reducible first | exact gbRefl _ _ | apply gbAlloc | apply gbDrew | apply gbSet) (by have := hA7.out.kp.size; have := hA0.out.kp.size; have := hA1.out.kp.size; have := hA2.out.kp.size; have := hA3.out.kp.size; have := hA4.out.kp.size; have := hA5.out.kp.size; have := hA6.out.kp.size; have := hA7.out.kp.size; omega)).step hP hk); have hs8 : w7.heap.size + 0 ≤ w8.heap.size := (by have := hk.size; (try simp at this); omega); have b2' := Lib.hid (hk.blk (b := w.heap.size) (Eq.trans (gbBlk (row := some (w1.heap.size)) (by repeat with_reducible first | exact gbRefl _ _ | apply gbAlloc | apply gbDrew | apply gbSet) (blkLt b2.out) (by simp; omega)) b2.out) (by omega)); have b3' := Lib.hid (hk.blk (b := w1.heap.size) (Eq.trans (gbBlk (row := none) (by repeat with_reducible first | exact gbRefl _ _ | apply gbAlloc | apply gbDrew | apply gbSet) (by simpa using blkLt b3.out) (by simp)) (set6_5 b3.out)) (by omega)); clear b2; have b2 := Lib.hid b2'.out; clear b2'; have xb2_8 : w.heap.size < w8.heap.size := blkLt b2.out; clear b3; have b3 := Lib.hid b3'.out; clear b3'; have xb3_8 : w1.heap.size < w8.heap.size := blkLt b3.out; have OL' := Lib.hid (VNds.keep (w' := w8) (fun k h1 h2 => (hk.block k (Nat.lt_of_lt_of_le h2 (gbSize (r := some (w1.heap.size)) (by repeat with_reducible first | exact gbRefl _ _ | apply gbAlloc | apply gbDrew | apply gbSet))) (by omega) (by simp)).trans (gbBlk (row := some (w1.heap.size)) (by repeat with_reducible first | exact gbRefl _ _ | apply gbAlloc | apply gbDrew | apply gbSet) h2 (fun e => by cases e; omega))) OL.out); clear OL; have OL := Lib.hid OL'.out; clear OL'; have hr8 : C.R < w8.heap.size := hA8.out.ps.RLt; clear yc yz; have OM := Lib.hid (VNds.low (B' := w7.heap.size) (by simp) OLn.out); clear hP hk hn; have cp5 := (cells6 b3.out).1.2.2.2.2.2; obtain ⟨vsL, hownL, hrowsL⟩ := OM.out; have hrowsLH := Lib.hid (RowsR.keep (P' := From (w7.heap.size)) (fun k hk _ => ⟨rfl, hk.1⟩) _ _ hrowsL); clear hrowsL; obtain ⟨gL, capL, hvL, hgL, hltL⟩ := hownL.form hposL; simp only [Value.slice.injEq] at hvL; obtain ⟨hvA, -, hvc⟩ := hvL; subst hvA hvc; have hone := rows_one _ _ hrowsLH.out; obtain ⟨vs, hown, hrows⟩ := OL.out; have hrowsH := Lib.hid hrows; clear hrows))
    all_goals
      clear cq5 cp5 OM
      clear hgrow hown hown2 hownL hone
      have hA9 := Lib.hid hAq.out
      clear hAq
      have hs9 := hsq
      have hr9 := hrq
      have hn9 := hn8
      clear OL
      have OL := Lib.hid OLq.out
      clear OLq
      clear b2
      have b2 := Lib.hid b2q.out
      clear b2q
      clear b3
      have b3 := Lib.hid b3q.out
      clear b3q
      go_wp2_with fail
      refine (word_any C _ nx8 dv ds ⟨#[59]⟩ (hA9.out.loc h0.out (b := w1.heap.size) (by repeat with_reducible first | exact gbRefl _ _ | apply gbAlloc | apply gbDrew | apply gbSet) (by have := hA9.out.kp.size; have := hA0.out.kp.size; have := hA1.out.kp.size; have := hA2.out.kp.size; have := hA3.out.kp.size; have := hA4.out.kp.size; have := hA5.out.kp.size; have := hA6.out.kp.size; have := hA7.out.kp.size; have := hA8.out.kp.size; have := hA9.out.kp.size; omega)).ps hds (by decide)).mono ?_
      intro e w10 ho
      rcases hm : wordM ⟨#[59]⟩ (C.l nx8) with ⟨⟨⟩, l10⟩ | ⟨er, l10⟩
      rotate_left
      · have hre : Hid (Res.err er l10 = r) := by have := hr.out; rw [hm] at this; exact this
        rw [hm] at ho
        clear hm
        obtain ⟨nxe, hle, hne, ⟨T, pv, rfl⟩, ⟨dv', hPe⟩, hke⟩ := ho
        have hF := Lib.hid (Out.fail (V := VNd) hre.out hle hn9 hne ⟨T, pv, rfl⟩ hPe (hA9.out.loc h0.out (b := w1.heap.size) (by repeat with_reducible first | exact gbRefl _ _ | apply gbAlloc | apply gbDrew | apply gbSet) (by have := hA9.out.kp.size; have := hA0.out.kp.size; have := hA1.out.kp.size; have := hA2.out.kp.size; have := hA3.out.kp.size; have := hA4.out.kp.size; have := hA5.out.kp.size; have := hA6.out.kp.size; have := hA7.out.kp.size; have := hA8.out.kp.size; have := hA9.out.kp.size; omega)).kp hke)
        clear hPe hke hle
        go_wp2
        exact ⟨rfl, hF.out⟩
      have hrn := hr.out
      rw [hm, Res.bind_ok] at hrn
      clear hr
      have hr := Lib.hid hrn
      clear hrn
      rw [hm] at ho
      clear hm
      obtain ⟨nx10, v10, hl, hn, rfl, hv, hP, hk⟩ := ho
      unfold VUnit at hv
      subst hv hl
      have hn10 : nx ≤ nx10 := Nat.le_trans hn9 hn
      have hA10 := Lib.hid ((hA9.out.loc h0.out (b := w1.heap.size) (by repeat with_reducible first | exact gbRefl _ _ | apply gbAlloc | apply gbDrew | apply gbSet) (by have := hA9.out.kp.size; have := hA0.out.kp.size; have := hA1.out.kp.size; have := hA2.out.kp.size; have := hA3.out.kp.size; have := hA4.out.kp.size; have := hA5.out.kp.size; have := hA6.out.kp.size; have := hA7.out.kp.size; have := hA8.out.kp.size; have := hA9.out.kp.size; omega)).step hP hk)
      have hs10 : w9.heap.size + 0 ≤ w10.heap.size := (by have := hk.size; (try simp at this); omega)
      have b2' := Lib.hid (hk.blk (b := w.heap.size) (Eq.trans (gbBlk (row := some (w1.heap.size)) (by repeat with_reducible first | exact gbRefl _ _ | apply gbAlloc | apply gbDrew | apply gbSet) (blkLt b2.out) (by simp; omega)) b2.out) (by omega))
      have b3' := Lib.hid (hk.blk (b := w1.heap.size) (Eq.trans (gbBlk (row := none) (by repeat with_reducible first | exact gbRefl _ _ | apply gbAlloc | apply gbDrew | apply gbSet) (by simpa using blkLt b3.out) (by simp)) (set6_5 b3.out)) (by omega))
      clear b2
      have b2 := Lib.hid b2'.out
      clear b2'
      have xb2_10 : w.heap.size < w10.heap.size := blkLt b2.out
      clear b3
      have b3 := Lib.hid b3'.out
      clear b3'
      have xb3_10 : w1.heap.size < w10.heap.size := blkLt b3.out
      have OL' := Lib.hid (VNds.keep (w' := w10) (fun k h1 h2 => (hk.block k (Nat.lt_of_lt_of_le h2 (gbSize (r := some (w1.heap.size)) (by repeat with_reducible first | exact gbRefl _ _ | apply gbAlloc | apply gbDrew | apply gbSet))) (by omega) (by simp)).trans (gbBlk (row := some (w1.heap.size)) (by repeat with_reducible first | exact gbRefl _ _ | apply gbAlloc | apply gbDrew | apply gbSet) h2 (fun e => by cases e; omega))) OL.out)
      clear OL
      have OL := Lib.hid OL'.out
      clear OL'
      have hr10 : C.R < w10.heap.size := hA10.out.ps.RLt
      clear yc yz
      clear hP hk hn
      have KL := Lib.hid (kidsOf OL.out)
      obtain ⟨cx9, hcx9⟩ := capOf OL.out
      subst hcx9
      obtain ⟨⟨a0, a1, a2, a3, a4, a5⟩, d0, d1, d2, d3, d4, d5⟩ := cells6 b2.out
      obtain ⟨⟨f0, f1, f2, f3, f4, f5⟩, e0, e1, e2, e3, e4, e5⟩ := cells6 b3.out
      go_wp2
      refine bodyPost_ret (v := nv (.mk 5 x 0 0 0 ([nmNd y (hd (C.l nx2)).a] ++ ts ++ us)) (some ⟨gq9, 0, none⟩) cx9) (by simp [results, Tryz.results41, go_sem, a0, a1, a2, a3, a4, a5, xb2_10, xb3_10, Nat.add_right_comm ts.length 1 us.length, Nd.kind, Nd.name, Nd.n, Nd.unit, Nd.at0, Nd.kids]) rfl ?_
      exact Out.ret hr.out rfl hn10 ⟨(some ⟨gq9, 0, none⟩), cx9, rfl, (KidsR.from (fun k h1 h2 => gbBlk (row := some (w.heap.size)) (by repeat with_reducible first | exact gbRefl _ _ | apply gbAlloc | apply gbDrew | apply gbSet) h2 (fun e => by cases e; omega)) (by omega) KL.out)⟩ ⟨(hA10.out.loc h0.out (b := w.heap.size) (by repeat with_reducible first | exact gbRefl _ _ | apply gbAlloc | apply gbDrew | apply gbSet) (Nat.le_refl _)).ps, (hA10.out.loc h0.out (b := w.heap.size) (by repeat with_reducible first | exact gbRefl _ _ | apply gbAlloc | apply gbDrew | apply gbSet) (Nat.le_refl _)).kp⟩

end Go.Proofs.YtdaghppcomckbaaGreatDoor
