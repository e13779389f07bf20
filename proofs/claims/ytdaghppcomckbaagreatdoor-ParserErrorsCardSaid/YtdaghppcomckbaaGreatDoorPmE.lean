/- Texts of one proof: PyA, PyB. -/
import Derived.Test.YtdaghppcomckbaaGreatDoorPxZ
import Derived.Recover
import Derived.Defers
/- The parser: an item, with its recovery. -/
namespace Go.Proofs.YtdaghppcomckbaaGreatDoor
open Go.RowKit
set_option linter.unusedVariables false
set_option linter.unusedSimpArgs false

def leaveM (l l' : List Tk) : List Tk := skipF l'.length ((l.take (l.length - l'.length)).foldl brace 0) l'
set_option maxHeartbeats 1000000 in
set_option maxRecDepth 100000 in
theorem rec_idle (p q : Addr) (w : World) :
    CallsD Tryz.prog 20 #[.pointer (some p), .pointer (some q)] .returning w fun e u' w' => e = .returned (.tuple #[]) ∧ u' = .returning ∧ w' = w := by
  refine callsD_of_wpS Tryz.func20 rfl fun c₀ cs hu => ?_
  apply wpS_seq
  apply wpS_region
  simp [wpOpsS, go_sem, recoverD, hu, Tryz.ntmps20, Exit.thenS]
  refine wpS_cond (t := false) (by simp [Act.eval, Array.replicate]) ?_
  simp only [Bool.false_eq_true, if_false]
  refine wpS_of_wp (wp_skip ?_)
  cases c₀
  simp_all [bodyPostS, results, Tryz.results20]
set_option maxHeartbeats 1000000 in
set_option maxRecDepth 100000 in
theorem rec_panic (C : Cx) (w : World) (nx first : Nat) (dv : Value) (ds : List (Int × Int)) (p q : Nat) (T : TypeId) (pv : Value) (hfi : first ≤ nx) (hcap : C.ts.length ≤ C.tc) (hcm : C.tc ≤ maxLen) (h : PS C w nx dv ds)
    (hp : w.cell? ⟨p, 0, none⟩ = some (.pointer (some ⟨C.R, 0, none⟩))) (hq : w.cell? ⟨q, 0, none⟩ = some (.int .i64 first)) :
    CallsD Tryz.prog 20 #[.pointer (some ⟨p, 0, none⟩), .pointer (some ⟨q, 0, none⟩)] (.panicking [{ v := .iface T pv, recovered := false }]) w fun e u' w' =>
      e = .returned (.tuple #[]) ∧ u' = .panicking [{ v := .iface T pv, recovered := true }] ∧ Out C nx dv ds w VUnit (.ok () (skipF (C.l nx).length (((C.ts.drop first).take (nx - first)).foldl brace 0) (C.l nx))) e w' := by
  have hL := Lib.hid (leave_any C w nx first dv ds hfi hcap hcm h)
  clear hcap hcm h hfi
  refine callsD_of_wpS Tryz.func20 rfl fun c₀ cs hu => ?_
  apply wpS_seq
  apply wpS_region
  simp [wpOpsS, go_sem, recoverD, hu, Tryz.ntmps20, Exit.thenS]
  refine wpS_cond (t := true) (by simp [Act.eval, Array.replicate]) ?_
  simp only [if_true]
  refine wpS_of_wp ?_
  go_wp2_with fail
  refine hL.out.mono ?_
  rintro e w1 ⟨nx', v, hl, hn, rfl, hv, hP, hk⟩
  unfold VUnit at hv
  subst hv
  have hO : Hid (Out C nx dv ds w VUnit (.ok () (skipF (C.l nx).length (((C.ts.drop first).take (nx - first)).foldl brace 0) (C.l nx))) (.returned (.tuple #[])) w1) := ⟨nx', _, hl, hn, rfl, rfl, hP, hk⟩
  clear hl hP hk
  go_wp2
  exact ⟨rfl, _, rfl, .tuple #[], by simp [results, Tryz.results20], rfl, rfl, hO.out⟩

/-- what an item's call leaves: its node, or a diagnostic and the tokens behind the item -/
def ItemPost (C : Cx) (nx : Nat) (dv : Value) (ds : List (Int × Int)) (w : World) : Res Nd → Ending → World → Prop
  | .ok t l, e, w' => ∃ nx' v, C.l nx' = l ∧ nx ≤ nx' ∧ e = .returned v ∧ VNds w.heap.size w' v [t] ∧ PS C w' nx' dv ds ∧ Kp C.R none w w'
  | .err er l, e, w' => ∃ nx' dv', l.length ≤ (C.l nx).length ∧ C.l nx' = leaveM (C.l nx) l ∧ nx ≤ nx' ∧ e = .returned (.slice none 0 0) ∧ PS C w' nx' dv' (ds ++ [(er, (hd l).a)]) ∧ Kp C.R dv.ownBlock w w'
theorem own1n {w : World} {B b : Nat} {t : Nd} {A : Option Addr} {c : Nat} (h : w.heap[b]? = some (.cells (ndArr t A c) 25 (0, 0))) (hB : B ≤ b) (hk : KidsR w (Bes B b) t.kids A) :
    VNds B w (.slice (some ⟨b, 0, none⟩) 1 1) [t] :=
  ⟨nCells t A c, ⟨rfl, .inr ⟨b, 1, _, rfl, hB, h, Nat.le_refl _, by unfold maxLen; decide, rfl, rfl⟩⟩, RowsR.one t A c (hk.keep (fun k h1 _ => ⟨rfl, h1.1, by simp [Value.ownBlock]; exact fun e => h1.2 e.symm⟩))⟩

set_option maxHeartbeats 2000000 in
set_option maxRecDepth 100000 in
theorem item_any (C : Cx) (w : World) (nx : Nat) (dv : Value) (ds : List (Int × Int)) (hcap : C.ts.length ≤ C.tc) (hcm : C.tc ≤ maxLen) (h : PS C w nx dv ds) (hds : ds.length ≤ 100) :
    Calls Tryz.prog 12 #[.pointer (some ⟨C.R, 0, none⟩)] w (ItemPost C nx dv ds w (itemM (C.l nx))) := by
  have h0 := Lib.hid h
  have hR0 := h.RLt
  have c1 := h.c1
  have hcapH := Lib.hid hcap
  have hcmH := Lib.hid hcm
  have hmf : ∀ (fn : Fn) (first cap : Array Value) (w : World), (Instr.makeFunc fn first cap).run Tryz.prog w = .ok (.func fn first cap) w := fun _ _ _ _ => rfl
  have hP1 := Lib.hid (h.below (((Below.refl w.heap.size w).alloc (Nat.le_refl _) (.cells #[.pointer (some ⟨C.R, 0, none⟩)] 54)).alloc (by simp) (.cells #[.int .i64 nx] 3)))
  have hI := Lib.hid (anyItem_any C _ nx dv ds hP1.out hds)
  obtain ⟨r, hr⟩ : ∃ r, itemM (C.l nx) = r := ⟨_, rfl⟩
  rw [hr]
  have hrH := Lib.hid hr
  clear h hcap hcm hr
  go_enter_defers Tryz.func12, Tryz.ntmps12
  go_wp2_with fail
  refine hI.out.mono ?_
  intro e w1 ho
  rcases r with ⟨t, l1⟩ | ⟨er, l1⟩
  · rw [hrH.out] at ho
    obtain ⟨nx', v, hl, hn, rfl, ⟨A, c, hv, hkd⟩, hP, hk⟩ := ho
    subst hv hl
    have hs1 : w.heap.size + 2 ≤ w1.heap.size := by have := hk.size; simp at this; omega
    have hA : PS C (w1.alloc (.cells (ndArr t A c) 25)) nx' dv ds ∧ Kp C.R none w (w1.alloc (.cells (ndArr t A c) 25)) :=
      ⟨hP.below ((Below.refl _ _).alloc (Nat.le_refl _) _), ((((Kp.refl C.R none w).alloc _).alloc _).trans hk).alloc _⟩
    have hV : VNds w.heap.size (w1.alloc (.cells (ndArr t A c) 25)) (.slice (some ⟨w1.heap.size, 0, none⟩) 1 1) [t] :=
      own1n (newBlk _ _ _ rfl) (by omega) (hkd.keep (fun k h1 h2 => ⟨Below.heap_alloc _ _ _ h2, by unfold From at h1; simp at h1; unfold Bes; omega⟩))
    have hO : Hid (ItemPost C nx dv ds w (.ok t (C.l nx')) (.returned (.slice (some ⟨w1.heap.size, 0, none⟩) 1 1)) (w1.alloc (.cells (ndArr t A c) 25))) := ⟨nx', _, rfl, hn, rfl, hV, hA⟩
    clear hA hV hP hk hkd
    go_wp2
    refine leaves_cons (f := 20) (args := #[.pointer (some ⟨w.heap.size, 0, none⟩), .pointer (some ⟨w.heap.size + 1, 0, none⟩)]) (by simp) (by simp [go_sem]) ?_
    refine (rec_idle _ _ _).mono ?_
    rintro e u' w'' ⟨rfl, rfl, rfl⟩
    simp [Leaves, settle, results, Tryz.results12, go_sem]
    exact hO.out
  · rw [hrH.out] at ho
    obtain ⟨nxe, hl, hn, ⟨T, pv, rfl⟩, ⟨dv', hPe⟩, hke⟩ := ho
    have hown : ∀ k, dv.ownBlock = some k → k < w.heap.size := fun k hk => (h0.out.own.lt k hk).2
    have hbp : w1.heap[w.heap.size]? = some (.cells #[.pointer (some ⟨C.R, 0, none⟩)] 54 (0, 0)) :=
      (hke.block _ (by simp; omega) (by omega) (fun e => by have := hown _ e.symm; omega)).trans ((Below.heap_alloc _ _ _ (by simp)).trans (newBlk _ _ _ rfl))
    have hbq : w1.heap[w.heap.size + 1]? = some (.cells #[.int .i64 nx] 3 (0, 0)) :=
      (hke.block _ (by simp) (by omega) (fun e => by have := hown _ e.symm; omega)).trans (newBlk _ _ _ (by simp))
    have hp : w1.cell? ⟨w.heap.size, 0, none⟩ = some (.pointer (some ⟨C.R, 0, none⟩)) := by rw [cell_of_row _ _ 0 _ _ (0, 0) hbp]; rfl
    have hq : w1.cell? ⟨w.heap.size + 1, 0, none⟩ = some (.int .i64 nx) := by rw [cell_of_row _ _ 0 _ _ (0, 0) hbq]; rfl
    have hR := Lib.hid (rec_panic C w1 nxe nx dv' _ w.heap.size (w.heap.size + 1) T pv hn hcapH.out hcmH.out hPe hp hq)
    have hlen : (C.ts.drop nx).take (nxe - nx) = (C.l nx).take ((C.l nx).length - (C.l nxe).length) := by
      rw [Cx.llen, Cx.llen]
      have e1 := hPe.lt
      rw [show C.ts.length - nx - (C.ts.length - nxe) = nxe - nx by omega]
      rfl
    have hlenH := Lib.hid hlen
    have hkeH := Lib.hid ((((Kp.refl C.R dv.ownBlock w).alloc _).alloc _).trans hke)
    have hlH := Lib.hid hl
    have hPeH := Lib.hid hPe
    clear hp hq hbp hbq hke hPe hown hlen hl
    go_wp2
    refine leaves_cons (f := 20) (args := #[.pointer (some ⟨w.heap.size, 0, none⟩), .pointer (some ⟨w.heap.size + 1, 0, none⟩)]) (by simp) (by simp [go_sem]) ?_
    refine hR.out.mono ?_
    rintro e u' w'' ⟨rfl, rfl, hO⟩
    obtain ⟨nx2, v, hl2, hn2, -, -, hP2, hk2⟩ := hO
    have hF : Hid (ItemPost C nx dv ds w (.err er l1) (.returned (.slice none 0 0)) w'') := by
      refine ⟨nx2, dv', by rw [← hlH.out, Cx.llen, Cx.llen]; omega, ?_, by omega, rfl, hP2, hkeH.out.trans hk2.up⟩
      rw [hl2, hlenH.out, hlH.out]
      rfl
    simp [Leaves, settle, results, Tryz.results12, go_sem]
    exact hF.out
end Go.Proofs.YtdaghppcomckbaaGreatDoor

/- The parser: how many nodes a tree has left. -/
namespace Go.Proofs.YtdaghppcomckbaaGreatDoor
open Go.RowKit
set_option linter.unusedVariables false
set_option linter.unusedSimpArgs false

mutual
def spareN : Nd → Int → Int
  | .mk _ _ _ _ _ kids, n => spareL kids (n - 1)
def spareL : List Nd → Int → Int
  | [], n => n
  | t :: ts, n => if 0 ≤ n then spareL ts (spareN t n) else n
end
mutual
theorem spareN_le : ∀ (t : Nd) (n : Int), 0 ≤ n → spareN t n ≤ n - 1 ∧ -1 ≤ spareN t n
  | .mk _ _ _ _ _ kids, n, h => by
    unfold spareN
    have := spareL_le kids (n - 1) (by omega)
    omega
theorem spareL_le : ∀ (ts : List Nd) (n : Int), -1 ≤ n → spareL ts n ≤ n ∧ -1 ≤ spareL ts n
  | [], n, h => by unfold spareL; omega
  | t :: ts, n, h => by
    unfold spareL
    split
    · rename_i h0
      have h1 := spareN_le t n h0
      have h2 := spareL_le ts (spareN t n) (by omega)
      omega
    · omega
end
/-- the node at a place of a slice -/
theorem KidsR.get {w : World} {P : Nat → Prop} : ∀ (ts : List Nd) (g o : Nat), KidsR w P ts (some ⟨g, o, none⟩) → ∀ (i : Nat) (t : Nd), ts[i]? = some t → OneR w P t g (o + i * 6)
  | [], g, o, h, i, t, ht => by simp at ht
  | u :: us, g, o, h, i, t, ht => by
    unfold KidsR at h
    obtain ⟨g', o', hA, -, h1, h2⟩ := h
    cases hA
    cases i with
    | zero => simp at ht; subst ht; simpa using h1
    | succ i =>
      have := KidsR.get us g (o + 6) h2 i t (by simpa using ht)
      rw [show o + (i + 1) * 6 = o + 6 + i * 6 by omega]
      exact this
theorem KidsR.addr {w : World} {P : Nat → Prop} {ts : List Nd} {A : Option Addr} (h : KidsR w P ts A) (hn : 0 < ts.length) : ∃ g o, A = some ⟨g, o, none⟩ := by
  cases ts with
  | nil => simp at hn
  | cons t ts => unfold KidsR at h; obtain ⟨g, o, hA, _⟩ := h; exact ⟨g, o, hA⟩
theorem OneR.cells {w : World} {P : Nat → Prop} {t : Nd} {g o : Nat} (h : OneR w P t g o) : ∃ A c, (w.cell? ⟨g, o, none⟩ = some (.int .i64 t.kind) ∧ w.cell? ⟨g, o + 1, none⟩ = some (.string t.name) ∧ w.cell? ⟨g, o + 2, none⟩ = some (.int .i64 t.n) ∧
    w.cell? ⟨g, o + 3, none⟩ = some (.int .i64 t.unit) ∧ w.cell? ⟨g, o + 4, none⟩ = some (.int .i64 t.at0) ∧ w.cell? ⟨g, o + 5, none⟩ = some (.slice A t.kids.length (t.kids.length + c))) ∧ KidsR w P t.kids A := by
  obtain ⟨k, x, n, u, a, kids⟩ := t
  unfold OneR at h
  obtain ⟨A, c, h0, h1, h2, h3, h4, h5, h6⟩ := h
  exact ⟨A, c, ⟨h0, h1, h2, h3, h4, h5⟩, h6⟩
def SparePost (r : Int) (w : World) (e : Ending) (w' : World) : Prop := e = .returned (.int .i64 r) ∧ Below w.heap.size w w'
theorem spareL_drop (ts : List Nd) (k : Nat) (hk : k < ts.length) (n : Int) (h : 0 ≤ n) : spareL (ts.drop k) n = spareL (ts.drop (k + 1)) (spareN ts[k] n) := by
  rw [List.drop_eq_getElem_cons hk, spareL, if_pos h]
theorem spareL_neg (ts : List Nd) (k : Nat) (n : Int) (h : n < 0) : spareL (ts.drop k) n = n := by
  cases hd : ts.drop k with
  | nil => rfl
  | cons t us => rw [spareL, if_neg (by omega)]
set_option maxHeartbeats 1000000 in
set_option maxRecDepth 100000 in
theorem spare_step (t : Nd) (ih : ∀ u ∈ t.kids, ∀ (w : World) (n : Int) (A : Option Addr) (c : Nat), 0 ≤ n → n ≤ 10000 → KidsR w (From 0) u.kids A → Calls Tryz.prog 13 #[nv u A c, .int .i64 n] w (SparePost (spareN u n) w))
    (w : World) (n : Int) (A : Option Addr) (c : Nat) (h0 : 0 ≤ n) (h1 : n ≤ 10000) (hK : KidsR w (From 0) t.kids A) :
    Calls Tryz.prog 13 #[nv t A c, .int .i64 n] w (SparePost (spareN t n) w) := by
  obtain ⟨r, hr⟩ : ∃ r, spareN t n = r := ⟨_, rfl⟩
  rw [hr]
  have hr' : spareL t.kids (n - 1) = r := by rw [← hr]; cases t; rfl
  have hR := Lib.hid hr'
  have IH := Lib.hid ih
  have hKH := Lib.hid hK
  clear hr hr' ih hK
  have q0 : IntKind.i64.wrap (n - 1) = n - 1 := IntWalk.i64_in _ (by omega)
  go_enter Tryz.func13, Tryz.ntmps13
  go_wp2
  clear q0
  go_loopg [1, 5] (t.kids.length) (fun gk m i wr => ∃ (k : Nat) (mv : Int), k + gk = t.kids.length ∧ i = .int .i64 k ∧ m = .int .i64 mv ∧ -1 ≤ mv ∧ mv + k ≤ n - 1 ∧ Hid (spareL (t.kids.drop k) mv = r) ∧ Hid (wr.heap[w.heap.size]? = some (.cells (ndArr t A c) 25 (0, 0))) ∧ Hid (Below w.heap.size w wr))
  case atStart => exact ⟨0, n - 1, by omega, rfl, rfl, by omega, by omega, hR.out, newBlk _ _ _ rfl, (Below.refl _ _).alloc (Nat.le_refl _) _⟩
  case round =>
    obtain ⟨k, mv, hk, rfl, rfl, hm1, hm2, hS, hB, hW⟩ := hrel
    obtain ⟨⟨b0, b1, b2, b3, b4, b5⟩, -⟩ := cells6 hB.out
    have hxb := blkLt hB.out
    clear b0 b1 b2 b3 b4
    by_cases hneg : 0 ≤ mv
    · by_cases hlt : k < t.kids.length
      · obtain ⟨g, rfl⟩ : ∃ g, gk = g + 1 := ⟨gk - 1, by omega⟩
        have hS1 := hS.out
        rw [spareL_drop _ _ hlt _ hneg] at hS1
        have hS1 := Lib.hid hS1
        have hKw : KidsR wr (From 0) t.kids A := hKH.out.keep (fun q h1 h2 => ⟨hW.out.block q h2, h1⟩)
        obtain ⟨ga, oa, rfl⟩ := hKw.addr (by omega)
        obtain ⟨A1, c1, ⟨e0, e1, e2, e3, e4, e5⟩, hK1⟩ := (hKw.get _ _ _ k _ (List.getElem?_eq_getElem hlt)).cells
        have hmem : t.kids[k] ∈ t.kids := List.getElem_mem hlt
        have hI := Lib.hid (IH.out _ hmem wr mv A1 c1 hneg (by omega) hK1)
        have hsp := spareN_le t.kids[k] mv hneg
        clear hS hK1 hKw hmem
        generalize t.kids[k] = u at *
        have hlt2 : k < t.kids.length := hlt
        go_wp2_with fail
        refine hI.out.mono ?_
        rintro e w2 ⟨rfl, hb2⟩
        have hB2 := Lib.hid ((hb2.block _ hxb).trans hB.out)
        have hW2 := Lib.hid (hW.out.trans (hb2.mono hW.out.size))
        clear hb2 e0 e1 e2 e3 e4 e5
        go_wp2
        go_roundg g
        case measure => omega
        case rel => exact ⟨k + 1, spareN u mv, by omega, by go_num, rfl, by omega, by omega, hS1, hB2, hW2⟩
      · have hF : Hid (mv = r) := by have := hS.out; rw [List.drop_eq_nil_of_le (by omega)] at this; exact this
        clear hS
        go_wp2
        go_ret
        exact ⟨ret_i hF.out, hW.out⟩
    · have hF : Hid (mv = r) := by have := hS.out; rw [spareL_neg _ _ _ (by omega)] at this; exact this
      have hng : decide (0 ≤ mv) = false := by simp; omega
      clear hS
      by_cases hlt : k < t.kids.length
      all_goals
        go_wp2
        go_ret
        exact ⟨ret_i hF.out, hW.out⟩
mutual
theorem spare_any : ∀ (t : Nd) (w : World) (n : Int) (A : Option Addr) (c : Nat), 0 ≤ n → n ≤ 10000 → KidsR w (From 0) t.kids A → Calls Tryz.prog 13 #[nv t A c, .int .i64 n] w (SparePost (spareN t n) w)
  | .mk k x m u a kids => fun w n A c h0 h1 hK => spare_step (.mk k x m u a kids) (spare_all kids) w n A c h0 h1 hK
theorem spare_all : ∀ (ts : List Nd), ∀ u ∈ ts, ∀ (w : World) (n : Int) (A : Option Addr) (c : Nat), 0 ≤ n → n ≤ 10000 → KidsR w (From 0) u.kids A → Calls Tryz.prog 13 #[nv u A c, .int .i64 n] w (SparePost (spareN u n) w)
  | [], u, hu => by cases hu
  | t :: ts, u, hu => by
    rcases List.mem_cons.1 hu with h | h
    · rw [h]; exact spare_any t
    · exact spare_all ts u h
end
end Go.Proofs.YtdaghppcomckbaaGreatDoor
