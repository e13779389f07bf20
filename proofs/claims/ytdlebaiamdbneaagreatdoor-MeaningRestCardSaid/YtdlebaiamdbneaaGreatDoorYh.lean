/- Texts of one proof: MxF, MxG, MxH, RxK, RxL. -/
import Derived.Test.YtdlebaiamdbneaaGreatDoorYg
import Derived.Test.YtdlebaiamdbneaaGreatDoorYf
import Derived.Test.YtdlebaiamdbneaaGreatDoorZk
import Derived.Lib.SliceRun
set_option linter.unusedVariables false
set_option linter.unusedSimpArgs false
set_option maxRecDepth 100000
set_option maxHeartbeats 8000000
namespace Go.Proofs.YtdlebaiamdbneaaGreatDoor
open Go.RowKit
namespace M
open I
open U (Ex St btw ev eArr KidsE newBlk blkLt arrE aggE szK szK_len szK_mem owns_below new_cells gbRefl gbAlloc gbTrans gbBelow Ex.size)
open R (epanic bAllocX)
theorem intInfo : (Tryz.prog.info? 3).map (fun i => (i.zero, i.size, i.bytes)) = some (some (.int .i64 0), 1, 8) := by kernel_rfl
def iCells (l : List Int) : List Value := l.map (Value.int .i64)
theorem own_ints {w : World} {B : Nat} {v : Value} {l : List Int} {T : TypeId} (h : w.ownsRow B T 1 v l.length (iCells l)) : ∃ A c, v = .slice A l.length (l.length + c) ∧ IntsR w l A := by
 rcases h.2 with ⟨rfl, h0⟩ | ⟨g, cap, cur, rfl, hb, hg, hn, hc, hs, ht⟩
 ·obtain rfl : l = [] := List.eq_nil_of_length_eq_zero h0
  exact ⟨none, 0, rfl, .inl rfl⟩
 ·refine ⟨_, cap - l.length, by rw [Nat.add_sub_cancel' hn], .inr ⟨g, 0, rfl, fun i n hi => ?_⟩⟩
  have hlt : i < l.length := (List.getElem?_eq_some_iff.1 hi).1
  have := World.ownsRow.cellAt h i (by omega)
  rw [Nat.zero_add, this]
  simp [iCells, hi]
theorem iCells_snoc (l : List Int) (n : Int) : iCells (l ++ [n]) = iCells l ++ [.int .i64 n] := by simp [iCells]
def mvG (st ins : List Int) (op n : Int) (acc : List Int) (ks : List Ex) : Except Int Int := match mvK st ins ks with
 | .error e => .error e
 | .ok ns => nodE st ins op n (acc ++ ns)
theorem mv_G (st ins : List Int) (op n u : Int) (ks : List Ex) : mvE st ins (.mk op n u ks) = mvG st ins op n [] ks := by rw [mvE]; rfl
theorem mvG_nil (st ins : List Int) (op n : Int) (acc : List Int) : mvG st ins op n acc [] = nodE st ins op n acc := by rw [mvG, mvK]; simp
theorem mvG_err {st ins : List Int} {op n : Int} {acc : List Int} {ks : List Ex} {k : Nat} (hk : k < ks.length) {e : Int} (h : mvE st ins ks[k] = .error e) : mvG st ins op n acc (ks.drop k) = .error e := by
 rw [List.drop_eq_getElem_cons hk, mvG, mvK, h]
theorem mvG_ok {st ins : List Int} {op n : Int} {acc : List Int} {ks : List Ex} {k : Nat} (hk : k < ks.length) {p : Int} (h : mvE st ins ks[k] = .ok p) : mvG st ins op n acc (ks.drop k) = mvG st ins op n (acc ++ [p]) (ks.drop (k + 1)) := by
 rw [List.drop_eq_getElem_cons hk, mvG, mvK, h, mvG]
 rcases mvK st ins (ks.drop (k + 1)) with e | ss
 ·rfl
 ·simp
def ExI (st : List Int) (i0 i1 i2 i3 : Int) (t : Ex) : Prop := ∀ (w : World) (A SA : Option Addr) (c m mb : Nat), IntsR w st SA → OpsR w mb → KidsE w t.kids A → t.size ≤ 60 →
 Calls Tryz.prog 34 #[.agg (rdA SA st.length m i0 i1 i2 i3 mb), ev t A c] w (IntP (mvE st [i0, i1, i2, i3] t) w)
theorem value_step (st : List Int) (i0 i1 i2 i3 : Int) (hsl : st.length ≤ 1000000) (op n u : Int) (ks : List Ex) (ih : ∀ t ∈ ks, ExI st i0 i1 i2 i3 t) : ExI st i0 i1 i2 i3 (.mk op n u ks) := by
 intro w A SA c m mb hS hM hK hlen
 show Calls _ _ #[_, aggE op n u A ks.length (ks.length + c)] _ _
 change KidsE w ks A at hK
 have hsz : ∀ t ∈ ks, t.size ≤ 60 := fun t ht => by have := szK_mem ht; rw [Ex.size] at hlen; omega
 have hlen : ks.length ≤ 60 := by have := szK_len ks; rw [Ex.size] at hlen; omega
 have HZ := Lib.hid hsz
 clear hsz
 rw [mv_G]
 obtain ⟨r, hr⟩ : ∃ r, mvG st [i0, i1, i2, i3] op n [] ks = r := ⟨_, rfl⟩
 rw [hr]
 have hR := Lib.hid hr
 have IH := Lib.hid ih
 have HK := Lib.hid hK
 have HS := Lib.hid hS
 have HM := Lib.hid hM
 have hslH := Lib.hid hsl
 obtain ⟨W3, hW3⟩ : ∃ W3, W3 = (w.alloc (.cells (rdA SA st.length m i0 i1 i2 i3 mb) 59)).alloc (.cells (arrE op n u A ks.length (ks.length + c)) 46) := ⟨_, rfl⟩
 have HB0 : Hid (Below w.heap.size w W3) := Lib.hid (by rw [hW3]; exact bAl2 _ _)
 have HW0 : Hid (W3.heap[w.heap.size]? = some (.cells (rdA SA st.length m i0 i1 i2 i3 mb) 59 (0, 0))) := Lib.hid (by rw [hW3]; exact (Below.heap_alloc _ _ _ (by simp)).trans (newBlk _ _ _ rfl))
 have HA0 : Hid (W3.heap[w.heap.size + 1]? = some (.cells (arrE op n u A ks.length (ks.length + c)) 46 (0, 0))) := Lib.hid (by rw [hW3]; exact newBlk _ _ _ (by simp))
 have hs3 : W3.heap.size = w.heap.size + 1 + 1 := by rw [hW3]; simp
 obtain ⟨i0', hi, hz0, hz1, hz2⟩ := info_parts intInfo
 obtain ⟨⟨b0, b1, b2, b3⟩, -⟩ := C.cells4C HA0.out
 clear hr ih hK hS hM hsl
 go_enter Tryz.func34, Tryz.ntmps34
 go_upto_region 1 with fail
 rw [← hW3]
 clear hW3
 go_wp2_with fail
 clear b0 b1 b2 b3
 go_loopg [5, 12] (ks.length) (fun gk v i wr => ∃ (k : Nat) (acc : List Int), k + gk = ks.length ∧ i = .int .i64 k ∧ acc.length = k ∧ Hid (mvG st [i0, i1, i2, i3] op n acc (ks.drop k) = r) ∧ Hid (∀ x ∈ acc, vN x = true) ∧ Hid (wr.ownsRow (w.heap.size + 1 + 1) 3 1 v acc.length (iCells acc)) ∧
  Hid (wr.heap[w.heap.size]? = some (.cells (rdA SA st.length m i0 i1 i2 i3 mb) 59 (0, 0))) ∧ Hid (wr.heap[w.heap.size + 1]? = some (.cells (arrE op n u A ks.length (ks.length + c)) 46 (0, 0))) ∧ Hid (Below w.heap.size w wr) ∧ w.heap.size + 1 + 1 ≤ wr.heap.size)
 case atStart => exact ⟨0, [], by omega, rfl, rfl, hR, Lib.hid (fun x hx => by cases hx), Lib.hid (World.ownsRow_nil _ _ _ _), HW0, HA0, HB0, by omega⟩
 case round =>
  obtain ⟨k, acc, hk, rfl, hacc, hG, hVa, hO, hVb, hA, hW, hws⟩ := hrel
  clear HW0 HA0 HB0 hs3
  subst hacc
  by_cases hlt : acc.length < ks.length
  ·obtain ⟨g, rfl⟩ : ∃ g, gk = g + 1 := ⟨gk - 1, by omega⟩
   have hKw := HK.out.below hW.out
   obtain ⟨ga, oa, rfl⟩ := hKw.addr (by omega)
   obtain ⟨A1, c1, ⟨e0, e1, e2, e3⟩, hl1, hK1⟩ := (hKw.get _ _ _ acc.length _ (List.getElem?_eq_getElem hlt)).cells
   have hmem : ks[acc.length] ∈ ks := List.getElem_mem hlt
   have hbk : Below wr.heap.size wr (wr.alloc (.cells (eArr ks[acc.length] A1 c1) 46)) := (Below.refl _ _).alloc (Nat.le_refl _) _
   have hI := Lib.hid (IH.out _ hmem (wr.alloc (.cells (eArr ks[acc.length] A1 c1) 46)) A1 SA c1 m mb ((HS.out.gr (hW.out)).gr hbk) ((HM.out.gr hW.out).gr hbk) (hK1.below hbk) (HZ.out _ hmem))
   obtain ⟨⟨v0, v1, v2, v3, v4, v5⟩, -⟩ := cells6 hVb.out
   have hvl := blkLt hVb.out
   rcases hm : mvE st [i0, i1, i2, i3] ks[acc.length] with er | p
   ·have hF := Lib.hid ((mvG_err (op := op) (n := n) (acc := acc) hlt hm).symm.trans hG.out)
    rw [hm] at hI
    obtain ⟨Av, cv, rfl, -⟩ := own_ints hO.out
    clear hm hKw hK1 hmem hG hO
    generalize ks[acc.length] = t at *
    go_wp2_with fail
    refine hI.out.mono ?_
    rintro e w1 ⟨rfl, hb1⟩
    have hE := Lib.hid (IntP.err hF.out rfl (hW.out.trans (hbk.trans (hb1.mono (by simp)) |>.mono hW.out.size)))
    clear hb1 e0 e1 e2 e3
    go_wp2
    exact ⟨rfl, hE.out⟩
   ·have hG2 := Lib.hid ((mvG_ok (op := op) (n := n) (acc := acc) hlt hm).symm.trans hG.out)
    have hpv := mv_v _ hm
    have hVa2 : Hid (∀ x ∈ acc ++ [p], vN x = true) := Lib.hid (fun x hx => by rcases List.mem_append.1 hx with h | h; exact hVa.out x h; obtain rfl := List.mem_singleton.1 h; exact hpv)
    rw [hm] at hI
    obtain ⟨Av, cv, rfl, -⟩ := own_ints hO.out
    clear hm hKw hK1 hmem hG hpv hVa
    generalize ks[acc.length] = t at *
    go_wp2_with fail
    refine hI.out.mono ?_
    rintro e w1 ⟨rfl, hb1⟩
    have hb2 := hbk.trans (hb1.mono (by simp))
    have hown := owns_below hO.out hb2.block
    have hV2 := Lib.hid ((hb2.block _ (by omega)).trans hVb.out)
    have hA2 := Lib.hid ((hb2.block _ (by omega)).trans hA.out)
    have hW2 := Lib.hid (hW.out.trans (hb2.mono hW.out.size))
    have hs2 := hb2.size
    have hlt2 := hown.lt
    clear hb1 e0 e1 e2 e3 hbk v0 v1 v2 v3 v4 v5
    go_wp2_with (at_builtin; refine wpList_append_lies _ rfl _ _ 27 rfl (w.heap.size + 1 + 1) 3 i0' (.int .i64 0) 1 8 Tryz.underlying27 hi hz0 hz1 hz2 rfl (by decide) _ _ (iCells acc) rfl (hown.alloc _) ⟨w1.heap.size, 0, none⟩ 1 1 [.int .i64 p] rfl rfl ?c1 (by intro x hx; obtain rfl := List.mem_singleton.1 hx; rfl) (by decide) ?c3 ?c4 ?c5 (w1.heap.size + 1) ?c6 ?_)
    case c1 => exact new_cells _ #[.int .i64 p] _ _ rfl
    case c3 => unfold maxLen; omega
    case c4 => omega
    case c5 => simp; omega
    case c6 => simp
    intro gb cap w3 hown3 hgrow hat hlt3
    have hown4 : Hid (w3.ownsRow (w.heap.size + 1 + 1) 3 1 (.slice (some ⟨gb, 0, none⟩) (acc.length + 1) cap) (acc ++ [p]).length (iCells (acc ++ [p]))) := Lib.hid (by rw [iCells_snoc, List.length_append]; exact hown3)
    have hgr := gbTrans (gbAlloc (gbRefl _ _)) hgrow
    have hoB : ∀ k, (Value.slice Av acc.length (acc.length + cv)).ownBlock = some k → w.heap.size + 1 + 1 ≤ k ∧ k < w1.heap.size := hlt2
    have hV3 := Lib.hid ((hgr.block w.heap.size (by omega) (fun e => by have := hoB _ e.symm; omega)).trans hV2.out)
    have hA3 := Lib.hid ((hgr.block (w.heap.size + 1) (by omega) (fun e => by have := hoB _ e.symm; omega)).trans hA2.out)
    have hW3 := Lib.hid (hW2.out.trans (gbBelow (B := w.heap.size) hgr (by omega) (fun k e => by have := hoB k e; omega)))
    have hs4 := hgr.size
    clear hgrow hown3 hgr hown hoB hat hb2
    go_wp2
    go_roundg g
    case measure => omega
    case rel => exact ⟨acc.length + 1, acc ++ [p], by omega, by go_num, by simp, hG2, hVa2, hown4, hV3, hA3, hW3, by omega⟩
  ·obtain rfl : gk = 0 := by omega
   have hr2 : nodE st [i0, i1, i2, i3] op n acc = r := by have := hG.out; rw [List.drop_eq_nil_of_le (by omega), mvG_nil] at this; exact this
   have hkl : decide ((acc.length : Int) < (ks.length : Int)) = false := by simp; omega
   obtain ⟨Av, cv, rfl, hsp⟩ := own_ints hO.out
   obtain ⟨⟨v0, v1, v2, v3, v4, v5⟩, -⟩ := cells6 hVb.out
   obtain ⟨⟨b0, b1, b2, b3⟩, -⟩ := C.cells4C hA.out
   have HRs := Lib.hid (result_any st SA m i0 i1 i2 i3 mb op n u ks A c acc Av (acc.length + cv) wr (HS.out.gr hW.out) hslH.out (HM.out.gr hW.out) hsp hVa.out (by omega))
   rw [← nod_chk] at hr2
   have hr2H := Lib.hid hr2
   clear hr2 hG hO hsp hVa HS HM HK
   generalize nodR st [i0, i1, i2, i3] op n acc = q at *
   rcases q with er | q
   ·have hF : (.error er : Except Int Int) = r := hr2H.out
    go_wp2_with (go_at_call 57; refine HRs.out.mono ?_; rintro e w2 ⟨he, hb2⟩; simp only at he; subst he; have hE := Lib.hid (IntP.err (e := epanic er) hF rfl (hW.out.trans (hb2.mono hW.out.size))))
    exact ⟨rfl, hE.out⟩
   ·have HBt := Lib.hid (fun wx => between_any q (-1000000000000) 1000000000000 wx)
    rcases hv : vN q with _ | _
    ·have hF : (.error 3 : Except Int Int) = r := by have := hr2H.out; simp only [chkE, hv] at this; simpa using this
     have hv2 : btw q (-1000000000000) 1000000000000 = false := hv
     rw [hv2] at HBt
     clear hv hv2 hr2H
     go_wp2_with (first
      | (go_at_call 57; refine HRs.out.mono ?_; rintro e w2 ⟨he, hb2⟩; simp only at he; subst he; have hE := Lib.hid (IntP.err (e := epanic 3) hF rfl (hW.out.trans (hb2.mono hW.out.size))))
      | (go_at_call 45; refine (HBt.out _).mono ?_; rintro e w5 ⟨he, hw⟩; rw [hw]; clear hw; subst he)
      | (go_at_call 58; refine (need_any false _ _).mono ?_; rintro e w5 ⟨he, hw⟩; rw [hw]; clear hw; simp only [Bool.false_eq_true, if_neg, not_false_eq_true] at he; subst he))
     exact ⟨rfl, hE.out⟩
    ·have hF : (.ok q : Except Int Int) = r := by have := hr2H.out; simp only [chkE, hv] at this; simpa using this
     have hv2 : btw q (-1000000000000) 1000000000000 = true := hv
     rw [hv2] at HBt
     clear hv hv2 hr2H
     go_wp2_with (first
      | (go_at_call 57; refine HRs.out.mono ?_; rintro e w2 ⟨he, hb2⟩; simp only at he; subst he; have hE := Lib.hid (IntP.ok (e := .returned (.int .i64 q)) hF rfl (hW.out.trans (hb2.mono hW.out.size))))
      | (go_at_call 45; refine (HBt.out _).mono ?_; rintro e w5 ⟨he, hw⟩; rw [hw]; clear hw; subst he)
      | (go_at_call 58; refine (need_any true _ _).mono ?_; rintro e w5 ⟨he, hw⟩; rw [hw]; clear hw; simp only [if_pos] at he; subst he))
     go_ret
     exact hE.out
mutual
theorem value_any (st : List Int) (i0 i1 i2 i3 : Int) (hsl : st.length ≤ 1000000) : ∀ t : Ex, ExI st i0 i1 i2 i3 t
 | .mk op n u ks => value_step st i0 i1 i2 i3 hsl op n u ks (value_all st i0 i1 i2 i3 hsl ks)
theorem value_all (st : List Int) (i0 i1 i2 i3 : Int) (hsl : st.length ≤ 1000000) : ∀ ts : List Ex, ∀ t ∈ ts, ExI st i0 i1 i2 i3 t
 | [], t, ht => by cases ht
 | k :: ks, t, ht => by
  rcases List.mem_cons.1 ht with h | h
  ·rw [h]; exact value_any st i0 i1 i2 i3 hsl k
  ·exact value_all st i0 i1 i2 i3 hsl ks t h
end
end M
end Go.Proofs.YtdlebaiamdbneaaGreatDoor
namespace Go.Proofs.YtdlebaiamdbneaaGreatDoor
open Go.RowKit
namespace M
open I
open R (epanic erOf LeftP ta_nilE ta_errE)
theorem fail_idle (p : Addr) (w : World) :
  CallsD Tryz.prog 54 #[.pointer (some p)] .returning w fun e u' w' => e = .returned (.tuple #[]) ∧ u' = .returning ∧ w' = w := by
 refine callsD_of_wpS Tryz.func54 rfl fun c₀ cs hu => ?_
 apply wpS_seq
 apply wpS_region
 simp [wpOpsS, go_sem, recoverD, hu, Tryz.ntmps54, Exit.thenS, ta_nilE, Array.replicate_succ]
 refine wpS_of_wp ?_
 go_wp2
 cases c₀
 simp_all [bodyPostS, results, Tryz.results54]
theorem fail_rec (b : Nat) (er : Int) (w : World) (v0 : Value) (hb : w.heap[b]? = some (.cells #[v0] 33 (0, 0))) :
  CallsD Tryz.prog 54 #[.pointer (some ⟨b, 0, none⟩)] (.panicking [{ v := .iface 33 (.int .i64 er), recovered := false }]) w fun e u' w' =>
   e = .returned (.tuple #[]) ∧ u' = .panicking [{ v := .iface 33 (.int .i64 er), recovered := true }] ∧ w' = w.setCell ⟨b, 0, none⟩ (.int .i64 er) := by
 refine callsD_of_wpS Tryz.func54 rfl fun c₀ cs hu => ?_
 apply wpS_seq
 apply wpS_region
 simp [wpOpsS, go_sem, recoverD, hu, Tryz.ntmps54, Exit.thenS, ta_errE, Array.replicate_succ]
 refine wpS_of_wp ?_
 obtain ⟨hc, hf⟩ : w.cell? ⟨b, 0, none⟩ = some v0 ∧ w.frozen? ⟨b, 0, none⟩ = false := ⟨by rw [cell_of_row _ _ 0 _ _ (0, 0) hb]; rfl, by simp [World.frozen?, hb]⟩
 have hlt := blkLt hb
 clear hb
 go_wp2
 exact ⟨rfl, _, rfl, .tuple #[], by simp [results, Tryz.results54], rfl, rfl, rfl⟩
theorem failure_Eval (cap : Array Value) (r : Except Int Unit) (Post : World → Prop) (w : World)
  (hC : Calls Tryz.prog 33 cap (w.alloc (.cells #[.int .i64 0] 33)) (LeftP r Post)) (hP : ∀ w1, Post w1 → w1.heap[w.heap.size]? = some (.cells #[.int .i64 0] 33 (0, 0))) :
  Calls Tryz.prog 28 #[.func (.func 33) #[] cap] w (fun e w' => ∃ w1, Post w1 ∧ e = .returned (.int .i64 (erOf r)) ∧ w' = w1.setCell ⟨w.heap.size, 0, none⟩ (.int .i64 (erOf r))) := by
 have hmf : ∀ (fn : Fn) (first cap : Array Value) (w : World), (Instr.makeFunc fn first cap).run Tryz.prog w = .ok (.func fn first cap) w := fun _ _ _ _ => rfl
 have HC := Lib.hid hC
 have HP := Lib.hid hP
 clear hC hP
 go_enter_defers Tryz.func28, Tryz.ntmps28
 go_wp2_with fail
 refine HC.out.mono ?_
 rintro e w1 ⟨he, hp⟩
 have hE1 := Lib.hid (HP.out _ hp)
 have hp := Lib.hid hp
 clear HC HP
 have hx1 := blkLt hE1.out
 rcases r with er | u
 ·simp only at he
  subst he
  go_wp2
  refine leaves_cons (f := 54) (args := #[.pointer (some ⟨w.heap.size, 0, none⟩)]) (by simp) (by simp [go_sem]) ?_
  refine (fail_rec w.heap.size er w1 _ hE1.out).mono ?_
  rintro e u' w'' ⟨rfl, rfl, rfl⟩
  have f0 : (w1.setCell ⟨w.heap.size, 0, none⟩ (.int .i64 er)).cell? ⟨w.heap.size, 0, none⟩ = some (.int .i64 er) := World.cell?_setCell_same _ _ _ (u := .int .i64 0) (by rw [cell_of_row _ _ 0 _ _ (0, 0) hE1.out]; rfl)
  simp [Leaves, settle, results, Tryz.results28, go_sem, f0]
  exact ⟨w1, hp.out, rfl, rfl⟩
 ·simp only at he
  subst he
  have e0 : w1.cell? ⟨w.heap.size, 0, none⟩ = some (.int .i64 0) := by rw [cell_of_row _ _ 0 _ _ (0, 0) hE1.out]; rfl
  have e1 : w1.frozen? ⟨w.heap.size, 0, none⟩ = false := by simp [World.frozen?, hE1.out]
  go_wp2
  refine leaves_cons (f := 54) (args := #[.pointer (some ⟨w.heap.size, 0, none⟩)]) (by simp) (by simp [go_sem]) ?_
  refine (fail_idle _ _).mono ?_
  rintro e u' w'' ⟨rfl, rfl, rfl⟩
  have f0 : (w1.setCell ⟨w.heap.size, 0, none⟩ (.int .i64 0)).cell? ⟨w.heap.size, 0, none⟩ = some (.int .i64 0) := World.cell?_setCell_same _ _ _ (u := .int .i64 0) (by rw [cell_of_row _ _ 0 _ _ (0, 0) hE1.out]; rfl)
  simp [Leaves, settle, results, Tryz.results28, go_sem, f0]
  exact ⟨w1, hp.out, rfl, rfl⟩
theorem failure_Run (cap : Array Value) (r : Except Int Unit) (Post : World → Prop) (w : World)
  (hC : Calls Tryz.prog 29 cap (w.alloc (.cells #[.int .i64 0] 33)) (LeftP r Post)) (hP : ∀ w1, Post w1 → w1.heap[w.heap.size]? = some (.cells #[.int .i64 0] 33 (0, 0))) :
  Calls Tryz.prog 28 #[.func (.func 29) #[] cap] w (fun e w' => ∃ w1, Post w1 ∧ e = .returned (.int .i64 (erOf r)) ∧ w' = w1.setCell ⟨w.heap.size, 0, none⟩ (.int .i64 (erOf r))) := by
 have hmf : ∀ (fn : Fn) (first cap : Array Value) (w : World), (Instr.makeFunc fn first cap).run Tryz.prog w = .ok (.func fn first cap) w := fun _ _ _ _ => rfl
 have HC := Lib.hid hC
 have HP := Lib.hid hP
 clear hC hP
 go_enter_defers Tryz.func28, Tryz.ntmps28
 go_wp2_with fail
 refine HC.out.mono ?_
 rintro e w1 ⟨he, hp⟩
 have hE1 := Lib.hid (HP.out _ hp)
 have hp := Lib.hid hp
 clear HC HP
 have hx1 := blkLt hE1.out
 rcases r with er | u
 ·simp only at he
  subst he
  go_wp2
  refine leaves_cons (f := 54) (args := #[.pointer (some ⟨w.heap.size, 0, none⟩)]) (by simp) (by simp [go_sem]) ?_
  refine (fail_rec w.heap.size er w1 _ hE1.out).mono ?_
  rintro e u' w'' ⟨rfl, rfl, rfl⟩
  have f0 : (w1.setCell ⟨w.heap.size, 0, none⟩ (.int .i64 er)).cell? ⟨w.heap.size, 0, none⟩ = some (.int .i64 er) := World.cell?_setCell_same _ _ _ (u := .int .i64 0) (by rw [cell_of_row _ _ 0 _ _ (0, 0) hE1.out]; rfl)
  simp [Leaves, settle, results, Tryz.results28, go_sem, f0]
  exact ⟨w1, hp.out, rfl, rfl⟩
 ·simp only at he
  subst he
  have e0 : w1.cell? ⟨w.heap.size, 0, none⟩ = some (.int .i64 0) := by rw [cell_of_row _ _ 0 _ _ (0, 0) hE1.out]; rfl
  have e1 : w1.frozen? ⟨w.heap.size, 0, none⟩ = false := by simp [World.frozen?, hE1.out]
  go_wp2
  refine leaves_cons (f := 54) (args := #[.pointer (some ⟨w.heap.size, 0, none⟩)]) (by simp) (by simp [go_sem]) ?_
  refine (fail_idle _ _).mono ?_
  rintro e u' w'' ⟨rfl, rfl, rfl⟩
  have f0 : (w1.setCell ⟨w.heap.size, 0, none⟩ (.int .i64 0)).cell? ⟨w.heap.size, 0, none⟩ = some (.int .i64 0) := World.cell?_setCell_same _ _ _ (u := .int .i64 0) (by rw [cell_of_row _ _ 0 _ _ (0, 0) hE1.out]; rfl)
  simp [Leaves, settle, results, Tryz.results28, go_sem, f0]
  exact ⟨w1, hp.out, rfl, rfl⟩
end M
end Go.Proofs.YtdlebaiamdbneaaGreatDoor
namespace Go.Proofs.YtdlebaiamdbneaaGreatDoor
open Go.RowKit
namespace M
open I
open U (Ex St btw ev eArr KidsE newBlk blkLt rsE rsE_min)
open R (epanic bAllocX LeftP erOf cell1)
abbrev in4 (i0 i1 i2 i3 : Int) : Array Value := #[.int .i64 i0, .int .i64 i1, .int .i64 i2, .int .i64 i3]
def resI : Except Int Int → Int
 | .ok n => n
 | .error _ => 0
def unitI : Except Int Int → Except Int Unit
 | .ok _ => .ok ()
 | .error e => .error e
def PostI (B : Nat) (W : World) (sb : Nat) (n : Int) (w1 : World) : Prop :=
 (∀ k, k < W.heap.size → k ≠ sb → w1.heap[k]? = W.heap[k]?) ∧ w1.heap[sb]? = some (.cells #[.int .i64 n] 3 (0, 0)) ∧ Below B W w1
theorem set1I {w : World} {b : Nat} {v u : Value} {T : TypeId} (h : w.heap[b]? = some (.cells #[v] T (0, 0))) : (w.setCell ⟨b, 0, none⟩ u).heap[b]? = some (.cells #[u] T (0, 0)) := by rw [heap_setCell_same _ b 0 _ _ _ h]; simp
theorem cloE_any (st : List Int) (i0 i1 i2 i3 : Int) (t : Ex) (A SA : Option Addr) (c m b0 b1 b2 b3 : Nat) (W : World) (h0 : W.heap[b0]? = some (.cells #[.slice SA st.length m] 27 (0, 0))) (h1 : W.heap[b1]? = some (.cells (in4 i0 i1 i2 i3) 28 (0, 0)))
  (h2 : W.heap[b2]? = some (.cells (eArr t A c) 46 (0, 0))) (h3 : W.heap[b3]? = some (.cells #[.int .i64 0] 3 (0, 0))) (hS : IntsR W st SA) (hK : KidsE W t.kids A) (hsz : t.size ≤ 60) (hsl : st.length ≤ 1000000) (B : Nat) (hB : B ≤ b3) (hBW : B ≤ W.heap.size) :
  Calls Tryz.prog 33 #[.pointer (some ⟨b0, 0, none⟩), .pointer (some ⟨b1, 0, none⟩), .pointer (some ⟨b2, 0, none⟩), .pointer (some ⟨b3, 0, none⟩)] W (LeftP (unitI (mvE st [i0, i1, i2, i3] t)) (PostI B W b3 (resI (mvE st [i0, i1, i2, i3] t)))) := by
 have HX := Lib.hid (fun wx (mb : Nat) (hg : Gr W wx) (hm : OpsR wx mb) => value_any st i0 i1 i2 i3 hsl t wx A SA c m mb (hS.gr hg) hm (hK.below hg) hsz)
 have HOp := Lib.hid (fun wx => operations_any wx)
 have a0 := cell1 h0
 obtain ⟨⟨c0, c1, c2, c3⟩, -⟩ := C.cells4C h1
 obtain ⟨⟨x0, x1, x2, x3⟩, -⟩ := C.cells4C h2
 have H3 := Lib.hid h3
 have l3 := blkLt h3
 generalize mvE st [i0, i1, i2, i3] t = r at *
 clear h0 h1 h2 h3 hS hK hsz hsl
 go_enter Tryz.func33, Tryz.ntmps33
 refine wp_region_X (S := fun wq => Gr W wq) [6] (by kernel_rfl) (grDrew _) (fun hHeld => ?_)
 have hSG : Hid (∀ wp wq : World, Gr W wp → Gr wp wq → Gr W wq) := Lib.hid (fun _ _ h k => h.tr k)
 have hmv := Lib.hid (fun (wq : World) (hq : Gr W wq) => And.intro (grCell hq a0) (And.intro (grCell hq c0) (And.intro (grCell hq c1) (And.intro (grCell hq c2) (And.intro (grCell hq c3) (And.intro (grCell hq x0) (And.intro (grCell hq x1) (And.intro (grCell hq x2) (grCell hq x3)))))))))
 first
  | (refine xk hSG 0 [3, 5, 6] (v := ?_) rfl (by kernel_rfl) (fun _ _ _ h => h) (by rfl) ?_ hHeld ?_; rotate_left; focus (intro w' hSw; obtain ⟨a0, c0, c1, c2, c3, x0, x1, x2, x3⟩ := hmv.out _ hSw; go_simp; (try with_reducible rfl)))
  | refine xn hSG 0 [3, 5, 6] rfl (by kernel_rfl) (fun _ _ _ h => h) (by rfl) hHeld ?_
 (try simp only [zq1, zq2, zq3, Act.put, zq4, zq5, zq6])
 first
  | (refine xk hSG 1 [3, 5, 6] (v := ?_) rfl (by kernel_rfl) (fun _ _ _ h => h) (by rfl) ?_ hHeld ?_; rotate_left; focus (intro w' hSw; obtain ⟨a0, c0, c1, c2, c3, x0, x1, x2, x3⟩ := hmv.out _ hSw; go_simp; (try with_reducible rfl)))
  | refine xn hSG 1 [3, 5, 6] rfl (by kernel_rfl) (fun _ _ _ h => h) (by rfl) hHeld ?_
 (try simp only [zq1, zq2, zq3, Act.put, zq4, zq5, zq6])
 first
  | (refine xk hSG 4 [5, 6] (v := ?_) rfl (by kernel_rfl) (fun _ _ _ h => h) (by rfl) ?_ hHeld ?_; rotate_left; focus (intro w' hSw; obtain ⟨a0, c0, c1, c2, c3, x0, x1, x2, x3⟩ := hmv.out _ hSw; go_simp; (try with_reducible rfl)))
  | refine xn hSG 4 [5, 6] rfl (by kernel_rfl) (fun _ _ _ h => h) (by rfl) hHeld ?_
 (try simp only [zq1, zq2, zq3, Act.put, zq4, zq5, zq6])
 refine wpAnyX_one (i := 2) (by kernel_rfl) rfl (fun w4 hg K hK => ?_)
 have hgS := hSG.out _ _ hHeld.out hg
 go_simp
 go_at_call 27
 refine (HOp.out _).mono ?_
 rintro e w5 ⟨⟨mb, rfl, hm⟩, hb5⟩
 have hm := Lib.hid hm
 refine hK.out _ _ (hgS.tr hb5) (fun hHeld => ?_)
 clear hK K hg hgS hb5
 first
  | (refine xk hSG 3 [5, 6] (v := ?_) rfl (by kernel_rfl) (fun _ _ _ h => h) (by rfl) ?_ hHeld ?_; rotate_left; focus (intro w' hSw; obtain ⟨a0, c0, c1, c2, c3, x0, x1, x2, x3⟩ := hmv.out _ hSw; go_simp; (try with_reducible rfl)))
  | refine xn hSG 3 [5, 6] rfl (by kernel_rfl) (fun _ _ _ h => h) (by rfl) hHeld ?_
 (try simp only [zq1, zq2, zq3, Act.put, zq4, zq5, zq6])
 refine wpAnyX_one (i := 5) (by kernel_rfl) rfl (fun w6 hg K hK => ?_)
 have hgS := hSG.out _ _ hHeld.out hg
 go_simp
 have hm6 := hm.out.gr hg
 go_at_call 34
 refine (HX.out _ mb hgS hm6).mono ?_
 rcases r with er | q
 ·rintro e w7 ⟨he, hb7⟩
  simp only at he
  subst he
  have hg7 := hgS.tr hb7
  have hF := Lib.hid (show PostI B W b3 0 w7 from ⟨fun k hk _ => hg7.block k hk, (hg7.block _ l3).trans H3.out, hg7.mono hBW⟩)
  go_wp2
  exact ⟨rfl, rfl, hF.out⟩
 ·rintro e w7 ⟨he, hb7⟩
  simp only at he
  subst he
  have hg7 := hgS.tr hb7
  refine hK.out _ _ hg7 (fun hHeld => ?_)
  clear hK K hg hgS hb7 hg7
  have hgw := Lib.hid (hHeld.out)
  refine wpAnyX_oneX (i := 6) (by kernel_rfl) (by kernel_rfl) rfl (fun w8 hg K hK => ?_)
  have hg8 := hgw.out.tr hg
  have H8 := Lib.hid (grBlk hg8 H3.out)
  have z0 := cell1 H8.out
  have z1 : w8.frozen? ⟨b3, 0, none⟩ = false := by simp [World.frozen?, H8.out]
  go_simp
  refine hK.out _ _ ?_
  clear hK K hg
  have hP := Lib.hid (show PostI B W b3 q (w8.setCell ⟨b3, 0, none⟩ (.int .i64 q)) from ⟨fun k hk hne => (C.scO _ _ _ _ _ hne).trans (hg8.block k hk), set1I H8.out, C.belowSet (hg8.mono hBW) hB⟩)
  refine wpAnyX_done (by kernel_rfl) (fun w9 hg => ?_) _
  have hP9 := Lib.hid (show PostI B W b3 q w9 from ⟨fun k hk hne => (hg.block k (by have := hg8.size; simp [World.setCell]; omega)).trans (hP.out.1 k hk hne), grBlk hg hP.out.2.1, hP.out.2.2.trans (hg.mono (Nat.le_trans hBW hP.out.2.2.size))⟩)
  go_wp2
  exact ⟨rfl, .tuple #[], by simp [results, Tryz.results33, go_sem], rfl, hP9.out⟩
theorem Eval_any (st : List Int) (SA : Option Addr) (m : Nat) (i0 i1 i2 i3 : Int) (t : Ex) (A : Option Addr) (c : Nat) (w : World) (hS : IntsR w st SA) (hsl : st.length ≤ 1000000) (hK : KidsE w t.kids A) :
  Calls Tryz.prog 19 #[.slice SA st.length m, .agg (in4 i0 i1 i2 i3), ev t A c] w (VV (.tuple #[.int .i64 (evalE st [i0, i1, i2, i3] t).1, .int .i64 (evalE st [i0, i1, i2, i3] t).2]) w) := by
 have hmf : ∀ (fn : Fn) (first cap : Array Value) (w : World), (Instr.makeFunc fn first cap).run Tryz.prog w = .ok (.func fn first cap) w := fun _ _ _ _ => rfl
 obtain ⟨W4, hW4⟩ : ∃ W4, W4 = ((w.alloc (.cells #[.slice SA st.length m] 27)).alloc (.cells (in4 i0 i1 i2 i3) 28)).alloc (.cells (eArr t A c) 46) := ⟨_, rfl⟩
 have HB : Hid (Below w.heap.size w W4) := Lib.hid (by rw [hW4]; exact bAllocX (bAllocX (bAllocX (Below.refl _ _))))
 have H3 : Hid (W4.heap[w.heap.size]? = some (.cells #[.slice SA st.length m] 27 (0, 0))) := Lib.hid (by rw [hW4]; exact (Below.heap_alloc _ _ _ (by simp <;> omega)).trans ((Below.heap_alloc _ _ _ (by simp)).trans (newBlk _ _ _ rfl)))
 have H4 : Hid (W4.heap[w.heap.size + 1]? = some (.cells (in4 i0 i1 i2 i3) 28 (0, 0))) := Lib.hid (by rw [hW4]; exact (Below.heap_alloc _ _ _ (by simp)).trans (newBlk _ _ _ (by simp)))
 have H5 : Hid (W4.heap[w.heap.size + 1 + 1]? = some (.cells (eArr t A c) 46 (0, 0))) := Lib.hid (by rw [hW4]; exact newBlk _ _ _ (by simp))
 have l5 := blkLt H5.out
 obtain ⟨⟨x0, x1, x2, x3⟩, -⟩ := C.cells4C H5.out
 have hrs := rsE_min t 60 (by decide)
 have HSz := Lib.hid (fun wx (hg : Gr w wx) => size_any t wx 60 A c (by decide) (by decide) (hK.below hg))
 have HS := Lib.hid hS
 have HK := Lib.hid hK
 clear hS hK
 by_cases h60 : 60 < t.size
 ·have hm : evalE st [i0, i1, i2, i3] t = (0, 2) := by unfold evalE; rw [if_pos h60]
  rw [hm]
  have hr : rsE t 60 = 61 := by omega
  rw [hr] at HSz
  clear hm h60 hrs hr hsl
  go_enter Tryz.func19, Tryz.ntmps19
  go_upto_region 1 with fail
  rw [← hW4]
  clear hW4
  go_wp2_with (go_at_call 32; refine (HSz.out _ HB.out).mono ?_; rintro e w2 ⟨rfl, hb2⟩; have HB := Lib.hid (HB.out.trans (hb2.mono HB.out.size)))
  exact bodyPost_ret (v := .tuple #[.int .i64 0, .int .i64 2]) (by simp [results, Tryz.results19, go_sem]) rfl ⟨rfl, HB.out⟩
 ·have hm : evalE st [i0, i1, i2, i3] t = (resI (mvE st [i0, i1, i2, i3] t), erOf (unitI (mvE st [i0, i1, i2, i3] t))) := by
   unfold evalE
   rw [if_neg h60]
   rcases mvE st [i0, i1, i2, i3] t with e | s <;> rfl
  rw [hm]
  obtain ⟨zs, hr⟩ : ∃ zs, rsE t 60 = zs := ⟨_, rfl⟩
  have hzs : decide ((60 : Int) < zs) = false := by simp; omega
  rw [hr] at HSz
  have hsz60 : Hid (t.size ≤ 60) := Lib.hid (by omega)
  have hslH := Lib.hid hsl
  clear hm h60 hrs hr hsl
  go_enter Tryz.func19, Tryz.ntmps19
  go_upto_region 1 with fail
  rw [← hW4]
  clear hW4
  go_upto_region 3 with (go_at_call 32; refine (HSz.out _ HB.out).mono ?_; rintro e w2 ⟨rfl, hb2⟩; have H3 := Lib.hid ((hb2.block _ (blkLt H3.out)).trans H3.out); have H4 := Lib.hid ((hb2.block _ (blkLt H4.out)).trans H4.out); have H5 := Lib.hid ((hb2.block _ l5).trans H5.out); have HB := Lib.hid (HB.out.trans (hb2.mono HB.out.size)); clear hb2 l5 x0 x1 x2 x3)
  obtain ⟨W5, hW5⟩ : ∃ W5, W5 = w2.alloc (.cells #[.int .i64 0] 3) := ⟨_, rfl⟩
  have hg5 : Gr w2 W5 := by rw [hW5]; exact grAlloc _ _
  have hs5 : W5.heap.size = w2.heap.size + 1 := by rw [hW5]; simp
  have H9 := Lib.hid (show W5.heap[w2.heap.size]? = some (.cells #[.int .i64 0] 3 (0, 0)) from by rw [hW5]; exact newBlk _ _ _ rfl)
  go_upto_region 4 with fail
  rw [← hW5]
  have hg6 : Gr W5 (W5.alloc (.cells #[.int .i64 0] 33)) := grAlloc _ _
  have hg26 := hg5.tr hg6
  have hB6 := Lib.hid (HB.out.trans (hg26.mono HB.out.size))
  have HClo := Lib.hid (cloE_any st i0 i1 i2 i3 t A SA c m w.heap.size (w.heap.size + 1) (w.heap.size + 1 + 1) w2.heap.size (W5.alloc (.cells #[.int .i64 0] 33)) (grBlk hg26 H3.out) (grBlk hg26 H4.out) (grBlk hg26 H5.out) (grBlk hg6 H9.out) (HS.out.gr hB6.out) (HK.out.below hB6.out) hsz60.out hslH.out w.heap.size HB.out.size hB6.out.size)
  have HF := Lib.hid (failure_Eval #[.pointer (some ⟨w.heap.size, 0, none⟩), .pointer (some ⟨w.heap.size + 1, 0, none⟩), .pointer (some ⟨w.heap.size + 1 + 1, 0, none⟩), .pointer (some ⟨w2.heap.size, 0, none⟩)] _ _ W5 HClo.out (fun w1 hp => (hp.1 W5.heap.size (by simp) (by omega)).trans (newBlk _ _ _ rfl)))
  generalize mvE st [i0, i1, i2, i3] t = r at *
  have hs5H := Lib.hid hs5
  clear hW5 hg5 hg6 hg26 HClo hs5
  go_upto_region 5 with (go_at_call 28; refine HF.out.mono ?_; rintro e w3 ⟨w1, hp, rfl, hw3p⟩; have hw3 := Lib.hid hw3p; clear hw3p)
  have hss := hs5H.out
  have h9 := Lib.hid (show w3.heap[w2.heap.size]? = some (.cells #[.int .i64 (resI r)] 3 (0, 0)) from by rw [hw3.out]; exact (C.scO _ _ _ _ _ (by omega)).trans hp.2.1)
  have hB3 := Lib.hid (show Below w.heap.size w w3 from by rw [hw3.out]; exact C.belowSet (hB6.out.trans hp.2.2) (by have := HB.out.size; omega))
  clear hw3 hp hss
  have s0 := cell1 h9.out
  go_wp2
  exact bodyPost_ret (v := .tuple #[.int .i64 (resI r), .int .i64 (erOf (unitI r))]) (by simp [results, Tryz.results19, go_sem]) rfl ⟨rfl, hB3.out⟩
end M
end Go.Proofs.YtdlebaiamdbneaaGreatDoor
namespace Go.Proofs.YtdlebaiamdbneaaGreatDoor
open Go.RowKit
namespace R
open I
open U (Ex St KidsE ev eArr owns_below ownsRow_low gbBelow gbAlloc gbTrans gbRefl new_cells)
theorem addN (x y z : Nat) : (⟨x, y, none⟩ : Addr).add z = ⟨x, y + z, none⟩ := by unfold Addr.add; split <;> simp_all
end R
end Go.Proofs.YtdlebaiamdbneaaGreatDoor
namespace Go.Proofs.YtdlebaiamdbneaaGreatDoor
open Go.RowKit
namespace R
open I
open U (Ex St KidsE ev eArr Vr VarsR VrAt owns_below gbBelow gbAlloc gbTrans gbRefl new_cells)
def limS (vs : List Vr) : List Sp := vs.map fun v => ⟨v.lo, v.hi⟩
end R
end Go.Proofs.YtdlebaiamdbneaaGreatDoor
