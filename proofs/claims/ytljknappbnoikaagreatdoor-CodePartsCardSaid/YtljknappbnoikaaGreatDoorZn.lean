/- Texts of one proof: CxD, CxE, CxH, CxI, PxF, PxH, CxJ. -/
import Derived.Test.YtljknappbnoikaaGreatDoorZm
import Derived.Deep.Cut
import Derived.Deep.DeepCutAuto
import Derived.Test.YtljknappbnoikaaGreatDoorZe
import Derived.Deep.LoopGhost
import Derived.OwnWalk
import Derived.WalkMore
import Derived.BigCall
set_option linter.unusedVariables false
set_option linter.unusedSimpArgs false
set_option maxRecDepth 100000
set_option maxHeartbeats 8000000
namespace Go.Proofs.YtljknappbnoikaaGreatDoor
open Go.RowKit
namespace C
def fidx (p : Nd → Bool) : List Nd → Nat → Int
 | [], _ => -1
 | t :: ts, k => if p t = true then k else fidx p ts (k + 1)
theorem fidx_drop (p : Nd → Bool) (l : List Nd) (k j : Nat) (h : k < l.length) : fidx p (l.drop k) j = if p l[k] = true then (j : Int) else fidx p (l.drop (k + 1)) (j + 1) := by
 rw [List.drop_eq_getElem_cons h, fidx]
theorem fidx_any (p : Nd → Bool) : ∀ (l : List Nd) (k : Nat), decide (0 ≤ fidx p l k) = l.any p
 | [], k => by simp [fidx]
 | t :: ts, k => by
  rw [fidx, List.any_cons]
  cases h : p t with
  | true => simp
  | false => simpa using fidx_any p ts (k + 1)
def isNm (y : ByteArray) (t : Nd) : Bool := decide (y = t.name)
theorem clo1_any (t : Nd) (A : Option Addr) (c b : Nat) (y : ByteArray) (w : World) (hy : w.cell? ⟨b, 0, none⟩ = some (.string y)) : Calls Tryz.prog 112 #[nv t A c, .pointer (some ⟨b, 0, none⟩)] w (V1 (.bool (isNm y t)) w) := by
 have hb := World.block_lt_of_cell? _ _ hy
 unfold isNm
 by_cases h : y = t.name
 ·rw [decide_eq_true h]
  subst h
  have g := toList_eqC t.name
  go_enter Tryz.func112, Tryz.ntmps112
  go_wp2
  go_ret
  exact ⟨rfl, (Below.refl _ _).alloc (Nat.le_refl _) _⟩
 ·rw [decide_eq_false h]
  have g := bne_of t.name y (fun e => h e.symm)
  go_enter Tryz.func112, Tryz.ntmps112
  go_wp2
  go_ret
  exact ⟨rfl, (Below.refl _ _).alloc (Nat.le_refl _) _⟩
theorem IndexN1_any (ts : List Nd) (A : Option Addr) (m b : Nat) (y : ByteArray) (w : World) (hK : KidsR w (From 0) ts A) (hlen : ts.length ≤ 1000000) (hy : w.cell? ⟨b, 0, none⟩ = some (.string y)) :
  Calls Tryz.prog 125 #[.slice A ts.length m, .func (.func 112) #[] #[.pointer (some ⟨b, 0, none⟩)]] w (V1 (.int .i64 (fidx (isNm y) ts 0)) w) := by
 obtain ⟨r, hr⟩ : ∃ r, fidx (isNm y) ts 0 = r := ⟨_, rfl⟩
 rw [hr]
 have HR : Hid (fidx (isNm y) (ts.drop 0) 0 = r) := Lib.hid hr
 have HK := Lib.hid hK
 have hb := World.block_lt_of_cell? _ _ hy
 have HY := Lib.hid (fun wx (h : Below w.heap.size w wx) => (World.cell?_of_block (a := ⟨b, 0, none⟩) (h.block b hb)).trans hy)
 clear hK hr hy
 go_enter Tryz.func125, Tryz.ntmps125
 go_wp2
 go_loopg [8] (ts.length) (fun gk i wr => ∃ (k : Nat), k + gk = ts.length ∧ i = .int .i64 k ∧ Hid (fidx (isNm y) (ts.drop k) k = r) ∧ Hid (Below w.heap.size w wr))
 case atStart => exact ⟨0, by omega, rfl, HR, Lib.hid (Below.refl _ _)⟩
 case round =>
  obtain ⟨k, hk, rfl, hM, hW⟩ := hrel
  by_cases hlt : k < ts.length
  ·obtain ⟨g, rfl⟩ : ∃ g, gk = g + 1 := ⟨gk - 1, by omega⟩
   have hKw : KidsR wr (From 0) ts A := KidsR.bel HK.out hW.out
   obtain ⟨ga, oa, rfl⟩ := kids_addr hKw (by omega)
   obtain ⟨A1, a1, ⟨k0, k1, k2, k3, k4, k5⟩, -⟩ := one_cells (kids_get _ _ _ hKw k _ (List.getElem?_eq_getElem hlt))
   have hM1 := hM.out
   rw [fidx_drop _ _ _ _ hlt] at hM1
   clear hKw hM
   generalize ts[k] = t at *
   have HC := Lib.hid (clo1_any t A1 a1 b y wr (HY.out _ hW.out))
   cases hp : (isNm y) t with
   | true =>
    rw [hp] at HC
    have h3 : Hid ((k : Int) = r) := Lib.hid (by rw [if_pos hp] at hM1; exact hM1)
    clear hM1 hp
    go_wp2_with (go_at_call 112; refine HC.out.mono ?_; rintro e w2 ⟨rfl, hb2⟩; have hW2 := Lib.hid (bCallC hW.out hb2); clear hb2)
    go_ret
    exact ⟨ret_vC h3.out, hW2.out⟩
   | false =>
    rw [hp] at HC
    have h3 : Hid (fidx (isNm y) (ts.drop (k + 1)) (k + 1) = r) := Lib.hid (by rw [if_neg (by simp [hp])] at hM1; exact hM1)
    clear hM1 hp
    go_wp2_with (go_at_call 112; refine HC.out.mono ?_; rintro e w2 ⟨rfl, hb2⟩; have hW2 := Lib.hid (bCallC hW.out hb2); clear hb2)
    go_roundg g
    case measure => omega
    case rel => exact ⟨k + 1, by omega, by go_num, h3, hW2⟩
  ·have hF : Hid ((-1 : Int) = r) := Lib.hid (by have := hM.out; rw [List.drop_eq_nil_of_le (by omega), fidx] at this; exact this)
   have hkl : decide ((k : Int) < (ts.length : Int)) = false := by simp; omega
   clear hM
   go_wp2_with fail
   go_ret
   exact ⟨ret_vC hF.out, hW.out⟩
theorem Contains1_any (ts : List Nd) (A : Option Addr) (m b : Nat) (y : ByteArray) (w : World) (hK : KidsR w (From 0) ts A) (hlen : ts.length ≤ 1000000) (hy : w.cell? ⟨b, 0, none⟩ = some (.string y)) :
  Calls Tryz.prog 111 #[.slice A ts.length m, .func (.func 112) #[] #[.pointer (some ⟨b, 0, none⟩)]] w (V1 (.bool (ts.any (isNm y))) w) := by
 have HI := Lib.hid (IndexN1_any ts A m b y w hK hlen hy)
 rw [← fidx_any (isNm y) ts 0]
 generalize fidx (isNm y) ts 0 = r at *
 generalize ts.length = tn at *
 clear hK hlen hy
 go_enter Tryz.func111, Tryz.ntmps111
 go_wp2_with (go_at_call 125; refine HI.out.mono ?_; rintro e w2 ⟨rfl, hb2⟩)
 go_ret
 exact ⟨rfl, hb2⟩
theorem hasName_any (ts : List Nd) (A : Option Addr) (m : Nat) (y : ByteArray) (w : World) (hK : KidsR w (From 0) ts A) (hlen : ts.length ≤ 1000000) : Calls Tryz.prog 95 #[.slice A ts.length m, .string y] w (V1 (.bool (ts.any (isNm y))) w) := by
 have HB := Lib.hid ((Below.refl w.heap.size w).alloc (Nat.le_refl _) (.cells #[.string y] 9))
 have HX := Lib.hid (newBlkC w (.cells #[.string y] 9) _ rfl)
 have c0 : (w.alloc (.cells #[.string y] 9)).cell? ⟨w.heap.size, 0, none⟩ = some (.string y) := by rw [cell_of_row _ _ 0 _ _ (0, 0) HX.out]; rfl
 have HC := Lib.hid (Contains1_any ts A m w.heap.size y _ (KidsR.bel hK HB.out) hlen c0)
 have hmf : ∀ (fn : Fn) (first cap : Array Value) (w : World), (Instr.makeFunc fn first cap).run Tryz.prog w = .ok (.func fn first cap) w := fun _ _ _ _ => rfl
 generalize ts.any (isNm y) = r at *
 generalize ts.length = tn at *
 clear hK hlen
 go_enter Tryz.func95, Tryz.ntmps95
 go_wp2_with (go_at_call 111; refine HC.out.mono ?_; rintro e w2 ⟨rfl, hb2⟩; have HB := Lib.hid (bCallC HB.out hb2); clear hb2)
 go_ret
 exact ⟨rfl, HB.out⟩
end C
end Go.Proofs.YtljknappbnoikaaGreatDoor
namespace Go.Proofs.YtljknappbnoikaaGreatDoor
open Go.RowKit
namespace C
theorem cells4C {w : World} {b : Nat} {v0 v1 v2 v3 : Value} {T : TypeId} (h : w.heap[b]? = some (.cells #[v0, v1, v2, v3] T (0, 0))) :
  (w.cell? ⟨b, 0, none⟩ = some v0 ∧ w.cell? ⟨b, 1, none⟩ = some v1 ∧ w.cell? ⟨b, 2, none⟩ = some v2 ∧ w.cell? ⟨b, 3, none⟩ = some v3) ∧ w.frozen? ⟨b, 0, none⟩ = false ∧ w.frozen? ⟨b, 1, none⟩ = false ∧ w.frozen? ⟨b, 2, none⟩ = false ∧ w.frozen? ⟨b, 3, none⟩ = false := by
 have e : ∀ j, w.cell? ⟨b, j, none⟩ = (#[v0, v1, v2, v3] : Array Value)[j]? := fun j => cell_of_row _ _ j _ _ (0, 0) h
 refine ⟨⟨e 0, e 1, e 2, e 3⟩, ?_, ?_, ?_, ?_⟩
 all_goals simp [World.frozen?, h]
end C
end Go.Proofs.YtljknappbnoikaaGreatDoor
namespace Go.Proofs.YtljknappbnoikaaGreatDoor
open Go.RowKit
namespace C
def IntP (r : Except (Int × Int) Int) (w : World) (e : Ending) (w' : World) : Prop :=
 (match r with
  | .ok i => e = .returned (.int .i64 i)
  | .error d => e = dpanic d.1 d.2) ∧ Below w.heap.size w w'
def useM (vs : List U.Vr) (t : Nd) (un : Int) : Except (Int × Int) Int :=
 if 0 ≤ idx (vs.map (·.x)) t.name then
  match vs[(idx (vs.map (·.x)) t.name).toNat]? with
  | some v => if v.u = un then .ok (idx (vs.map (·.x)) t.name) else .error (13, t.at0)
  | none => .error (13, t.at0)
 else .error (8, t.at0)
theorem idxF_lt (y : ByteArray) : ∀ (l : List ByteArray) (k : Nat), idxF y l k < (k : Int) + l.length
 | [], k => by simp [idxF]; omega
 | x :: l, k => by
  have := idxF_lt y l (k + 1)
  rw [idxF]
  simp only [List.length_cons]
  split <;> omega
theorem idx_lt (l : List ByteArray) (y : ByteArray) : idx l y < l.length := by
 have := idxF_lt y l 0
 show idxF y l 0 < _
 omega
theorem use_any (vs : List U.Vr) (S : Option Addr) (m : Nat) (t : Nd) (A : Option Addr) (c : Nat) (un : Int) (w : World) (hV : U.VarsR w vs S) (hlen : vs.length ≤ 1000000) :
  Calls Tryz.prog 98 #[.slice S vs.length m, nv t A c, .int .i64 un] w (IntP (useM vs t un) w) := by
 have HB := Lib.hid ((Below.refl w.heap.size w).alloc (Nat.le_refl _) (.cells (ndA t A c) 79))
 have HX := Lib.hid (newBlkC w (.cells (ndA t A c) 79) _ rfl)
 obtain ⟨⟨c0, c1, c2, c3, c4, c5⟩, -⟩ := cells6 HX.out
 have hx := blkLtC HX.out
 have HI := Lib.hid (index_any vs S m t A c _ (hV.below HB.out) hlen)
 unfold IxP at HI
 obtain ⟨r, hr⟩ : ∃ r, useM vs t un = r := ⟨_, rfl⟩
 rw [hr]
 unfold useM at hr
 have hlt := idx_lt (vs.map (·.x)) t.name
 simp only [List.length_map] at hlt
 generalize idx (vs.map (·.x)) t.name = i at *
 by_cases h0 : 0 ≤ i
 ·rw [if_pos h0] at hr
  obtain ⟨k, rfl⟩ : ∃ k : Nat, i = k := ⟨i.toNat, by omega⟩
  have hk : k < vs.length := by omega
  simp only [Int.toNat_natCast, List.getElem?_eq_getElem hk] at hr
  have HJ : Hid (Calls Tryz.prog 117 #[.slice S vs.length m, nv t A c] (w.alloc (.cells (ndA t A c) 79)) (V1 (.int .i64 (k : Int)) (w.alloc (.cells (ndA t A c) 79)))) := Lib.hid (HI.out.mono (fun e w' ho => ⟨by have := ho.1; rw [if_pos h0] at this; exact this, ho.2⟩))
  obtain ⟨g, o, rfl, hat⟩ := hV.addr (by omega)
  obtain ⟨e0, e1, e2, e3, e4⟩ := hat _ _ (List.getElem?_eq_getElem hk)
  have hg := World.block_lt_of_cell? _ _ e1
  have E1 := Lib.hid (fun wx (h : Below w.heap.size w wx) => (World.cell?_of_block (a := ⟨g, o + k * 5 + 1, none⟩) (h.block g hg)).trans e1)
  clear e0 e1 e2 e3 e4 hat HI h0 hlt
  generalize vs[k] = v at *
  by_cases hu : v.u = un
  ·rw [if_pos hu] at hr
   subst hr
   subst hu
   have HN := Lib.hid (fun wx => need_any true 13 t A c wx)
   clear hV
   go_enter Tryz.func98, Tryz.ntmps98
   go_upto_region 2 with (go_at_call 117; refine HJ.out.mono ?_; rintro e w2 ⟨rfl, hb2⟩; have HX := Lib.hid ((hb2.block _ hx).trans HX.out); have HB := Lib.hid (bCallC HB.out hb2); clear c0 c1 c2 c3 c4 c5 hx; obtain ⟨⟨c0, c1, c2, c3, c4, c5⟩, -⟩ := cells6 HX.out; have hx := blkLtC HX.out; have e1 := E1.out _ HB.out; clear hb2)
   refine wp_region_G (S := fun wq => Gr w2 wq) (by kernel_rfl) (grDrew _) (fun hHeld => ?_)
   have hSG : Hid (∀ wp wq : World, Gr w2 wp → Gr wp wq → Gr w2 wq) := Lib.hid (fun _ _ h k => h.tr k)
   have hmv := Lib.hid (fun (wq : World) (hq : Gr w2 wq) => And.intro (grCell hq c0) (And.intro (grCell hq c1) (And.intro (grCell hq c2) (And.intro (grCell hq c3) (And.intro (grCell hq c4) (And.intro (grCell hq c5) (grCell hq e1)))))))
   first
    | (refine tk hSG 0 (v := ?_) rfl (by kernel_rfl) (fun _ _ _ h => h) (by rfl) ?_ hHeld ?_; rotate_left; focus (intro w' hSw; obtain ⟨c0, c1, c2, c3, c4, c5, e1⟩ := hmv.out _ hSw; go_simp; (try with_reducible rfl)))
    | refine tn hSG 0 rfl (by kernel_rfl) (fun _ _ _ h => h) (by rfl) hHeld ?_
   (try simp only [zq1, zq2, zq3, Act.put, zq4, zq5, zq6])
   first
    | (refine tk hSG 1 (v := ?_) rfl (by kernel_rfl) (fun _ _ _ h => h) (by rfl) ?_ hHeld ?_; rotate_left; focus (intro w' hSw; obtain ⟨c0, c1, c2, c3, c4, c5, e1⟩ := hmv.out _ hSw; go_simp; (try with_reducible rfl)))
    | refine tn hSG 1 rfl (by kernel_rfl) (fun _ _ _ h => h) (by rfl) hHeld ?_
   (try simp only [zq1, zq2, zq3, Act.put, zq4, zq5, zq6])
   first
    | (refine tk hSG 2 (v := ?_) rfl (by kernel_rfl) (fun _ _ _ h => h) (by rfl) ?_ hHeld ?_; rotate_left; focus (intro w' hSw; obtain ⟨c0, c1, c2, c3, c4, c5, e1⟩ := hmv.out _ hSw; go_simp; (try with_reducible rfl)))
    | refine tn hSG 2 rfl (by kernel_rfl) (fun _ _ _ h => h) (by rfl) hHeld ?_
   (try simp only [zq1, zq2, zq3, Act.put, zq4, zq5, zq6])
   first
    | (refine tk hSG 3 (v := ?_) rfl (by kernel_rfl) (fun _ _ _ h => h) (by rfl) ?_ hHeld ?_; rotate_left; focus (intro w' hSw; obtain ⟨c0, c1, c2, c3, c4, c5, e1⟩ := hmv.out _ hSw; go_simp; (try with_reducible rfl)))
    | refine tn hSG 3 rfl (by kernel_rfl) (fun _ _ _ h => h) (by rfl) hHeld ?_
   (try simp only [zq1, zq2, zq3, Act.put, zq4, zq5, zq6])
   first
    | (refine tk hSG 4 (v := ?_) rfl (by kernel_rfl) (fun _ _ _ h => h) (by rfl) ?_ hHeld ?_; rotate_left; focus (intro w' hSw; obtain ⟨c0, c1, c2, c3, c4, c5, e1⟩ := hmv.out _ hSw; go_simp; (try with_reducible rfl)))
    | refine tn hSG 4 rfl (by kernel_rfl) (fun _ _ _ h => h) (by rfl) hHeld ?_
   (try simp only [zq1, zq2, zq3, Act.put, zq4, zq5, zq6])
   first
    | (refine tk hSG 5 (v := ?_) rfl (by kernel_rfl) (fun _ _ _ h => h) (by rfl) ?_ hHeld ?_; rotate_left; focus (intro w' hSw; obtain ⟨c0, c1, c2, c3, c4, c5, e1⟩ := hmv.out _ hSw; go_simp; (try with_reducible rfl)))
    | refine tn hSG 5 rfl (by kernel_rfl) (fun _ _ _ h => h) (by rfl) hHeld ?_
   (try simp only [zq1, zq2, zq3, Act.put, zq4, zq5, zq6])
   first
    | (refine tk hSG 6 (v := ?_) rfl (by kernel_rfl) (fun _ _ _ h => h) (by rfl) ?_ hHeld ?_; rotate_left; focus (intro w' hSw; obtain ⟨c0, c1, c2, c3, c4, c5, e1⟩ := hmv.out _ hSw; go_simp; (try with_reducible rfl)))
    | refine tn hSG 6 rfl (by kernel_rfl) (fun _ _ _ h => h) (by rfl) hHeld ?_
   (try simp only [zq1, zq2, zq3, Act.put, zq4, zq5, zq6])
   first
    | (refine tk hSG 7 (v := ?_) rfl (by kernel_rfl) (fun _ _ _ h => h) (by rfl) ?_ hHeld ?_; rotate_left; focus (intro w' hSw; obtain ⟨c0, c1, c2, c3, c4, c5, e1⟩ := hmv.out _ hSw; go_simp; (try with_reducible rfl)))
    | refine tn hSG 7 rfl (by kernel_rfl) (fun _ _ _ h => h) (by rfl) hHeld ?_
   (try simp only [zq1, zq2, zq3, Act.put, zq4, zq5, zq6])
   refine tc hSG 8 (v := .tuple #[]) rfl (by kernel_rfl) (fun _ _ _ h => h) (by rfl) ?_ hHeld ?_
   focus (intro wz hSw K hK; obtain ⟨c0, c1, c2, c3, c4, c5, e1⟩ := hmv.out _ hSw; go_simp; go_at_call 94; refine (HN.out _).mono ?_; rintro e w3 ⟨he, hb2⟩; simp only [if_pos] at he; subst he; first | exact hK.out _ hb2 | (have h9 := hK.out _ hb2; (try simp only [zq1, zq2, zq3, Act.put, zq4, zq5, zq6] at h9 ⊢); exact h9) | (have h9 := hK.out _ hb2; go_simp; exact h9))
   (try simp only [zq1, zq2, zq3, Act.put, zq4, zq5, zq6])
   refine wpAnyG_done (by kernel_rfl) (fun w5 hgD => ?_) _
   have hg5 : Gr w2 w5 := (grDrew w2).tr hgD
   clear hgD hSG hHeld
   have HB := Lib.hid (HB.out.trans (hg5.mono HB.out.size))
   go_wp2
   go_ret
   exact ⟨rfl, HB.out⟩
  ·rw [if_neg hu] at hr
   subst hr
   have hu2 : (v.u == un) = false := by simp [hu]
   have HN := Lib.hid (fun wx => need_any false 13 t A c wx)
   clear hV hu
   go_enter Tryz.func98, Tryz.ntmps98
   go_upto_region 2 with (go_at_call 117; refine HJ.out.mono ?_; rintro e w2 ⟨rfl, hb2⟩; have HX := Lib.hid ((hb2.block _ hx).trans HX.out); have HB := Lib.hid (bCallC HB.out hb2); clear c0 c1 c2 c3 c4 c5 hx; obtain ⟨⟨c0, c1, c2, c3, c4, c5⟩, -⟩ := cells6 HX.out; have hx := blkLtC HX.out; have e1 := E1.out _ HB.out; clear hb2)
   refine wp_region_G (S := fun wq => Gr w2 wq) (by kernel_rfl) (grDrew _) (fun hHeld => ?_)
   have hSG : Hid (∀ wp wq : World, Gr w2 wp → Gr wp wq → Gr w2 wq) := Lib.hid (fun _ _ h k => h.tr k)
   have hmv := Lib.hid (fun (wq : World) (hq : Gr w2 wq) => And.intro (grCell hq c0) (And.intro (grCell hq c1) (And.intro (grCell hq c2) (And.intro (grCell hq c3) (And.intro (grCell hq c4) (And.intro (grCell hq c5) (grCell hq e1)))))))
   first
    | (refine tk hSG 0 (v := ?_) rfl (by kernel_rfl) (fun _ _ _ h => h) (by rfl) ?_ hHeld ?_; rotate_left; focus (intro w' hSw; obtain ⟨c0, c1, c2, c3, c4, c5, e1⟩ := hmv.out _ hSw; go_simp; (try with_reducible rfl)))
    | refine tn hSG 0 rfl (by kernel_rfl) (fun _ _ _ h => h) (by rfl) hHeld ?_
   (try simp only [zq1, zq2, zq3, Act.put, zq4, zq5, zq6])
   first
    | (refine tk hSG 1 (v := ?_) rfl (by kernel_rfl) (fun _ _ _ h => h) (by rfl) ?_ hHeld ?_; rotate_left; focus (intro w' hSw; obtain ⟨c0, c1, c2, c3, c4, c5, e1⟩ := hmv.out _ hSw; go_simp; (try with_reducible rfl)))
    | refine tn hSG 1 rfl (by kernel_rfl) (fun _ _ _ h => h) (by rfl) hHeld ?_
   (try simp only [zq1, zq2, zq3, Act.put, zq4, zq5, zq6])
   first
    | (refine tk hSG 2 (v := ?_) rfl (by kernel_rfl) (fun _ _ _ h => h) (by rfl) ?_ hHeld ?_; rotate_left; focus (intro w' hSw; obtain ⟨c0, c1, c2, c3, c4, c5, e1⟩ := hmv.out _ hSw; go_simp; (try with_reducible rfl)))
    | refine tn hSG 2 rfl (by kernel_rfl) (fun _ _ _ h => h) (by rfl) hHeld ?_
   (try simp only [zq1, zq2, zq3, Act.put, zq4, zq5, zq6])
   first
    | (refine tk hSG 3 (v := ?_) rfl (by kernel_rfl) (fun _ _ _ h => h) (by rfl) ?_ hHeld ?_; rotate_left; focus (intro w' hSw; obtain ⟨c0, c1, c2, c3, c4, c5, e1⟩ := hmv.out _ hSw; go_simp; (try with_reducible rfl)))
    | refine tn hSG 3 rfl (by kernel_rfl) (fun _ _ _ h => h) (by rfl) hHeld ?_
   (try simp only [zq1, zq2, zq3, Act.put, zq4, zq5, zq6])
   first
    | (refine tk hSG 4 (v := ?_) rfl (by kernel_rfl) (fun _ _ _ h => h) (by rfl) ?_ hHeld ?_; rotate_left; focus (intro w' hSw; obtain ⟨c0, c1, c2, c3, c4, c5, e1⟩ := hmv.out _ hSw; go_simp; (try with_reducible rfl)))
    | refine tn hSG 4 rfl (by kernel_rfl) (fun _ _ _ h => h) (by rfl) hHeld ?_
   (try simp only [zq1, zq2, zq3, Act.put, zq4, zq5, zq6])
   first
    | (refine tk hSG 5 (v := ?_) rfl (by kernel_rfl) (fun _ _ _ h => h) (by rfl) ?_ hHeld ?_; rotate_left; focus (intro w' hSw; obtain ⟨c0, c1, c2, c3, c4, c5, e1⟩ := hmv.out _ hSw; go_simp; (try with_reducible rfl)))
    | refine tn hSG 5 rfl (by kernel_rfl) (fun _ _ _ h => h) (by rfl) hHeld ?_
   (try simp only [zq1, zq2, zq3, Act.put, zq4, zq5, zq6])
   first
    | (refine tk hSG 6 (v := ?_) rfl (by kernel_rfl) (fun _ _ _ h => h) (by rfl) ?_ hHeld ?_; rotate_left; focus (intro w' hSw; obtain ⟨c0, c1, c2, c3, c4, c5, e1⟩ := hmv.out _ hSw; go_simp; (try with_reducible rfl)))
    | refine tn hSG 6 rfl (by kernel_rfl) (fun _ _ _ h => h) (by rfl) hHeld ?_
   (try simp only [zq1, zq2, zq3, Act.put, zq4, zq5, zq6])
   first
    | (refine tk hSG 7 (v := ?_) rfl (by kernel_rfl) (fun _ _ _ h => h) (by rfl) ?_ hHeld ?_; rotate_left; focus (intro w' hSw; obtain ⟨c0, c1, c2, c3, c4, c5, e1⟩ := hmv.out _ hSw; go_simp; (try with_reducible rfl)))
    | refine tn hSG 7 rfl (by kernel_rfl) (fun _ _ _ h => h) (by rfl) hHeld ?_
   (try simp only [zq1, zq2, zq3, Act.put, zq4, zq5, zq6])
   refine wpAnyG_ready (rs := [8]) (by kernel_rfl) (by simp) (AllG.cons rfl (fun w5 hgL K hK => ?_) AllG.nil)
   have hgL := (grDrew w2).tr hgL
   have c0 := grCell hgL c0
   have c1 := grCell hgL c1
   have c2 := grCell hgL c2
   have c3 := grCell hgL c3
   have c4 := grCell hgL c4
   have c5 := grCell hgL c5
   have e1 := grCell hgL e1
   go_simp
   go_at_call 94; refine (HN.out _).mono ?_; rintro e w6 ⟨he, hb3⟩; simp only [Bool.false_eq_true, if_neg, not_false_eq_true] at he; subst he
   exact ⟨rfl, rfl, HB.out.trans ((hgL.tr hb3).mono HB.out.size)⟩
 ·rw [if_neg h0] at hr
  subst hr
  have HJ : Hid (Calls Tryz.prog 117 #[.slice S vs.length m, nv t A c] (w.alloc (.cells (ndA t A c) 79)) (fun e w' => e = dpanic 8 t.at0 ∧ Below (w.alloc (.cells (ndA t A c) 79)).heap.size (w.alloc (.cells (ndA t A c) 79)) w')) := Lib.hid (HI.out.mono (fun e w' ho => ⟨by have := ho.1; rw [if_neg h0] at this; exact this, ho.2⟩))
  clear HI h0 hlt hV
  generalize vs.length = vn at *
  go_enter Tryz.func98, Tryz.ntmps98
  go_wp2_with (go_at_call 117; refine HJ.out.mono ?_; rintro e w2 ⟨rfl, hb2⟩; have HB := Lib.hid (bCallC HB.out hb2); clear hb2)
  exact ⟨rfl, rfl, HB.out⟩
end C
end Go.Proofs.YtljknappbnoikaaGreatDoor
namespace Go.Proofs.YtljknappbnoikaaGreatDoor
open Go.RowKit
namespace C
abbrev vrArr (v : U.Vr) : Array Value := #[.string v.x, .int .i64 v.u, .int .i64 v.lo, .int .i64 v.hi, .int .i64 v.i]
def vrCells (v : U.Vr) : List Value := [.string v.x, .int .i64 v.u, .int .i64 v.lo, .int .i64 v.hi, .int .i64 v.i]
def vrsCells (l : List U.Vr) : List Value := l.flatMap vrCells
theorem vrsCells_snoc (l : List U.Vr) (p : U.Vr) : vrsCells (l ++ [p]) = vrsCells l ++ vrCells p := by simp [vrsCells]
theorem vrsCells_at : ∀ (l : List U.Vr) (i : Nat) (p : U.Vr), l[i]? = some p → (vrsCells l)[i * 5]? = some (.string p.x) ∧ (vrsCells l)[i * 5 + 1]? = some (.int .i64 p.u) ∧ (vrsCells l)[i * 5 + 2]? = some (.int .i64 p.lo) ∧ (vrsCells l)[i * 5 + 3]? = some (.int .i64 p.hi) ∧ (vrsCells l)[i * 5 + 4]? = some (.int .i64 p.i)
 | [], i, p, h => by simp at h
 | q :: l, 0, p, h => by
  simp at h
  subst h
  exact ⟨rfl, rfl, rfl, rfl, rfl⟩
 | q :: l, i + 1, p, h => by
  have h1 := vrsCells_at l i p (by simpa using h)
  have e : ∀ j, (vrsCells (q :: l))[j + 5]? = (vrsCells l)[j]? := fun j => by
   show (vrCells q ++ vrsCells l)[j + 5]? = _
   rw [List.getElem?_append_right (by simp [vrCells])]
   simp [vrCells]
  rw [show (i + 1) * 5 = i * 5 + 5 by omega, show i * 5 + 5 + 1 = i * 5 + 1 + 5 by omega, show i * 5 + 5 + 2 = i * 5 + 2 + 5 by omega, show i * 5 + 5 + 3 = i * 5 + 3 + 5 by omega, show i * 5 + 5 + 4 = i * 5 + 4 + 5 by omega, e, e, e, e, e]
  exact h1
theorem own_vrs {w : World} {B : Nat} {v : Value} {l : List U.Vr} {T : TypeId} (h : w.ownsRow B T 5 v l.length (vrsCells l)) : ∃ A c, v = .slice A l.length (l.length + c) ∧ U.VarsR w l A := by
 rcases h.2 with ⟨rfl, h0⟩ | ⟨g, cap, cur, rfl, hb, hg, hn, hc, hs, ht⟩
 ·obtain rfl : l = [] := List.eq_nil_of_length_eq_zero h0
  exact ⟨none, 0, rfl, .inl rfl⟩
 ·refine ⟨_, cap - l.length, by rw [Nat.add_sub_cancel' hn], .inr ⟨g, 0, rfl, fun i p hp => ?_⟩⟩
  have h1 := h.cells (g := g) rfl
  have hadd : ∀ j, (⟨g, 0, none⟩ : Addr).add j = ⟨g, 0 + j, none⟩ := fun j => by unfold Addr.add; split <;> simp_all
  obtain ⟨e0, e1, e2, e3, e4⟩ := vrsCells_at l i p hp
  have a0 := h1 _ _ e0
  have a1 := h1 _ _ e1
  have a2 := h1 _ _ e2
  have a3 := h1 _ _ e3
  have a4 := h1 _ _ e4
  rw [hadd] at a0 a1 a2 a3 a4
  exact ⟨a0, a1, a2, a3, a4⟩
theorem vr_one (p : U.Vr) : ∀ u ∈ vrCells p, u.oneCell' = true := by
 intro u hu
 simp only [vrCells, List.mem_cons, List.not_mem_nil, or_false] at hu
 rcases hu with rfl | rfl | rfl | rfl | rfl <;> rfl
theorem vrInfo : (Tryz.prog.info? 46).map (fun i => (i.zero, i.size, i.bytes)) = some (some (.agg #[.string ⟨#[]⟩, .int .i64 0, .int .i64 0, .int .i64 0, .int .i64 0]), 5, 48) := by kernel_rfl
def kidN (t : Nd) (k : Nat) : Int := ((t.kids[k]?).map Nd.n).getD 0
def vrOf (t : Nd) : U.Vr := ⟨t.name, t.n, kidN t 0, kidN t 1, kidN t 2⟩
def vsM (bef : List Nd) : List Nd → List U.Vr → Except (Int × Int) (List U.Vr)
 | [], acc => .ok acc
 | t :: ts, acc => if bef.length < 12 then (if bef.any (isNm t.name) = true then .error (5, t.at0) else
   if (decide (kidN t 0 ≤ kidN t 2) && decide (kidN t 2 ≤ kidN t 1)) = true then vsM (bef ++ [t]) ts (acc ++ [vrOf t]) else .error (3, t.at0)) else .error (2, t.at0)
def VarsP (r : Except (Int × Int) (List U.Vr)) (w : World) (e : Ending) (w' : World) : Prop :=
 (match r with
  | .ok vs => ∃ A c, e = .returned (.slice A vs.length (vs.length + c)) ∧ U.VarsR w' vs A
  | .error d => e = dpanic d.1 d.2) ∧ Below w.heap.size w w'
end C
end Go.Proofs.YtljknappbnoikaaGreatDoor
namespace Go.Proofs.YtljknappbnoikaaGreatDoor
open Go.RowKit
def inpL : List (List UInt8) := [[97, 99, 107, 101, 100], [114, 116, 116], [115, 105, 122, 101], [116, 111, 116, 97, 108]]
def inpB (x : ByteArray) : Bool := inpL.any fun y => x.toList == y
def keyL : List (List UInt8) := [[108, 105, 110, 107], [114, 97, 116, 101], [100, 101, 108, 97, 121], [114, 111, 111, 109], [112, 97, 116, 104], [98, 97, 99, 107], [102, 108, 111, 119],
 [112, 114, 111, 103, 114, 97, 109], [112, 97, 116, 104, 115], [115, 105, 122, 101], [119, 105, 110, 100, 111, 119], [115, 116, 97, 114, 116], [112, 97, 99, 101],
 [116, 97, 105, 108], [101, 97, 114, 108, 121], [115, 111, 106, 111, 117, 114, 110], [105, 110, 116, 101, 103, 114, 97, 108], [100, 101, 102, 105, 99, 105, 116], [100, 117, 97, 108],
 [118, 97, 114], [110, 111, 110, 101], [112, 97, 99, 107, 101, 116, 115], [98, 121, 116, 101, 115], [116, 105, 109, 101],
 [111, 110], [97, 99, 107], [108, 111, 115, 115], [109, 97, 114, 107], [116, 105, 109, 101, 111, 117, 116],
 [105, 102], [101, 108, 115, 101], [109, 105, 110], [109, 97, 120], [117, 112]]
def keyB (x : ByteArray) : Bool := (keyL.any fun y => x.toList == y) || inpB x
theorem isInput_any (x : ByteArray) (w : World) : Calls Tryz.prog 134 #[.string x] w fun e w' => e = .returned (.bool (inpB x)) ∧ w = w' := by
 go_enter Tryz.func134, Tryz.ntmps134
 go_wp2
 all_goals
  go_ret
  refine ⟨?_, rfl⟩
  first | (exfalso; simp_all; done) | (simp [inpB, inpL, *]; done)
def KeyPost (x : ByteArray) (w : World) (e : Ending) (w' : World) : Prop := e = .returned (.bool (keyB x)) ∧ w = w'
theorem isKey_any (x : ByteArray) (w : World) : Calls Tryz.prog 123 #[.string x] w (KeyPost x w) := by
 have hI := Lib.hid (isInput_any x w)
 go_enter Tryz.func123, Tryz.ntmps123
 go_wp2_with (refine hI.out.mono ?_; rintro e w' ⟨rfl, rfl⟩)
 all_goals
  go_ret
  refine ⟨?_, rfl⟩
  first | (exfalso; simp_all; done) | (simp [keyB, keyL, *]; done)
def numNd (m u a : Int) : Nd := .mk 13 ⟨#[]⟩ m u a []
end Go.Proofs.YtljknappbnoikaaGreatDoor
namespace Go.Proofs.YtljknappbnoikaaGreatDoor
open Go.RowKit
theorem nd_one (t : Nd) (A : Option Addr) (c : Nat) : ∀ u ∈ nCells t A c, u.oneCell' = true := by
 intro u hu
 simp only [nCells, List.mem_cons, List.not_mem_nil, or_false] at hu
 rcases hu with rfl | rfl | rfl | rfl | rfl | rfl <;> rfl
abbrev ndArr (t : Nd) (A : Option Addr) (c : Nat) : Array Value := #[.int .i64 t.kind, .string t.name, .int .i64 t.n, .int .i64 t.unit, .int .i64 t.at0, .slice A t.kids.length (t.kids.length + c)]
theorem VNds.snoc {B B' : Nat} {w w2 : World} {v : Value} {ts : List Nd} {t : Nd} {A : Option Addr} {c g cap H : Nat} {vs : List Value} {o : Obj} (hown : w.ownsRow B 79 6 v ts.length vs) (hr : RowsR w (Beside B v) ts vs) (hk : KidsR w (From B') t.kids A)
  (hv : ∀ k, v.ownBlock = some k → k < B') (hB : B ≤ B') (hg : (w.alloc o).grownBy w2 v.ownBlock)
  (hown2 : w2.ownsRow B 79 6 (.slice (some ⟨g, 0, none⟩) (ts.length + 1) cap) (ts.length + 1) (vs ++ nCells t A c)) (hat : v.ownBlock = some g ∨ g = H) (hH : w.heap.size < H) :
  VNds B w2 (.slice (some ⟨g, 0, none⟩) (ts.length + 1) cap) (ts ++ [t]) := by
 have hkeep : ∀ k, Beside B v k → k < w.heap.size → w2.heap[k]? = w.heap[k]? ∧ Beside B (.slice (some ⟨g, 0, none⟩) (ts.length + 1) cap) k := by
  intro k hk1 hk2
  refine ⟨(hg.block k (by simp; omega) (fun e => hk1.2 e.symm)).trans (Below.heap_alloc w o k hk2), hk1.1, ?_⟩
  simp only [Value.ownBlock]
  intro e
  rcases hat with h1 | h1
  ·exact hk1.2 (h1.trans e)
  ·cases e; omega
 have hk' : KidsR w2 (Beside B (.slice (some ⟨g, 0, none⟩) (ts.length + 1) cap)) t.kids A :=
  hk.keep (fun k hk1 hk2 => hkeep k ⟨Nat.le_trans hB hk1, fun e => by have := hv k e; exact absurd this (Nat.not_lt.2 hk1)⟩ hk2)
 exact ⟨vs ++ nCells t A c, by simpa using hown2, RowsR.app (RowsR.one t A c hk') ts vs (hr.keep hkeep)⟩
end Go.Proofs.YtljknappbnoikaaGreatDoor
namespace Go.Proofs.YtljknappbnoikaaGreatDoor
open Go.RowKit
namespace C
def IntsAt (w : World) (l : List Int) (g o : Nat) : Prop := ∀ (i : Nat) (n : Int), l[i]? = some n → w.cell? ⟨g, o + i, none⟩ = some (.int .i64 n)
theorem IntsAt.below {w w' : World} {l : List Int} {g o : Nat} (h : IntsAt w l g o) (hb : Below w.heap.size w w') : IntsAt w' l g o := fun i n hn =>
 (World.cell?_of_block (a := ⟨g, o + i, none⟩) (hb.block g (World.block_lt_of_cell? _ _ (h i n hn)))).trans (h i n hn)
def numNd (n : Int) : Nd := .mk 13 ⟨#[]⟩ n 0 0 []
def NdsP (ts : List Nd) (w : World) (e : Ending) (w' : World) : Prop := (∃ A c, e = .returned (.slice A ts.length (ts.length + c)) ∧ KidsR w' (From w.heap.size) ts A) ∧ Below w.heap.size w w'
theorem numbers_any (l : List Int) (g o m : Nat) (w : World) (hI : IntsAt w l g o) (hlen : l.length ≤ 100000) : Calls Tryz.prog 60 #[.slice (some ⟨g, o, none⟩) l.length m] w (NdsP (l.map numNd) w) := by
 have HI := Lib.hid hI
 obtain ⟨i0, hi, hz0, hz1, hz2⟩ := info_parts ndInfo
 obtain ⟨r, hr⟩ : ∃ r, l.map numNd = r := ⟨_, rfl⟩
 rw [hr]
 have HR : Hid ([] ++ (l.drop 0).map numNd = r) := Lib.hid hr
 have hln : r.length = l.length := by rw [← hr]; simp
 clear hI hr
 go_enter Tryz.func60, Tryz.ntmps60
 go_wp2
 go_loopg [3, 8] (l.length) (fun gk v i wr => ∃ (k : Nat) (acc : List Nd), k + gk = l.length ∧ i = .int .i64 k ∧ acc.length = k ∧ Hid (acc ++ (l.drop k).map numNd = r) ∧ Hid (VNds w.heap.size wr v acc) ∧ Hid (Below w.heap.size w wr))
 case atStart => exact ⟨0, [], by omega, rfl, rfl, HR, Lib.hid (VNds.nil _ _), Lib.hid (Below.refl _ _)⟩
 case round =>
  obtain ⟨k, acc, hk, rfl, rfl, hM, hO, hW⟩ := hrel
  by_cases hlt : acc.length < l.length
  ·obtain ⟨gk2, rfl⟩ : ∃ g2, gk = g2 + 1 := ⟨gk - 1, by omega⟩
   have e0 := (HI.out.below hW.out) _ _ (List.getElem?_eq_getElem hlt)
   have hM1 := hM.out
   rw [List.drop_eq_getElem_cons hlt, List.map_cons] at hM1
   generalize l[acc.length] = n at *
   have hM2 : Hid ((acc ++ [numNd n]) ++ (l.drop (acc.length + 1)).map numNd = r) := Lib.hid (by rw [← hM1]; simp)
   obtain ⟨vs, hown, hrows⟩ := hO.out
   have hrows := Lib.hid hrows
   have hown := Lib.hid hown
   have hol := hown.out.lt
   have hwsz := hW.out.size
   clear hM1 hM
   go_wp2_with (at_builtin; refine wpList_append_lies _ rfl _ _ 77 rfl w.heap.size 79 i0 (.agg zeroNd) 6 72 Tryz.underlying77 hi hz0 hz1 hz2 rfl (by decide) _ acc.length vs rfl (hown.out.alloc _) ⟨wr.heap.size, 0, none⟩ 1 1 (nCells (numNd n) none 0) rfl rfl ?c1 (nd_one _ _ _) (by decide) ?c3 ?c4 ?c5 (wr.heap.size + 1) ?c6 ?_)
   case c1 => exact World.news_of_block (cs := ndA (numNd n) none 0) (t := 79) (fr := (0, 0)) (newBlkC _ _ _ rfl)
   case c3 => unfold maxLen; omega
   case c4 => omega
   case c5 => simp; omega
   case c6 => simp
   intro gb cap w3 hown3 hgrow hat hlt3
   have hB3 : Below w.heap.size w w3 := hW.out.trans (gbBelowC (gbTrans (gbAlloc (gbRefl _ _)) hgrow) hwsz (fun k e => (hol k e).1))
   have hO3 : Hid (VNds w.heap.size w3 (.slice (some ⟨gb, 0, none⟩) (acc.length + 1) cap) (acc ++ [numNd n])) := Lib.hid (VNds.snoc (B' := wr.heap.size) hown.out hrows.out (by unfold numNd Nd.kids KidsR; trivial) (fun k e => (hol k e).2) hwsz hgrow hown3 hat (by omega))
   have hW3 := Lib.hid hB3
   clear hown3 hgrow hat hB3
   go_wp2
   go_roundg gk2
   case measure => omega
   case rel => exact ⟨acc.length + 1, acc ++ [numNd n], by omega, by go_num, by simp, hM2, hO3, hW3⟩
  ·have hF : Hid (acc = r) := Lib.hid (by have := hM.out; rw [List.drop_eq_nil_of_le (by omega)] at this; simpa using this)
   have hkl : decide ((acc.length : Int) < (l.length : Int)) = false := by simp; omega
   obtain ⟨A9, c9, rfl, hK9⟩ := hO.out.kids
   have hK9 := Lib.hid hK9
   clear hM hO
   go_wp2_with fail
   go_ret
   have := hF.out
   subst this
   exact ⟨⟨A9, c9, rfl, hK9.out⟩, hW.out⟩
end C
end Go.Proofs.YtljknappbnoikaaGreatDoor
