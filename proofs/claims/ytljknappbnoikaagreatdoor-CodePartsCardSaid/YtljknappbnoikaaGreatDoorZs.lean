/- Texts of one proof: CxN, PxM, PxN, QaA, PyB. -/
import Derived.Test.YtljknappbnoikaaGreatDoorZr
import Derived.Recover
import Derived.Defers
import Derived.Test.YtljknappbnoikaaGreatDoorZp
import Derived.Deep.RegionWith
import Derived.IntWalk
set_option linter.unusedVariables false
set_option linter.unusedSimpArgs false
set_option maxRecDepth 100000
set_option maxHeartbeats 8000000
namespace Go.Proofs.YtljknappbnoikaaGreatDoor
open Go.RowKit
namespace C
theorem ta_nil (w : World) : (Instr.typeAssert .nilIface 20 106 true).run Tryz.prog w = .ok (.tuple #[.agg #[.int .i64 0, .int .i64 0], .bool false]) w := by
 simp [Instr.typeAssert, go_sem]
theorem ta_d (er a : Int) (w : World) : (Instr.typeAssert (.iface 106 (.agg #[.int .i64 er, .int .i64 a])) 20 106 true).run Tryz.prog w = .ok (.tuple #[.agg #[.int .i64 er, .int .i64 a], .bool true]) w := by
 simp [Instr.typeAssert, go_sem]
theorem bld_idle (p : Addr) (w : World) :
  CallsD Tryz.prog 77 #[.pointer (some p)] .returning w fun e u' w' => e = .returned (.tuple #[]) ∧ u' = .returning ∧ Below w.heap.size w w' := by
 refine callsD_of_wpS Tryz.func77 rfl fun c₀ cs hu => ?_
 apply wpS_seq
 apply wpS_region
 simp [wpOpsS, go_sem, recoverD, hu, Tryz.ntmps77, Exit.thenS, ta_nil, Array.replicate_succ]
 refine wpS_of_wp ?_
 go_wp2
 have hB := bAllocC (o := .cells #[.int .i64 0, .int .i64 0] 106) (Below.refl w.heap.size w)
 cases c₀
 simp_all [bodyPostS, results, Tryz.results77]
theorem bld_rec (b : Nat) (er a : Int) (w : World) (v0 : Value) (hb : w.heap[b]? = some (.cells #[v0] 74 (0, 0))) :
  CallsD Tryz.prog 77 #[.pointer (some ⟨b, 0, none⟩)] (.panicking [{ v := .iface 106 (.agg #[.int .i64 er, .int .i64 a]), recovered := false }]) w fun e u' w' =>
   e = .returned (.tuple #[]) ∧ u' = .panicking [{ v := .iface 106 (.agg #[.int .i64 er, .int .i64 a]), recovered := true }] ∧ (∃ g, w'.heap[b]? = some (.cells #[.slice (some ⟨g, 0, none⟩) 1 1] 74 (0, 0)) ∧ w'.heap[g]? = some (.cells #[.int .i64 er, .int .i64 a] 106 (0, 0))) ∧ (∀ k, k < w.heap.size → k ≠ b → w'.heap[k]? = w.heap[k]?) ∧ (∀ B, B ≤ b → B ≤ w.heap.size → Below B w w') := by
 refine callsD_of_wpS Tryz.func77 rfl fun c₀ cs hu => ?_
 apply wpS_seq
 apply wpS_region
 simp [wpOpsS, go_sem, recoverD, hu, Tryz.ntmps77, Exit.thenS, ta_d, Array.replicate_succ]
 refine wpS_of_wp ?_
 obtain ⟨hc, hf⟩ : w.cell? ⟨b, 0, none⟩ = some v0 ∧ w.frozen? ⟨b, 0, none⟩ = false := ⟨by rw [cell_of_row _ _ 0 _ _ (0, 0) hb]; rfl, by simp [World.frozen?, hb]⟩
 have hlt := blkLtC hb
 have HBb := Lib.hid hb
 clear hb
 go_wp2
 refine ⟨rfl, _, rfl, .tuple #[], by simp [results, Tryz.results77], rfl, rfl, ⟨w.heap.size + 1, ?_, newBlkC _ _ _ (by simp [World.setCell])⟩, fun k hk hne => ?_, fun B h1 h2 => ?_⟩
 ·refine (Below.heap_alloc _ _ _ (by simp [World.setCell]; omega)).trans ((Below.heap_alloc _ _ _ (by simp [World.setCell]; omega)).trans ?_)
  rw [heap_setCell_same _ b 0 _ _ _ HBb.out]
  simp
 ·exact (Below.heap_alloc _ _ _ (by simp [World.setCell]; omega)).trans ((Below.heap_alloc _ _ _ (by simp [World.setCell]; omega)).trans (scO _ _ _ _ _ hne))
 ·exact ((belowSet (Below.refl B w) h1).alloc (by simp [World.setCell]; omega) _).alloc (by simp [World.setCell]; omega) _
def BldP (x : ByteArray) (r : Except (Int × Int) (List U.Vr × Int × Int)) (w : World) (e : Ending) (w' : World) : Prop :=
 (match r with
  | .ok (vs, wi, pa) => ∃ VA c, e = .returned (.tuple #[.agg (pgN x VA vs.length (vs.length + c) wi pa), .slice none 0 0])
  | .error d => ∃ g, e = .returned (.tuple #[.agg zPg, .slice (some ⟨g, 0, none⟩) 1 1]) ∧ w'.heap[g]? = some (.cells #[.int .i64 d.1, .int .i64 d.2] 106 (0, 0))) ∧ Below w.heap.size w w'
theorem build_any (n : Nd) (A BA : Option Addr) (c bc : Nat) (bef : List Nd) (u0 : Nd) (us : List Nd) (w : World) (hL : U.LaidW w) (hK : KidsR w (From 0) n.kids A) (hE : KidsR w (From 0) bef BA) (hn : n.kids.length ≤ 100000) (hb : bef.length ≤ 100000)
  (h8 : n.kids.filter (fun t => decide (t.kind = 8)) = []) (h9 : n.kids.filter (fun t => decide (t.kind = 9)) = u0 :: us) (h7 : ∀ t ∈ n.kids.filter (fun t => decide (t.kind = 7)), 3 ≤ t.kids.length) :
  Calls Tryz.prog 59 #[nv n A c, .slice BA bef.length (bef.length + bc)] w (BldP n.name (progM bef n u0 us (n.kids.filter (fun t => decide (t.kind = 7)))) w) := by
 have hmf : ∀ (fn : Fn) (first cap : Array Value) (w : World), (Instr.makeFunc fn first cap).run Tryz.prog w = .ok (.func fn first cap) w := fun _ _ _ _ => rfl
 obtain ⟨W3, hW3⟩ : ∃ W3, W3 = ((w.alloc (.cells (ndA n A c) 79)).alloc (.cells zPg 26)).alloc (.cells #[.slice none 0 0] 74) := ⟨_, rfl⟩
 have HB : Hid (Below w.heap.size w W3) := Lib.hid (by rw [hW3]; exact bAllocC (bAllocC (bAllocC (Below.refl _ _))))
 have HR : Hid (W3.heap[w.heap.size + 1]? = some (.cells zPg 26 (0, 0))) := Lib.hid (by rw [hW3]; exact (Below.heap_alloc _ _ _ (by simp)).trans (newBlkC _ _ _ (by simp)))
 have HD : Hid (W3.heap[w.heap.size + 1 + 1]? = some (.cells #[.slice none 0 0] 74 (0, 0))) := Lib.hid (by rw [hW3]; exact newBlkC _ _ _ (by simp))
 have hs3 : W3.heap.size = w.heap.size + 1 + 1 + 1 := by rw [hW3]; simp
 have HI := Lib.hid (program_any n A BA c bc bef u0 us W3 (hL.below HB.out) (KidsR.bel hK HB.out) (KidsR.bel hE HB.out) hn hb h8 h9 h7)
 generalize progM bef n u0 us (n.kids.filter (fun t => decide (t.kind = 7))) = r at *
 rw [hW3] at HI
 have hW3 := Lib.hid hW3
 clear hL hK hE h8 h9 h7
 go_enter_defers Tryz.func59, Tryz.ntmps59
 go_wp2_with fail
 refine HI.out.mono ?_
 rw [← hW3.out]
 rintro e w1 ⟨he, hb1⟩
 have hR1 := Lib.hid ((hb1.block (w.heap.size + 1) (by omega)).trans HR.out)
 have hD1 := Lib.hid ((hb1.block (w.heap.size + 1 + 1) (by omega)).trans HD.out)
 have hW1 := Lib.hid (HB.out.trans (hb1.mono (by omega)))
 have hs1 := hb1.size
 clear hb1 HR HD HB HI
 have hx1 := blkLtC hD1.out
 have hr1 := blkLtC hR1.out
 rcases r with d | ⟨vs, wi, pa⟩
 ·simp only at he
  subst he
  go_wp2
  refine leaves_cons (f := 77) (args := #[.pointer (some ⟨w.heap.size + 1 + 1, 0, none⟩)]) (by simp) (by simp [go_sem]) ?_
  refine (bld_rec (w.heap.size + 1 + 1) d.1 d.2 w1 _ hD1.out).mono ?_
  rintro e u' w'' ⟨rfl, rfl, ⟨g, hg, hgg⟩, hk, hB⟩
  have hgg := Lib.hid hgg
  obtain ⟨⟨c0, c1, c2, c3, c4, c5, c6, c7, c8⟩, -⟩ := cells9C ((hk _ hr1 (by omega)).trans hR1.out)
  have f0 : w''.cell? ⟨w.heap.size + 1 + 1, 0, none⟩ = some (.slice (some ⟨g, 0, none⟩) 1 1) := by rw [cell_of_row _ _ 0 _ _ (0, 0) hg]; rfl
  have hF := Lib.hid (hW1.out.trans (hB w.heap.size (by omega) (by omega)))
  simp [Leaves, settle, results, Tryz.results59, go_sem, c0, c1, c2, c3, c4, c5, c6, c7, c8, f0]
  exact ⟨⟨g, rfl, hgg.out⟩, hF.out⟩
 ·simp only at he
  obtain ⟨VA, cv, rfl, hV⟩ := he
  obtain ⟨⟨c0, c1, c2, c3, c4, c5, c6, c7, c8⟩, hfz⟩ := cells9C hR1.out
  have d0 := hfz 0 (by omega)
  have d1 := hfz 1 (by omega)
  have d2 := hfz 2 (by omega)
  have d3 := hfz 3 (by omega)
  have d4 := hfz 4 (by omega)
  have d5 := hfz 5 (by omega)
  have d6 := hfz 6 (by omega)
  have d7 := hfz 7 (by omega)
  have d8 := hfz 8 (by omega)
  have e0 : w1.cell? ⟨w.heap.size + 1 + 1, 0, none⟩ = some (.slice none 0 0) := by rw [cell_of_row _ _ 0 _ _ (0, 0) hD1.out]; rfl
  have e1 : w1.frozen? ⟨w.heap.size + 1 + 1, 0, none⟩ = false := by simp [World.frozen?, hD1.out]
  clear hfz
  go_wp2
  obtain ⟨w9, hw9⟩ : ∃ w9, w9 = ((((((((w1.setCell ⟨w.heap.size + 1, 0, none⟩ (.string n.name)).setCell ⟨w.heap.size + 1, 1, none⟩ (.slice VA vs.length (vs.length + cv))).setCell ⟨w.heap.size + 1, 2, none⟩ (.slice none 0 0)).setCell ⟨w.heap.size + 1, 3, none⟩ (.slice none 0 0)).setCell ⟨w.heap.size + 1, 4, none⟩ (.slice none 0 0)).setCell ⟨w.heap.size + 1, 5, none⟩ (.slice none 0 0)).setCell ⟨w.heap.size + 1, 6, none⟩ (.slice none 0 0)).setCell ⟨w.heap.size + 1, 7, none⟩ (.int .i64 wi)).setCell ⟨w.heap.size + 1, 8, none⟩ (.int .i64 pa) := ⟨_, rfl⟩
  have G9 : w9.heap[w.heap.size + 1]? = some (.cells (pgN n.name VA vs.length (vs.length + cv) wi pa) 26 (0, 0)) := by rw [hw9]; exact res9C hR1.out
  have D9 : w9.heap[w.heap.size + 1 + 1]? = some (.cells #[.slice none 0 0] 74 (0, 0)) := by rw [hw9]; exact (below9k (by omega)).trans hD1.out
  have B9 : Below w.heap.size w w9 := by rw [hw9]; exact below9C hW1.out (by omega)
  have S9 : w9.heap.size = w1.heap.size := by rw [hw9]; simp [World.setCell]
  rw [← hw9]
  refine leaves_cons (f := 77) (args := #[.pointer (some ⟨w.heap.size + 1 + 1, 0, none⟩)]) (by simp) (by simp [go_sem]) ?_
  refine (bld_idle _ _).mono ?_
  rintro e u' w'' ⟨rfl, rfl, hbb⟩
  have hss : (w9.setCell ⟨w.heap.size + 1 + 1, 0, none⟩ (.slice none 0 0)).heap.size = w9.heap.size := by simp [World.setCell]
  obtain ⟨⟨f0, f1, f2, f3, f4, f5, f6, f7, f8⟩, -⟩ := cells9C ((hbb.block _ (by omega)).trans ((scO _ _ _ _ _ (by omega)).trans G9))
  have f9 : w''.cell? ⟨w.heap.size + 1 + 1, 0, none⟩ = some (.slice none 0 0) := by
   rw [cell_of_row _ _ 0 _ _ (0, 0) ((hbb.block _ (by omega)).trans (heap_setCell_same _ _ 0 _ _ _ D9))]
   rfl
  have hF := Lib.hid ((belowSet (i := 0) (u := .slice none 0 0) B9 (show w.heap.size ≤ w.heap.size + 1 + 1 by omega)).trans (hbb.mono (by rw [hss]; have := B9.size; exact this)))
  clear hw9 G9 D9 B9 hbb c0 c1 c2 c3 c4 c5 c6 c7 c8 d0 d1 d2 d3 d4 d5 d6 d7 d8 e0 e1
  simp [Leaves, settle, results, Tryz.results59, go_sem, f0, f1, f2, f3, f4, f5, f6, f7, f8, f9]
  exact ⟨⟨VA, cv, rfl⟩, hF.out⟩
end C
end Go.Proofs.YtljknappbnoikaaGreatDoor
namespace Go.Proofs.YtljknappbnoikaaGreatDoor
open Go.RowKit
def psz : Nat → Nat
 | 2 => 3 | 3 => 2 | 4 => 3 | 5 => 1 | 6 => 2 | _ => 0
theorem policySize_any (n : Nat) (w : World) (h : n ≤ 6) : Calls Tryz.prog 108 #[.int .i64 n] w fun e w' => e = .returned (.int .i64 (psz n : Nat)) ∧ Below w.heap.size w w' := by
 have hn : n = 0 ∨ n = 1 ∨ n = 2 ∨ n = 3 ∨ n = 4 ∨ n = 5 ∨ n = 6 := by omega
 rcases hn with rfl | rfl | rfl | rfl | rfl | rfl | rfl
 all_goals
  go_enter Tryz.func108, Tryz.ntmps108
  go_wp2
  go_ret
  exact ⟨rfl, (Below.refl _ _).alloc (Nat.le_refl _) _⟩
end Go.Proofs.YtljknappbnoikaaGreatDoor
namespace Go.Proofs.YtljknappbnoikaaGreatDoor
open Go.RowKit
theorem newBlk (w : World) (o : Obj) (b : Nat) (h : b = w.heap.size) : (w.alloc o).heap[b]? = some o := by subst h; exact heap_alloc_new w o
end Go.Proofs.YtljknappbnoikaaGreatDoor
namespace Go.Proofs.YtljknappbnoikaaGreatDoor
open Go.RowKit
theorem lexF_many_le0 (s : ByteArray) : (lx s).1.length ≤ 3000 := by
 have h : ∀ (f p c : Nat), c ≤ 3000 → (lexF s f p c).1.length ≤ 3000 - c := by
  intro f
  induction f with
  | zero => intro p c _; simp [lexF]
  | succ f ih =>
   intro p c hc
   rw [lexF]
   split
   ·simp
   ·split
    ·simp
    ·split
     ·simp
     ·have := ih (gapE s (rd s p).2.1) (c + 1) (by omega)
      simp only [List.length_cons]
      omega
 unfold lx
 have := h (s.size + 1) (gapE s 0) 0 (by omega)
 split
 ·simp
 ·split
  ·simp
  ·omega
def BB (b : Bool) (w : World) (e : Ending) (w' : World) : Prop := e = .returned (.bool b) ∧ Below w.heap.size w w'
def plainB (t : Nd) (k : Int) : Bool := decide (t.kind = k) && decide (t.name.toList = []) && decide (t.n = 0) && decide (t.unit = 0)
def btw (n lo hi : Int) : Bool := decide (lo ≤ n) && decide (n ≤ hi)
theorem between_any (n lo hi : Int) (w : World) : Calls Tryz.prog 107 #[.int .i64 n, .int .i64 lo, .int .i64 hi] w (BB (btw n lo hi) w) := by
 go_enter Tryz.func107, Tryz.ntmps107
 go_wp2
 all_goals
  go_ret
  refine ⟨?_, Below.refl _ _⟩
  simp [btw, *]
 all_goals omega
theorem plain_any (t : Nd) (A : Option Addr) (c : Nat) (k : Int) (w : World) : Calls Tryz.prog 74 #[nv t A c, .int .i64 k] w (BB (plainB t k) w) := by
 go_enter Tryz.func74, Tryz.ntmps74
 go_wp2
 all_goals
  go_ret
  refine ⟨?_, (Below.refl _ _).alloc (Nat.le_refl _) _⟩
  simp [plainB, *]
 all_goals rfl
def zn (t : Nd) : Nd := .mk t.kind t.name 0 t.unit t.at0 t.kids
def zu (t : Nd) : Nd := .mk t.kind t.name t.n 0 t.at0 t.kids
def zx (t : Nd) : Nd := .mk t.kind ⟨#[]⟩ t.n t.unit t.at0 t.kids
theorem take_any (t : Nd) (A : Option Addr) (c : Nat) (w : World) : Calls Tryz.prog 106 #[nv t A c] w fun e w' => e = .returned (.tuple #[.int .i64 t.n, nv (zn t) A c]) ∧ Below w.heap.size w w' := by
 go_enter Tryz.func106, Tryz.ntmps106
 go_wp2
 go_region
 all_goals
  go_wp2
  refine bodyPost_ret (v := .tuple #[.int .i64 t.n, nv (zn t) A c]) (by simp [results, Tryz.results106, go_sem, zn, Nd.kind, Nd.name, Nd.n, Nd.unit, Nd.at0, Nd.kids]) rfl ⟨rfl, ?_⟩
 all_goals exact (((Below.refl _ _).alloc (Nat.le_refl _) _).alloc (by simp) _).drew
def tight (k : Int) : Int := if k = 15 ∨ k = 16 then 1 else if k = 17 ∨ k = 18 then 2 else 3
theorem tightness_any (k : Int) (w : World) : Calls Tryz.prog 158 #[.int .i64 k] w fun e w' => e = .returned (.int .i64 (tight k)) ∧ w' = w := by
 go_enter Tryz.func158, Tryz.ntmps158
 go_wp2
 all_goals
  go_ret
  refine ⟨?_, rfl⟩
  simp_all [tight]
def least1 (k : Int) : Int := if tight k = 3 then 4 else tight k
def least2 (k : Int) : Int := if tight k = 3 then 4 else tight k + 1
theorem tight_range (k : Int) : 1 ≤ tight k ∧ tight k ≤ 3 := by unfold tight; split <;> (try split) <;> decide
theorem least_any (k : Int) (w : World) : Calls Tryz.prog 149 #[.int .i64 k] w fun e w' => e = .returned (.tuple #[.int .i64 (least1 k), .int .i64 (least2 k)]) ∧ w' = w := by
 have hr := tight_range k
 by_cases h3 : tight k = 3
 ·have e1 : least1 k = 4 := if_pos h3
  have e2 : least2 k = 4 := if_pos h3
  rw [e1, e2]
  go_enter Tryz.func149, Tryz.ntmps149
  go_wp2_with fail
  refine (tightness_any k _).mono ?_
  rintro e w1 ⟨rfl, rfl⟩
  go_wp2
  exact bodyPost_ret (v := .tuple #[.int .i64 4, .int .i64 4]) (by simp [results, Tryz.results149, go_sem]) rfl ⟨rfl, rfl⟩
 ·have e1 : least1 k = tight k := if_neg h3
  have e2 : least2 k = tight k + 1 := if_neg h3
  rw [e1, e2]
  go_enter Tryz.func149, Tryz.ntmps149
  go_wp2_with fail
  refine (tightness_any k _).mono ?_
  rintro e w1 ⟨rfl, rfl⟩
  go_wp2_with fail
  refine (tightness_any k _).mono ?_
  rintro e w2 ⟨rfl, rfl⟩
  go_wp2_with fail
  refine (tightness_any k _).mono ?_
  rintro e w3 ⟨rfl, rfl⟩
  have q0 : IntKind.i64.wrap (tight k + 1) = tight k + 1 := IntWalk.i64_in _ (by omega)
  go_wp2
  exact bodyPost_ret (v := .tuple #[.int .i64 (tight k), .int .i64 (tight k + 1)]) (by simp [results, Tryz.results149, go_sem]) rfl ⟨rfl, rfl⟩
def nameB1 (x : ByteArray) : Bool := match (lx x).1 with
 | [t] => decide (t.k = 1) && decide (t.x.toList = x.toList) && !keyB x
 | _ => false
theorem LexPost.el0 {s : ByteArray} {w w' : World} {e : Ending} {ts : List Tk} {er : Int} {p : Nat} (h : LexPost s w e w') (hx : lx s = (ts, er, p)) :
  ∃ A c, e = .returned (.tuple #[.slice A ts.length c, .int .i64 er, .int .i64 (p : Nat)]) ∧ w'.ownsRow w.heap.size 167 4 (.slice A ts.length c) ts.length (cellsOf ts) ∧ Below w.heap.size w w' := by
 unfold LexPost at h
 rw [hx] at h
 obtain ⟨v, h1, h2, h3⟩ := h
 obtain ⟨A, c, rfl⟩ := own_slice h2
 exact ⟨A, c, h1, h2, h3⟩
theorem own_tok {w : World} {base c : Nat} {A : Option Addr} {t : Tk} (h : w.ownsRow base 167 4 (.slice A 1 c) 1 (cellsOf [t])) : ∃ g, A = some ⟨g, 0, none⟩ ∧ TkAt w g 0 t := by
 obtain ⟨g, cap, hv, _, _⟩ := h.form (by decide)
 simp only [Value.slice.injEq] at hv
 obtain ⟨rfl, -, -⟩ := hv
 refine ⟨g, rfl, ?_⟩
 have h1 := h.cells (g := g) rfl
 have hadd : ∀ j, (⟨g, 0, none⟩ : Addr).add j = ⟨g, j, none⟩ := fun j => by unfold Addr.add; split <;> simp_all
 have a0 := h1 0 _ rfl
 have a1 := h1 1 _ rfl
 have a2 := h1 2 _ rfl
 have a3 := h1 3 _ rfl
 rw [hadd] at a0 a1 a2 a3
 exact ⟨a0, a1, a2, a3⟩
theorem isName_any (x : ByteArray) (w : World) (hL : LaidW w) (hw : 8 < w.heap.size) (hm : x.size ≤ maxLen) : Calls Tryz.prog 104 #[.string x] w (BB (nameB1 x) w) := by
 obtain ⟨ts, er, p, hx⟩ : ∃ ts er p, lx x = (ts, er, p) := ⟨_, _, _, rfl⟩
 have HX := Lib.hid hx
 have hl := lexF_many_le0 x
 rw [hx] at hl
 rcases ts with _ | ⟨t, _ | ⟨t2, ts⟩⟩
 ·have e1 : nameB1 x = false := by unfold nameB1; rw [hx]
  rw [e1]
  clear hx e1
  go_enter Tryz.func104, Tryz.ntmps104
  go_wp2_with fail
  refine (Lex_any x w hL hw hm).mono ?_
  intro e w1 hp
  obtain ⟨A, c, rfl, -, hb1⟩ := hp.el0 HX.out
  clear hp
  go_wp2
  go_ret
  exact ⟨rfl, hb1⟩
 ·have e1 : nameB1 x = (decide (t.k = 1) && decide (t.x.toList = x.toList) && !keyB x) := by unfold nameB1; rw [hx]
  rw [e1]
  clear hx e1
  have HK := Lib.hid (fun w => isKey_any x w)
  go_enter Tryz.func104, Tryz.ntmps104
  go_wp2_with fail
  refine (Lex_any x w hL hw hm).mono ?_
  intro e w1 hp
  obtain ⟨A, c, rfl, ho, hb1⟩ := hp.el0 HX.out
  clear hp
  obtain ⟨g, rfl, k0, k1, k2, k3⟩ := own_tok ho
  simp only [Nat.zero_mul, Nat.zero_add] at k0 k1 k2 k3
  clear ho k2 k3
  go_wp2_with (refine (HK.out _).mono ?_; rintro e w2 ⟨rfl, rfl⟩)
  all_goals
   go_ret
   refine ⟨?_, hb1⟩
   simp [*]
 ·have e1 : nameB1 x = false := by unfold nameB1; rw [hx]
  rw [e1]
  clear hx e1
  simp only [List.length_cons] at hl
  have hlen : (t :: t2 :: ts).length = ts.length + 2 := rfl
  go_enter Tryz.func104, Tryz.ntmps104
  go_wp2_with fail
  refine (Lex_any x w hL hw hm).mono ?_
  intro e w1 hp
  obtain ⟨A, c, rfl, -, hb1⟩ := hp.el0 HX.out
  clear hp
  have hne : (((t :: t2 :: ts).length : Int) == 1) = false := by rw [hlen]; simp; omega
  go_wp2
  go_ret
  exact ⟨rfl, hb1⟩
def namedB (t : Nd) (k : Int) : Bool := decide (t.kind = k) && nameB1 t.name && decide (t.n = 0) && decide (t.unit = 0)
theorem named_any (t : Nd) (A : Option Addr) (c : Nat) (k : Int) (w : World) (hL : LaidW w) (hw : 8 < w.heap.size) (hm : t.name.size ≤ maxLen) : Calls Tryz.prog 89 #[nv t A c, .int .i64 k] w (BB (namedB t k) w) := by
 by_cases hk : t.kind = k
 ·subst hk
  have hb0 := (Below.refl w.heap.size w).alloc (Nat.le_refl _) (.cells (ndArr t A c) 79)
  have HN := Lib.hid (isName_any t.name (w.alloc (.cells (ndArr t A c) 79)) (hL.below hb0 hw) (by simp; omega) hm)
  have HB := Lib.hid (newBlk w (.cells (ndArr t A c) 79) _ rfl)
  go_enter Tryz.func89, Tryz.ntmps89
  go_wp2_with (refine HN.out.mono ?_; rintro e w2 ⟨rfl, hb2⟩; obtain ⟨⟨b0, b1, b2, b3, b4, b5⟩, -⟩ := cells6 ((hb2.block _ (blkLt HB.out)).trans HB.out); have hx2 := Nat.lt_of_lt_of_le (blkLt HB.out) hb2.size; have HW2 := Lib.hid (hb0.trans (hb2.mono (by simp))); clear hb2)
  all_goals
   go_ret
   refine ⟨?_, HW2.out⟩
   simp [namedB, *]
  all_goals rfl
 ·go_enter Tryz.func89, Tryz.ntmps89
  go_wp2_with fail
  go_ret
  refine ⟨?_, (Below.refl _ _).alloc (Nat.le_refl _) _⟩
  simp [namedB, hk]
end Go.Proofs.YtljknappbnoikaaGreatDoor
namespace Go.Proofs.YtljknappbnoikaaGreatDoor
open Go.RowKit
mutual
def spareN : Nd → Int → Int
 | .mk _ _ _ _ _ kids, n => spareL kids (n - 1)
def spareL : List Nd → Int → Int
 | [], n => n
 | t :: ts, n => if 0 ≤ n then spareL ts (spareN t n) else n
end
mutual
theorem spareN_le : ∀ (t : Nd) (n : Int), 0 ≤ n → spareN t n ≤ n - 1 ∧ -1 ≤ spareN t n
 | .mk _ _ _ _ _ kids, n, h => by
  unfold spareN
  have := spareL_le kids (n - 1) (by omega)
  omega
theorem spareL_le : ∀ (ts : List Nd) (n : Int), -1 ≤ n → spareL ts n ≤ n ∧ -1 ≤ spareL ts n
 | [], n, h => by unfold spareL; omega
 | t :: ts, n, h => by
  unfold spareL
  split
  ·rename_i h0
   have h1 := spareN_le t n h0
   have h2 := spareL_le ts (spareN t n) (by omega)
   omega
  ·omega
end
theorem KidsR.get {w : World} {P : Nat → Prop} : ∀ (ts : List Nd) (g o : Nat), KidsR w P ts (some ⟨g, o, none⟩) → ∀ (i : Nat) (t : Nd), ts[i]? = some t → OneR w P t g (o + i * 6)
 | [], g, o, h, i, t, ht => by simp at ht
 | u :: us, g, o, h, i, t, ht => by
  unfold KidsR at h
  obtain ⟨g', o', hA, -, h1, h2⟩ := h
  cases hA
  cases i with
  | zero => simp at ht; subst ht; simpa using h1
  | succ i =>
   have := KidsR.get us g (o + 6) h2 i t (by simpa using ht)
   rw [show o + (i + 1) * 6 = o + 6 + i * 6 by omega]
   exact this
theorem KidsR.addr {w : World} {P : Nat → Prop} {ts : List Nd} {A : Option Addr} (h : KidsR w P ts A) (hn : 0 < ts.length) : ∃ g o, A = some ⟨g, o, none⟩ := by
 cases ts with
 | nil => simp at hn
 | cons t ts => unfold KidsR at h; obtain ⟨g, o, hA, _⟩ := h; exact ⟨g, o, hA⟩
theorem OneR.cells {w : World} {P : Nat → Prop} {t : Nd} {g o : Nat} (h : OneR w P t g o) : ∃ A c, (w.cell? ⟨g, o, none⟩ = some (.int .i64 t.kind) ∧ w.cell? ⟨g, o + 1, none⟩ = some (.string t.name) ∧ w.cell? ⟨g, o + 2, none⟩ = some (.int .i64 t.n) ∧
  w.cell? ⟨g, o + 3, none⟩ = some (.int .i64 t.unit) ∧ w.cell? ⟨g, o + 4, none⟩ = some (.int .i64 t.at0) ∧ w.cell? ⟨g, o + 5, none⟩ = some (.slice A t.kids.length (t.kids.length + c))) ∧ KidsR w P t.kids A := by
 obtain ⟨k, x, n, u, a, kids⟩ := t
 unfold OneR at h
 obtain ⟨A, c, h0, h1, h2, h3, h4, h5, h6⟩ := h
 exact ⟨A, c, ⟨h0, h1, h2, h3, h4, h5⟩, h6⟩
def SparePost (r : Int) (w : World) (e : Ending) (w' : World) : Prop := e = .returned (.int .i64 r) ∧ Below w.heap.size w w'
theorem spareL_drop (ts : List Nd) (k : Nat) (hk : k < ts.length) (n : Int) (h : 0 ≤ n) : spareL (ts.drop k) n = spareL (ts.drop (k + 1)) (spareN ts[k] n) := by
 rw [List.drop_eq_getElem_cons hk, spareL, if_pos h]
theorem spareL_neg (ts : List Nd) (k : Nat) (n : Int) (h : n < 0) : spareL (ts.drop k) n = n := by
 cases hd : ts.drop k with
 | nil => rfl
 | cons t us => rw [spareL, if_neg (by omega)]
theorem spare_step (t : Nd) (ih : ∀ u ∈ t.kids, ∀ (w : World) (n : Int) (A : Option Addr) (c : Nat), 0 ≤ n → n ≤ 10000 → KidsR w (From 0) u.kids A → Calls Tryz.prog 73 #[nv u A c, .int .i64 n] w (SparePost (spareN u n) w))
  (w : World) (n : Int) (A : Option Addr) (c : Nat) (h0 : 0 ≤ n) (h1 : n ≤ 10000) (hK : KidsR w (From 0) t.kids A) :
  Calls Tryz.prog 73 #[nv t A c, .int .i64 n] w (SparePost (spareN t n) w) := by
 obtain ⟨r, hr⟩ : ∃ r, spareN t n = r := ⟨_, rfl⟩
 rw [hr]
 have hr' : spareL t.kids (n - 1) = r := by rw [← hr]; cases t; rfl
 have hR := Lib.hid hr'
 have IH := Lib.hid ih
 have hKH := Lib.hid hK
 clear hr hr' ih hK
 have q0 : IntKind.i64.wrap (n - 1) = n - 1 := IntWalk.i64_in _ (by omega)
 go_enter Tryz.func73, Tryz.ntmps73
 go_wp2
 clear q0
 go_loopg [1, 5] (t.kids.length) (fun gk m i wr => ∃ (k : Nat) (mv : Int), k + gk = t.kids.length ∧ i = .int .i64 k ∧ m = .int .i64 mv ∧ -1 ≤ mv ∧ mv + k ≤ n - 1 ∧ Hid (spareL (t.kids.drop k) mv = r) ∧ Hid (wr.heap[w.heap.size]? = some (.cells (ndArr t A c) 79 (0, 0))) ∧ Hid (Below w.heap.size w wr))
 case atStart => exact ⟨0, n - 1, by omega, rfl, rfl, by omega, by omega, hR.out, newBlk _ _ _ rfl, (Below.refl _ _).alloc (Nat.le_refl _) _⟩
 case round =>
  obtain ⟨k, mv, hk, rfl, rfl, hm1, hm2, hS, hB, hW⟩ := hrel
  obtain ⟨⟨b0, b1, b2, b3, b4, b5⟩, -⟩ := cells6 hB.out
  have hxb := blkLt hB.out
  clear b0 b1 b2 b3 b4
  by_cases hneg : 0 ≤ mv
  ·by_cases hlt : k < t.kids.length
   ·obtain ⟨g, rfl⟩ : ∃ g, gk = g + 1 := ⟨gk - 1, by omega⟩
    have hS1 := hS.out
    rw [spareL_drop _ _ hlt _ hneg] at hS1
    have hS1 := Lib.hid hS1
    have hKw : KidsR wr (From 0) t.kids A := hKH.out.keep (fun q h1 h2 => ⟨hW.out.block q h2, h1⟩)
    obtain ⟨ga, oa, rfl⟩ := hKw.addr (by omega)
    obtain ⟨A1, c1, ⟨e0, e1, e2, e3, e4, e5⟩, hK1⟩ := (hKw.get _ _ _ k _ (List.getElem?_eq_getElem hlt)).cells
    have hmem : t.kids[k] ∈ t.kids := List.getElem_mem hlt
    have hI := Lib.hid (IH.out _ hmem wr mv A1 c1 hneg (by omega) hK1)
    have hsp := spareN_le t.kids[k] mv hneg
    clear hS hK1 hKw hmem
    generalize t.kids[k] = u at *
    have hlt2 : k < t.kids.length := hlt
    go_wp2_with fail
    refine hI.out.mono ?_
    rintro e w2 ⟨rfl, hb2⟩
    have hB2 := Lib.hid ((hb2.block _ hxb).trans hB.out)
    have hW2 := Lib.hid (hW.out.trans (hb2.mono hW.out.size))
    clear hb2 e0 e1 e2 e3 e4 e5
    go_wp2
    go_roundg g
    case measure => omega
    case rel => exact ⟨k + 1, spareN u mv, by omega, by go_num, rfl, by omega, by omega, hS1, hB2, hW2⟩
   ·have hF : Hid (mv = r) := by have := hS.out; rw [List.drop_eq_nil_of_le (by omega)] at this; exact this
    clear hS
    go_wp2
    go_ret
    exact ⟨ret_i hF.out, hW.out⟩
  ·have hF : Hid (mv = r) := by have := hS.out; rw [spareL_neg _ _ _ (by omega)] at this; exact this
   have hng : decide (0 ≤ mv) = false := by simp; omega
   clear hS
   by_cases hlt : k < t.kids.length
   all_goals
    go_wp2
    go_ret
    exact ⟨ret_i hF.out, hW.out⟩
mutual
theorem spare_any : ∀ (t : Nd) (w : World) (n : Int) (A : Option Addr) (c : Nat), 0 ≤ n → n ≤ 10000 → KidsR w (From 0) t.kids A → Calls Tryz.prog 73 #[nv t A c, .int .i64 n] w (SparePost (spareN t n) w)
 | .mk k x m u a kids => fun w n A c h0 h1 hK => spare_step (.mk k x m u a kids) (spare_all kids) w n A c h0 h1 hK
theorem spare_all : ∀ (ts : List Nd), ∀ u ∈ ts, ∀ (w : World) (n : Int) (A : Option Addr) (c : Nat), 0 ≤ n → n ≤ 10000 → KidsR w (From 0) u.kids A → Calls Tryz.prog 73 #[nv u A c, .int .i64 n] w (SparePost (spareN u n) w)
 | [], u, hu => by cases hu
 | t :: ts, u, hu => by
  rcases List.mem_cons.1 hu with h | h
  ·rw [h]; exact spare_any t
  ·exact spare_all ts u h
end
end Go.Proofs.YtljknappbnoikaaGreatDoor
