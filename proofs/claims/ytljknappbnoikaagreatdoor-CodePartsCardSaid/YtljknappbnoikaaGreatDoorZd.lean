/- Texts of one proof: UxH, UxI, UxJ, KzA, KyB. -/
import Derived.Test.YtljknappbnoikaaGreatDoorZc
import Derived.Recover
import Derived.Defers
import Derived.Test.YtljknappbnoikaaGreatDoorZa
set_option linter.unusedVariables false
set_option linter.unusedSimpArgs false
set_option maxRecDepth 100000
set_option maxHeartbeats 8000000
namespace Go.Proofs.YtljknappbnoikaaGreatDoor.U
open Go.RowKit
def resP : Except Int Pw → Pw × Int
 | .ok p => (p, 0)
 | .error er => (⟨0, 0, 0⟩, er)
theorem ta_nil (w : World) : (Instr.typeAssert .nilIface 20 34 true).run Tryz.prog w = .ok (.tuple #[.int .i64 0, .bool false]) w := by
 simp [Instr.typeAssert, go_sem]
theorem ta_err (er : Int) (w : World) : (Instr.typeAssert (.iface 34 (.int .i64 er)) 20 34 true).run Tryz.prog w = .ok (.tuple #[.int .i64 er, .bool true]) w := by
 simp [Instr.typeAssert, go_sem]
theorem inf_idle (p : Addr) (w : World) :
  CallsD Tryz.prog 130 #[.pointer (some p)] .returning w fun e u' w' => e = .returned (.tuple #[]) ∧ u' = .returning ∧ w' = w := by
 refine callsD_of_wpS Tryz.func130 rfl fun c₀ cs hu => ?_
 apply wpS_seq
 apply wpS_region
 simp [wpOpsS, go_sem, recoverD, hu, Tryz.ntmps130, Exit.thenS, ta_nil, Array.replicate_succ]
 refine wpS_of_wp ?_
 go_wp2
 cases c₀
 simp_all [bodyPostS, results, Tryz.results130]
theorem inf_rec (b : Nat) (er : Int) (w : World) (v0 : Value) (hb : w.heap[b]? = some (.cells #[v0] 34 (0, 0))) :
  CallsD Tryz.prog 130 #[.pointer (some ⟨b, 0, none⟩)] (.panicking [{ v := .iface 34 (.int .i64 er), recovered := false }]) w fun e u' w' =>
   e = .returned (.tuple #[]) ∧ u' = .panicking [{ v := .iface 34 (.int .i64 er), recovered := true }] ∧ w' = w.setCell ⟨b, 0, none⟩ (.int .i64 er) := by
 refine callsD_of_wpS Tryz.func130 rfl fun c₀ cs hu => ?_
 apply wpS_seq
 apply wpS_region
 simp [wpOpsS, go_sem, recoverD, hu, Tryz.ntmps130, Exit.thenS, ta_err, Array.replicate_succ]
 refine wpS_of_wp ?_
 obtain ⟨hc, hf⟩ : w.cell? ⟨b, 0, none⟩ = some v0 ∧ w.frozen? ⟨b, 0, none⟩ = false := ⟨by rw [cell_of_row _ _ 0 _ _ (0, 0) hb]; rfl, by simp [World.frozen?, hb]⟩
 have hlt := blkLt hb
 clear hb
 go_wp2
 exact ⟨rfl, _, rfl, .tuple #[], by simp [results, Tryz.results130], rfl, rfl, rfl⟩
theorem infer_any {s : List Pw} (hs : allRg s) (hl : s.length ≤ 12) (t : Ex) (w : World) (A B : Option Addr) (c d : Nat) (hL : LaidW w) (hP : PwsR w s B) (hK : KidsE w t.kids A) (hsz : t.size ≤ 60) :
  Calls Tryz.prog 120 #[.slice B s.length (s.length + d), ev t A c] w (VV (.tuple #[pv (resP (inf s t)).1, .int .i64 (resP (inf s t)).2]) w) := by
 have hmf : ∀ (fn : Fn) (first cap : Array Value) (w : World), (Instr.makeFunc fn first cap).run Tryz.prog w = .ok (.func fn first cap) w := fun _ _ _ _ => rfl
 have HB0 := (((Below.refl w.heap.size w).alloc (Nat.le_refl _) (.cells (eArr t A c) 66)).alloc (by simp) (.cells (pArr ⟨0, 0, 0⟩) 125)).alloc (by simp <;> omega) (.cells #[.int .i64 0] 34)
 have HP0 : Hid ((((w.alloc (.cells (eArr t A c) 66)).alloc (.cells (pArr ⟨0, 0, 0⟩) 125)).alloc (.cells #[.int .i64 0] 34)).heap[w.heap.size + 1]? = some (.cells (pArr ⟨0, 0, 0⟩) 125 (0, 0))) :=
  Lib.hid ((Below.heap_alloc _ _ _ (by simp)).trans (newBlk _ _ _ (by simp)))
 have HE0 : Hid ((((w.alloc (.cells (eArr t A c) 66)).alloc (.cells (pArr ⟨0, 0, 0⟩) 125)).alloc (.cells #[.int .i64 0] 34)).heap[w.heap.size + 1 + 1]? = some (.cells #[.int .i64 0] 34 (0, 0))) :=
  Lib.hid (newBlk _ _ _ (by simp))
 have HI := Lib.hid (expr_any hs hl t _ A B c d (hL.below HB0) (hP.below HB0) (hK.below HB0) hsz)
 have HB0 := Lib.hid HB0
 obtain ⟨r, hr⟩ : ∃ r, inf s t = r := ⟨_, rfl⟩
 rw [hr] at HI ⊢
 clear hr hL hP hK hs hl hsz
 go_enter_defers Tryz.func120, Tryz.ntmps120
 go_wp2_with fail
 refine HI.out.mono ?_
 rintro e w1 ⟨he, hb1⟩
 have hP1 := Lib.hid ((hb1.block (w.heap.size + 1) (by simp <;> omega)).trans HP0.out)
 have hE1 := Lib.hid ((hb1.block (w.heap.size + 1 + 1) (by simp)).trans HE0.out)
 have hW1 := Lib.hid (HB0.out.trans (hb1.mono (by simp <;> omega)))
 clear hb1 HP0 HE0 HB0 HI
 have hx1 := blkLt hE1.out
 rcases r with er | p
 ·simp only at he
  subst he
  go_wp2
  refine leaves_cons (f := 130) (args := #[.pointer (some ⟨w.heap.size + 1 + 1, 0, none⟩)]) (by simp) (by simp [go_sem]) ?_
  refine (inf_rec (w.heap.size + 1 + 1) er w1 _ hE1.out).mono ?_
  rintro e u' w'' ⟨rfl, rfl, rfl⟩
  obtain ⟨⟨c0, c1, c2⟩, -⟩ := cells3 hP1.out
  have f0 : (w1.setCell ⟨w.heap.size + 1 + 1, 0, none⟩ (.int .i64 er)).cell? ⟨w.heap.size + 1 + 1, 0, none⟩ = some (.int .i64 er) := World.cell?_setCell_same _ _ _ (u := .int .i64 0) (by rw [cell_of_row _ _ 0 _ _ (0, 0) hE1.out]; rfl)
  have hF := Lib.hid (belowSet (u := .int .i64 er) (i := 0) hW1.out (show w.heap.size ≤ w.heap.size + 1 + 1 by omega))
  simp [Leaves, settle, results, Tryz.results120, go_sem, c0, c1, c2, f0]
  exact ⟨rfl, hF.out⟩
 ·simp only at he
  subst he
  obtain ⟨⟨c0, c1, c2⟩, d0, d1, d2⟩ := cells3 hP1.out
  have e0 : w1.cell? ⟨w.heap.size + 1 + 1, 0, none⟩ = some (.int .i64 0) := by rw [cell_of_row _ _ 0 _ _ (0, 0) hE1.out]; rfl
  have e1 : w1.frozen? ⟨w.heap.size + 1 + 1, 0, none⟩ = false := by simp [World.frozen?, hE1.out]
  go_wp2
  refine leaves_cons (f := 130) (args := #[.pointer (some ⟨w.heap.size + 1 + 1, 0, none⟩)]) (by simp) (by simp [go_sem]) ?_
  refine (inf_idle _ _).mono ?_
  rintro e u' w'' ⟨rfl, rfl, rfl⟩
  obtain ⟨f0, f1, f2⟩ := res3 (x := .int .i64 p.a) (y := .int .i64 p.b) (z := .int .i64 p.c) hP1.out
  have f3 : ((((w1.setCell ⟨w.heap.size + 1, 0, none⟩ (.int .i64 p.a)).setCell ⟨w.heap.size + 1, 1, none⟩ (.int .i64 p.b)).setCell ⟨w.heap.size + 1, 2, none⟩ (.int .i64 p.c)).setCell ⟨w.heap.size + 1 + 1, 0, none⟩ (.int .i64 0)).cell? ⟨w.heap.size + 1 + 1, 0, none⟩ = some (.int .i64 0) := World.cell?_setCell_same _ _ _ (u := .int .i64 0) (by rw [cell_of_row _ _ 0 _ _ (0, 0) ((heap_setCell_other _ _ _ _ (by simp)).trans ((heap_setCell_other _ _ _ _ (by simp)).trans ((heap_setCell_other _ _ _ _ (by simp)).trans hE1.out)))]; rfl)
  have hF := Lib.hid (belowSet (u := .int .i64 0) (i := 0) (below3 (v0 := .int .i64 p.a) (v1 := .int .i64 p.b) (v2 := .int .i64 p.c) hW1.out (Nat.le_add_right w.heap.size 1)) (show w.heap.size ≤ w.heap.size + 1 + 1 by omega))
  simp [Leaves, settle, results, Tryz.results120, go_sem, f0, f1, f2, f3]
  exact ⟨rfl, hF.out⟩
end Go.Proofs.YtljknappbnoikaaGreatDoor.U
namespace Go.Proofs.YtljknappbnoikaaGreatDoor.U
open Go.RowKit
theorem scopeM_rg {us : List Int} {s : List Pw} (h : scopeM us = some s) : allRg s ∧ s.length ≤ 12 ∧ s = us.map kindP := by
 unfold scopeM at h
 split at h
 ·rename_i hc
  simp only [Option.some.injEq] at h
  subst h
  exact ⟨kinds_rg us, by simpa using hc.1, rfl⟩
 ·simp at h
end Go.Proofs.YtljknappbnoikaaGreatDoor.U
namespace Go.Proofs.YtljknappbnoikaaGreatDoor.U
open Go.RowKit
inductive St where
 | mk (kind var rel : Int) (a b : Ex) (th el : List St)
def St.kind : St → Int | .mk k _ _ _ _ _ _ => k
def St.var : St → Int | .mk _ v _ _ _ _ _ => v
def St.rel : St → Int | .mk _ _ r _ _ _ _ => r
def St.a : St → Ex | .mk _ _ _ a _ _ _ => a
def St.b : St → Ex | .mk _ _ _ _ b _ _ => b
def St.th : St → List St | .mk _ _ _ _ _ t _ => t
def St.el : St → List St | .mk _ _ _ _ _ _ e => e
def okS (k : Int) (a b : Ex) (n : Int) : Bool := decide (0 ≤ n) && (!decide (60 < a.size) && (!decide (k = 2) || !decide (60 < b.size)))
mutual
def evS : St → Int → Bool × Int
 | .mk k v r a b th el, n =>
  if okS k a b (n - 1) = true then (if k = 2 then (match evL th (n - 1) with | (true, m) => evL el m | (false, m) => (false, m)) else (true, n - 1)) else (false, n - 1)
def evL : List St → Int → Bool × Int
 | [], n => (true, n)
 | x :: xs, n => match evS x n with | (true, m) => evL xs m | (false, m) => (false, m)
end
mutual
theorem evS_range : ∀ (x : St) (n : Int), 0 ≤ n → -1 ≤ (evS x n).2 ∧ (evS x n).2 ≤ n ∧ ((evS x n).1 = true → 0 ≤ (evS x n).2)
 | .mk k v r a b th el, n, h => by
  rw [evS]
  by_cases ho : okS k a b (n - 1) = true
  ·have h1 : 0 ≤ n - 1 := by simp [okS] at ho; omega
   rw [if_pos ho]
   by_cases hk : k = 2
   ·rw [if_pos hk]
    have h2 := evL_range th (n - 1) h1
    rcases he : evL th (n - 1) with ⟨b1, m⟩
    rw [he] at h2
    cases b1 with
    | false => simp only at h2 ⊢; exact ⟨h2.1, by omega, by simp⟩
    | true =>
     simp only at h2 ⊢
     have h3 := evL_range el m (h2.2.2 trivial)
     exact ⟨h3.1, by omega, h3.2.2⟩
   ·rw [if_neg hk]
    exact ⟨by simp only; omega, by simp only; omega, fun _ => h1⟩
  ·rw [if_neg ho]
   exact ⟨by simp only; omega, by simp only; omega, by simp⟩
theorem evL_range : ∀ (l : List St) (n : Int), 0 ≤ n → -1 ≤ (evL l n).2 ∧ (evL l n).2 ≤ n ∧ ((evL l n).1 = true → 0 ≤ (evL l n).2)
 | [], n, h => by rw [evL]; exact ⟨by simp only; omega, by simp, fun _ => h⟩
 | x :: xs, n, h => by
  rw [evL]
  have h2 := evS_range x n h
  rcases he : evS x n with ⟨b1, m⟩
  rw [he] at h2
  cases b1 with
  | false => simp only at h2 ⊢; exact ⟨h2.1, by omega, by simp⟩
  | true =>
   simp only at h2 ⊢
   have h3 := evL_range xs m (h2.2.2 trivial)
   exact ⟨h3.1, by omega, h3.2.2⟩
end
mutual
def szS : St → Prop
 | .mk k v r a b th el => a.size ≤ 60 ∧ (k = 2 → b.size ≤ 60 ∧ szL th ∧ szL el)
def szL : List St → Prop
 | [] => True
 | x :: xs => szS x ∧ szL xs
end
mutual
theorem evS_sz : ∀ (x : St) (n : Int), (evS x n).1 = true → szS x
 | .mk k v r a b th el, n, h => by
  rw [evS] at h
  rw [szS]
  by_cases ho : okS k a b (n - 1) = true
  ·rw [if_pos ho] at h
   simp [okS] at ho
   refine ⟨ho.2.1, fun hk => ?_⟩
   rw [if_pos hk] at h
   rcases he : evL th (n - 1) with ⟨b1, m⟩
   rw [he] at h
   cases b1 with
   | false => simp at h
   | true =>
    simp only at h
    exact ⟨by rcases ho.2.2 with h1 | h1 <;> first | exact h1 | exact absurd hk h1, evL_sz th (n - 1) (by rw [he]), evL_sz el m h⟩
  ·rw [if_neg ho] at h
   simp at h
theorem evL_sz : ∀ (l : List St) (n : Int), (evL l n).1 = true → szL l
 | [], n, h => trivial
 | x :: xs, n, h => by
  rw [evL] at h
  rw [szL]
  rcases he : evS x n with ⟨b1, m⟩
  rw [he] at h
  cases b1 with
  | false => simp at h
  | true => simp only at h; exact ⟨evS_sz x n (by rw [he]), evL_sz xs m h⟩
end
theorem szL_mem : ∀ {l : List St} {x : St}, x ∈ l → szL l → szS x
 | [], x, h, _ => by cases h
 | y :: ys, x, h, hs => by
  rw [szL] at hs
  rcases List.mem_cons.1 h with rfl | h
  ·exact hs.1
  ·exact szL_mem h hs.2
def assignM (s : List Pw) (v : Int) (a : Ex) : Int :=
 if btw v 0 ((s.length : Int) - 1) = true then (match inf s a with | .error e => e | .ok p => if p = s.getD v.toNat ⟨0, 0, 0⟩ then 0 else 13) else 1
def cmpM (s : List Pw) (a b : Ex) : Int :=
 match inf s a with
 | .error e => e
 | .ok p => match inf s b with
  | .error e => e
  | .ok q => if p = q then 0 else 13
mutual
def stM (s : List Pw) : St → Int
 | .mk k v r a b th el =>
  if k = 1 then assignM s v a
  else if k = 2 then (if btw r 1 6 = true then (if cmpM s a b = 0 then (if stsM s th = 0 then stsM s el else stsM s th) else cmpM s a b) else 1)
  else 1
def stsM (s : List Pw) : List St → Int
 | [] => 0
 | x :: xs => if stM s x = 0 then stsM s xs else stM s x
end
def handM (s : List Pw) (l : List St) : Int := if (evL l 100).1 = true then stsM s l else 2
mutual
theorem inf_err {s : List Pw} : ∀ (t : Ex) {e : Int}, inf s t = .error e → e = 1 ∨ e = 13
 | .mk op n u ks, e, h => by
  rw [inf] at h
  rcases hk : infK s ks with er | ps <;> rw [hk] at h <;> simp only at h
  ·simp only [Except.error.injEq] at h
   subst h
   exact infK_err ks hk
  ·unfold nodeP at h
   split at h
   ·split at h
    ·simp at h
    ·split at h
     ·simp at h
     ·split at h
      ·simp at h
      ·unfold twoP at h
       have hl : ∀ p : Pw, limP p = .error e → e = 1 ∨ e = 13 := fun p hp => by
        unfold limP at hp
        split at hp <;> simp at hp
        exact .inr hp.symm
       split at h
       ·exact hl _ h
       ·split at h
        ·exact hl _ h
        ·split at h <;> simp at h
         exact .inr h.symm
   ·simp at h
    exact .inl h.symm
theorem infK_err {s : List Pw} : ∀ (ks : List Ex) {e : Int}, infK s ks = .error e → e = 1 ∨ e = 13
 | [], e, h => by simp [infK] at h
 | k :: ks, e, h => by
  simp only [infK] at h
  rcases hk : inf s k with er | p <;> rw [hk] at h <;> simp only at h
  ·simp only [Except.error.injEq] at h
   subst h
   exact inf_err k hk
  ·rcases hks : infK s ks with er | qs <;> rw [hks] at h <;> simp at h
   subst h
   exact infK_err ks hks
end
abbrev sv (x : St) (A : Option Addr) (c : Nat) (B : Option Addr) (d : Nat) (T : Option Addr) (m : Nat) (E : Option Addr) (n : Nat) : Value :=
 .agg #[.int .i64 x.kind, .int .i64 x.var, .int .i64 x.rel, .int .i64 x.a.op, .int .i64 x.a.n, .int .i64 x.a.unit, .slice A x.a.kids.length (x.a.kids.length + c), .int .i64 x.b.op, .int .i64 x.b.n, .int .i64 x.b.unit, .slice B x.b.kids.length (x.b.kids.length + d), .slice T x.th.length m, .slice E x.el.length n]
abbrev sArr (x : St) (A : Option Addr) (c : Nat) (B : Option Addr) (d : Nat) (T : Option Addr) (m : Nat) (E : Option Addr) (n : Nat) : Array Value :=
 #[.int .i64 x.kind, .int .i64 x.var, .int .i64 x.rel, .int .i64 x.a.op, .int .i64 x.a.n, .int .i64 x.a.unit, .slice A x.a.kids.length (x.a.kids.length + c), .int .i64 x.b.op, .int .i64 x.b.n, .int .i64 x.b.unit, .slice B x.b.kids.length (x.b.kids.length + d), .slice T x.th.length m, .slice E x.el.length n]
def StAt (w : World) (x : St) (g o : Nat) (A : Option Addr) (c : Nat) (B : Option Addr) (d : Nat) (T : Option Addr) (m : Nat) (E : Option Addr) (n : Nat) : Prop :=
 w.cell? ⟨g, o, none⟩ = some (.int .i64 x.kind) ∧ w.cell? ⟨g, o + 1, none⟩ = some (.int .i64 x.var) ∧ w.cell? ⟨g, o + 2, none⟩ = some (.int .i64 x.rel) ∧
 w.cell? ⟨g, o + 3, none⟩ = some (.int .i64 x.a.op) ∧ w.cell? ⟨g, o + 4, none⟩ = some (.int .i64 x.a.n) ∧ w.cell? ⟨g, o + 5, none⟩ = some (.int .i64 x.a.unit) ∧ w.cell? ⟨g, o + 6, none⟩ = some (.slice A x.a.kids.length (x.a.kids.length + c)) ∧
 w.cell? ⟨g, o + 7, none⟩ = some (.int .i64 x.b.op) ∧ w.cell? ⟨g, o + 8, none⟩ = some (.int .i64 x.b.n) ∧ w.cell? ⟨g, o + 9, none⟩ = some (.int .i64 x.b.unit) ∧ w.cell? ⟨g, o + 10, none⟩ = some (.slice B x.b.kids.length (x.b.kids.length + d)) ∧
 w.cell? ⟨g, o + 11, none⟩ = some (.slice T x.th.length m) ∧ w.cell? ⟨g, o + 12, none⟩ = some (.slice E x.el.length n)
mutual
def StsR (w : World) : List St → Option Addr → Prop
 | [], _ => True
 | t :: ts, A => ∃ g o, A = some ⟨g, o, none⟩ ∧ StR w t g o ∧ StsR w ts (some ⟨g, o + 13, none⟩)
def StR (w : World) : St → Nat → Nat → Prop
 | .mk k v r a b th el, g, o => ∃ A c B d T m E n, StAt w (.mk k v r a b th el) g o A c B d T m E n ∧ KidsE w a.kids A ∧ KidsE w b.kids B ∧ StsR w th T ∧ StsR w el E ∧ th.length ≤ maxLen ∧ el.length ≤ maxLen
end
theorem StAt.keep {w w' : World} {x : St} {g o : Nat} {A B T E : Option Addr} {c d m n : Nat} (h : StAt w x g o A c B d T m E n) (hb : w'.heap[g]? = w.heap[g]?) : StAt w' x g o A c B d T m E n := by
 have e : ∀ i, w'.cell? ⟨g, i, none⟩ = w.cell? ⟨g, i, none⟩ := fun i => World.cell?_of_block (a := ⟨g, i, none⟩) hb
 unfold StAt
 simp only [e]
 exact h
theorem StR.cells {w : World} {x : St} {g o : Nat} (h : StR w x g o) : ∃ A c B d T m E n, StAt w x g o A c B d T m E n ∧ KidsE w x.a.kids A ∧ KidsE w x.b.kids B ∧ StsR w x.th T ∧ StsR w x.el E ∧ x.th.length ≤ maxLen ∧ x.el.length ≤ maxLen := by
 obtain ⟨k, v, r, a, b, th, el⟩ := x
 unfold StR at h
 exact h
theorem StsR.get {w : World} : ∀ (ts : List St) (g o : Nat), StsR w ts (some ⟨g, o, none⟩) → ∀ (i : Nat) (t : St), ts[i]? = some t → StR w t g (o + i * 13)
 | [], g, o, h, i, t, ht => by simp at ht
 | u :: us, g, o, h, i, t, ht => by
  unfold StsR at h
  obtain ⟨g', o', hA, h1, h2⟩ := h
  cases hA
  cases i with
  | zero => simp at ht; subst ht; simpa using h1
  | succ i =>
   have := StsR.get us g (o + 13) h2 i t (by simpa using ht)
   rw [show o + (i + 1) * 13 = o + 13 + i * 13 by omega]
   exact this
theorem StsR.addr {w : World} {ts : List St} {A : Option Addr} (h : StsR w ts A) (hn : 0 < ts.length) : ∃ g o, A = some ⟨g, o, none⟩ := by
 cases ts with
 | nil => simp at hn
 | cons t ts => unfold StsR at h; obtain ⟨g, o, hA, _⟩ := h; exact ⟨g, o, hA⟩
mutual
theorem StsR.keep {w w' : World} (hb : ∀ k, k < w.heap.size → w'.heap[k]? = w.heap[k]?) : ∀ (ts : List St) (A : Option Addr), StsR w ts A → StsR w' ts A
 | [], _, _ => trivial
 | t :: ts, A, h => by
  unfold StsR at h ⊢
  obtain ⟨g, o, hA, h1, h2⟩ := h
  exact ⟨g, o, hA, StR.keep hb t g o h1, StsR.keep hb ts _ h2⟩
theorem StR.keep {w w' : World} (hb : ∀ k, k < w.heap.size → w'.heap[k]? = w.heap[k]?) : ∀ (t : St) (g o : Nat), StR w t g o → StR w' t g o
 | .mk k v r a b th el, g, o, h => by
  unfold StR at h ⊢
  obtain ⟨A, c, B, d, T, m, E, n, h0, h1, h2, h3, h4, h5⟩ := h
  exact ⟨A, c, B, d, T, m, E, n, h0.keep (hb g (World.block_lt_of_cell? w _ h0.1)), h1.keep hb _ _, h2.keep hb _ _, StsR.keep hb th T h3, StsR.keep hb el E h4, h5⟩
end
theorem StsR.below {w w' : World} {ts : List St} {A : Option Addr} (h : StsR w ts A) (hb : Below w.heap.size w w') : StsR w' ts A := h.keep hb.block ts A
structure KpL (L : Nat) (w w' : World) : Prop where
 os : w'.os = w.os
 tape : w'.tape = w.tape
 output : w'.output = w.output
 size : w.heap.size ≤ w'.heap.size
 block : ∀ k, k < w.heap.size → k ≠ L → w'.heap[k]? = w.heap[k]?
theorem KpL.refl (L : Nat) (w : World) : KpL L w w := ⟨rfl, rfl, rfl, Nat.le_refl _, fun _ _ _ => rfl⟩
theorem KpL.trans {L : Nat} {a b c : World} (h : KpL L a b) (k : KpL L b c) : KpL L a c :=
 ⟨k.os.trans h.os, k.tape.trans h.tape, k.output.trans h.output, Nat.le_trans h.size k.size, fun i hi h1 => (k.block i (Nat.lt_of_lt_of_le hi h.size) h1).trans (h.block i hi h1)⟩
theorem Below.kpl {L : Nat} {a b : World} (h : Below a.heap.size a b) : KpL L a b := ⟨h.os, h.tape, h.output, h.size, fun i hi _ => h.block i hi⟩
theorem KpL.alloc {L : Nat} {a b : World} (h : KpL L a b) (o : Obj) : KpL L a (b.alloc o) := h.trans (Below.kpl ((Below.refl _ _).alloc (Nat.le_refl _) _))
theorem KpL.set {L i : Nat} {a b : World} (h : KpL L a b) (v : Value) : KpL L a (b.setCell ⟨L, i, none⟩ v) :=
 ⟨h.os, h.tape, h.output, by simpa using h.size, fun k hk h1 => (heap_setCell_other b _ k v h1).trans (h.block k hk h1)⟩
theorem KpL.below {L B : Nat} {w0 a b : World} (h0 : Below B w0 a) (h : KpL L a b) (hB : B ≤ a.heap.size) (hL : B ≤ L) : Below B w0 b :=
 h0.trans ⟨h.os, h.tape, h.output, h.size, fun i hi => h.block i (by omega) (by omega)⟩
end Go.Proofs.YtljknappbnoikaaGreatDoor.U
namespace Go.Proofs.YtljknappbnoikaaGreatDoor
namespace K
open U (Ex St szK)
mutual
def cE : Ex → List In
 | .mk op n _ ks => cK ks ++ [⟨op, if ks.length = 0 then n else 0, 0⟩]
def cK : List Ex → List In
 | [] => []
 | k :: ks => cE k ++ cK ks
end
mutual
def lnS : St → Nat
 | .mk k _ _ a b th el => if k = 2 then a.size + (b.size + (1 + (lnL th + (if el.length = 0 then 0 else 1 + lnL el)))) else a.size + 1
def lnL : List St → Nat
 | [] => 0
 | x :: xs => lnS x + lnL xs
end
mutual
def cS : St → Nat → List In
 | .mk k v r a b th el, i =>
  if k = 2 then
   (if el.length = 0 then cE a ++ (cE b ++ (⟨12, ((i + a.size + b.size + 1 + lnL th : Nat) : Int), r⟩ :: cL th (i + a.size + b.size + 1)))
   else cE a ++ (cE b ++ (⟨12, ((i + a.size + b.size + 1 + lnL th + 1 : Nat) : Int), r⟩ :: (cL th (i + a.size + b.size + 1) ++ (⟨13, ((i + a.size + b.size + 1 + lnL th + 1 + lnL el : Nat) : Int), 0⟩ :: cL el (i + a.size + b.size + 1 + lnL th + 1))))))
  else cE a ++ [⟨11, v, 0⟩]
def cL : List St → Nat → List In
 | [], _ => []
 | x :: xs, i => cS x i ++ cL xs (i + lnS x)
end
mutual
theorem cE_len : ∀ t : Ex, (cE t).length = t.size
 | .mk op n u ks => by rw [cE, Ex.size, List.length_append, cK_len ks, List.length_singleton, Nat.add_comm]
theorem cK_len : ∀ ks : List Ex, (cK ks).length = szK ks
 | [] => rfl
 | k :: ks => by rw [cK, szK, List.length_append, cE_len k, cK_len ks]
end
mutual
theorem cS_len : ∀ (x : St) (i : Nat), (cS x i).length = lnS x
 | .mk k v r a b th el, i => by
  rw [cS, lnS]
  by_cases h : k = 2
  ·rw [if_pos h, if_pos h]
   by_cases he : el.length = 0
   ·rw [if_pos he, if_pos he]
    simp only [List.length_append, List.length_cons, cE_len, cL_len th]
    omega
   ·rw [if_neg he, if_neg he]
    simp only [List.length_append, List.length_cons, cE_len, cL_len th, cL_len el]
    omega
  ·rw [if_neg h, if_neg h]
   simp only [List.length_append, List.length_cons, List.length_nil, cE_len]
theorem cL_len : ∀ (l : List St) (i : Nat), (cL l i).length = lnL l
 | [], _ => rfl
 | x :: xs, i => by rw [cL, lnL, List.length_append, cS_len x, cL_len xs]
end
theorem cK_drop {l : List Ex} {k : Nat} (h : k < l.length) : cK (l.drop k) = cE l[k] ++ cK (l.drop (k + 1)) := by
 rw [List.drop_eq_getElem_cons h, cK]
theorem cL_drop {l : List St} {k : Nat} (h : k < l.length) (i : Nat) : cL (l.drop k) i = cS l[k] i ++ cL (l.drop (k + 1)) (i + lnS l[k]) := by
 rw [List.drop_eq_getElem_cons h, cL]
theorem lnL_drop {l : List St} {k : Nat} (h : k < l.length) : lnL (l.drop k) = lnS l[k] + lnL (l.drop (k + 1)) := by
 rw [List.drop_eq_getElem_cons h, lnL]
theorem szK_drop {l : List Ex} {k : Nat} (h : k < l.length) : szK (l.drop k) = l[k].size + szK (l.drop (k + 1)) := by
 rw [List.drop_eq_getElem_cons h, szK]
mutual
def OpX : Ex → Prop
 | .mk op _ _ ks => 1 ≤ op ∧ op ≤ 10 ∧ OpK ks
def OpK : List Ex → Prop
 | [] => True
 | k :: ks => OpX k ∧ OpK ks
end
theorem OpK_get : ∀ {l : List Ex}, OpK l → ∀ x ∈ l, OpX x
 | [], _, x, hx => by cases hx
 | y :: ys, h, x, hx => by
  rw [OpK] at h
  rcases List.mem_cons.1 hx with rfl | hx
  ·exact h.1
  ·exact OpK_get h.2 x hx
mutual
def OpS : St → Prop
 | .mk k _ _ a b th el => OpX a ∧ (k = 2 → OpX b ∧ OpL th ∧ OpL el)
def OpL : List St → Prop
 | [] => True
 | x :: xs => OpS x ∧ OpL xs
end
theorem OpL_get : ∀ {l : List St}, OpL l → ∀ x ∈ l, OpS x
 | [], _, x, hx => by cases hx
 | y :: ys, h, x, hx => by
  rw [OpL] at h
  rcases List.mem_cons.1 hx with rfl | hx
  ·exact h.1
  ·exact OpL_get h.2 x hx
theorem OpS_of {x : St} (h : OpS x) : OpX x.a ∧ (x.kind = 2 → OpX x.b ∧ OpL x.th ∧ OpL x.el) := by
 obtain ⟨k, v, r, a, b, th, el⟩ := x
 rw [OpS] at h
 exact h
theorem OpX_of {t : Ex} (h : OpX t) : 1 ≤ t.op ∧ t.op ≤ 10 ∧ OpK t.kids := by
 obtain ⟨op, n, u, ks⟩ := t
 rw [OpX] at h
 exact h
open U (Pw inf infK nodeP stM stsM handM szS szL evL evS btw formB okS) in
mutual
theorem inf_op {s : List Pw} : ∀ (t : Ex) {q : Pw}, inf s t = .ok q → OpX t
 | .mk op n u ks, q, h => by
  rw [U.inf] at h
  rcases hk : infK s ks with e | ps
  ·rw [hk] at h; cases h
  ·rw [hk] at h
   simp only at h
   rw [OpX]
   have h2 := infK_op ks hk
   unfold U.nodeP at h
   split at h
   ·rename_i g
    unfold U.formB at g
    split at g
    ·exact ⟨by omega, by omega, h2⟩
    split at g
    ·exact ⟨by omega, by omega, h2⟩
    split at g
    ·exact ⟨by omega, by omega, h2⟩
    ·simp only [U.btw, Bool.and_eq_true, decide_eq_true_eq] at g
     exact ⟨by omega, by omega, h2⟩
   ·cases h
theorem infK_op {s : List Pw} : ∀ (ks : List Ex) {ps : List Pw}, infK s ks = .ok ps → OpK ks
 | [], ps, h => by rw [OpK]; trivial
 | k :: ks, ps, h => by
  rw [U.infK] at h
  rw [OpK]
  rcases hk : inf s k with e | p
  ·rw [hk] at h; cases h
  ·rw [hk] at h
   simp only at h
   rcases hks : infK s ks with e | qs
   ·rw [hks] at h; cases h
   ·exact ⟨inf_op k hk, infK_op ks hks⟩
end
open U (Pw inf infK nodeP stM stsM handM szS szL evL evS btw formB okS) in
mutual
theorem st_op {s : List Pw} : ∀ x : St, stM s x = 0 → OpS x
 | .mk k v r a b th el, h => by
  rw [U.stM] at h
  rw [OpS]
  by_cases h1 : k = 1
  ·rw [if_pos h1] at h
   unfold U.assignM at h
   split at h
   ·rcases ha : inf s a with e | p
    ·rw [ha] at h
     have := U.inf_err a ha
     simp only at h
     omega
    ·exact ⟨inf_op a ha, fun h2 => by omega⟩
   ·cases h
  ·rw [if_neg h1] at h
   split at h
   ·rename_i h2
    split at h
    ·split at h
     ·rename_i hc
      unfold U.cmpM at hc
      rcases ha : inf s a with e | p
      ·rw [ha] at hc
       have := U.inf_err a ha
       simp only at hc
       omega
      rw [ha] at hc
      simp only at hc
      rcases hb : inf s b with e | q
      ·rw [hb] at hc
       have := U.inf_err b hb
       simp only at hc
       omega
      split at h
      ·rename_i gt
       exact ⟨inf_op a ha, fun _ => ⟨inf_op b hb, sts_op th gt, sts_op el h⟩⟩
      ·rename_i gt
       exact absurd h gt
     ·rename_i gc
      exact absurd h gc
    ·cases h
   ·cases h
theorem sts_op {s : List Pw} : ∀ l : List St, stsM s l = 0 → OpL l
 | [], _ => by rw [OpL]; trivial
 | x :: xs, h => by
  rw [U.stsM] at h
  rw [OpL]
  split at h
  ·rename_i g
   exact ⟨st_op x g, sts_op xs h⟩
  ·rename_i g
   exact absurd h g
end
mutual
theorem evS_ln : ∀ (x : St) (n m : Int), U.evS x n = (true, m) → (lnS x : Int) ≤ 122 * (n - m)
 | .mk k v r a b th el, n, m, h => by
  rw [U.evS] at h
  rw [lnS]
  split at h
  ·rename_i ho
   unfold U.okS at ho
   simp only [Bool.and_eq_true, Bool.or_eq_true, Bool.not_eq_true', decide_eq_true_eq, decide_eq_false_iff_not] at ho
   split at h
   ·rename_i hk
    rw [if_pos hk]
    rcases ht : U.evL th (n - 1) with ⟨b1, m1⟩
    rw [ht] at h
    cases b1 with
    | false => simp at h
    | true =>
     simp only at h
     have k1 := evL_ln th _ _ ht
     have k2 := evL_ln el _ _ h
     have hb : b.size ≤ 60 := by
      rcases ho.2.2 with g | g
      ·exact absurd hk g
      ·omega
     split <;> omega
   ·rename_i hk
    rw [if_neg hk]
    cases h
    omega
  ·cases h
theorem evL_ln : ∀ (l : List St) (n m : Int), U.evL l n = (true, m) → (lnL l : Int) ≤ 122 * (n - m)
 | [], n, m, h => by rw [U.evL] at h; cases h; rw [lnL]; omega
 | x :: xs, n, m, h => by
  rw [U.evL] at h
  rw [lnL]
  rcases he : U.evS x n with ⟨b1, m1⟩
  rw [he] at h
  cases b1 with
  | false => simp at h
  | true =>
   simp only at h
   have k1 := evS_ln x _ _ he
   have k2 := evL_ln xs _ _ h
   omega
end
theorem hand_op {s : List U.Pw} {l : List St} (h : U.handM s l = 0) : OpL l ∧ lnL l ≤ 12200 := by
 unfold U.handM at h
 split at h
 ·rename_i g
  refine ⟨sts_op l h, ?_⟩
  rcases he : U.evL l 100 with ⟨b, m⟩
  rw [he] at g
  simp only at g
  subst g
  have k1 := evL_ln l _ _ he
  have k2 := (U.evL_range l 100 (by omega)).2.2 (by rw [he])
  rw [he] at k2
  simp only at k2
  omega
 ·cases h
theorem cL_length_le : ∀ l : List St, l.length ≤ lnL l
 | [] => Nat.zero_le _
 | .mk k v r a b th el :: xs => by
  have := cL_length_le xs
  rw [lnL, lnS, List.length_cons]
  split <;> omega
theorem set_mid (P t : List In) (x y : In) : (P ++ x :: t).set P.length y = P ++ y :: t := by simp
theorem get_mid (P t : List In) (x : In) : (P ++ x :: t)[P.length]? = some x := by simp
theorem choice_no {x : St} {l P L3 L4 : List In} (hk : x.kind = 2) (he : x.el.length = 0) (hP : P = l ++ cE x.a ++ cE x.b) (h3 : L3 = P ++ [⟨12, 0, x.rel⟩]) (h4 : L4 = L3 ++ cL x.th L3.length) :
  L4[P.length]? = some ⟨12, 0, x.rel⟩ ∧ L4.length = l.length + lnS x ∧ L4.set P.length ⟨12, L4.length, x.rel⟩ = l ++ cS x l.length := by
 obtain ⟨k, v, r, a, b, th, el⟩ := x
 simp only [St.kind, St.a, St.b, St.rel, St.th, St.el] at *
 have e3 : L3.length = l.length + a.size + b.size + 1 := by rw [h3, hP]; simp only [List.length_append, List.length_singleton, cE_len]
 have e4 : L4 = P ++ (⟨12, 0, r⟩ : In) :: cL th (l.length + a.size + b.size + 1) := by rw [h4, e3, h3, List.append_assoc]; rfl
 have e5 : L4.length = l.length + a.size + b.size + 1 + lnL th := by rw [h4, List.length_append, e3, cL_len]
 refine ⟨by rw [e4]; exact get_mid _ _ _, ?_, ?_⟩
 ·rw [e5, lnS, if_pos hk, if_pos he]; omega
 ·rw [e5, e4, set_mid, cS, if_pos hk, if_pos he, hP]
  simp only [List.append_assoc]
theorem choice_else {x : St} {l P L3 L4 L5 L6 L7 : List In} (hk : x.kind = 2) (he : x.el.length ≠ 0) (hP : P = l ++ cE x.a ++ cE x.b) (h3 : L3 = P ++ [⟨12, 0, x.rel⟩]) (h4 : L4 = L3 ++ cL x.th L3.length) (h5 : L5 = L4 ++ [⟨13, 0, 0⟩])
  (h6 : L6 = L5.set P.length ⟨12, L5.length, x.rel⟩) (h7 : L7 = L6 ++ cL x.el L6.length) :
  L5[P.length]? = some ⟨12, 0, x.rel⟩ ∧ L7[L4.length]? = some ⟨13, 0, 0⟩ ∧ L7.length = l.length + lnS x ∧ L7.set L4.length ⟨13, L7.length, 0⟩ = l ++ cS x l.length ∧ L6.length = L4.length + 1 := by
 obtain ⟨k, v, r, a, b, th, el⟩ := x
 simp only [St.kind, St.a, St.b, St.rel, St.th, St.el] at *
 have e3 : L3.length = l.length + a.size + b.size + 1 := by rw [h3, hP]; simp only [List.length_append, List.length_singleton, cE_len]
 have e4 : L4 = P ++ (⟨12, 0, r⟩ : In) :: cL th (l.length + a.size + b.size + 1) := by rw [h4, e3, h3, List.append_assoc]; rfl
 have n4 : L4.length = l.length + a.size + b.size + 1 + lnL th := by rw [h4, List.length_append, e3, cL_len]
 have n5 : L5.length = l.length + a.size + b.size + 1 + lnL th + 1 := by rw [h5, List.length_append, n4]; rfl
 have e5 : L5 = P ++ (⟨12, 0, r⟩ : In) :: (cL th (l.length + a.size + b.size + 1) ++ [⟨13, 0, 0⟩]) := by rw [h5, e4, List.append_assoc]; rfl
 have e6 : L6 = P ++ (⟨12, L5.length, r⟩ : In) :: (cL th (l.length + a.size + b.size + 1) ++ [⟨13, 0, 0⟩]) := by rw [h6]; generalize (L5.length : Int) = q; rw [e5, set_mid]
 have n6 : L6.length = L5.length := by rw [h6, List.length_set]
 have n7 : L7.length = l.length + a.size + b.size + 1 + lnL th + 1 + lnL el := by rw [h7, List.length_append, n6, n5, cL_len]
 obtain ⟨Q, hQ⟩ : ∃ Q, Q = P ++ (⟨12, L5.length, r⟩ : In) :: cL th (l.length + a.size + b.size + 1) := ⟨_, rfl⟩
 have nQ : Q.length = L4.length := by rw [hQ, e4]; simp
 have e7 : L7 = Q ++ (⟨13, 0, 0⟩ : In) :: cL el (l.length + a.size + b.size + 1 + lnL th + 1) := by rw [h7, n6, n5, e6, hQ]; simp
 refine ⟨by rw [e5]; exact get_mid _ _ _, by rw [e7, ← nQ]; exact get_mid _ _ _, ?_, ?_, by omega⟩
 ·rw [n7, lnS, if_pos hk, if_neg he]; omega
 ·rw [n7]
  rw [e7, ← nQ, set_mid, hQ, n5, cS, if_pos hk, if_neg he, hP]
  simp
theorem lnS_if {x : St} (hk : x.kind = 2) : lnS x = x.a.size + (x.b.size + (1 + (lnL x.th + (if x.el.length = 0 then 0 else 1 + lnL x.el)))) := by
 obtain ⟨k, v, r, a, b, th, el⟩ := x
 have hk : k = 2 := hk
 rw [lnS, if_pos hk]
 rfl
theorem lnS_no {x : St} (hk : x.kind ≠ 2) : lnS x = x.a.size + 1 := by
 obtain ⟨k, v, r, a, b, th, el⟩ := x
 have hk : k ≠ 2 := hk
 rw [lnS, if_neg hk]
 rfl
theorem cS_no {x : St} (hk : x.kind ≠ 2) (i : Nat) : cS x i = cE x.a ++ [⟨11, x.var, 0⟩] := by
 obtain ⟨k, v, r, a, b, th, el⟩ := x
 have hk : k ≠ 2 := hk
 rw [cS, if_neg hk]
 rfl
end K
end Go.Proofs.YtljknappbnoikaaGreatDoor
namespace Go.Proofs.YtljknappbnoikaaGreatDoor
namespace K
def To (x : In) (i j : Nat) : Prop := (x.op ≠ 13 ∧ j = i + 1) ∨ ((x.op = 12 ∨ x.op = 13) ∧ j = x.n.toNat)
theorem reach_new {hs h2 : List Int} {i : Nat} {h : Int} {b : Bool} (e : reach hs i h = (h2, b)) {j : Nat} (hj : (h2[j]?).getD (-1) ≠ -1) : (hs[j]?).getD (-1) ≠ -1 ∨ j = i := by
 unfold reach at e
 split at e
 ·cases e
  by_cases hij : i = j
  ·exact .inr hij.symm
  ·rw [List.getElem?_set_ne hij] at hj
   exact .inl hj
 ·cases e; exact .inl hj
theorem sound_new {hs h2 : List Int} {x : In} {i : Nat} (e : soundI hs x i = (h2, true)) {j : Nat} (hj : (h2[j]?).getD (-1) ≠ -1) : (hs[j]?).getD (-1) ≠ -1 ∨ To x i j := by
 unfold soundI at e
 split at e
 ·cases e
 split at e
 ·rename_i h12
  rcases hr : reach hs (i + 1) ((hs[i]?).getD 0 - tko x.op + pt x.op) with ⟨h3, b⟩
  rw [hr] at e
  cases b with
  | false => cases e
  | true =>
   simp only at e
   rcases reach_new e hj with h | h
   ·rcases reach_new hr h with h | h
    ·exact .inl h
    ·exact .inr (.inl ⟨by omega, h⟩)
   ·exact .inr (.inr ⟨.inl h12, h⟩)
 ·split at e
  ·rename_i h13
   rcases reach_new e hj with h | h
   ·exact .inl h
   ·exact .inr (.inr ⟨.inr h13, h⟩)
  ·rename_i h13
   rcases reach_new e hj with h | h
   ·exact .inl h
   ·exact .inr (.inl ⟨h13, h⟩)
theorem go_new {vars : Int} {many : Nat} {H : List Int} : ∀ (xs : List In) (hs : List Int) (i : Nat), goH vars many hs i xs = some H → ∀ j, (H[j]?).getD (-1) ≠ -1 → (hs[j]?).getD (-1) ≠ -1 ∨ ∃ (k : Nat) (x : In), xs[k]? = some x ∧ To x (i + k) j
 | [], hs, i, e, j, hj => by rw [goH] at e; cases e; exact .inl hj
 | x :: xs, hs, i, e, j, hj => by
  rw [goH] at e
  split at e
  ·rcases hs2 : soundI hs x i with ⟨h2, b⟩
   rw [hs2] at e
   cases b with
   | false => cases e
   | true =>
    simp only at e
    rcases go_new xs h2 (i + 1) e j hj with h | ⟨k, y, hy, ht⟩
    ·rcases sound_new hs2 h with h | h
     ·exact .inl h
     ·exact .inr ⟨0, x, rfl, h⟩
    ·exact .inr ⟨k + 1, y, by simpa using hy, by rw [show i + (k + 1) = i + 1 + k by omega]; exact ht⟩
  ·cases e
theorem ver_full {l : List In} {vars : Int} (h : verH l vars = true) : ∃ H : List Int, (H[0]?).getD 0 = 0 ∧ (H[l.length]?).getD 0 = 0 ∧ (∀ (j : Nat) (x : In), l[j]? = some x → Nx H x j ∧ formI x j l.length vars = true) ∧
  ∀ j, 0 < j → j ≤ l.length → ∃ (k : Nat) (x : In), l[k]? = some x ∧ To x k j := by
 have h0 := h
 unfold verH at h
 rw [Bool.and_eq_true, decide_eq_true_eq] at h
 rcases hg : goH vars l.length ((0 : Int) :: List.replicate l.length (-1)) 0 l with _ | H
 ·rw [hg] at h; cases h.2
 ·rw [hg] at h
  obtain ⟨e, r⟩ := go_spec l _ 0 (by simp) (by omega) hg
  have hl : H.length = l.length + 1 := by rw [← e.1]; simp
  have hend := of_decide_eq_true h.2
  refine ⟨H, e.2 0 (by simp) (by simp), hend, fun j x hx => by simpa using r j x hx, fun j h1 h2 => ?_⟩
  have hne : (H[j]?).getD (-1) ≠ -1 := by
   have hj : j < H.length := by omega
   rw [List.getElem?_eq_getElem hj, Option.getD_some]
   by_cases hjl : j < l.length
   ·have := (r j _ (List.getElem?_eq_getElem hjl)).1.1
    rw [Nat.zero_add, List.getElem?_eq_getElem hj, Option.getD_some] at this
    have := tko_pos l[j].op
    omega
   ·obtain rfl : j = l.length := by omega
    rw [List.getElem?_eq_getElem hj, Option.getD_some] at hend
    omega
  rcases go_new l _ 0 hg j hne with h3 | ⟨k, x, hx, ht⟩
  ·exfalso
   apply h3
   cases j with
   | zero => omega
   | succ j => simp [List.getElem?_replicate]; split <;> rfl
  ·exact ⟨k, x, hx, by simpa using ht⟩
theorem to_lt {x : In} {k j : Nat} {many : Nat} {vars : Int} (ht : To x k j) (hf : formI x k many vars = true) : k < j := by
 rcases ht with ⟨-, rfl⟩ | ⟨h, rfl⟩
 ·omega
 ·exact (form_n hf h).1
theorem nx_to {H : List Int} {x : In} {k j : Nat} (hn : Nx H x k) (ht : To x k j) : (H[j]?).getD 0 = (H[k]?).getD 0 - tko x.op + pt x.op := by
 rcases ht with ⟨h, rfl⟩ | ⟨h, rfl⟩
 ·exact hn.2.2.1 h
 ·exact hn.2.2.2 h
theorem heights_eq {l l2 : List In} {H G : List Int} {vars : Int} (hpre : ∀ (j : Nat) (x : In), l[j]? = some x → l2[j]? = some x)
  (h0 : (H[0]?).getD 0 = (G[0]?).getD 0) (hH : ∀ (j : Nat) (x : In), l[j]? = some x → Nx H x j ∧ formI x j l.length vars = true) (hG : ∀ (j : Nat) (x : In), l2[j]? = some x → Nx G x j)
  (hp : ∀ j, 0 < j → j ≤ l.length → ∃ (k : Nat) (x : In), l[k]? = some x ∧ To x k j) : ∀ j, j ≤ l.length → (H[j]?).getD 0 = (G[j]?).getD 0 := by
 intro j
 induction j using Nat.strongRecOn with
 | ind j ih =>
  intro hj
  rcases Nat.eq_zero_or_pos j with rfl | h
  ·exact h0
  ·obtain ⟨k, x, hx, ht⟩ := hp j h hj
   have hk := to_lt ht (hH k x hx).2
   rw [nx_to (hH k x hx).1 ht, nx_to (hG k x (hpre k x hx)) ht, ih k hk (by omega)]
theorem ver_snoc {l : List In} {x : In} {vars : Int} (h : verH l vars = true) (hx : 0 < tko x.op ∨ (x.op ≠ 13 ∧ 0 < pt x.op)) : verH (l ++ [x]) vars = false := by
 rcases h2 : verH (l ++ [x]) vars with _ | _
 ·rfl
 ·exfalso
  obtain ⟨H, a1, a2, a3, a4⟩ := ver_full h
  obtain ⟨G, b1, b2, b3, b4⟩ := ver_full h2
  have hpre : ∀ (j : Nat) (y : In), l[j]? = some y → (l ++ [x])[j]? = some y := fun j y hy => by
   rw [List.getElem?_append_left (List.getElem?_eq_some_iff.1 hy).1]; exact hy
  have he := heights_eq hpre (by rw [a1, b1]) a3 (fun j y hy => (b3 j y hy).1) a4 l.length (Nat.le_refl _)
  have hn := (b3 l.length x (by simp)).1
  rw [a2] at he
  rcases hx with hx | ⟨h13, hx⟩
  ·have := hn.1; omega
  ·have k1 := hn.1
   have k2 := tko_pos x.op
   have k3 := hn.2.2.1 h13
   rw [List.length_append, List.length_singleton] at b2
   omega
theorem ver_form {l : List In} {x : In} {j : Nat} {vars : Int} (hx : l[j]? = some x) (hf : formI x j l.length vars = false) : verH l vars = false := by
 rcases h2 : verH l vars with _ | _
 ·rfl
 ·obtain ⟨H, a1, a2, a3, a4⟩ := ver_full h2
  rw [(a3 j x hx).2] at hf
  cases hf
end K
end Go.Proofs.YtljknappbnoikaaGreatDoor
