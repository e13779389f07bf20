/- Texts of one proof: UxH, UxI, UxJ, UxK. -/
import Derived.Test.YtdlebaiamdbneaaGreatDoorZh
import Derived.Recover
import Derived.Defers
set_option linter.unusedVariables false
set_option linter.unusedSimpArgs false
set_option maxRecDepth 100000
set_option maxHeartbeats 8000000
namespace Go.Proofs.YtdlebaiamdbneaaGreatDoor.U
open Go.RowKit
def resP : Except Int Pw → Pw × Int
 | .ok p => (p, 0)
 | .error er => (⟨0, 0, 0⟩, er)
theorem ta_nil (w : World) : (Instr.typeAssert .nilIface 20 33 true).run Tryz.prog w = .ok (.tuple #[.int .i64 0, .bool false]) w := by
 simp [Instr.typeAssert, go_sem]
theorem ta_err (er : Int) (w : World) : (Instr.typeAssert (.iface 33 (.int .i64 er)) 20 33 true).run Tryz.prog w = .ok (.tuple #[.int .i64 er, .bool true]) w := by
 simp [Instr.typeAssert, go_sem]
theorem inf_idle (p : Addr) (w : World) :
  CallsD Tryz.prog 138 #[.pointer (some p)] .returning w fun e u' w' => e = .returned (.tuple #[]) ∧ u' = .returning ∧ w' = w := by
 refine callsD_of_wpS Tryz.func138 rfl fun c₀ cs hu => ?_
 apply wpS_seq
 apply wpS_region
 simp [wpOpsS, go_sem, recoverD, hu, Tryz.ntmps138, Exit.thenS, ta_nil, Array.replicate_succ]
 refine wpS_of_wp ?_
 go_wp2
 cases c₀
 simp_all [bodyPostS, results, Tryz.results138]
theorem inf_rec (b : Nat) (er : Int) (w : World) (v0 : Value) (hb : w.heap[b]? = some (.cells #[v0] 33 (0, 0))) :
  CallsD Tryz.prog 138 #[.pointer (some ⟨b, 0, none⟩)] (.panicking [{ v := .iface 33 (.int .i64 er), recovered := false }]) w fun e u' w' =>
   e = .returned (.tuple #[]) ∧ u' = .panicking [{ v := .iface 33 (.int .i64 er), recovered := true }] ∧ w' = w.setCell ⟨b, 0, none⟩ (.int .i64 er) := by
 refine callsD_of_wpS Tryz.func138 rfl fun c₀ cs hu => ?_
 apply wpS_seq
 apply wpS_region
 simp [wpOpsS, go_sem, recoverD, hu, Tryz.ntmps138, Exit.thenS, ta_err, Array.replicate_succ]
 refine wpS_of_wp ?_
 obtain ⟨hc, hf⟩ : w.cell? ⟨b, 0, none⟩ = some v0 ∧ w.frozen? ⟨b, 0, none⟩ = false := ⟨by rw [cell_of_row _ _ 0 _ _ (0, 0) hb]; rfl, by simp [World.frozen?, hb]⟩
 have hlt := blkLt hb
 clear hb
 go_wp2
 exact ⟨rfl, _, rfl, .tuple #[], by simp [results, Tryz.results138], rfl, rfl, rfl⟩
theorem infer_any {s : List Pw} (hs : allRg s) (hl : s.length ≤ 12) (t : Ex) (w : World) (A B : Option Addr) (c d : Nat) (hL : LaidW w) (hP : PwsR w s B) (hK : KidsE w t.kids A) (hsz : t.size ≤ 60) :
  Calls Tryz.prog 128 #[.slice B s.length (s.length + d), ev t A c] w (VV (.tuple #[pv (resP (inf s t)).1, .int .i64 (resP (inf s t)).2]) w) := by
 have hmf : ∀ (fn : Fn) (first cap : Array Value) (w : World), (Instr.makeFunc fn first cap).run Tryz.prog w = .ok (.func fn first cap) w := fun _ _ _ _ => rfl
 have HB0 := (((Below.refl w.heap.size w).alloc (Nat.le_refl _) (.cells (eArr t A c) 46)).alloc (by simp) (.cells (pArr ⟨0, 0, 0⟩) 120)).alloc (by simp <;> omega) (.cells #[.int .i64 0] 33)
 have HP0 : Hid ((((w.alloc (.cells (eArr t A c) 46)).alloc (.cells (pArr ⟨0, 0, 0⟩) 120)).alloc (.cells #[.int .i64 0] 33)).heap[w.heap.size + 1]? = some (.cells (pArr ⟨0, 0, 0⟩) 120 (0, 0))) :=
  Lib.hid ((Below.heap_alloc _ _ _ (by simp)).trans (newBlk _ _ _ (by simp)))
 have HE0 : Hid ((((w.alloc (.cells (eArr t A c) 46)).alloc (.cells (pArr ⟨0, 0, 0⟩) 120)).alloc (.cells #[.int .i64 0] 33)).heap[w.heap.size + 1 + 1]? = some (.cells #[.int .i64 0] 33 (0, 0))) :=
  Lib.hid (newBlk _ _ _ (by simp))
 have HI := Lib.hid (expr_any hs hl t _ A B c d (hL.below HB0) (hP.below HB0) (hK.below HB0) hsz)
 have HB0 := Lib.hid HB0
 obtain ⟨r, hr⟩ : ∃ r, inf s t = r := ⟨_, rfl⟩
 rw [hr] at HI ⊢
 clear hr hL hP hK hs hl hsz
 go_enter_defers Tryz.func128, Tryz.ntmps128
 go_wp2_with fail
 refine HI.out.mono ?_
 rintro e w1 ⟨he, hb1⟩
 have hP1 := Lib.hid ((hb1.block (w.heap.size + 1) (by simp <;> omega)).trans HP0.out)
 have hE1 := Lib.hid ((hb1.block (w.heap.size + 1 + 1) (by simp)).trans HE0.out)
 have hW1 := Lib.hid (HB0.out.trans (hb1.mono (by simp <;> omega)))
 clear hb1 HP0 HE0 HB0 HI
 have hx1 := blkLt hE1.out
 rcases r with er | p
 ·simp only at he
  subst he
  go_wp2
  refine leaves_cons (f := 138) (args := #[.pointer (some ⟨w.heap.size + 1 + 1, 0, none⟩)]) (by simp) (by simp [go_sem]) ?_
  refine (inf_rec (w.heap.size + 1 + 1) er w1 _ hE1.out).mono ?_
  rintro e u' w'' ⟨rfl, rfl, rfl⟩
  obtain ⟨⟨c0, c1, c2⟩, -⟩ := cells3 hP1.out
  have f0 : (w1.setCell ⟨w.heap.size + 1 + 1, 0, none⟩ (.int .i64 er)).cell? ⟨w.heap.size + 1 + 1, 0, none⟩ = some (.int .i64 er) := World.cell?_setCell_same _ _ _ (u := .int .i64 0) (by rw [cell_of_row _ _ 0 _ _ (0, 0) hE1.out]; rfl)
  have hF := Lib.hid (belowSet (u := .int .i64 er) (i := 0) hW1.out (show w.heap.size ≤ w.heap.size + 1 + 1 by omega))
  simp [Leaves, settle, results, Tryz.results128, go_sem, c0, c1, c2, f0]
  exact ⟨rfl, hF.out⟩
 ·simp only at he
  subst he
  obtain ⟨⟨c0, c1, c2⟩, d0, d1, d2⟩ := cells3 hP1.out
  have e0 : w1.cell? ⟨w.heap.size + 1 + 1, 0, none⟩ = some (.int .i64 0) := by rw [cell_of_row _ _ 0 _ _ (0, 0) hE1.out]; rfl
  have e1 : w1.frozen? ⟨w.heap.size + 1 + 1, 0, none⟩ = false := by simp [World.frozen?, hE1.out]
  go_wp2
  refine leaves_cons (f := 138) (args := #[.pointer (some ⟨w.heap.size + 1 + 1, 0, none⟩)]) (by simp) (by simp [go_sem]) ?_
  refine (inf_idle _ _).mono ?_
  rintro e u' w'' ⟨rfl, rfl, rfl⟩
  obtain ⟨f0, f1, f2⟩ := res3 (x := .int .i64 p.a) (y := .int .i64 p.b) (z := .int .i64 p.c) hP1.out
  have f3 : ((((w1.setCell ⟨w.heap.size + 1, 0, none⟩ (.int .i64 p.a)).setCell ⟨w.heap.size + 1, 1, none⟩ (.int .i64 p.b)).setCell ⟨w.heap.size + 1, 2, none⟩ (.int .i64 p.c)).setCell ⟨w.heap.size + 1 + 1, 0, none⟩ (.int .i64 0)).cell? ⟨w.heap.size + 1 + 1, 0, none⟩ = some (.int .i64 0) := World.cell?_setCell_same _ _ _ (u := .int .i64 0) (by rw [cell_of_row _ _ 0 _ _ (0, 0) ((heap_setCell_other _ _ _ _ (by simp)).trans ((heap_setCell_other _ _ _ _ (by simp)).trans ((heap_setCell_other _ _ _ _ (by simp)).trans hE1.out)))]; rfl)
  have hF := Lib.hid (belowSet (u := .int .i64 0) (i := 0) (below3 (v0 := .int .i64 p.a) (v1 := .int .i64 p.b) (v2 := .int .i64 p.c) hW1.out (Nat.le_add_right w.heap.size 1)) (show w.heap.size ≤ w.heap.size + 1 + 1 by omega))
  simp [Leaves, settle, results, Tryz.results128, go_sem, f0, f1, f2, f3]
  exact ⟨rfl, hF.out⟩
end Go.Proofs.YtdlebaiamdbneaaGreatDoor.U
namespace Go.Proofs.YtdlebaiamdbneaaGreatDoor.U
open Go.RowKit
theorem scopeM_rg {us : List Int} {s : List Pw} (h : scopeM us = some s) : allRg s ∧ s.length ≤ 12 ∧ s = us.map kindP := by
 unfold scopeM at h
 split at h
 ·rename_i hc
  simp only [Option.some.injEq] at h
  subst h
  exact ⟨kinds_rg us, by simpa using hc.1, rfl⟩
 ·simp at h
end Go.Proofs.YtdlebaiamdbneaaGreatDoor.U
namespace Go.Proofs.YtdlebaiamdbneaaGreatDoor.U
open Go.RowKit
inductive St where
 | mk (kind var rel : Int) (a b : Ex) (th el : List St)
def St.kind : St → Int | .mk k _ _ _ _ _ _ => k
def St.var : St → Int | .mk _ v _ _ _ _ _ => v
def St.rel : St → Int | .mk _ _ r _ _ _ _ => r
def St.a : St → Ex | .mk _ _ _ a _ _ _ => a
def St.b : St → Ex | .mk _ _ _ _ b _ _ => b
def St.th : St → List St | .mk _ _ _ _ _ t _ => t
def St.el : St → List St | .mk _ _ _ _ _ _ e => e
def okS (k : Int) (a b : Ex) (n : Int) : Bool := decide (0 ≤ n) && (!decide (60 < a.size) && (!decide (k = 2) || !decide (60 < b.size)))
mutual
def evS : St → Int → Bool × Int
 | .mk k v r a b th el, n =>
  if okS k a b (n - 1) = true then (if k = 2 then (match evL th (n - 1) with | (true, m) => evL el m | (false, m) => (false, m)) else (true, n - 1)) else (false, n - 1)
def evL : List St → Int → Bool × Int
 | [], n => (true, n)
 | x :: xs, n => match evS x n with | (true, m) => evL xs m | (false, m) => (false, m)
end
mutual
theorem evS_range : ∀ (x : St) (n : Int), 0 ≤ n → -1 ≤ (evS x n).2 ∧ (evS x n).2 ≤ n ∧ ((evS x n).1 = true → 0 ≤ (evS x n).2)
 | .mk k v r a b th el, n, h => by
  rw [evS]
  by_cases ho : okS k a b (n - 1) = true
  ·have h1 : 0 ≤ n - 1 := by simp [okS] at ho; omega
   rw [if_pos ho]
   by_cases hk : k = 2
   ·rw [if_pos hk]
    have h2 := evL_range th (n - 1) h1
    rcases he : evL th (n - 1) with ⟨b1, m⟩
    rw [he] at h2
    cases b1 with
    | false => simp only at h2 ⊢; exact ⟨h2.1, by omega, by simp⟩
    | true =>
     simp only at h2 ⊢
     have h3 := evL_range el m (h2.2.2 trivial)
     exact ⟨h3.1, by omega, h3.2.2⟩
   ·rw [if_neg hk]
    exact ⟨by simp only; omega, by simp only; omega, fun _ => h1⟩
  ·rw [if_neg ho]
   exact ⟨by simp only; omega, by simp only; omega, by simp⟩
theorem evL_range : ∀ (l : List St) (n : Int), 0 ≤ n → -1 ≤ (evL l n).2 ∧ (evL l n).2 ≤ n ∧ ((evL l n).1 = true → 0 ≤ (evL l n).2)
 | [], n, h => by rw [evL]; exact ⟨by simp only; omega, by simp, fun _ => h⟩
 | x :: xs, n, h => by
  rw [evL]
  have h2 := evS_range x n h
  rcases he : evS x n with ⟨b1, m⟩
  rw [he] at h2
  cases b1 with
  | false => simp only at h2 ⊢; exact ⟨h2.1, by omega, by simp⟩
  | true =>
   simp only at h2 ⊢
   have h3 := evL_range xs m (h2.2.2 trivial)
   exact ⟨h3.1, by omega, h3.2.2⟩
end
mutual
def szS : St → Prop
 | .mk k v r a b th el => a.size ≤ 60 ∧ (k = 2 → b.size ≤ 60 ∧ szL th ∧ szL el)
def szL : List St → Prop
 | [] => True
 | x :: xs => szS x ∧ szL xs
end
mutual
theorem evS_sz : ∀ (x : St) (n : Int), (evS x n).1 = true → szS x
 | .mk k v r a b th el, n, h => by
  rw [evS] at h
  rw [szS]
  by_cases ho : okS k a b (n - 1) = true
  ·rw [if_pos ho] at h
   simp [okS] at ho
   refine ⟨ho.2.1, fun hk => ?_⟩
   rw [if_pos hk] at h
   rcases he : evL th (n - 1) with ⟨b1, m⟩
   rw [he] at h
   cases b1 with
   | false => simp at h
   | true =>
    simp only at h
    exact ⟨by rcases ho.2.2 with h1 | h1 <;> first | exact h1 | exact absurd hk h1, evL_sz th (n - 1) (by rw [he]), evL_sz el m h⟩
  ·rw [if_neg ho] at h
   simp at h
theorem evL_sz : ∀ (l : List St) (n : Int), (evL l n).1 = true → szL l
 | [], n, h => trivial
 | x :: xs, n, h => by
  rw [evL] at h
  rw [szL]
  rcases he : evS x n with ⟨b1, m⟩
  rw [he] at h
  cases b1 with
  | false => simp at h
  | true => simp only at h; exact ⟨evS_sz x n (by rw [he]), evL_sz xs m h⟩
end
theorem szL_mem : ∀ {l : List St} {x : St}, x ∈ l → szL l → szS x
 | [], x, h, _ => by cases h
 | y :: ys, x, h, hs => by
  rw [szL] at hs
  rcases List.mem_cons.1 h with rfl | h
  ·exact hs.1
  ·exact szL_mem h hs.2
def assignM (s : List Pw) (v : Int) (a : Ex) : Int :=
 if btw v 0 ((s.length : Int) - 1) = true then (match inf s a with | .error e => e | .ok p => if p = s.getD v.toNat ⟨0, 0, 0⟩ then 0 else 13) else 1
def cmpM (s : List Pw) (a b : Ex) : Int :=
 match inf s a with
 | .error e => e
 | .ok p => match inf s b with
  | .error e => e
  | .ok q => if p = q then 0 else 13
mutual
def stM (s : List Pw) : St → Int
 | .mk k v r a b th el =>
  if k = 1 then assignM s v a
  else if k = 2 then (if btw r 1 6 = true then (if cmpM s a b = 0 then (if stsM s th = 0 then stsM s el else stsM s th) else cmpM s a b) else 1)
  else 1
def stsM (s : List Pw) : List St → Int
 | [] => 0
 | x :: xs => if stM s x = 0 then stsM s xs else stM s x
end
def handM (s : List Pw) (l : List St) : Int := if (evL l 100).1 = true then stsM s l else 2
mutual
theorem inf_err {s : List Pw} : ∀ (t : Ex) {e : Int}, inf s t = .error e → e = 1 ∨ e = 13
 | .mk op n u ks, e, h => by
  rw [inf] at h
  rcases hk : infK s ks with er | ps <;> rw [hk] at h <;> simp only at h
  ·simp only [Except.error.injEq] at h
   subst h
   exact infK_err ks hk
  ·unfold nodeP at h
   split at h
   ·split at h
    ·simp at h
    ·split at h
     ·simp at h
     ·split at h
      ·simp at h
      ·unfold twoP at h
       have hl : ∀ p : Pw, limP p = .error e → e = 1 ∨ e = 13 := fun p hp => by
        unfold limP at hp
        split at hp <;> simp at hp
        exact .inr hp.symm
       split at h
       ·exact hl _ h
       ·split at h
        ·exact hl _ h
        ·split at h <;> simp at h
         exact .inr h.symm
   ·simp at h
    exact .inl h.symm
theorem infK_err {s : List Pw} : ∀ (ks : List Ex) {e : Int}, infK s ks = .error e → e = 1 ∨ e = 13
 | [], e, h => by simp [infK] at h
 | k :: ks, e, h => by
  simp only [infK] at h
  rcases hk : inf s k with er | p <;> rw [hk] at h <;> simp only at h
  ·simp only [Except.error.injEq] at h
   subst h
   exact inf_err k hk
  ·rcases hks : infK s ks with er | qs <;> rw [hks] at h <;> simp at h
   subst h
   exact infK_err ks hks
end
abbrev sv (x : St) (A : Option Addr) (c : Nat) (B : Option Addr) (d : Nat) (T : Option Addr) (m : Nat) (E : Option Addr) (n : Nat) : Value :=
 .agg #[.int .i64 x.kind, .int .i64 x.var, .int .i64 x.rel, .int .i64 x.a.op, .int .i64 x.a.n, .int .i64 x.a.unit, .slice A x.a.kids.length (x.a.kids.length + c), .int .i64 x.b.op, .int .i64 x.b.n, .int .i64 x.b.unit, .slice B x.b.kids.length (x.b.kids.length + d), .slice T x.th.length m, .slice E x.el.length n]
abbrev sArr (x : St) (A : Option Addr) (c : Nat) (B : Option Addr) (d : Nat) (T : Option Addr) (m : Nat) (E : Option Addr) (n : Nat) : Array Value :=
 #[.int .i64 x.kind, .int .i64 x.var, .int .i64 x.rel, .int .i64 x.a.op, .int .i64 x.a.n, .int .i64 x.a.unit, .slice A x.a.kids.length (x.a.kids.length + c), .int .i64 x.b.op, .int .i64 x.b.n, .int .i64 x.b.unit, .slice B x.b.kids.length (x.b.kids.length + d), .slice T x.th.length m, .slice E x.el.length n]
def StAt (w : World) (x : St) (g o : Nat) (A : Option Addr) (c : Nat) (B : Option Addr) (d : Nat) (T : Option Addr) (m : Nat) (E : Option Addr) (n : Nat) : Prop :=
 w.cell? ⟨g, o, none⟩ = some (.int .i64 x.kind) ∧ w.cell? ⟨g, o + 1, none⟩ = some (.int .i64 x.var) ∧ w.cell? ⟨g, o + 2, none⟩ = some (.int .i64 x.rel) ∧
 w.cell? ⟨g, o + 3, none⟩ = some (.int .i64 x.a.op) ∧ w.cell? ⟨g, o + 4, none⟩ = some (.int .i64 x.a.n) ∧ w.cell? ⟨g, o + 5, none⟩ = some (.int .i64 x.a.unit) ∧ w.cell? ⟨g, o + 6, none⟩ = some (.slice A x.a.kids.length (x.a.kids.length + c)) ∧
 w.cell? ⟨g, o + 7, none⟩ = some (.int .i64 x.b.op) ∧ w.cell? ⟨g, o + 8, none⟩ = some (.int .i64 x.b.n) ∧ w.cell? ⟨g, o + 9, none⟩ = some (.int .i64 x.b.unit) ∧ w.cell? ⟨g, o + 10, none⟩ = some (.slice B x.b.kids.length (x.b.kids.length + d)) ∧
 w.cell? ⟨g, o + 11, none⟩ = some (.slice T x.th.length m) ∧ w.cell? ⟨g, o + 12, none⟩ = some (.slice E x.el.length n)
mutual
def StsR (w : World) : List St → Option Addr → Prop
 | [], _ => True
 | t :: ts, A => ∃ g o, A = some ⟨g, o, none⟩ ∧ StR w t g o ∧ StsR w ts (some ⟨g, o + 13, none⟩)
def StR (w : World) : St → Nat → Nat → Prop
 | .mk k v r a b th el, g, o => ∃ A c B d T m E n, StAt w (.mk k v r a b th el) g o A c B d T m E n ∧ KidsE w a.kids A ∧ KidsE w b.kids B ∧ StsR w th T ∧ StsR w el E ∧ th.length ≤ maxLen ∧ el.length ≤ maxLen
end
theorem StAt.keep {w w' : World} {x : St} {g o : Nat} {A B T E : Option Addr} {c d m n : Nat} (h : StAt w x g o A c B d T m E n) (hb : w'.heap[g]? = w.heap[g]?) : StAt w' x g o A c B d T m E n := by
 have e : ∀ i, w'.cell? ⟨g, i, none⟩ = w.cell? ⟨g, i, none⟩ := fun i => World.cell?_of_block (a := ⟨g, i, none⟩) hb
 unfold StAt
 simp only [e]
 exact h
theorem StR.cells {w : World} {x : St} {g o : Nat} (h : StR w x g o) : ∃ A c B d T m E n, StAt w x g o A c B d T m E n ∧ KidsE w x.a.kids A ∧ KidsE w x.b.kids B ∧ StsR w x.th T ∧ StsR w x.el E ∧ x.th.length ≤ maxLen ∧ x.el.length ≤ maxLen := by
 obtain ⟨k, v, r, a, b, th, el⟩ := x
 unfold StR at h
 exact h
theorem StsR.get {w : World} : ∀ (ts : List St) (g o : Nat), StsR w ts (some ⟨g, o, none⟩) → ∀ (i : Nat) (t : St), ts[i]? = some t → StR w t g (o + i * 13)
 | [], g, o, h, i, t, ht => by simp at ht
 | u :: us, g, o, h, i, t, ht => by
  unfold StsR at h
  obtain ⟨g', o', hA, h1, h2⟩ := h
  cases hA
  cases i with
  | zero => simp at ht; subst ht; simpa using h1
  | succ i =>
   have := StsR.get us g (o + 13) h2 i t (by simpa using ht)
   rw [show o + (i + 1) * 13 = o + 13 + i * 13 by omega]
   exact this
theorem StsR.addr {w : World} {ts : List St} {A : Option Addr} (h : StsR w ts A) (hn : 0 < ts.length) : ∃ g o, A = some ⟨g, o, none⟩ := by
 cases ts with
 | nil => simp at hn
 | cons t ts => unfold StsR at h; obtain ⟨g, o, hA, _⟩ := h; exact ⟨g, o, hA⟩
mutual
theorem StsR.keep {w w' : World} (hb : ∀ k, k < w.heap.size → w'.heap[k]? = w.heap[k]?) : ∀ (ts : List St) (A : Option Addr), StsR w ts A → StsR w' ts A
 | [], _, _ => trivial
 | t :: ts, A, h => by
  unfold StsR at h ⊢
  obtain ⟨g, o, hA, h1, h2⟩ := h
  exact ⟨g, o, hA, StR.keep hb t g o h1, StsR.keep hb ts _ h2⟩
theorem StR.keep {w w' : World} (hb : ∀ k, k < w.heap.size → w'.heap[k]? = w.heap[k]?) : ∀ (t : St) (g o : Nat), StR w t g o → StR w' t g o
 | .mk k v r a b th el, g, o, h => by
  unfold StR at h ⊢
  obtain ⟨A, c, B, d, T, m, E, n, h0, h1, h2, h3, h4, h5⟩ := h
  exact ⟨A, c, B, d, T, m, E, n, h0.keep (hb g (World.block_lt_of_cell? w _ h0.1)), h1.keep hb _ _, h2.keep hb _ _, StsR.keep hb th T h3, StsR.keep hb el E h4, h5⟩
end
theorem StsR.below {w w' : World} {ts : List St} {A : Option Addr} (h : StsR w ts A) (hb : Below w.heap.size w w') : StsR w' ts A := h.keep hb.block ts A
structure KpL (L : Nat) (w w' : World) : Prop where
 os : w'.os = w.os
 tape : w'.tape = w.tape
 output : w'.output = w.output
 size : w.heap.size ≤ w'.heap.size
 block : ∀ k, k < w.heap.size → k ≠ L → w'.heap[k]? = w.heap[k]?
theorem KpL.refl (L : Nat) (w : World) : KpL L w w := ⟨rfl, rfl, rfl, Nat.le_refl _, fun _ _ _ => rfl⟩
theorem KpL.trans {L : Nat} {a b c : World} (h : KpL L a b) (k : KpL L b c) : KpL L a c :=
 ⟨k.os.trans h.os, k.tape.trans h.tape, k.output.trans h.output, Nat.le_trans h.size k.size, fun i hi h1 => (k.block i (Nat.lt_of_lt_of_le hi h.size) h1).trans (h.block i hi h1)⟩
theorem Below.kpl {L : Nat} {a b : World} (h : Below a.heap.size a b) : KpL L a b := ⟨h.os, h.tape, h.output, h.size, fun i hi _ => h.block i hi⟩
theorem KpL.alloc {L : Nat} {a b : World} (h : KpL L a b) (o : Obj) : KpL L a (b.alloc o) := h.trans (Below.kpl ((Below.refl _ _).alloc (Nat.le_refl _) _))
theorem KpL.set {L i : Nat} {a b : World} (h : KpL L a b) (v : Value) : KpL L a (b.setCell ⟨L, i, none⟩ v) :=
 ⟨h.os, h.tape, h.output, by simpa using h.size, fun k hk h1 => (heap_setCell_other b _ k v h1).trans (h.block k hk h1)⟩
theorem KpL.below {L B : Nat} {w0 a b : World} (h0 : Below B w0 a) (h : KpL L a b) (hB : B ≤ a.heap.size) (hL : B ≤ L) : Below B w0 b :=
 h0.trans ⟨h.os, h.tape, h.output, h.size, fun i hi => h.block i (by omega) (by omega)⟩
end Go.Proofs.YtdlebaiamdbneaaGreatDoor.U
namespace Go.Proofs.YtdlebaiamdbneaaGreatDoor.U
open Go.RowKit
theorem cells13 {w : World} {b : Nat} {v0 v1 v2 v3 v4 v5 v6 v7 v8 v9 v10 v11 v12 : Value} {T : TypeId} (h : w.heap[b]? = some (.cells #[v0, v1, v2, v3, v4, v5, v6, v7, v8, v9, v10, v11, v12] T (0, 0))) :
  w.cell? ⟨b, 0, none⟩ = some v0 ∧ w.cell? ⟨b, 1, none⟩ = some v1 ∧ w.cell? ⟨b, 2, none⟩ = some v2 ∧ w.cell? ⟨b, 3, none⟩ = some v3 ∧ w.cell? ⟨b, 4, none⟩ = some v4 ∧ w.cell? ⟨b, 5, none⟩ = some v5 ∧ w.cell? ⟨b, 6, none⟩ = some v6 ∧
  w.cell? ⟨b, 7, none⟩ = some v7 ∧ w.cell? ⟨b, 8, none⟩ = some v8 ∧ w.cell? ⟨b, 9, none⟩ = some v9 ∧ w.cell? ⟨b, 10, none⟩ = some v10 ∧ w.cell? ⟨b, 11, none⟩ = some v11 ∧ w.cell? ⟨b, 12, none⟩ = some v12 := by
 have e : ∀ j, w.cell? ⟨b, j, none⟩ = (#[v0, v1, v2, v3, v4, v5, v6, v7, v8, v9, v10, v11, v12] : Array Value)[j]? := fun j => cell_of_row _ _ j _ _ (0, 0) h
 exact ⟨e 0, e 1, e 2, e 3, e 4, e 5, e 6, e 7, e 8, e 9, e 10, e 11, e 12⟩
theorem cell1 {w : World} {b : Nat} {v : Value} {T : TypeId} (h : w.heap[b]? = some (.cells #[v] T (0, 0))) : w.cell? ⟨b, 0, none⟩ = some v ∧ w.frozen? ⟨b, 0, none⟩ = false :=
 ⟨by rw [cell_of_row _ _ 0 _ _ (0, 0) h]; rfl, by simp [World.frozen?, h]⟩
theorem set1 {w : World} {b : Nat} {v u : Value} {T : TypeId} (h : w.heap[b]? = some (.cells #[v] T (0, 0))) : (w.setCell ⟨b, 0, none⟩ u).heap[b]? = some (.cells #[u] T (0, 0)) := by
 rw [heap_setCell_same _ _ _ _ _ _ h]; rfl
def LeftP (L : Nat) (r : Bool × Int) (w : World) (e : Ending) (w' : World) : Prop := e = .returned (.bool r.1) ∧ w'.heap[L]? = some (.cells #[.int .i64 r.2] 3 (0, 0)) ∧ KpL L w w'
theorem clo_any (x : St) (A B T E : Option Addr) (c d m n L : Nat) (left : Int) (hl0 : 0 ≤ left) (hl1 : left ≤ 100) (W0 w : World) (hb0 : Below W0.heap.size W0 w) (hLW : W0.heap.size ≤ L) (hLb : w.heap[L]? = some (.cells #[.int .i64 left] 3 (0, 0)))
  (hA : KidsE W0 x.a.kids A) (hB : KidsE W0 x.b.kids B) : Calls Tryz.prog 93 #[sv x A c B d T m E n, .pointer (some ⟨L, 0, none⟩)] w (LeftP L (okS x.kind x.a x.b (left - 1), left - 1) w) := by
 have HA := Lib.hid (fun wx (h : Below W0.heap.size W0 wx) => isLong_any x.a wx A c (hA.below h))
 have HB := Lib.hid (fun wx (h : Below W0.heap.size W0 wx) => isLong_any x.b wx B d (hB.below h))
 have hxL := blkLt hLb
 have q0 : IntKind.i64.wrap (left - 1) = left - 1 := IntWalk.i64_in _ (by omega)
 have hW1 : Hid (Below W0.heap.size W0 ((w.setCell ⟨L, 0, none⟩ (.int .i64 (left - 1))).alloc (.cells (sArr x A c B d T m E n) 65))) := Lib.hid ((belowSet hb0 hLW).alloc (by simpa using hb0.size) _)
 have hK1 : Hid (KpL L w ((w.setCell ⟨L, 0, none⟩ (.int .i64 (left - 1))).alloc (.cells (sArr x A c B d T m E n) 65))) := Lib.hid (((KpL.refl L w).set _).alloc _)
 have hL1 : Hid (((w.setCell ⟨L, 0, none⟩ (.int .i64 (left - 1))).alloc (.cells (sArr x A c B d T m E n) 65)).heap[L]? = some (.cells #[.int .i64 (left - 1)] 3 (0, 0))) := Lib.hid ((Below.heap_alloc _ _ _ (by simpa using hxL)).trans (set1 hLb))
 have hS1 : Hid (((w.setCell ⟨L, 0, none⟩ (.int .i64 (left - 1))).alloc (.cells (sArr x A c B d T m E n) 65)).heap[w.heap.size]? = some (.cells (sArr x A c B d T m E n) 65 (0, 0))) := Lib.hid (newBlk _ _ _ (by simp))
 obtain ⟨l0, l1⟩ := cell1 hLb
 unfold okS
 generalize hla : decide (60 < x.a.size) = la at *
 generalize hlb : decide (60 < x.b.size) = lb at *
 have hcell := (cell1 hL1.out).1
 have hxs := blkLt hS1.out
 have hxl := blkLt hL1.out
 obtain ⟨s0, s1, s2, s3, s4, s5, s6, s7, s8, s9, s10, s11, s12⟩ := cells13 hS1.out
 clear hA hB hLb hb0 hla hlb s1 s2 s11 s12
 go_enter Tryz.func93, Tryz.ntmps93
 go_wp2_with (go_at_call 94; first
  | (refine (HA.out _ hW1.out).mono ?_; rintro e w1 ⟨rfl, hb1⟩; have hW2 := Lib.hid (hW1.out.trans (hb1.mono hW1.out.size)); have hK2 := Lib.hid (hK1.out.trans (Below.kpl hb1)); have hL2 := Lib.hid ((hb1.block _ hxl).trans hL1.out); have hS2 := Lib.hid ((hb1.block _ hxs).trans hS1.out); clear hb1 s0 s3 s4 s5 s6 s7 s8 s9 s10; obtain ⟨s0, s1, s2, s3, s4, s5, s6, s7, s8, s9, s10, s11, s12⟩ := cells13 hS2.out; clear s1 s2 s11 s12; have hxs2 := blkLt hS2.out; have hxl2 := blkLt hL2.out)
  | (refine (HB.out _ hW2.out).mono ?_; rintro e w2 ⟨rfl, hb2⟩; have hK3 := Lib.hid (hK2.out.trans (Below.kpl hb2)); have hL3 := Lib.hid ((hb2.block _ hxl2).trans hL2.out); clear hb2))
 all_goals
  go_ret
  refine ⟨?_, by first | exact hL3.out | exact hL2.out | exact hL1.out, by first | exact hK3.out | exact hK2.out | exact hK1.out⟩
  simp [*]
 all_goals
  intro h9
  omega
theorem evS_eq (x : St) (n : Int) : evS x n = if okS x.kind x.a x.b (n - 1) = true then (if x.kind = 2 then (match evL x.th (n - 1) with | (true, m) => evL x.el m | (false, m) => (false, m)) else (true, n - 1)) else (false, n - 1) := by
 cases x
 rw [evS]
 rfl
theorem LeftP.mk' {L : Nat} {r : Bool × Int} {b : Bool} {z : Int} {w w' : World} (hr : (b, z) = r) (h : w'.heap[L]? = some (.cells #[.int .i64 z] 3 (0, 0))) (hk : KpL L w w') : LeftP L r w (.returned (.bool b)) w' := by
 subst hr
 exact ⟨rfl, h, hk⟩
def EvC (l : List St) : Prop := ∀ (W0 w : World) (A : Option Addr) (m L : Nat) (left : Int), 0 ≤ left → left ≤ 100 → Below W0.heap.size W0 w → W0.heap.size ≤ L → w.heap[L]? = some (.cells #[.int .i64 left] 3 (0, 0)) → StsR W0 l A → l.length ≤ maxLen →
 Calls Tryz.prog 92 #[.slice A l.length m, .func (.func 93) #[] #[.pointer (some ⟨L, 0, none⟩)]] w (LeftP L (evL l left) w)
theorem every_step (l : List St) (ih : ∀ x ∈ l, EvC x.th ∧ EvC x.el) : EvC l := by
 intro W0 w A m L left hl0 hl1 hb0 hLW hLb hR hlen
 obtain ⟨r, hr⟩ : ∃ r, evL l left = r := ⟨_, rfl⟩
 rw [hr]
 have HR := Lib.hid hr
 have IH := Lib.hid ih
 have HS := Lib.hid hR
 have HB0 := Lib.hid hb0
 have HL0 := Lib.hid hLb
 have hxL := blkLt hLb
 have hsz := hb0.size
 clear hr ih hR hLb hb0
 unfold maxLen at hlen
 go_enter Tryz.func92, Tryz.ntmps92
 go_wp2_with fail
 go_loopg [9] (l.length) (fun gk i wr => ∃ (k : Nat) (lv : Int), k + gk = l.length ∧ i = .int .i64 k ∧ 0 ≤ lv ∧ lv ≤ 100 ∧ Hid (evL (l.drop k) lv = r) ∧ Hid (wr.heap[L]? = some (.cells #[.int .i64 lv] 3 (0, 0))) ∧ Hid (KpL L w wr))
 case atStart => exact ⟨0, left, by omega, rfl, hl0, hl1, HR, HL0, Lib.hid (KpL.refl _ _)⟩
 case round =>
  obtain ⟨k, lv, hk, rfl, hv0, hv1, hE, hLb, hK⟩ := hrel
  have hxl := blkLt hLb.out
  by_cases hlt : k < l.length
  ·obtain ⟨g, rfl⟩ : ∃ g, gk = g + 1 := ⟨gk - 1, by omega⟩
   have hBr := KpL.below HB0.out hK.out hsz hLW
   have hSr := HS.out.below hBr
   obtain ⟨ga, oa, rfl⟩ := hSr.addr (by omega)
   have hS0 := (HS.out.get _ _ _ k _ (List.getElem?_eq_getElem hlt)).cells
   have hmem : l[k] ∈ l := List.getElem_mem hlt
   have hI := IH.out _ hmem
   have hE1 := hE.out
   rw [List.drop_eq_getElem_cons hlt, evL] at hE1
   clear hmem hE hSr
   generalize l[k] = x at *
   obtain ⟨A1, c1, B1, d1, T1, m1, E1, n1, hat0, hKa, hKb, hTh, hEl0, hlt1, hlt2⟩ := hS0
   have hat := hat0.keep (hBr.block ga (World.block_lt_of_cell? _ _ hat0.1))
   obtain ⟨s0, s1, s2, s3, s4, s5, s6, s7, s8, s9, s10, s11, s12⟩ := hat
   have hB1 : Hid (Below W0.heap.size W0 (wr.alloc (.cells (sArr x A1 c1 B1 d1 T1 m1 E1 n1) 65))) := Lib.hid (hBr.alloc hBr.size _)
   have hK1 : Hid (KpL L w (wr.alloc (.cells (sArr x A1 c1 B1 d1 T1 m1 E1 n1) 65))) := Lib.hid (hK.out.alloc _)
   have hL1 := (Below.heap_alloc wr (.cells (sArr x A1 c1 B1 d1 T1 m1 E1 n1) 65) L hxl).trans hLb.out
   have hX1 : Hid ((wr.alloc (.cells (sArr x A1 c1 B1 d1 T1 m1 E1 n1) 65)).heap[wr.heap.size]? = some (.cells (sArr x A1 c1 B1 d1 T1 m1 E1 n1) 65 (0, 0))) := Lib.hid (newBlk _ _ _ rfl)
   have hxX := blkLt hX1.out
   have hne : wr.heap.size ≠ L := by omega
   have HC := Lib.hid (clo_any x A1 B1 T1 E1 c1 d1 m1 n1 L lv hv0 hv1 W0 (wr.alloc (.cells (sArr x A1 c1 B1 d1 T1 m1 E1 n1) 65)) hB1.out hLW hL1 hKa hKb)
   have hTH := Lib.hid hTh
   have hEL := Lib.hid hEl0
   have hT := Lib.hid hI.1
   have hEl := Lib.hid hI.2
   rw [evS_eq] at hE1
   clear hat0 hKa hKb hTh hEl0 hBr hI hL1
   cases hok : okS x.kind x.a x.b (lv - 1) with
   | false =>
    rw [hok] at HC hE1
    have hF : Hid ((false, lv - 1) = r) := Lib.hid (by simpa using hE1)
    clear hok hE1
    go_wp2_with (go_at_call 93; refine HC.out.mono ?_; rintro e w1 ⟨rfl, hL2, hK2⟩; have hL2 := Lib.hid hL2; have hKw2 := Lib.hid (hK1.out.trans hK2); have hB2 := Lib.hid (KpL.below hB1.out hK2 hB1.out.size hLW); have hX2 := Lib.hid ((hK2.block _ hxX hne).trans hX1.out); obtain ⟨x0, x1, x2, x3, x4, x5, x6, x7, x8, x9, x10, x11, x12⟩ := cells13 hX2.out; have hxX2 := blkLt hX2.out; have hxL2 := blkLt hL2.out; clear hK2 x1 x2 x3 x4 x5 x6 x7 x8 x9 x10 s0 s1 s2 s3 s4 s5 s6 s7 s8 s9 s10 s11 s12)
    go_ret
    exact LeftP.mk' hF.out hL2.out hKw2.out
   | true =>
    rw [hok] at HC
    have hlv : 0 ≤ lv - 1 := by simp [okS] at hok; omega
    rw [hok, if_pos rfl] at hE1
    clear hok
    by_cases hkd : x.kind = 2
    ·rw [if_pos hkd] at hE1
     have HKD := Lib.hid hkd
     clear hkd
     rcases hev : evL x.th (lv - 1) with ⟨b1, m2⟩
     have hrange := evL_range x.th (lv - 1) hlv
     rw [hev] at hE1 hrange
     have hev := Lib.hid hev
     cases b1 with
     | false =>
      have hF : Hid ((false, m2) = r) := hE1
      clear hE1
      go_wp2_with (first
       | (go_at_call 93; refine HC.out.mono ?_; rintro e w1 ⟨rfl, hL2, hK2⟩; have hL2 := Lib.hid hL2; have hKw2 := Lib.hid (hK1.out.trans hK2); have hB2 := Lib.hid (KpL.below hB1.out hK2 hB1.out.size hLW); have hX2 := Lib.hid ((hK2.block _ hxX hne).trans hX1.out); obtain ⟨x0, x1, x2, x3, x4, x5, x6, x7, x8, x9, x10, x11, x12⟩ := cells13 hX2.out; rw [HKD.out] at x0; have hxX2 := blkLt hX2.out; have hxL2 := blkLt hL2.out; clear hK2 x1 x2 x3 x4 x5 x6 x7 x8 x9 x10 s0 s1 s2 s3 s4 s5 s6 s7 s8 s9 s10 s11 s12)
       | (go_at_call_of 92 (Value.slice T1 x.th.length m1); refine (hT.out W0 w1 T1 m1 L (lv - 1) hlv (by omega) hB2.out hLW hL2.out hTH.out hlt1).mono ?_; rw [hev.out]; rintro e w2 ⟨rfl, hL3, hK3⟩; have hL3 := Lib.hid hL3; have hKw3 := Lib.hid (hKw2.out.trans hK3); have hB3 := Lib.hid (KpL.below hB2.out hK3 hB2.out.size hLW); have hX3 := Lib.hid ((hK3.block _ hxX2 hne).trans hX2.out); clear x0 x11 x12; obtain ⟨x0, x1, x2, x3, x4, x5, x6, x7, x8, x9, x10, x11, x12⟩ := cells13 hX3.out; rw [HKD.out] at x0; have hxX3 := blkLt hX3.out; have hxL3 := blkLt hL3.out; clear hK3 x1 x2 x3 x4 x5 x6 x7 x8 x9 x10))
      go_ret
      exact LeftP.mk' hF.out hL3.out hKw3.out
     | true =>
      have hm0 : 0 ≤ m2 := hrange.2.2 rfl
      have hm1 : m2 ≤ 100 := by have := hrange.2.1; simp only at this; omega
      rcases hev2 : evL x.el m2 with ⟨b2, m3⟩
      have hrange2 := evL_range x.el m2 hm0
      simp only at hE1
      rw [hev2] at hE1 hrange2
      have hev2 := Lib.hid hev2
      cases b2 with
      | false =>
       have hF : Hid ((false, m3) = r) := hE1
       clear hE1 hrange hrange2
       go_wp2_with (first
        | (go_at_call 93; refine HC.out.mono ?_; rintro e w1 ⟨rfl, hL2, hK2⟩; have hL2 := Lib.hid hL2; have hKw2 := Lib.hid (hK1.out.trans hK2); have hB2 := Lib.hid (KpL.below hB1.out hK2 hB1.out.size hLW); have hX2 := Lib.hid ((hK2.block _ hxX hne).trans hX1.out); obtain ⟨x0, x1, x2, x3, x4, x5, x6, x7, x8, x9, x10, x11, x12⟩ := cells13 hX2.out; rw [HKD.out] at x0; have hxX2 := blkLt hX2.out; have hxL2 := blkLt hL2.out; clear hK2 x1 x2 x3 x4 x5 x6 x7 x8 x9 x10 s0 s1 s2 s3 s4 s5 s6 s7 s8 s9 s10 s11 s12)
        | (go_at_call_of 92 (Value.slice T1 x.th.length m1); refine (hT.out W0 w1 T1 m1 L (lv - 1) hlv (by omega) hB2.out hLW hL2.out hTH.out hlt1).mono ?_; rw [hev.out]; rintro e w2 ⟨rfl, hL3, hK3⟩; have hL3 := Lib.hid hL3; have hKw3 := Lib.hid (hKw2.out.trans hK3); have hB3 := Lib.hid (KpL.below hB2.out hK3 hB2.out.size hLW); have hX3 := Lib.hid ((hK3.block _ hxX2 hne).trans hX2.out); clear x0 x11 x12; obtain ⟨x0, x1, x2, x3, x4, x5, x6, x7, x8, x9, x10, x11, x12⟩ := cells13 hX3.out; rw [HKD.out] at x0; have hxX3 := blkLt hX3.out; have hxL3 := blkLt hL3.out; clear hK3 x1 x2 x3 x4 x5 x6 x7 x8 x9 x10)
        | (go_at_call_of 92 (Value.slice E1 x.el.length n1); refine (hEl.out W0 w2 E1 n1 L m2 hm0 hm1 hB3.out hLW hL3.out hEL.out hlt2).mono ?_; rw [hev2.out]; rintro e w3 ⟨rfl, hL4, hK4⟩; have hL4 := Lib.hid hL4; have hKw4 := Lib.hid (hKw3.out.trans hK4); clear hK4))
       go_ret
       exact LeftP.mk' hF.out hL4.out hKw4.out
      | true =>
       have hm2 : 0 ≤ m3 := hrange2.2.2 rfl
       have hm3 : m3 ≤ 100 := by have := hrange2.2.1; simp only at this; omega
       have hG : Hid (evL (l.drop (k + 1)) m3 = r) := hE1
       clear hE1 hrange hrange2
       go_wp2_with (first
        | (go_at_call 93; refine HC.out.mono ?_; rintro e w1 ⟨rfl, hL2, hK2⟩; have hL2 := Lib.hid hL2; have hKw2 := Lib.hid (hK1.out.trans hK2); have hB2 := Lib.hid (KpL.below hB1.out hK2 hB1.out.size hLW); have hX2 := Lib.hid ((hK2.block _ hxX hne).trans hX1.out); obtain ⟨x0, x1, x2, x3, x4, x5, x6, x7, x8, x9, x10, x11, x12⟩ := cells13 hX2.out; rw [HKD.out] at x0; have hxX2 := blkLt hX2.out; have hxL2 := blkLt hL2.out; clear hK2 x1 x2 x3 x4 x5 x6 x7 x8 x9 x10 s0 s1 s2 s3 s4 s5 s6 s7 s8 s9 s10 s11 s12)
        | (go_at_call_of 92 (Value.slice T1 x.th.length m1); refine (hT.out W0 w1 T1 m1 L (lv - 1) hlv (by omega) hB2.out hLW hL2.out hTH.out hlt1).mono ?_; rw [hev.out]; rintro e w2 ⟨rfl, hL3, hK3⟩; have hL3 := Lib.hid hL3; have hKw3 := Lib.hid (hKw2.out.trans hK3); have hB3 := Lib.hid (KpL.below hB2.out hK3 hB2.out.size hLW); have hX3 := Lib.hid ((hK3.block _ hxX2 hne).trans hX2.out); clear x0 x11 x12; obtain ⟨x0, x1, x2, x3, x4, x5, x6, x7, x8, x9, x10, x11, x12⟩ := cells13 hX3.out; rw [HKD.out] at x0; have hxX3 := blkLt hX3.out; have hxL3 := blkLt hL3.out; clear hK3 x1 x2 x3 x4 x5 x6 x7 x8 x9 x10)
        | (go_at_call_of 92 (Value.slice E1 x.el.length n1); refine (hEl.out W0 w2 E1 n1 L m2 hm0 hm1 hB3.out hLW hL3.out hEL.out hlt2).mono ?_; rw [hev2.out]; rintro e w3 ⟨rfl, hL4, hK4⟩; have hL4 := Lib.hid hL4; have hKw4 := Lib.hid (hKw3.out.trans hK4); clear hK4))
       go_roundg g
       case measure => omega
       case rel => exact ⟨k + 1, m3, by omega, by go_num, hm2, hm3, hG, hL4, hKw4⟩
    ·rw [if_neg hkd] at hE1
     have hG : Hid (evL (l.drop (k + 1)) (lv - 1) = r) := hE1
     clear hE1
     go_wp2_with (go_at_call 93; refine HC.out.mono ?_; rintro e w1 ⟨rfl, hL2, hK2⟩; have hL2 := Lib.hid hL2; have hKw2 := Lib.hid (hK1.out.trans hK2); have hB2 := Lib.hid (KpL.below hB1.out hK2 hB1.out.size hLW); have hX2 := Lib.hid ((hK2.block _ hxX hne).trans hX1.out); obtain ⟨x0, x1, x2, x3, x4, x5, x6, x7, x8, x9, x10, x11, x12⟩ := cells13 hX2.out; have hxX2 := blkLt hX2.out; have hxL2 := blkLt hL2.out; clear hK2 x1 x2 x3 x4 x5 x6 x7 x8 x9 x10 s0 s1 s2 s3 s4 s5 s6 s7 s8 s9 s10 s11 s12)
     go_roundg g
     case measure => omega
     case rel => exact ⟨k + 1, lv - 1, by omega, by go_num, hlv, by omega, hG, hL2, hKw2⟩
  ·have hF : Hid ((true, lv) = r) := Lib.hid (by have := hE.out; rw [List.drop_eq_nil_of_le (by omega), evL] at this; exact this)
   clear hE
   go_wp2_with fail
   go_ret
   exact LeftP.mk' hF.out hLb.out hK.out
mutual
theorem every_any : ∀ x : St, EvC x.th ∧ EvC x.el
 | .mk k v r a b th el => ⟨every_step th (every_all th), every_step el (every_all el)⟩
theorem every_all : ∀ l : List St, ∀ x ∈ l, EvC x.th ∧ EvC x.el
 | [], x, h => by cases h
 | y :: ys, x, h => by
  rcases List.mem_cons.1 h with h | h
  ·rw [h]; exact every_any y
  ·exact every_all ys x h
end
end Go.Proofs.YtdlebaiamdbneaaGreatDoor.U
