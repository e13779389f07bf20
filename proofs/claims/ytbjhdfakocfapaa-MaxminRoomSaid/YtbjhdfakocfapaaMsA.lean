/- Package maxmin and its reference: numbers, rows, ratios and networks in memory; contracts of the small functions. No condition. -/
import Derived.Test.YtbjhdfakocfapaaRaF
import Derived.Test.YtbjhdfakocfapaaDgA
import Derived.Test.YtbjhdfakocfapaaMrA
namespace Go.Proofs.Ytbjhdfakocfapaa
open Go.RowKit
set_option linter.unusedVariables false
set_option linter.unusedSimpArgs false
/-- numbers that lie one behind the other -/
def IntsR (w : World) (l : List Int) (A : Option Addr) : Prop := l = [] ∨ ∃ g o, A = some ⟨g, o, none⟩ ∧ ∀ (i : Nat) (n : Int), l[i]? = some n → w.cell? ⟨g, o + i, none⟩ = some (.int .i64 n)
theorem IntsR.gr {w w' : World} {l : List Int} {A : Option Addr} (h : IntsR w l A) (hg : Gr w w') : IntsR w' l A := by
  rcases h with h | ⟨g, o, e, hc⟩
  · exact .inl h
  · exact .inr ⟨g, o, e, fun i n hi => grCell hg (hc i n hi)⟩
theorem IntsR.addr {w : World} {l : List Int} {A : Option Addr} (h : IntsR w l A) (hl : 0 < l.length) : ∃ g o, A = some ⟨g, o, none⟩ ∧ ∀ (i : Nat) (n : Int), l[i]? = some n → w.cell? ⟨g, o + i, none⟩ = some (.int .i64 n) := by
  rcases h with h | h
  · simp [h] at hl
  · exact h
/-- lists of numbers -/
def RowsR (w : World) (l : List (List Int)) (A : Option Addr) : Prop := l = [] ∨ ∃ g o, A = some ⟨g, o, none⟩ ∧ ∀ (i : Nat) (r : List Int), l[i]? = some r → ∃ (B : Option Addr) (m : Nat), w.cell? ⟨g, o + i, none⟩ = some (.slice B r.length m) ∧ IntsR w r B
theorem RowsR.gr {w w' : World} {l : List (List Int)} {A : Option Addr} (h : RowsR w l A) (hg : Gr w w') : RowsR w' l A := by
  rcases h with h | ⟨g, o, e, hc⟩
  · exact .inl h
  · exact .inr ⟨g, o, e, fun i r hi => by obtain ⟨B, m, h1, h2⟩ := hc i r hi; exact ⟨B, m, grCell hg h1, h2.gr hg⟩⟩
theorem RowsR.addr {w : World} {l : List (List Int)} {A : Option Addr} (h : RowsR w l A) (hl : 0 < l.length) : ∃ g o, A = some ⟨g, o, none⟩ ∧ ∀ (i : Nat) (r : List Int), l[i]? = some r → ∃ (B : Option Addr) (m : Nat), w.cell? ⟨g, o + i, none⟩ = some (.slice B r.length m) ∧ IntsR w r B := by
  rcases h with h | h
  · simp [h] at hl
  · exact h
/-- ratios -/
def QsR (w : World) (l : List Q) (A : Option Addr) : Prop := l = [] ∨ ∃ g o, A = some ⟨g, o, none⟩ ∧ ∀ (i : Nat) (q : Q), l[i]? = some q → w.cell? ⟨g, o + i * 2, none⟩ = some (.int .i64 q.n) ∧ w.cell? ⟨g, o + i * 2 + 1, none⟩ = some (.int .i64 q.d)
theorem QsR.gr {w w' : World} {l : List Q} {A : Option Addr} (h : QsR w l A) (hg : Gr w w') : QsR w' l A := by
  rcases h with h | ⟨g, o, e, hc⟩
  · exact .inl h
  · exact .inr ⟨g, o, e, fun i r hi => ⟨grCell hg (hc i r hi).1, grCell hg (hc i r hi).2⟩⟩
theorem QsR.addr {w : World} {l : List Q} {A : Option Addr} (h : QsR w l A) (hl : 0 < l.length) : ∃ g o, A = some ⟨g, o, none⟩ ∧ ∀ (i : Nat) (q : Q), l[i]? = some q → w.cell? ⟨g, o + i * 2, none⟩ = some (.int .i64 q.n) ∧ w.cell? ⟨g, o + i * 2 + 1, none⟩ = some (.int .i64 q.d) := by
  rcases h with h | h
  · simp [h] at hl
  · exact h
/-- a network -/
structure Net where
  c : List Int
  f : List (List Int)
  l : List Int
/-- where it lies -/
structure NetA where
  ca : Option Addr
  cm : Nat
  fa : Option Addr
  fm : Nat
  la : Option Addr
  lm : Nat
abbrev nv (n : Net) (a : NetA) : Value := .agg #[.slice a.ca n.c.length a.cm, .slice a.fa n.f.length a.fm, .slice a.la n.l.length a.lm]
def NetR (w : World) (n : Net) (a : NetA) : Prop := IntsR w n.c a.ca ∧ RowsR w n.f a.fa ∧ IntsR w n.l a.la
theorem NetR.gr {w w' : World} {n : Net} {a : NetA} (h : NetR w n a) (hg : Gr w w') : NetR w' n a := ⟨h.1.gr hg, h.2.1.gr hg, h.2.2.gr hg⟩
theorem cells3 {w : World} {b : Nat} {v0 v1 v2 : Value} {T : TypeId} (h : w.heap[b]? = some (.cells #[v0, v1, v2] T (0, 0))) :
    (w.cell? ⟨b, 0, none⟩ = some v0 ∧ w.cell? ⟨b, 1, none⟩ = some v1 ∧ w.cell? ⟨b, 2, none⟩ = some v2) := by
  refine ⟨?_, ?_, ?_⟩
  · rw [cell_of_row _ _ 0 _ _ (0, 0) h]; rfl
  · rw [cell_of_row _ _ 1 _ _ (0, 0) h]; rfl
  · rw [cell_of_row _ _ 2 _ _ (0, 0) h]; rfl
theorem cells1 {w : World} {b : Nat} {v0 : Value} {T : TypeId} (h : w.heap[b]? = some (.cells #[v0] T (0, 0))) : w.cell? ⟨b, 0, none⟩ = some v0 ∧ w.frozen? ⟨b, 0, none⟩ = false := by
  refine ⟨?_, ?_⟩
  · rw [cell_of_row _ _ 0 _ _ (0, 0) h]; rfl
  · simp [World.frozen?, h]
/-- one alone may have changed -/
theorem ret_b {a b : Bool} (h : a = b) : Ending.returned (.bool a) = .returned (.bool b) := by rw [h]
theorem ret_n {a b : Int} (h : a = b) : Ending.returned (.int .i64 a) = .returned (.int .i64 b) := by rw [h]

set_option maxHeartbeats 1000000 in
set_option maxRecDepth 100000 in
theorem whole_any (n : Int) (w : World) : Calls Try.prog 52 #[.int .i64 n] w (VV (qv ⟨n, 1⟩) w) := by
  have HR := Lib.hid (newBlk w (qb ⟨n, 1⟩) _ rfl)
  go_enter Try.func52, Try.ntmps52
  go_wp2
  exact bodyPost_ret (v := qv ⟨n, 1⟩) (by simp [results, Try.results52, go_sem, (res2 HR.out).2.1, (res2 HR.out).2.2]) rfl ⟨rfl, bAlloc (Below.refl _ _)⟩
set_option maxHeartbeats 1000000 in
set_option maxRecDepth 100000 in
theorem lwhole_any (n : Int) (w : World) : Calls Try.prog 28 #[.int .i64 n] w (VV (qv ⟨n, 1⟩) w) := by
  have HR := Lib.hid (newBlk w (qb ⟨n, 1⟩) _ rfl)
  go_enter Try.func28, Try.ntmps28
  go_wp2
  exact bodyPost_ret (v := qv ⟨n, 1⟩) (by simp [results, Try.results28, go_sem, (res2 HR.out).2.1, (res2 HR.out).2.2]) rfl ⟨rfl, bAlloc (Below.refl _ _)⟩
set_option maxHeartbeats 1000000 in
set_option maxRecDepth 100000 in
theorem isMore_any (a b : Q) (w : World) : Calls Try.prog 51 #[qv a, qv b] w (BB (decide (0 < (cmpM a b).1)) w) := by
  have hC := Lib.hid (Cmp_any a b ((w.alloc (qb a)).alloc (qb b)))
  generalize cmpM a b = r at *
  have HW := Lib.hid (Below.refl w.heap.size w)
  go_enter Try.func51, Try.ntmps51
  go_wp2_with (go_at_call 81; refine hC.out.mono ?_; rintro e w1 ⟨rfl, hb1⟩; replace HW := Lib.hid (bCall (by (repeat with_reducible first | exact HW.out | apply bDrew | apply bAlloc)) hb1); clear hb1)
  go_ret
  exact ⟨rfl, HW.out⟩
/-- the place of a number, from k on; -1: it isn't there -/
def idxI (x : Int) : List Int → Nat → Int
  | [], _ => -1
  | y :: l, k => if x = y then k else idxI x l (k + 1)
theorem idxI_hit (x : Int) (ws : List Int) (k j : Nat) (hk : k < ws.length) (h : x = ws[k]) : idxI x (ws.drop k) j = j := by
  rw [List.drop_eq_getElem_cons hk, idxI, if_pos h]
theorem idxI_miss (x : Int) (ws : List Int) (k j : Nat) (hk : k < ws.length) (h : ¬ x = ws[k]) : idxI x (ws.drop k) j = idxI x (ws.drop (k + 1)) (j + 1) := by
  rw [List.drop_eq_getElem_cons hk, idxI, if_neg h]
theorem idxI_end (x : Int) (ws : List Int) (k j : Nat) (hk : ws.length ≤ k) : idxI x (ws.drop k) j = -1 := by
  rw [List.drop_eq_nil_of_le hk, idxI]
theorem idxI_has (x : Int) (l : List Int) (k : Nat) : decide (0 ≤ idxI x l k) = l.contains x := by
  induction l generalizing k with
  | nil => rfl
  | cons y l ih =>
    rw [idxI, List.contains_cons]
    by_cases h : x = y
    · subst h; simp
    · rw [if_neg h, ih]; simp [h]
set_option maxHeartbeats 1000000 in
set_option maxRecDepth 100000 in
theorem IndexI_any (l : List Int) (A : Option Addr) (m : Nat) (x : Int) (w : World) (h : IntsR w l A) (hn : l.length ≤ 1000000) :
    Calls Try.prog 110 #[.slice A l.length m, .int .i64 x] w (SS (.int .i64 (idxI x l 0)) w) := by
  have H := Lib.hid h
  clear h
  go_enter Try.func110, Try.ntmps110
  go_wp2
  go_loop [8] (fun i => ∃ k : Nat, k ≤ l.length ∧ i = .int .i64 k ∧ Hid (idxI x (l.drop k) k = idxI x l 0)) (fun i => l.length - (intOf i).toNat)
  case atStart => exact ⟨0, Nat.zero_le _, rfl, rfl⟩
  case round =>
    obtain ⟨k, hk, rfl, hI⟩ := hrel
    by_cases hlt : k < l.length
    · obtain ⟨g, o, rfl, hcs⟩ := H.out.addr (by omega)
      have hc := hcs k _ (List.getElem?_eq_getElem hlt)
      have h1 := Lib.hid (idxI_hit x l k k hlt)
      have h2 := Lib.hid (idxI_miss x l k k hlt)
      clear hcs
      generalize l[k] = y at *
      by_cases hxy : x = y
      · have h3 := Lib.hid ((h1.out hxy).symm.trans hI.out)
        subst hxy
        clear h1 h2
        go_wp2
        go_ret
        exact ⟨ret_n h3.out, rfl⟩
      · have h3 := Lib.hid ((h2.out hxy).symm.trans hI.out)
        have t : decide (x = y) = false := decide_eq_false hxy
        clear h1 h2
        go_wp2
        go_round
        case rel => exact ⟨k + 1, by omega, by go_num, h3⟩
        case measure => simp [intOf]; omega
    · have h3 := Lib.hid ((idxI_end x l k k (by omega)).symm.trans hI.out)
      go_wp2
      go_ret
      exact ⟨ret_n h3.out, rfl⟩
set_option maxHeartbeats 1000000 in
set_option maxRecDepth 100000 in
theorem Contains_any (l : List Int) (A : Option Addr) (m : Nat) (x : Int) (w : World) (h : IntsR w l A) (hn : l.length ≤ 1000000) :
    Calls Try.prog 103 #[.slice A l.length m, .int .i64 x] w (SS (.bool (l.contains x)) w) := by
  have hI := Lib.hid (IndexI_any l A m x w h hn)
  rw [← idxI_has x l 0]
  generalize idxI x l 0 = r at *
  clear h
  go_enter Try.func103, Try.ntmps103
  go_wp2_with (go_at_call 110; refine hI.out.mono ?_; rintro e w2 ⟨rfl, hw⟩; rw [hw])
  go_ret
  exact ⟨rfl, rfl⟩
set_option maxHeartbeats 1000000 in
set_option maxRecDepth 100000 in
theorem On_any (l : List Int) (A : Option Addr) (m : Nat) (x : Int) (w : World) (h : IntsR w l A) (hn : l.length ≤ 1000000) :
    Calls Try.prog 31 #[.slice A l.length m, .int .i64 x] w (SS (.bool (l.contains x)) w) := by
  have H := Lib.hid h
  rw [← idxI_has x l 0]
  clear h
  go_enter Try.func31, Try.ntmps31
  go_wp2
  go_loop [5] (fun i => ∃ k : Nat, k ≤ l.length ∧ i = .int .i64 k ∧ Hid (idxI x (l.drop k) k = idxI x l 0)) (fun i => l.length - (intOf i).toNat)
  case atStart => exact ⟨0, Nat.zero_le _, rfl, rfl⟩
  case round =>
    obtain ⟨k, hk, rfl, hI⟩ := hrel
    by_cases hlt : k < l.length
    · obtain ⟨g, o, rfl, hcs⟩ := H.out.addr (by omega)
      have hc := hcs k _ (List.getElem?_eq_getElem hlt)
      have h1 := Lib.hid (idxI_hit x l k k hlt)
      have h2 := Lib.hid (idxI_miss x l k k hlt)
      clear hcs
      generalize l[k] = y at *
      by_cases hxy : x = y
      · have h3 := Lib.hid ((h1.out hxy).symm.trans hI.out)
        subst hxy
        clear h1 h2
        go_wp2
        go_ret
        exact ⟨ret_b (by rw [← h3.out]; simp), rfl⟩
      · have h3 := Lib.hid ((h2.out hxy).symm.trans hI.out)
        have t : decide (y = x) = false := decide_eq_false (fun e => hxy e.symm)
        clear h1 h2
        go_wp2
        go_round
        case rel => exact ⟨k + 1, by omega, by go_num, h3⟩
        case measure => simp [intOf]; omega
    · have h3 := Lib.hid ((idxI_end x l k k (by omega)).symm.trans hI.out)
      go_wp2
      go_ret
      exact ⟨ret_b (by rw [← h3.out]; simp), rfl⟩
end Go.Proofs.Ytbjhdfakocfapaa
