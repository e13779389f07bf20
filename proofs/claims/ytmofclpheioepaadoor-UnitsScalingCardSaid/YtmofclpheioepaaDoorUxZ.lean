/- Law package 04: the value of an expression; no condition. -/
import Derived.Test.YtmofclpheioepaaDoorUxO
import Derived.Test.YtmofclpheioepaaDoorUxP
namespace Go.Proofs.YtmofclpheioepaaDoor
open Go.RowKit
set_option linter.unusedVariables false
set_option linter.unusedSimpArgs false

def scM (t n k : Int) : Int := if k = 1 then IntKind.i64.wrap (n % 10 * t) else n % 10
set_option maxHeartbeats 1000000 in
theorem scale_any (n k t : Int) (L : Nat) (w : World) (h0 : 0 ≤ n) (h1 : n < 256) (h : w.cell? ⟨L, 0, none⟩ = some (.int .i64 t)) :
    Calls Tryd.prog 37 #[.int .u8 n, .int .i64 k, .pointer (some ⟨L, 0, none⟩)] w (fun e w' => e = .returned (.int .i64 (scM t n k)) ∧ w' = w) := by
  have hx := World.block_lt_of_cell? _ _ h
  unfold scM
  by_cases hk : k = 1
  · subst hk
    obtain ⟨q, hq⟩ : ∃ q, IntKind.i64.wrap (n % 10 * t) = q := ⟨_, rfl⟩
    rw [if_pos rfl, hq]
    go_enter Tryd.func37, Tryd.ntmps37
    go_wp2
    go_ret
    exact ⟨rfl, rfl⟩
  · have hkf : (k == 1) = false := by simp [hk]
    rw [if_neg hk]
    go_enter Tryd.func37, Tryd.ntmps37
    go_wp2
    go_ret
    exact ⟨rfl, rfl⟩
structure Inp where
  i0 : Int
  i1 : Int
  i2 : Int
  i3 : Int
abbrev inArr (i : Inp) : Array Value := #[.int .u8 i.i0, .int .u8 i.i1, .int .u8 i.i2, .int .u8 i.i3]
def u8 (n : Int) : Prop := 0 ≤ n ∧ n < 256
def Inp.ok (i : Inp) : Prop := u8 i.i0 ∧ u8 i.i1 ∧ u8 i.i2 ∧ u8 i.i3
/-- a slice of bytes reads as a list -/
def BysR (w : World) (l : List Int) (A : Option Addr) : Prop := l = [] ∨ ∃ g o, A = some ⟨g, o, none⟩ ∧ ∀ (i : Nat) (b : Int), l[i]? = some b → w.cell? ⟨g, o + i, none⟩ = some (.int .u8 b) ∧ u8 b
theorem BysR.keep {w w' : World} {l : List Int} {A : Option Addr} (hb : ∀ k, k < w.heap.size → w'.heap[k]? = w.heap[k]?) (h : BysR w l A) : BysR w' l A := by
  rcases h with h | ⟨g, o, hA, h⟩
  · exact .inl h
  · refine .inr ⟨g, o, hA, fun i v hv => ?_⟩
    have h1 := h i v hv
    have hlt := World.block_lt_of_cell? w _ h1.1
    have e : ∀ i, w'.cell? ⟨g, i, none⟩ = w.cell? ⟨g, i, none⟩ := fun i => World.cell?_of_block (a := ⟨g, i, none⟩) (hb g hlt)
    rw [e]
    exact h1
theorem BysR.below {w w' : World} {l : List Int} {A : Option Addr} (h : BysR w l A) (hb : Below w.heap.size w w') : BysR w' l A := h.keep hb.block
theorem BysR.addr {w : World} {l : List Int} {A : Option Addr} (h : BysR w l A) (hn : 0 < l.length) : ∃ g o, A = some ⟨g, o, none⟩ ∧ ∀ (i : Nat) (b : Int), l[i]? = some b → w.cell? ⟨g, o + i, none⟩ = some (.int .u8 b) ∧ u8 b := by
  rcases h with h | h
  · subst h; simp at hn
  · exact h
/-- a number as a byte, of its last digit -/
def digM (n : Int) : Int := IntKind.u8.wrap (n.tmod 10)
theorem digM_u8 (n : Int) : u8 (digM n) := by
  unfold digM u8
  have h : ∀ m : Int, 0 ≤ IntKind.u8.wrap m ∧ IntKind.u8.wrap m < 256 := fun m => by
    simp [IntKind.wrap, IntKind.bits, IntKind.signed]
    omega
  exact h _
def leafV (us st : List Int) (i : Inp) (t op n u : Int) : Int × Bool :=
  if op = 1 then (scM t (digM n) u, true)
  else if op = 2 then (if n < 0 ∨ st.length ≤ n ∨ us.length ≤ n then (0, false) else (scM t (st.getD n.toNat 0) (us.getD n.toNat 0), true))
  else if n = 0 then (scM t i.i0 1, true) else if n = 1 then (scM t i.i1 0, true) else if n = 2 then (scM t i.i2 0, true) else if n = 3 then (scM t i.i3 1, true) else (0, false)
def opV (op : Int) (x y : Int × Bool) : Int × Bool :=
  if op = 4 then (IntKind.i64.wrap (x.1 + y.1), x.2 && y.2) else if op = 5 then (IntKind.i64.wrap (x.1 - y.1), x.2 && y.2) else if op = 6 then (IntKind.i64.wrap (x.1 * y.1), x.2 && y.2)
  else if op = 9 then (min x.1 y.1, x.2 && y.2) else if op = 10 then (max x.1 y.1, x.2 && y.2) else (0, false)
def bothV (op : Int) : List (Int × Bool) → Int × Bool
  | [x, y] => opV op x y
  | _ => (0, false)
mutual
/-- the value of an expression, and whether it has one -/
def valE (us st : List Int) (i : Inp) (t : Int) : Ex → Int × Bool
  | .mk op n u ks => if op = 1 ∨ op = 2 ∨ op = 3 then leafV us st i t op n u else bothV op (valK us st i t ks)
def valK (us st : List Int) (i : Inp) (t : Int) : List Ex → List (Int × Bool)
  | [] => []
  | k :: ks => valE us st i t k :: valK us st i t ks
end
theorem valK_len (us st : List Int) (i : Inp) (t : Int) : ∀ ks, (valK us st i t ks).length = ks.length
  | [] => rfl
  | k :: ks => by simp [valK, valK_len us st i t ks]
theorem bothV_not {op : Int} {l : List (Int × Bool)} (h : l.length ≠ 2) : bothV op l = (0, false) := by
  match l, h with
  | [], _ => rfl
  | [_], _ => rfl
  | [_, _], h => exact absurd rfl h
  | _ :: _ :: _ :: _, _ => rfl
theorem vv_ret {r : Int × Bool} {x : Int} {b : Bool} {w w' : World} (h : r = (x, b)) (hb : Below w.heap.size w w') : VV (.tuple #[.int .i64 r.1, .bool r.2]) w (.returned (.tuple #[.int .i64 x, .bool b])) w' := by
  subst h
  exact ⟨rfl, hb⟩
def ValC (vs : List Vr) (VA : Option Addr) (vm : Nat) (st : List Int) (SA : Option Addr) (sm : Nat) (i : Inp) (t : Int) (e : Ex) : Prop :=
  ∀ (w : World) (A : Option Addr) (c : Nat), VarsR w vs VA → BysR w st SA → KidsE w e.kids A →
    Calls Tryd.prog 19 #[.slice VA vs.length vm, .slice SA st.length sm, .agg (inArr i), ev e A c, .int .i64 t] w (VV (.tuple #[.int .i64 (valE (vs.map (·.u)) st i t e).1, .bool (valE (vs.map (·.u)) st i t e).2]) w)
theorem cells4' {w : World} {b : Nat} {v0 v1 v2 v3 : Value} {T : TypeId} (h : w.heap[b]? = some (.cells #[v0, v1, v2, v3] T (0, 0))) :
    w.cell? ⟨b, 0, none⟩ = some v0 ∧ w.cell? ⟨b, 1, none⟩ = some v1 ∧ w.cell? ⟨b, 2, none⟩ = some v2 ∧ w.cell? ⟨b, 3, none⟩ = some v3 := by
  have e : ∀ j, w.cell? ⟨b, j, none⟩ = (#[v0, v1, v2, v3] : Array Value)[j]? := fun j => cell_of_row _ _ j _ _ (0, 0) h
  exact ⟨e 0, e 1, e 2, e 3⟩
theorem hmfV : ∀ (fn : Fn) (first cap : Array Value) (w : World), (Instr.makeFunc fn first cap).run Tryd.prog w = .ok (.func fn first cap) w := fun _ _ _ _ => rfl
set_option maxHeartbeats 4000000 in
set_option maxRecDepth 100000 in
theorem val_num (vn vm sn sm kl c : Nat) (VA SA A : Option Addr) (i : Inp) (t n u : Int) (w : World) :
    Calls Tryd.prog 19 #[.slice VA vn vm, .slice SA sn sm, .agg (inArr i), .agg #[.int .i64 1, .int .i64 n, .int .i64 u, .slice A kl (kl + c)], .int .i64 t] w (VV (.tuple #[.int .i64 (scM t (digM n) u), .bool true]) w) := by
  obtain ⟨W3, hW3⟩ : ∃ W3, W3 = ((w.alloc (.cells (inArr i) 45)).alloc (.cells #[.int .i64 1, .int .i64 n, .int .i64 u, .slice A kl (kl + c)] 29)).alloc (.cells #[.int .i64 t] 3) := ⟨_, rfl⟩
  have hB : Hid (Below w.heap.size w W3) := Lib.hid (by rw [hW3]; exact bAlloc (bAlloc (bAlloc (Below.refl _ _))))
  have HI : Hid (W3.heap[w.heap.size]? = some (.cells (inArr i) 45 (0, 0))) := Lib.hid (by rw [hW3]; exact (Below.heap_alloc _ _ _ (by simp; omega)).trans ((Below.heap_alloc _ _ _ (by simp)).trans (newBlk _ _ _ rfl)))
  have HE : Hid (W3.heap[w.heap.size + 1]? = some (.cells #[.int .i64 1, .int .i64 n, .int .i64 u, .slice A kl (kl + c)] 29 (0, 0))) := Lib.hid (by rw [hW3]; exact (Below.heap_alloc _ _ _ (by simp)).trans (newBlk _ _ _ (by simp)))
  have HT : Hid (W3.heap[w.heap.size + 1 + 1]? = some (.cells #[.int .i64 t] 3 (0, 0))) := Lib.hid (by rw [hW3]; exact newBlk _ _ _ (by simp))
  obtain ⟨j0, j1, j2, j3⟩ := cells4' HI.out
  obtain ⟨e0, e1, e2, e3⟩ := cells4' HE.out
  have ht0 : W3.cell? ⟨w.heap.size + 1 + 1, 0, none⟩ = some (.int .i64 t) := by rw [cell_of_row _ _ 0 _ _ (0, 0) HT.out]; rfl
  have jl := blkLt HI.out
  have el := blkLt HE.out
  have tl := blkLt HT.out
  have hmf := hmfV
  have hd := digM_u8 n
  obtain ⟨hd0, hd1⟩ := hd
  obtain ⟨dn, hdm⟩ : ∃ d, digM n = d := ⟨_, rfl⟩
  rw [hdm] at hd0 hd1 ⊢
  unfold digM at hdm
  go_enter Tryd.func19, Tryd.ntmps19
  go_upto_region 2 with fail
  rw [← hW3]
  clear hW3
  go_wp2_with (go_at_call 37; refine (scale_any _ _ _ _ _ hd0 hd1 ht0).mono ?_; rintro e w1 ⟨rfl, hw1⟩; have hw1 := hw1.symm; subst hw1)
  exact bodyPost_ret (v := .tuple #[.int .i64 (scM t dn u), .bool true]) (by simp [results, Tryd.results19, go_sem]) rfl ⟨rfl, hB.out⟩
set_option maxHeartbeats 4000000 in
set_option maxRecDepth 100000 in
theorem val_varN (vn vm sn sm kl c : Nat) (VA SA A : Option Addr) (i : Inp) (t n u : Int) (w : World) (h : n < 0 ∨ (sn : Int) ≤ n ∨ (vn : Int) ≤ n) :
    Calls Tryd.prog 19 #[.slice VA vn vm, .slice SA sn sm, .agg (inArr i), .agg #[.int .i64 2, .int .i64 n, .int .i64 u, .slice A kl (kl + c)], .int .i64 t] w (VV (.tuple #[.int .i64 0, .bool false]) w) := by
  obtain ⟨W3, hW3⟩ : ∃ W3, W3 = ((w.alloc (.cells (inArr i) 45)).alloc (.cells #[.int .i64 2, .int .i64 n, .int .i64 u, .slice A kl (kl + c)] 29)).alloc (.cells #[.int .i64 t] 3) := ⟨_, rfl⟩
  have hB : Hid (Below w.heap.size w W3) := Lib.hid (by rw [hW3]; exact bAlloc (bAlloc (bAlloc (Below.refl _ _))))
  have HI : Hid (W3.heap[w.heap.size]? = some (.cells (inArr i) 45 (0, 0))) := Lib.hid (by rw [hW3]; exact (Below.heap_alloc _ _ _ (by simp; omega)).trans ((Below.heap_alloc _ _ _ (by simp)).trans (newBlk _ _ _ rfl)))
  have HE : Hid (W3.heap[w.heap.size + 1]? = some (.cells #[.int .i64 2, .int .i64 n, .int .i64 u, .slice A kl (kl + c)] 29 (0, 0))) := Lib.hid (by rw [hW3]; exact (Below.heap_alloc _ _ _ (by simp)).trans (newBlk _ _ _ (by simp)))
  have HT : Hid (W3.heap[w.heap.size + 1 + 1]? = some (.cells #[.int .i64 t] 3 (0, 0))) := Lib.hid (by rw [hW3]; exact newBlk _ _ _ (by simp))
  obtain ⟨j0, j1, j2, j3⟩ := cells4' HI.out
  obtain ⟨e0, e1, e2, e3⟩ := cells4' HE.out
  have ht0 : W3.cell? ⟨w.heap.size + 1 + 1, 0, none⟩ = some (.int .i64 t) := by rw [cell_of_row _ _ 0 _ _ (0, 0) HT.out]; rfl
  have jl := blkLt HI.out
  have el := blkLt HE.out
  have tl := blkLt HT.out
  have hmf := hmfV
  by_cases h1 : n < 0
  · clear h
    go_enter Tryd.func19, Tryd.ntmps19
    go_upto_region 2 with fail
    rw [← hW3]
    clear hW3
    go_wp2_with fail
    exact bodyPost_ret (v := .tuple #[.int .i64 0, .bool false]) (by simp [results, Tryd.results19, go_sem]) rfl ⟨rfl, hB.out⟩
  · by_cases h2 : (sn : Int) ≤ n
    · clear h
      have h2' : decide (n ≥ (sn : Int)) = true := by simp; omega
      go_enter Tryd.func19, Tryd.ntmps19
      go_upto_region 2 with fail
      rw [← hW3]
      clear hW3
      go_wp2_with fail
      exact bodyPost_ret (v := .tuple #[.int .i64 0, .bool false]) (by simp [results, Tryd.results19, go_sem]) rfl ⟨rfl, hB.out⟩
    · have h3 : (vn : Int) ≤ n := by omega
      clear h
      have h2' : decide (n ≥ (sn : Int)) = false := by simp; omega
      have h3' : decide (n ≥ (vn : Int)) = true := by simp; omega
      go_enter Tryd.func19, Tryd.ntmps19
      go_upto_region 2 with fail
      rw [← hW3]
      clear hW3
      go_wp2_with fail
      exact bodyPost_ret (v := .tuple #[.int .i64 0, .bool false]) (by simp [results, Tryd.results19, go_sem]) rfl ⟨rfl, hB.out⟩
set_option maxHeartbeats 4000000 in
set_option maxRecDepth 100000 in
theorem val_var (vn vm sn sm kl c : Nat) (VA SA A : Option Addr) (i : Inp) (t n u : Int) (w : World) (j g1 o1 g2 o2 : Nat) (b ku : Int) (hn : n = j) (hs : j < sn) (hv : j < vn) (hSA : SA = some ⟨g1, o1, none⟩) (hVA : VA = some ⟨g2, o2, none⟩) (hb : w.cell? ⟨g1, o1 + j, none⟩ = some (.int .u8 b)) (hb8 : u8 b) (hk : w.cell? ⟨g2, o2 + j * 5 + 1, none⟩ = some (.int .i64 ku)) :
    Calls Tryd.prog 19 #[.slice VA vn vm, .slice SA sn sm, .agg (inArr i), .agg #[.int .i64 2, .int .i64 n, .int .i64 u, .slice A kl (kl + c)], .int .i64 t] w (VV (.tuple #[.int .i64 (scM t b ku), .bool true]) w) := by
  subst hn hSA hVA
  obtain ⟨hb0, hb1⟩ := hb8
  generalize hnn : (j : Int) = n at *
  obtain ⟨W3, hW3⟩ : ∃ W3, W3 = ((w.alloc (.cells (inArr i) 45)).alloc (.cells #[.int .i64 2, .int .i64 n, .int .i64 u, .slice A kl (kl + c)] 29)).alloc (.cells #[.int .i64 t] 3) := ⟨_, rfl⟩
  have hB : Hid (Below w.heap.size w W3) := Lib.hid (by rw [hW3]; exact bAlloc (bAlloc (bAlloc (Below.refl _ _))))
  have HI : Hid (W3.heap[w.heap.size]? = some (.cells (inArr i) 45 (0, 0))) := Lib.hid (by rw [hW3]; exact (Below.heap_alloc _ _ _ (by simp; omega)).trans ((Below.heap_alloc _ _ _ (by simp)).trans (newBlk _ _ _ rfl)))
  have HE : Hid (W3.heap[w.heap.size + 1]? = some (.cells #[.int .i64 2, .int .i64 n, .int .i64 u, .slice A kl (kl + c)] 29 (0, 0))) := Lib.hid (by rw [hW3]; exact (Below.heap_alloc _ _ _ (by simp)).trans (newBlk _ _ _ (by simp)))
  have HT : Hid (W3.heap[w.heap.size + 1 + 1]? = some (.cells #[.int .i64 t] 3 (0, 0))) := Lib.hid (by rw [hW3]; exact newBlk _ _ _ (by simp))
  obtain ⟨j0, j1, j2, j3⟩ := cells4' HI.out
  obtain ⟨e0, e1, e2, e3⟩ := cells4' HE.out
  have ht0 : W3.cell? ⟨w.heap.size + 1 + 1, 0, none⟩ = some (.int .i64 t) := by rw [cell_of_row _ _ 0 _ _ (0, 0) HT.out]; rfl
  have jl := blkLt HI.out
  have el := blkLt HE.out
  have tl := blkLt HT.out
  have hmf := hmfV
  have b1 : W3.cell? ⟨g1, o1 + j, none⟩ = some (.int .u8 b) := (World.cell?_of_block (a := ⟨g1, o1 + j, none⟩) (hB.out.block g1 (World.block_lt_of_cell? _ _ hb))).trans hb
  have k1 : W3.cell? ⟨g2, o2 + j * 5 + 1, none⟩ = some (.int .i64 ku) := (World.cell?_of_block (a := ⟨g2, o2 + j * 5 + 1, none⟩) (hB.out.block g2 (World.block_lt_of_cell? _ _ hk))).trans hk
  subst hnn
  have i0' : (0 : Int) ≤ (j : Int) := Int.natCast_nonneg _
  have i1' : (j : Int) < (sn : Int) := by omega
  have i2' : (j : Int) < (vn : Int) := by omega
  have i3' : decide ((j : Int) ≥ (sn : Int)) = false := by simp; omega
  have i4' : decide ((j : Int) ≥ (vn : Int)) = false := by simp; omega
  have i5' : decide ((j : Int) < 0) = false := by simp
  go_enter Tryd.func19, Tryd.ntmps19
  go_upto_region 2 with fail
  rw [← hW3]
  clear hW3
  go_wp2_with fail
  go_region_held3 (fun w' => w'.cell? ⟨w.heap.size + 1, 1, none⟩ = some (.int .i64 (j : Int)) ∧ w'.cell? ⟨g1, o1 + j, none⟩ = some (.int .u8 b) ∧ w'.cell? ⟨g2, o2 + j * 5 + 1, none⟩ = some (.int .i64 ku))
    (first | (with_reducible exact ⟨e1, b1, k1⟩) | go_keep)
    (first
      | (go_at_call 37; refine (scale_any _ _ _ _ _ hb0 hb1 (by first | exact ht0 | simpa using ht0)).mono ?_; rintro e w1 ⟨rfl, hw1⟩; have hw1 := hw1.symm; subst hw1))
  all_goals go_wp2_with fail
  exact bodyPost_ret (v := .tuple #[.int .i64 (scM t b ku), .bool true]) (by simp [results, Tryd.results19, go_sem]) rfl ⟨rfl, (bDrew hB.out)⟩
set_option maxHeartbeats 4000000 in
set_option maxRecDepth 100000 in
theorem val_in0 (vn vm sn sm kl c : Nat) (VA SA A : Option Addr) (i : Inp) (t u : Int) (w : World) (h : u8 i.i0) :
    Calls Tryd.prog 19 #[.slice VA vn vm, .slice SA sn sm, .agg (inArr i), .agg #[.int .i64 3, .int .i64 0, .int .i64 u, .slice A kl (kl + c)], .int .i64 t] w (VV (.tuple #[.int .i64 (scM t i.i0 1), .bool true]) w) := by
  obtain ⟨W3, hW3⟩ : ∃ W3, W3 = ((w.alloc (.cells (inArr i) 45)).alloc (.cells #[.int .i64 3, .int .i64 0, .int .i64 u, .slice A kl (kl + c)] 29)).alloc (.cells #[.int .i64 t] 3) := ⟨_, rfl⟩
  have hB : Hid (Below w.heap.size w W3) := Lib.hid (by rw [hW3]; exact bAlloc (bAlloc (bAlloc (Below.refl _ _))))
  have HI : Hid (W3.heap[w.heap.size]? = some (.cells (inArr i) 45 (0, 0))) := Lib.hid (by rw [hW3]; exact (Below.heap_alloc _ _ _ (by simp; omega)).trans ((Below.heap_alloc _ _ _ (by simp)).trans (newBlk _ _ _ rfl)))
  have HE : Hid (W3.heap[w.heap.size + 1]? = some (.cells #[.int .i64 3, .int .i64 0, .int .i64 u, .slice A kl (kl + c)] 29 (0, 0))) := Lib.hid (by rw [hW3]; exact (Below.heap_alloc _ _ _ (by simp)).trans (newBlk _ _ _ (by simp)))
  have HT : Hid (W3.heap[w.heap.size + 1 + 1]? = some (.cells #[.int .i64 t] 3 (0, 0))) := Lib.hid (by rw [hW3]; exact newBlk _ _ _ (by simp))
  obtain ⟨j0, j1, j2, j3⟩ := cells4' HI.out
  obtain ⟨e0, e1, e2, e3⟩ := cells4' HE.out
  have ht0 : W3.cell? ⟨w.heap.size + 1 + 1, 0, none⟩ = some (.int .i64 t) := by rw [cell_of_row _ _ 0 _ _ (0, 0) HT.out]; rfl
  have jl := blkLt HI.out
  have el := blkLt HE.out
  have tl := blkLt HT.out
  have hmf := hmfV
  obtain ⟨h0, h1⟩ := h
  go_enter Tryd.func19, Tryd.ntmps19
  go_upto_region 2 with fail
  rw [← hW3]
  clear hW3
  go_wp2_with (go_at_call 37; refine (scale_any _ _ _ _ _ h0 h1 ht0).mono ?_; rintro e w1 ⟨rfl, hw1⟩; have hw1 := hw1.symm; subst hw1)
  exact bodyPost_ret (v := .tuple #[.int .i64 (scM t i.i0 1), .bool true]) (by simp [results, Tryd.results19, go_sem]) rfl ⟨rfl, hB.out⟩
set_option maxHeartbeats 4000000 in
set_option maxRecDepth 100000 in
theorem val_in1 (vn vm sn sm kl c : Nat) (VA SA A : Option Addr) (i : Inp) (t u : Int) (w : World) (h : u8 i.i1) :
    Calls Tryd.prog 19 #[.slice VA vn vm, .slice SA sn sm, .agg (inArr i), .agg #[.int .i64 3, .int .i64 1, .int .i64 u, .slice A kl (kl + c)], .int .i64 t] w (VV (.tuple #[.int .i64 (scM t i.i1 0), .bool true]) w) := by
  obtain ⟨W3, hW3⟩ : ∃ W3, W3 = ((w.alloc (.cells (inArr i) 45)).alloc (.cells #[.int .i64 3, .int .i64 1, .int .i64 u, .slice A kl (kl + c)] 29)).alloc (.cells #[.int .i64 t] 3) := ⟨_, rfl⟩
  have hB : Hid (Below w.heap.size w W3) := Lib.hid (by rw [hW3]; exact bAlloc (bAlloc (bAlloc (Below.refl _ _))))
  have HI : Hid (W3.heap[w.heap.size]? = some (.cells (inArr i) 45 (0, 0))) := Lib.hid (by rw [hW3]; exact (Below.heap_alloc _ _ _ (by simp; omega)).trans ((Below.heap_alloc _ _ _ (by simp)).trans (newBlk _ _ _ rfl)))
  have HE : Hid (W3.heap[w.heap.size + 1]? = some (.cells #[.int .i64 3, .int .i64 1, .int .i64 u, .slice A kl (kl + c)] 29 (0, 0))) := Lib.hid (by rw [hW3]; exact (Below.heap_alloc _ _ _ (by simp)).trans (newBlk _ _ _ (by simp)))
  have HT : Hid (W3.heap[w.heap.size + 1 + 1]? = some (.cells #[.int .i64 t] 3 (0, 0))) := Lib.hid (by rw [hW3]; exact newBlk _ _ _ (by simp))
  obtain ⟨j0, j1, j2, j3⟩ := cells4' HI.out
  obtain ⟨e0, e1, e2, e3⟩ := cells4' HE.out
  have ht0 : W3.cell? ⟨w.heap.size + 1 + 1, 0, none⟩ = some (.int .i64 t) := by rw [cell_of_row _ _ 0 _ _ (0, 0) HT.out]; rfl
  have jl := blkLt HI.out
  have el := blkLt HE.out
  have tl := blkLt HT.out
  have hmf := hmfV
  obtain ⟨h0, h1⟩ := h
  go_enter Tryd.func19, Tryd.ntmps19
  go_upto_region 2 with fail
  rw [← hW3]
  clear hW3
  go_wp2_with (go_at_call 37; refine (scale_any _ _ _ _ _ h0 h1 ht0).mono ?_; rintro e w1 ⟨rfl, hw1⟩; have hw1 := hw1.symm; subst hw1)
  exact bodyPost_ret (v := .tuple #[.int .i64 (scM t i.i1 0), .bool true]) (by simp [results, Tryd.results19, go_sem]) rfl ⟨rfl, hB.out⟩
set_option maxHeartbeats 4000000 in
set_option maxRecDepth 100000 in
theorem val_in2 (vn vm sn sm kl c : Nat) (VA SA A : Option Addr) (i : Inp) (t u : Int) (w : World) (h : u8 i.i2) :
    Calls Tryd.prog 19 #[.slice VA vn vm, .slice SA sn sm, .agg (inArr i), .agg #[.int .i64 3, .int .i64 2, .int .i64 u, .slice A kl (kl + c)], .int .i64 t] w (VV (.tuple #[.int .i64 (scM t i.i2 0), .bool true]) w) := by
  obtain ⟨W3, hW3⟩ : ∃ W3, W3 = ((w.alloc (.cells (inArr i) 45)).alloc (.cells #[.int .i64 3, .int .i64 2, .int .i64 u, .slice A kl (kl + c)] 29)).alloc (.cells #[.int .i64 t] 3) := ⟨_, rfl⟩
  have hB : Hid (Below w.heap.size w W3) := Lib.hid (by rw [hW3]; exact bAlloc (bAlloc (bAlloc (Below.refl _ _))))
  have HI : Hid (W3.heap[w.heap.size]? = some (.cells (inArr i) 45 (0, 0))) := Lib.hid (by rw [hW3]; exact (Below.heap_alloc _ _ _ (by simp; omega)).trans ((Below.heap_alloc _ _ _ (by simp)).trans (newBlk _ _ _ rfl)))
  have HE : Hid (W3.heap[w.heap.size + 1]? = some (.cells #[.int .i64 3, .int .i64 2, .int .i64 u, .slice A kl (kl + c)] 29 (0, 0))) := Lib.hid (by rw [hW3]; exact (Below.heap_alloc _ _ _ (by simp)).trans (newBlk _ _ _ (by simp)))
  have HT : Hid (W3.heap[w.heap.size + 1 + 1]? = some (.cells #[.int .i64 t] 3 (0, 0))) := Lib.hid (by rw [hW3]; exact newBlk _ _ _ (by simp))
  obtain ⟨j0, j1, j2, j3⟩ := cells4' HI.out
  obtain ⟨e0, e1, e2, e3⟩ := cells4' HE.out
  have ht0 : W3.cell? ⟨w.heap.size + 1 + 1, 0, none⟩ = some (.int .i64 t) := by rw [cell_of_row _ _ 0 _ _ (0, 0) HT.out]; rfl
  have jl := blkLt HI.out
  have el := blkLt HE.out
  have tl := blkLt HT.out
  have hmf := hmfV
  obtain ⟨h0, h1⟩ := h
  go_enter Tryd.func19, Tryd.ntmps19
  go_upto_region 2 with fail
  rw [← hW3]
  clear hW3
  go_wp2_with (go_at_call 37; refine (scale_any _ _ _ _ _ h0 h1 ht0).mono ?_; rintro e w1 ⟨rfl, hw1⟩; have hw1 := hw1.symm; subst hw1)
  exact bodyPost_ret (v := .tuple #[.int .i64 (scM t i.i2 0), .bool true]) (by simp [results, Tryd.results19, go_sem]) rfl ⟨rfl, hB.out⟩
set_option maxHeartbeats 4000000 in
set_option maxRecDepth 100000 in
theorem val_in3 (vn vm sn sm kl c : Nat) (VA SA A : Option Addr) (i : Inp) (t u : Int) (w : World) (h : u8 i.i3) :
    Calls Tryd.prog 19 #[.slice VA vn vm, .slice SA sn sm, .agg (inArr i), .agg #[.int .i64 3, .int .i64 3, .int .i64 u, .slice A kl (kl + c)], .int .i64 t] w (VV (.tuple #[.int .i64 (scM t i.i3 1), .bool true]) w) := by
  obtain ⟨W3, hW3⟩ : ∃ W3, W3 = ((w.alloc (.cells (inArr i) 45)).alloc (.cells #[.int .i64 3, .int .i64 3, .int .i64 u, .slice A kl (kl + c)] 29)).alloc (.cells #[.int .i64 t] 3) := ⟨_, rfl⟩
  have hB : Hid (Below w.heap.size w W3) := Lib.hid (by rw [hW3]; exact bAlloc (bAlloc (bAlloc (Below.refl _ _))))
  have HI : Hid (W3.heap[w.heap.size]? = some (.cells (inArr i) 45 (0, 0))) := Lib.hid (by rw [hW3]; exact (Below.heap_alloc _ _ _ (by simp; omega)).trans ((Below.heap_alloc _ _ _ (by simp)).trans (newBlk _ _ _ rfl)))
  have HE : Hid (W3.heap[w.heap.size + 1]? = some (.cells #[.int .i64 3, .int .i64 3, .int .i64 u, .slice A kl (kl + c)] 29 (0, 0))) := Lib.hid (by rw [hW3]; exact (Below.heap_alloc _ _ _ (by simp)).trans (newBlk _ _ _ (by simp)))
  have HT : Hid (W3.heap[w.heap.size + 1 + 1]? = some (.cells #[.int .i64 t] 3 (0, 0))) := Lib.hid (by rw [hW3]; exact newBlk _ _ _ (by simp))
  obtain ⟨j0, j1, j2, j3⟩ := cells4' HI.out
  obtain ⟨e0, e1, e2, e3⟩ := cells4' HE.out
  have ht0 : W3.cell? ⟨w.heap.size + 1 + 1, 0, none⟩ = some (.int .i64 t) := by rw [cell_of_row _ _ 0 _ _ (0, 0) HT.out]; rfl
  have jl := blkLt HI.out
  have el := blkLt HE.out
  have tl := blkLt HT.out
  have hmf := hmfV
  obtain ⟨h0, h1⟩ := h
  go_enter Tryd.func19, Tryd.ntmps19
  go_upto_region 2 with fail
  rw [← hW3]
  clear hW3
  go_wp2_with (go_at_call 37; refine (scale_any _ _ _ _ _ h0 h1 ht0).mono ?_; rintro e w1 ⟨rfl, hw1⟩; have hw1 := hw1.symm; subst hw1)
  exact bodyPost_ret (v := .tuple #[.int .i64 (scM t i.i3 1), .bool true]) (by simp [results, Tryd.results19, go_sem]) rfl ⟨rfl, hB.out⟩
set_option maxHeartbeats 4000000 in
set_option maxRecDepth 100000 in
theorem val_inN (vn vm sn sm kl c : Nat) (VA SA A : Option Addr) (i : Inp) (t n u : Int) (w : World) (h : n < 0 ∨ 4 ≤ n) :
    Calls Tryd.prog 19 #[.slice VA vn vm, .slice SA sn sm, .agg (inArr i), .agg #[.int .i64 3, .int .i64 n, .int .i64 u, .slice A kl (kl + c)], .int .i64 t] w (VV (.tuple #[.int .i64 0, .bool false]) w) := by
  obtain ⟨W3, hW3⟩ : ∃ W3, W3 = ((w.alloc (.cells (inArr i) 45)).alloc (.cells #[.int .i64 3, .int .i64 n, .int .i64 u, .slice A kl (kl + c)] 29)).alloc (.cells #[.int .i64 t] 3) := ⟨_, rfl⟩
  have hB : Hid (Below w.heap.size w W3) := Lib.hid (by rw [hW3]; exact bAlloc (bAlloc (bAlloc (Below.refl _ _))))
  have HI : Hid (W3.heap[w.heap.size]? = some (.cells (inArr i) 45 (0, 0))) := Lib.hid (by rw [hW3]; exact (Below.heap_alloc _ _ _ (by simp; omega)).trans ((Below.heap_alloc _ _ _ (by simp)).trans (newBlk _ _ _ rfl)))
  have HE : Hid (W3.heap[w.heap.size + 1]? = some (.cells #[.int .i64 3, .int .i64 n, .int .i64 u, .slice A kl (kl + c)] 29 (0, 0))) := Lib.hid (by rw [hW3]; exact (Below.heap_alloc _ _ _ (by simp)).trans (newBlk _ _ _ (by simp)))
  have HT : Hid (W3.heap[w.heap.size + 1 + 1]? = some (.cells #[.int .i64 t] 3 (0, 0))) := Lib.hid (by rw [hW3]; exact newBlk _ _ _ (by simp))
  obtain ⟨j0, j1, j2, j3⟩ := cells4' HI.out
  obtain ⟨e0, e1, e2, e3⟩ := cells4' HE.out
  have ht0 : W3.cell? ⟨w.heap.size + 1 + 1, 0, none⟩ = some (.int .i64 t) := by rw [cell_of_row _ _ 0 _ _ (0, 0) HT.out]; rfl
  have jl := blkLt HI.out
  have el := blkLt HE.out
  have tl := blkLt HT.out
  have hmf := hmfV
  by_cases h1 : n < 0
  · clear h
    go_enter Tryd.func19, Tryd.ntmps19
    go_upto_region 2 with fail
    rw [← hW3]
    clear hW3
    go_wp2_with fail
    exact bodyPost_ret (v := .tuple #[.int .i64 0, .bool false]) (by simp [results, Tryd.results19, go_sem]) rfl ⟨rfl, hB.out⟩
  · have h2 : decide (n ≥ 4) = true := by simp; omega
    clear h
    go_enter Tryd.func19, Tryd.ntmps19
    go_upto_region 2 with fail
    rw [← hW3]
    clear hW3
    go_wp2_with fail
    exact bodyPost_ret (v := .tuple #[.int .i64 0, .bool false]) (by simp [results, Tryd.results19, go_sem]) rfl ⟨rfl, hB.out⟩
set_option maxHeartbeats 4000000 in
set_option maxRecDepth 100000 in
theorem val_kidsN (vn vm sn sm kl c : Nat) (VA SA A : Option Addr) (i : Inp) (t n u : Int) (w : World) (op : Int) (h1 : ¬ op = 1) (h2 : ¬ op = 2) (h3 : ¬ op = 3) (h : kl ≠ 2) :
    Calls Tryd.prog 19 #[.slice VA vn vm, .slice SA sn sm, .agg (inArr i), .agg #[.int .i64 op, .int .i64 n, .int .i64 u, .slice A kl (kl + c)], .int .i64 t] w (VV (.tuple #[.int .i64 0, .bool false]) w) := by
  obtain ⟨W3, hW3⟩ : ∃ W3, W3 = ((w.alloc (.cells (inArr i) 45)).alloc (.cells #[.int .i64 op, .int .i64 n, .int .i64 u, .slice A kl (kl + c)] 29)).alloc (.cells #[.int .i64 t] 3) := ⟨_, rfl⟩
  have hB : Hid (Below w.heap.size w W3) := Lib.hid (by rw [hW3]; exact bAlloc (bAlloc (bAlloc (Below.refl _ _))))
  have HI : Hid (W3.heap[w.heap.size]? = some (.cells (inArr i) 45 (0, 0))) := Lib.hid (by rw [hW3]; exact (Below.heap_alloc _ _ _ (by simp; omega)).trans ((Below.heap_alloc _ _ _ (by simp)).trans (newBlk _ _ _ rfl)))
  have HE : Hid (W3.heap[w.heap.size + 1]? = some (.cells #[.int .i64 op, .int .i64 n, .int .i64 u, .slice A kl (kl + c)] 29 (0, 0))) := Lib.hid (by rw [hW3]; exact (Below.heap_alloc _ _ _ (by simp)).trans (newBlk _ _ _ (by simp)))
  have HT : Hid (W3.heap[w.heap.size + 1 + 1]? = some (.cells #[.int .i64 t] 3 (0, 0))) := Lib.hid (by rw [hW3]; exact newBlk _ _ _ (by simp))
  obtain ⟨j0, j1, j2, j3⟩ := cells4' HI.out
  obtain ⟨e0, e1, e2, e3⟩ := cells4' HE.out
  have ht0 : W3.cell? ⟨w.heap.size + 1 + 1, 0, none⟩ = some (.int .i64 t) := by rw [cell_of_row _ _ 0 _ _ (0, 0) HT.out]; rfl
  have jl := blkLt HI.out
  have el := blkLt HE.out
  have tl := blkLt HT.out
  have hmf := hmfV
  have g1 : (op == 1) = false := by simp [h1]
  have g2 : (op == 2) = false := by simp [h2]
  have g3 : (op == 3) = false := by simp [h3]
  have g4 : ((kl : Int) != 2) = true := by simp; omega
  have g5 : ¬ (kl : Int) = 2 := by omega
  go_enter Tryd.func19, Tryd.ntmps19
  go_upto_region 2 with fail
  rw [← hW3]
  clear hW3
  go_wp2_with fail
  exact bodyPost_ret (v := .tuple #[.int .i64 0, .bool false]) (by simp [results, Tryd.results19, go_sem]) rfl ⟨rfl, hB.out⟩
set_option maxHeartbeats 4000000 in
set_option maxRecDepth 100000 in
theorem val_two (vn vm sn sm c : Nat) (VA SA : Option Addr) (i : Inp) (t op n u : Int) (w : World) (a b : Ex) (g o ac bc : Nat) (A1 B1 : Option Addr) (xa xb : Int) (oa ob : Bool) (h1 : ¬ op = 1) (h2 : ¬ op = 2) (h3 : ¬ op = 3)
    (q0 : w.cell? ⟨g, o, none⟩ = some (.int .i64 a.op)) (q1 : w.cell? ⟨g, o + 1, none⟩ = some (.int .i64 a.n)) (q2 : w.cell? ⟨g, o + 2, none⟩ = some (.int .i64 a.unit)) (q3 : w.cell? ⟨g, o + 3, none⟩ = some (.slice A1 a.kids.length (a.kids.length + ac)))
    (q4 : w.cell? ⟨g, o + 4, none⟩ = some (.int .i64 b.op)) (q5 : w.cell? ⟨g, o + 4 + 1, none⟩ = some (.int .i64 b.n)) (q6 : w.cell? ⟨g, o + 4 + 2, none⟩ = some (.int .i64 b.unit)) (q7 : w.cell? ⟨g, o + 4 + 3, none⟩ = some (.slice B1 b.kids.length (b.kids.length + bc)))
    (ha : ∀ wx, Below w.heap.size w wx → Calls Tryd.prog 19 #[.slice VA vn vm, .slice SA sn sm, .agg (inArr i), ev a A1 ac, .int .i64 t] wx (VV (.tuple #[.int .i64 xa, .bool oa]) wx))
    (hb : ∀ wx, Below w.heap.size w wx → Calls Tryd.prog 19 #[.slice VA vn vm, .slice SA sn sm, .agg (inArr i), ev b B1 bc, .int .i64 t] wx (VV (.tuple #[.int .i64 xb, .bool ob]) wx)) :
    Calls Tryd.prog 19 #[.slice VA vn vm, .slice SA sn sm, .agg (inArr i), .agg #[.int .i64 op, .int .i64 n, .int .i64 u, .slice (some ⟨g, o, none⟩) 2 (2 + c)], .int .i64 t] w (VV (.tuple #[.int .i64 (opV op (xa, oa) (xb, ob)).1, .bool (opV op (xa, oa) (xb, ob)).2]) w) := by
  obtain ⟨W3, hW3⟩ : ∃ W3, W3 = ((w.alloc (.cells (inArr i) 45)).alloc (.cells #[.int .i64 op, .int .i64 n, .int .i64 u, .slice (some ⟨g, o, none⟩) 2 (2 + c)] 29)).alloc (.cells #[.int .i64 t] 3) := ⟨_, rfl⟩
  have hB : Hid (Below w.heap.size w W3) := Lib.hid (by rw [hW3]; exact bAlloc (bAlloc (bAlloc (Below.refl _ _))))
  have HI : Hid (W3.heap[w.heap.size]? = some (.cells (inArr i) 45 (0, 0))) := Lib.hid (by rw [hW3]; exact (Below.heap_alloc _ _ _ (by simp; omega)).trans ((Below.heap_alloc _ _ _ (by simp)).trans (newBlk _ _ _ rfl)))
  have HE : Hid (W3.heap[w.heap.size + 1]? = some (.cells #[.int .i64 op, .int .i64 n, .int .i64 u, .slice (some ⟨g, o, none⟩) 2 (2 + c)] 29 (0, 0))) := Lib.hid (by rw [hW3]; exact (Below.heap_alloc _ _ _ (by simp)).trans (newBlk _ _ _ (by simp)))
  have HT : Hid (W3.heap[w.heap.size + 1 + 1]? = some (.cells #[.int .i64 t] 3 (0, 0))) := Lib.hid (by rw [hW3]; exact newBlk _ _ _ (by simp))
  obtain ⟨j0, j1, j2, j3⟩ := cells4' HI.out
  obtain ⟨e0, e1, e2, e3⟩ := cells4' HE.out
  have ht : W3.cell? ⟨w.heap.size + 1 + 1, 0, none⟩ = some (.int .i64 t) := by rw [cell_of_row _ _ 0 _ _ (0, 0) HT.out]; rfl
  have jl := blkLt HI.out
  have el := blkLt HE.out
  have tl := blkLt HT.out
  have hmf := hmfV
  have ht0 := ht
  have glw : g < w.heap.size := World.block_lt_of_cell? _ _ q0
  have HA := Lib.hid (fun wx (h : Below W3.heap.size W3 wx) => ha wx (hB.out.trans (h.mono hB.out.size)))
  have HBb := Lib.hid (fun wx (h : Below W3.heap.size W3 wx) => hb wx (hB.out.trans (h.mono hB.out.size)))
  have q0 := (World.cell?_of_block (hB.out.block _ glw)).trans q0
  have k0 := q0
  have q1 := (World.cell?_of_block (hB.out.block _ glw)).trans q1
  have k1 := q1
  have q2 := (World.cell?_of_block (hB.out.block _ glw)).trans q2
  have k2 := q2
  have q3 := (World.cell?_of_block (hB.out.block _ glw)).trans q3
  have k3 := q3
  have q4 := (World.cell?_of_block (hB.out.block _ glw)).trans q4
  have k4 := q4
  have q5 := (World.cell?_of_block (hB.out.block _ glw)).trans q5
  have k5 := q5
  have q6 := (World.cell?_of_block (hB.out.block _ glw)).trans q6
  have k6 := q6
  have q7 := (World.cell?_of_block (hB.out.block _ glw)).trans q7
  have k7 := q7
  have gl : g < W3.heap.size := Nat.lt_of_lt_of_le glw hB.out.size
  have HB := Lib.hid (Below.refl W3.heap.size W3)
  clear ha hb
  have g1 : (op == 1) = false := by simp [h1]
  have g2 : (op == 2) = false := by simp [h2]
  have g3 : (op == 3) = false := by simp [h3]
  go_enter Tryd.func19, Tryd.ntmps19
  go_upto_region 2 with fail
  rw [← hW3]
  clear hW3
  go_wp2_with fail
  go_region_held3 (fun w' => w'.cell? ⟨w.heap.size + 1, 3, none⟩ = some (.slice (some ⟨g, o, none⟩) 2 (2 + c)) ∧ w'.cell? ⟨w.heap.size, 0, none⟩ = some (.int .u8 i.i0) ∧ w'.cell? ⟨w.heap.size, 1, none⟩ = some (.int .u8 i.i1) ∧ w'.cell? ⟨w.heap.size, 2, none⟩ = some (.int .u8 i.i2) ∧ w'.cell? ⟨w.heap.size, 3, none⟩ = some (.int .u8 i.i3) ∧ w'.cell? ⟨g, o, none⟩ = some (.int .i64 a.op) ∧ w'.cell? ⟨g, o + 1, none⟩ = some (.int .i64 a.n) ∧ w'.cell? ⟨g, o + 2, none⟩ = some (.int .i64 a.unit) ∧ w'.cell? ⟨g, o + 3, none⟩ = some (.slice A1 a.kids.length (a.kids.length + ac)) ∧ w'.cell? ⟨w.heap.size + 1 + 1, 0, none⟩ = some (.int .i64 t))
    (first | (with_reducible exact ⟨e3, j0, j1, j2, j3, k0, k1, k2, k3, ht0⟩) | go_keep)
    (first
      | (go_at_call 19; refine (HA.out _ ?_).mono ?_; (repeat with_reducible first | exact HB.out | apply bDrew | apply bAlloc); rintro e w1 ⟨rfl, hb1⟩; have HB := Lib.hid (bCall (by (repeat with_reducible first | exact HB.out | apply bDrew | apply bAlloc)) hb1); obtain ⟨j0, j1, j2, j3⟩ := cells4' ((HB.out.block _ jl).trans HI.out); obtain ⟨e0, e1, e2, e3⟩ := cells4' ((HB.out.block _ el).trans HE.out); have ht0 := (World.cell?_of_block (HB.out.block _ tl)).trans ht; have k0 := (World.cell?_of_block (HB.out.block _ gl)).trans q0; have k1 := (World.cell?_of_block (HB.out.block _ gl)).trans q1; have k2 := (World.cell?_of_block (HB.out.block _ gl)).trans q2; have k3 := (World.cell?_of_block (HB.out.block _ gl)).trans q3; have k4 := (World.cell?_of_block (HB.out.block _ gl)).trans q4; have k5 := (World.cell?_of_block (HB.out.block _ gl)).trans q5; have k6 := (World.cell?_of_block (HB.out.block _ gl)).trans q6; have k7 := (World.cell?_of_block (HB.out.block _ gl)).trans q7; clear hb1))
  go_wp2_with fail
  go_region_held3 (fun w' => w'.cell? ⟨w.heap.size + 1, 3, none⟩ = some (.slice (some ⟨g, o, none⟩) 2 (2 + c)) ∧ w'.cell? ⟨w.heap.size, 0, none⟩ = some (.int .u8 i.i0) ∧ w'.cell? ⟨w.heap.size, 1, none⟩ = some (.int .u8 i.i1) ∧ w'.cell? ⟨w.heap.size, 2, none⟩ = some (.int .u8 i.i2) ∧ w'.cell? ⟨w.heap.size, 3, none⟩ = some (.int .u8 i.i3) ∧ w'.cell? ⟨g, o + 4, none⟩ = some (.int .i64 b.op) ∧ w'.cell? ⟨g, o + 4 + 1, none⟩ = some (.int .i64 b.n) ∧ w'.cell? ⟨g, o + 4 + 2, none⟩ = some (.int .i64 b.unit) ∧ w'.cell? ⟨g, o + 4 + 3, none⟩ = some (.slice B1 b.kids.length (b.kids.length + bc)) ∧ w'.cell? ⟨w.heap.size + 1 + 1, 0, none⟩ = some (.int .i64 t))
    (first | (with_reducible exact ⟨e3, j0, j1, j2, j3, k4, k5, k6, k7, ht0⟩) | go_keep)
    (first
      | (go_at_call 19; refine (HBb.out _ ?_).mono ?_; (repeat with_reducible first | exact HB.out | apply bDrew | apply bAlloc); rintro e w1 ⟨rfl, hb1⟩; have HB := Lib.hid (bCall (by (repeat with_reducible first | exact HB.out | apply bDrew | apply bAlloc)) hb1); obtain ⟨j0, j1, j2, j3⟩ := cells4' ((HB.out.block _ jl).trans HI.out); obtain ⟨e0, e1, e2, e3⟩ := cells4' ((HB.out.block _ el).trans HE.out); have ht0 := (World.cell?_of_block (HB.out.block _ tl)).trans ht; have k0 := (World.cell?_of_block (HB.out.block _ gl)).trans q0; have k1 := (World.cell?_of_block (HB.out.block _ gl)).trans q1; have k2 := (World.cell?_of_block (HB.out.block _ gl)).trans q2; have k3 := (World.cell?_of_block (HB.out.block _ gl)).trans q3; have k4 := (World.cell?_of_block (HB.out.block _ gl)).trans q4; have k5 := (World.cell?_of_block (HB.out.block _ gl)).trans q5; have k6 := (World.cell?_of_block (HB.out.block _ gl)).trans q6; have k7 := (World.cell?_of_block (HB.out.block _ gl)).trans q7; clear hb1))
  go_upto_region 19 with fail
  clear k0 k1 k2 k3 k4 k5 k6 k7 e1 e2 e3 j0 j1 j2 j3
  by_cases o4 : op = 4
  · obtain ⟨q, hq⟩ : ∃ q, IntKind.i64.wrap (xa + xb) = q := ⟨_, rfl⟩
    cases oa
    all_goals
      go_wp2_with fail
    · exact bodyPost_ret (v := .tuple #[.int .i64 q, .bool false]) (by simp [results, Tryd.results19, go_sem]) rfl (vv_ret (by simp [opV, o4, hq]) (bCall hB.out HB.out))
    · exact bodyPost_ret (v := .tuple #[.int .i64 q, .bool ob]) (by simp [results, Tryd.results19, go_sem]) rfl (vv_ret (by simp [opV, o4, hq]) (bCall hB.out HB.out))
  have z4 : (op == 4) = false := by simp [o4]
  by_cases o5 : op = 5
  · obtain ⟨q, hq⟩ : ∃ q, IntKind.i64.wrap (xa - xb) = q := ⟨_, rfl⟩
    cases oa
    all_goals
      go_wp2_with fail
    · exact bodyPost_ret (v := .tuple #[.int .i64 q, .bool false]) (by simp [results, Tryd.results19, go_sem]) rfl (vv_ret (by simp [opV, o5, hq]) (bCall hB.out HB.out))
    · exact bodyPost_ret (v := .tuple #[.int .i64 q, .bool ob]) (by simp [results, Tryd.results19, go_sem]) rfl (vv_ret (by simp [opV, o5, hq]) (bCall hB.out HB.out))
  have z5 : (op == 5) = false := by simp [o5]
  by_cases o6 : op = 6
  · obtain ⟨q, hq⟩ : ∃ q, IntKind.i64.wrap (xa * xb) = q := ⟨_, rfl⟩
    cases oa
    all_goals
      go_wp2_with fail
    · exact bodyPost_ret (v := .tuple #[.int .i64 q, .bool false]) (by simp [results, Tryd.results19, go_sem]) rfl (vv_ret (by simp [opV, o6, hq]) (bCall hB.out HB.out))
    · exact bodyPost_ret (v := .tuple #[.int .i64 q, .bool ob]) (by simp [results, Tryd.results19, go_sem]) rfl (vv_ret (by simp [opV, o6, hq]) (bCall hB.out HB.out))
  have z6 : (op == 6) = false := by simp [o6]
  by_cases o9 : op = 9
  · cases oa
    all_goals
      go_wp2_with fail
    all_goals first
      | (refine bodyPost_ret (v := .tuple #[.int .i64 xa, .bool false]) ?_ rfl (vv_ret ?_ (bCall hB.out HB.out)) <;> (simp [results, Tryd.results19, go_sem, opV, o9] <;> omega))
      | (refine bodyPost_ret (v := .tuple #[.int .i64 xb, .bool false]) ?_ rfl (vv_ret ?_ (bCall hB.out HB.out)) <;> (simp [results, Tryd.results19, go_sem, opV, o9] <;> omega))
      | (refine bodyPost_ret (v := .tuple #[.int .i64 xa, .bool ob]) ?_ rfl (vv_ret ?_ (bCall hB.out HB.out)) <;> (simp [results, Tryd.results19, go_sem, opV, o9] <;> omega))
      | (refine bodyPost_ret (v := .tuple #[.int .i64 xb, .bool ob]) ?_ rfl (vv_ret ?_ (bCall hB.out HB.out)) <;> (simp [results, Tryd.results19, go_sem, opV, o9] <;> omega))
  have z9 : (op == 9) = false := by simp [o9]
  by_cases o10 : op = 10
  · cases oa
    all_goals
      go_wp2_with fail
    all_goals first
      | (refine bodyPost_ret (v := .tuple #[.int .i64 xa, .bool false]) ?_ rfl (vv_ret ?_ (bCall hB.out HB.out)) <;> (simp [results, Tryd.results19, go_sem, opV, o10] <;> omega))
      | (refine bodyPost_ret (v := .tuple #[.int .i64 xb, .bool false]) ?_ rfl (vv_ret ?_ (bCall hB.out HB.out)) <;> (simp [results, Tryd.results19, go_sem, opV, o10] <;> omega))
      | (refine bodyPost_ret (v := .tuple #[.int .i64 xa, .bool ob]) ?_ rfl (vv_ret ?_ (bCall hB.out HB.out)) <;> (simp [results, Tryd.results19, go_sem, opV, o10] <;> omega))
      | (refine bodyPost_ret (v := .tuple #[.int .i64 xb, .bool ob]) ?_ rfl (vv_ret ?_ (bCall hB.out HB.out)) <;> (simp [results, Tryd.results19, go_sem, opV, o10] <;> omega))
  have z10 : (op == 10) = false := by simp [o10]
  go_wp2_with fail
  exact bodyPost_ret (v := .tuple #[.int .i64 0, .bool false]) (by simp [results, Tryd.results19, go_sem]) rfl (vv_ret (by simp [opV, o4, o5, o6, o9, o10]) (bCall hB.out HB.out))
end Go.Proofs.YtmofclpheioepaaDoor
