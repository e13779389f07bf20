/- Texts of one proof: VxA. -/
import Derived.Test.YtljknappbnoikaaGreatDoorZy
set_option linter.unusedVariables false
set_option linter.unusedSimpArgs false
set_option maxRecDepth 100000
set_option maxHeartbeats 8000000
namespace Go.Proofs.YtljknappbnoikaaGreatDoor
open Go.RowKit
def lowB (b : UInt8) : Bool := decide (97 ≤ b.toNat) && decide (b.toNat ≤ 122)
def tailB (b : UInt8) : Bool := lowB b || ((decide (48 ≤ b.toNat) && decide (b.toNat ≤ 57)) || decide (b.toNat = 95))
def nmBytes : List UInt8 → Bool
 | [] => true
 | b :: r => lowB b && r.all tailB
def refU : List ByteArray := [⟨#[110, 111, 110, 101]⟩, ⟨#[112, 97, 99, 107, 101, 116, 115]⟩, ⟨#[98, 121, 116, 101, 115]⟩, ⟨#[116, 105, 109, 101]⟩, ⟨#[114, 97, 116, 101]⟩]
def refE : List ByteArray := [⟨#[97, 99, 107]⟩, ⟨#[108, 111, 115, 115]⟩, ⟨#[109, 97, 114, 107]⟩, ⟨#[116, 105, 109, 101, 111, 117, 116]⟩, ⟨#[112, 97, 116, 104]⟩]
def refP : List ByteArray := [⟨#[116, 97, 105, 108]⟩, ⟨#[101, 97, 114, 108, 121]⟩, ⟨#[115, 111, 106, 111, 117, 114, 110]⟩, ⟨#[105, 110, 116, 101, 103, 114, 97, 108]⟩, ⟨#[100, 101, 102, 105, 99, 105, 116]⟩, ⟨#[100, 117, 97, 108]⟩]
def refI : List ByteArray := [⟨#[97, 99, 107, 101, 100]⟩, ⟨#[114, 116, 116]⟩, ⟨#[115, 105, 122, 101]⟩, ⟨#[116, 111, 116, 97, 108]⟩]
def refO : List ByteArray := [⟨#[108, 105, 110, 107]⟩, ⟨#[112, 97, 116, 104]⟩, ⟨#[102, 108, 111, 119]⟩, ⟨#[112, 114, 111, 103, 114, 97, 109]⟩, ⟨#[100, 101, 108, 97, 121]⟩, ⟨#[114, 111, 111, 109]⟩, ⟨#[98, 97, 99, 107]⟩, ⟨#[112, 97, 116, 104, 115]⟩, ⟨#[119, 105, 110, 100, 111, 119]⟩, ⟨#[115, 116, 97, 114, 116]⟩, ⟨#[112, 97, 99, 101]⟩, ⟨#[118, 97, 114]⟩, ⟨#[111, 110]⟩, ⟨#[105, 102]⟩, ⟨#[101, 108, 115, 101]⟩, ⟨#[109, 105, 110]⟩, ⟨#[109, 97, 120]⟩, ⟨#[117, 112]⟩]
def key5 (x : ByteArray) : Bool := decide (0 ≤ idx refU x) || (decide (0 ≤ idx refE x) || (decide (0 ≤ idx refP x) || (decide (0 ≤ idx refI x) || decide (0 ≤ idx refO x))))
def nm5 (x : ByteArray) : Bool := nmBytes x.data.toList && (decide (1 ≤ x.size) && (decide (x.size ≤ 12) && !key5 x))
theorem idxF_mem (x : ByteArray) : ∀ (l : List ByteArray) (k : Nat), x ∈ l → (k : Int) ≤ idxF x l k
 | [], k, h => by cases h
 | y :: l, k, h => by
  rw [idxF]
  split
  ·exact Int.le_refl _
  ·rename_i hne
   rcases List.mem_cons.1 h with h | h
   ·exact absurd h hne
   ·have := idxF_mem x l (k + 1) h
    omega
theorem ba_ext {x y : ByteArray} (h : x.data.toList = y.data.toList) : x = y := by
 cases x; cases y
 simp only [ByteArray.mk.injEq]
 exact Array.ext' h
theorem key_subB : (keyL ++ inpL).all (fun l => (refU ++ (refE ++ (refP ++ (refI ++ refO)))).any (fun y => decide (y = ⟨l.toArray⟩))) = true := by decide +kernel
theorem key_sub (l : List UInt8) (h : l ∈ keyL ++ inpL) : (⟨l.toArray⟩ : ByteArray) ∈ refU ∨ (⟨l.toArray⟩ : ByteArray) ∈ refE ∨ (⟨l.toArray⟩ : ByteArray) ∈ refP ∨ (⟨l.toArray⟩ : ByteArray) ∈ refI ∨ (⟨l.toArray⟩ : ByteArray) ∈ refO := by
 obtain ⟨y, hy, e⟩ := List.any_eq_true.1 (List.all_eq_true.1 key_subB l h)
 obtain rfl := of_decide_eq_true e
 simpa [List.mem_append] using hy
theorem key5_of {x : ByteArray} (h : keyB x = true) : key5 x = true := by
 have hm : x.toList ∈ keyL ++ inpL := by
  unfold keyB at h
  rcases (Bool.or_eq_true _ _).mp h with h | h
  ·obtain ⟨y, hy, e⟩ := List.any_eq_true.1 h
   rw [beq_iff_eq] at e
   rw [e]
   exact List.mem_append_left _ hy
  ·unfold inpB at h
   obtain ⟨y, hy, e⟩ := List.any_eq_true.1 h
   rw [beq_iff_eq] at e
   rw [e]
   exact List.mem_append_right _ hy
 have hx : (⟨x.toList.toArray⟩ : ByteArray) = x := ba_ext (by rw [ByteArray.toList_eq])
 have hk := key_sub _ hm
 rw [hx] at hk
 unfold key5 idx
 simp only [Bool.or_eq_true, decide_eq_true_eq]
 rcases hk with h | h | h | h | h
 ·exact .inl (idxF_mem x _ 0 h)
 ·exact .inr (.inl (idxF_mem x _ 0 h))
 ·exact .inr (.inr (.inl (idxF_mem x _ 0 h)))
 ·exact .inr (.inr (.inr (.inl (idxF_mem x _ 0 h))))
 ·exact .inr (.inr (.inr (.inr (idxF_mem x _ 0 h))))
theorem cls_low {b : UInt8} (h : lowB b = true) : cls b.toNat = 4 := by
 have k : ∀ n, n < 256 → 97 ≤ n → n ≤ 122 → cls n = 4 := by decide +kernel
 unfold lowB at h
 simp only [Bool.and_eq_true, decide_eq_true_eq] at h
 exact k _ b.toNat_lt h.1 h.2
theorem cls_tail {b : UInt8} (h : tailB b = true) : nameB (cls b.toNat) = true := by
 have k : ∀ n, n < 256 → (48 ≤ n ∧ n ≤ 57) ∨ n = 95 → nameB (cls n) = true := by decide +kernel
 unfold tailB at h
 simp only [Bool.or_eq_true, Bool.and_eq_true, decide_eq_true_eq] at h
 rcases h with h | h
 ·rw [cls_low h]; rfl
 ·exact k _ b.toNat_lt h
theorem run_tail : ∀ l : List UInt8, l.all tailB = true → runLen nameB l = l.length
 | [], _ => rfl
 | b :: r, h => by
  simp only [List.all_cons, Bool.and_eq_true] at h
  rw [runLen, if_pos (cls_tail h.1), run_tail r h.2]
  rfl
theorem nm5_name {x : ByteArray} (h : nm5 x = true) : nameB1 x = true := by
 unfold nm5 at h
 simp only [Bool.and_eq_true, decide_eq_true_eq, Bool.not_eq_true'] at h
 obtain ⟨hb, h1, h2, hk⟩ := h
 have hsz : x.data.toList.length = x.size := by simp
 have hkey : keyB x = false := by
  rcases hq : keyB x with _ | _
  ·rfl
  ·rw [key5_of hq] at hk; cases hk
 rcases hl : x.data.toList with _ | ⟨b, r⟩
 ·rw [hl] at hsz; simp at hsz; omega
 rw [hl] at hb hsz
 simp only [nmBytes, Bool.and_eq_true] at hb
 simp only [List.length_cons] at hsz
 have hc := cls_low hb.1
 have hrun : runLen nameB (b :: r) = r.length + 1 := by rw [runLen, if_pos (by rw [hc]; rfl), run_tail r hb.2]
 have hd : x.data.toList.drop 0 = b :: r := by rw [hl]; rfl
 have htl : tokLen (b :: r) = r.length + 1 := by unfold tokLen; simp only; rw [if_pos hc, hrun]
 have hte : tokErr (b :: r) = 0 := by unfold tokErr; simp only; rw [if_pos hc, if_neg (by simp; omega)]
 have htk : (b :: r).take (r.length + 1) = b :: r := List.take_of_length_le (by simp)
 have hext : x.extract 0 (0 + (r.length + 1)) = x := ba_ext (by
  rw [show (x.extract 0 (0 + (r.length + 1))).data.toList = (x.data.toList.drop 0).take (r.length + 1) from by simp [ByteArray.data_extract]]
  rw [hd, htk, hl])
 have hto : tokOf x 0 = ⟨1, x, 0, 0⟩ := by unfold tokOf; rw [hl]; simp only; rw [if_pos hc]; rfl
 have hrd : rd x 0 = (⟨1, x, 0, 0⟩, r.length + 1, 0) := by
  unfold rd
  rw [hd, htl, if_neg (by omega), htk, hte, if_neg (by simp), hext, hto]
  simp
 have hg0 : gapE x 0 = 0 := by
  unfold gapE
  rw [hd]
  have hng : gapLen false (b :: r) = 0 := by
   have k : ∀ n, n < 256 → cls n = 4 → n ≠ 35 ∧ n ≠ 32 ∧ n ≠ 9 ∧ n ≠ 10 := by decide +kernel
   obtain ⟨k1, k2, k3, k4⟩ := k _ b.toNat_lt hc
   rw [gapLen, if_pos]
   refine ⟨?_, ?_, ?_, ?_⟩
   ·have : (b == 35) = false := by rw [beq_eq_false_iff_ne]; rintro rfl; exact k1 rfl
    rw [this]; rfl
   ·rintro rfl; exact k2 rfl
   ·rintro rfl; exact k3 rfl
   ·rintro rfl; exact k4 rfl
  rw [hng]
 have hge : x.size ≤ gapE x (r.length + 1) := by unfold gapE; omega
 have hlx : lexF x (x.size + 1) 0 0 = ([⟨1, x, 0, 0⟩], 0, 0) := by
  rw [lexF_tok x x.size 0 0 _ _ (by omega) (by decide) hrd]
  obtain ⟨s, hs⟩ : ∃ s, x.size = s + 1 := ⟨x.size - 1, by omega⟩
  have := lexF_done x s (gapE x (r.length + 1)) (0 + 1) hge
  rw [hs] at hge ⊢
  rw [this]
 have : lx x = ([⟨1, x, 0, 0⟩], 0, 0) := by
  unfold lx
  rw [if_neg (by omega), hg0, hlx]
  rfl
 unfold nameB1
 rw [this]
 simp [hkey]
namespace C
def varB (nm : ByteArray → Bool) (v : U.Vr) : Bool := nm v.x && (decide (0 ≤ v.u) && (decide (v.u ≤ 4) && (decide (0 ≤ v.lo) && (decide (v.lo ≤ v.i) && (decide (v.i ≤ v.hi) && decide (v.hi ≤ 1000000000))))))
def okVars (nm : ByteArray → Bool) (all : List U.Vr) : List U.Vr → Nat → Bool
 | [], _ => true
 | v :: vs, k => varB nm v && decide (idx (all.map (·.x)) v.x = (k : Int)) && okVars nm all vs (k + 1)
def usesB (vs : List U.Vr) (k un : Int) : Bool := decide (0 ≤ k) && (decide (k < vs.length) && decide (((vs[k.toNat]?).map (·.u)).getD 9 = un))
def v5 (nm : ByteArray → Bool) (x : ByteArray) (vs : List U.Vr) (on : List (List U.St)) (wi pa : Int) : Bool :=
 (nm x && (decide (1 ≤ vs.length) && decide (vs.length ≤ 12))) && (okVars nm vs vs 0 && (decide ((U.checkM (vs.map (·.u)) on).1 = -1) && (decide ((U.checkM (vs.map (·.u)) on).2 = 0) && (usesB vs wi 1 && (decide (pa = -1) || usesB vs pa 4)))))
theorem okVars_mem {nm : ByteArray → Bool} {all : List U.Vr} : ∀ {l : List U.Vr} {k : Nat}, okVars nm all l k = true → ∀ v ∈ l, varB nm v = true
 | [], _, _, v, h => by cases h
 | u :: l, k, h, v, hv => by
  rw [okVars] at h
  simp only [Bool.and_eq_true] at h
  rcases List.mem_cons.1 hv with rfl | hv
  ·exact h.1.1
  ·exact okVars_mem h.2 v hv
theorem okVars_idx {nm : ByteArray → Bool} {all : List U.Vr} : ∀ {l : List U.Vr} {k : Nat}, okVars nm all l k = true → ∀ (i : Nat) (v : U.Vr), l[i]? = some v → idx (all.map (·.x)) v.x = ((k + i : Nat) : Int)
 | [], _, _, i, v, h => by simp at h
 | u :: l, k, h, 0, v, hv => by
  rw [okVars] at h
  simp only [Bool.and_eq_true, decide_eq_true_eq] at h
  simp at hv
  subst hv
  exact h.1.2
 | u :: l, k, h, i + 1, v, hv => by
  rw [okVars] at h
  simp only [Bool.and_eq_true] at h
  have := okVars_idx h.2 i v (by simpa using hv)
  rw [this]
  congr 1
  omega
theorem idxF_first (x : ByteArray) : ∀ (l : List ByteArray) (k i : Nat), l[i]? = some x → idxF x l k ≤ ((k + i : Nat) : Int) ∧ (k : Int) ≤ idxF x l k
 | [], k, i, h => by simp at h
 | y :: l, k, 0, h => by
  simp at h
  subst h
  rw [idxF, if_pos rfl]
  omega
 | y :: l, k, i + 1, h => by
  rw [idxF]
  split
  ·omega
  ·have := idxF_first x l (k + 1) i (by simpa using h)
   omega
theorem ba_nil : (⟨#[]⟩ : ByteArray).toList = [] := by unfold ByteArray.toList ByteArray.toList.loop; rfl
theorem spareL_leaf : ∀ (ts : List Nd) (n : Int), (∀ t ∈ ts, ∀ m : Int, 10 ≤ m → m - 4 ≤ spareN t m) → 4 * (ts.length : Int) + 10 ≤ n → n - 4 * ts.length ≤ spareL ts n
 | [], n, _, _ => by simp [spareL]
 | t :: ts, n, h, hn => by
  simp only [List.length_cons] at hn ⊢
  rw [spareL, if_pos (by omega)]
  have h1 := h t (by simp) n (by omega)
  have h2 := spareL_leaf ts (spareN t n) (fun u hu => h u (List.mem_cons_of_mem _ hu)) (by omega)
  omega
theorem spare_num (k m : Int) : spareN (numNd k) m = m - 1 := by rw [numNd, spareN, spareL]
theorem spare_vNd (v : U.Vr) (m : Int) (h : 10 ≤ m) : m - 4 ≤ spareN (vNd v) m := by
 rw [vNd, spareN, spareL, if_pos (by omega), spare_num, spareL, if_pos (by omega), spare_num, spareL, if_pos (by omega), spare_num, spareL]
 omega
theorem spare_use (n : Int) (y : ByteArray) (m : Int) (h : 10 ≤ m) : m - 4 ≤ spareN (useNd n y) m := by
 rw [useNd, spareN, spareL]; omega
theorem declKids_len (vs : List U.Vr) (wi pa : Int) : (declKids vs wi pa).length ≤ vs.length + 2 := by
 unfold declKids
 by_cases h : pa = -1 <;> simp [h]
theorem spare_decl (x : ByteArray) (vs : List U.Vr) (wi pa : Int) (hl : vs.length ≤ 12) : 0 ≤ spareN (declNd x vs wi pa) 2500 := by
 have hk := declKids_len vs wi pa
 have h := spareL_leaf (declKids vs wi pa) 2498 (by
  intro t ht m hm
  unfold declKids at ht
  rcases List.mem_append.1 ht with ht | ht
  ·obtain ⟨v, -, rfl⟩ := List.mem_map.1 ht; exact spare_vNd v m hm
  ·rcases List.mem_cons.1 ht with rfl | ht
   ·exact spare_use _ _ _ hm
   ·by_cases h : pa = -1
    ·rw [if_pos h] at ht; cases ht
    ·rw [if_neg h] at ht; obtain rfl := List.mem_singleton.1 ht; exact spare_use _ _ _ hm) (by omega)
 have e : spareN (declNd x vs wi pa) 2500 = spareL (declKids vs wi pa) 2498 := by
  rw [declNd, spareN, spareL, if_pos (by omega), spareN, spareL]
  rfl
 rw [e]
 omega
theorem vVar_vNd {nm : ByteArray → Bool} (hn : ∀ y, nm y = true → nameB1 y = true) {v : U.Vr} (h : varB nm v = true) : vVar (vNd v) = true := by
 unfold varB at h
 simp only [Bool.and_eq_true, decide_eq_true_eq] at h
 obtain ⟨h1, h2, h3, h4, h5, h6, h7⟩ := h
 have hnum : ∀ k : Int, 0 ≤ k → k ≤ 1000000000 → vNumber (numNd k) = true := fun k h0 h1 => by
  simp [vNumber, numNd, btw, plainB, zn, Nd.n, Nd.kind, Nd.name, Nd.unit, Nd.kids, h0, h1, ba_nil]
 simp only [vVar, vNd, btw, namedB, zn, vNumbers, Go.Proofs.YtljknappbnoikaaGreatDoor.allB, Nd.n, Nd.kind, Nd.name, Nd.unit, Nd.kids, hn _ h1, hnum v.lo h4 (by omega), hnum v.hi (by omega) h7, hnum v.i (by omega) (by omega)]
 simp [h2, h3]
theorem vVar_use (n : Int) (y : ByteArray) : vVar (useNd n y) = false := by
 simp [vVar, useNd, namedB, zn, Nd.n, Nd.kind]
theorem vHandler_use (n : Int) (y : ByteArray) : vHandler (useNd n y) = false := by
 simp [vHandler, useNd, plainB, zn, Nd.n, Nd.kind]
theorem lead_app (P : Nd → Bool) : ∀ (l r : List Nd), (∀ t ∈ l, P t = true) → lead P (l ++ r) = l.length + lead P r
 | [], r, _ => by simp
 | t :: l, r, h => by
  rw [List.cons_append, lead, if_pos (h t (by simp)), lead_app P l r (fun u hu => h u (List.mem_cons_of_mem _ hu))]
  simp only [List.length_cons]
  omega
theorem vProg_decl {nm : ByteArray → Bool} (hn : ∀ y, nm y = true → nameB1 y = true) {vs : List U.Vr} (hv : ∀ v ∈ vs, varB nm v = true) {wi pa : Int} (hw : nameB1 (nameAt vs wi) = true) (hp : pa = -1 ∨ nameB1 (nameAt vs pa) = true) : vProg (declKids vs wi pa) = true := by
 have h1 : lead vVar (declKids vs wi pa) = vs.length := by
  unfold declKids
  rw [lead_app _ _ _ (by intro t ht; obtain ⟨v, hm, rfl⟩ := List.mem_map.1 ht; exact vVar_vNd hn (hv v hm)), lead, if_neg (by rw [vVar_use]; simp)]
  simp
 have h2 : (declKids vs wi pa).drop vs.length = useNd 0 (nameAt vs wi) :: usesM vs pa := by
  unfold declKids usesM
  rw [List.drop_append_of_le_length (by simp)]
  simp
 have h3 : vRest (declKids vs wi pa) = useNd 0 (nameAt vs wi) :: usesM vs pa := by
  unfold vRest
  rw [h1, h2, lead, if_neg (by rw [vHandler_use]; simp)]
  rfl
 unfold vProg
 rw [h3]
 unfold usesM
 rcases hp with rfl | hp
 ·rw [if_pos rfl]
  simp [vUses, useNd, namedB, zn, Nd.n, Nd.kind, Nd.name, Nd.unit, Nd.kids, hw, btw]
 ·by_cases h : pa = -1
  ·rw [if_pos h]
   simp [vUses, useNd, namedB, zn, Nd.n, Nd.kind, Nd.name, Nd.unit, Nd.kids, hw, btw]
  ·rw [if_neg h]
   simp [vUses, useNd, namedB, zn, Nd.n, Nd.kind, Nd.name, Nd.unit, Nd.kids, hw, hp, btw]
theorem vrOf_vNd (v : U.Vr) : vrOf (vNd v) = v := by
 cases v
 rfl
theorem vsM_ok {nm : ByteArray → Bool} {all : List U.Vr} (hall : okVars nm all all 0 = true) (hl : all.length ≤ 12) : ∀ (rest pre : List U.Vr), pre ++ rest = all → vsM (pre.map vNd) (rest.map vNd) pre = .ok all
 | [], pre, h => by simp at h; subst h; rfl
 | v :: rest, pre, h => by
  have hlen : pre.length + (rest.length + 1) = all.length := by rw [← h]; simp
  have hat : all[pre.length]? = some v := by rw [← h]; simp
  have hidx := okVars_idx hall pre.length v hat
  have hvb := okVars_mem hall v (List.mem_of_getElem? hat)
  unfold varB at hvb
  simp only [Bool.and_eq_true, decide_eq_true_eq] at hvb
  rw [List.map_cons, vsM, if_pos (by simp; omega), if_neg, if_pos]
  ·rw [vrOf_vNd]
   have := vsM_ok hall hl rest (pre ++ [v]) (by simpa using h)
   rw [List.map_append] at this
   exact this
  ·show (decide (v.lo ≤ v.i) && decide (v.i ≤ v.hi)) = true
   simp [hvb.2.2.2.2.1, hvb.2.2.2.2.2.1]
  ·intro hany
   obtain ⟨t, ht, he⟩ := List.any_eq_true.1 hany
   obtain ⟨u, hu, rfl⟩ := List.mem_map.1 ht
   have he2 : v.x = u.x := of_decide_eq_true he
   obtain ⟨i, hi, hui⟩ := List.getElem_of_mem hu
   have h2 : (all.map (·.x))[i]? = some v.x := by
    rw [← h, List.map_append, List.getElem?_append_left (by simpa using hi), List.getElem?_map, List.getElem?_eq_getElem hi, hui]
    simp [he2]
   have := (idxF_first v.x (all.map (·.x)) 0 i h2).1
   unfold idx at hidx
   rw [hidx] at this
   omega
theorem useM_ok {nm : ByteArray → Bool} {vs : List U.Vr} (hall : okVars nm vs vs 0 = true) {k un n : Int} (hu : usesB vs k un = true) : useM vs (useNd n (nameAt vs k)) un = .ok k := by
 unfold usesB at hu
 simp only [Bool.and_eq_true, decide_eq_true_eq] at hu
 obtain ⟨h0, h1, h2⟩ := hu
 have hlt : k.toNat < vs.length := by omega
 rw [List.getElem?_eq_getElem hlt] at h2
 have hi := okVars_idx hall k.toNat _ (List.getElem?_eq_getElem hlt)
 have hn : nameAt vs k = vs[k.toNat].x := by unfold nameAt; rw [List.getElem?_eq_getElem hlt]; rfl
 have hi2 : idx (vs.map (·.x)) (nameAt vs k) = k := by rw [hn, hi]; omega
 have hnm : (useNd n (nameAt vs k)).name = nameAt vs k := rfl
 unfold useM
 rw [hnm, hi2, if_pos h0, List.getElem?_eq_getElem hlt]
 simp only
 rw [if_pos (by simpa using h2)]
theorem uses_name {nm : ByteArray → Bool} (hn : ∀ y, nm y = true → nameB1 y = true) {vs : List U.Vr} (hv : ∀ v ∈ vs, varB nm v = true) {k un : Int} (hu : usesB vs k un = true) : nameB1 (nameAt vs k) = true := by
 unfold usesB at hu
 simp only [Bool.and_eq_true, decide_eq_true_eq] at hu
 have hlt : k.toNat < vs.length := by omega
 have hb := hv _ (List.getElem_mem hlt)
 unfold varB at hb
 simp only [Bool.and_eq_true] at hb
 unfold nameAt
 rw [List.getElem?_eq_getElem hlt]
 exact hn _ hb.1
theorem v5_val {nm : ByteArray → Bool} (hn : ∀ y, nm y = true → nameB1 y = true) {x : ByteArray} {vs : List U.Vr} {on : List (List U.St)} {wi pa : Int} (h : v5 nm x vs on wi pa = true) : valPM x vs on wi pa = true := by
 unfold v5 at h
 simp only [Bool.and_eq_true, Bool.or_eq_true, decide_eq_true_eq] at h
 obtain ⟨⟨h1, h2, h3⟩, h4, h5, h6, h7, h8⟩ := h
 have hv := okVars_mem h4
 have hw := uses_name hn hv h7
 have hp : pa = -1 ∨ nameB1 (nameAt vs pa) = true := h8.imp id (uses_name hn hv)
 have e1 : inB wi vs.length = true := by unfold usesB at h7; simp only [Bool.and_eq_true] at h7; simp only [inB, h7.1, h7.2.1, Bool.and_self]
 have e2 : (decide (pa = -1) || inB pa vs.length) = true := by
  rcases h8 with h8 | h8
  ·simp [h8]
  ·unfold usesB at h8; simp only [Bool.and_eq_true] at h8; simp only [inB, h8.1, h8.2.1, Bool.and_self, Bool.or_true]
 have e3 : validN (declNd x vs wi pa) = true := by
  unfold validN
  rw [decide_eq_true (spare_decl x vs wi pa h3), Bool.true_and]
  have ep : plainB (declNd x vs wi pa) 1 = true := by simp [plainB, declNd, Nd.kind, Nd.name, Nd.n, Nd.unit, ba_nil]
  rw [ep, Bool.true_and]
  show (vItem _ && true) = true
  rw [Bool.and_true]
  unfold vItem
  have := vProg_decl hn hv (wi := wi) (pa := pa) hw hp
  simp [namedB, Nd.kind, Nd.name, Nd.n, Nd.unit, Nd.kids, hn _ h1, this]
 have e4 : okE (progM [] (.mk 6 x 0 0 0 (declKids vs wi pa)) (useNd 0 (nameAt vs wi)) (usesM vs pa) (vs.map vNd)) = true := by
  have g1 := vsM_ok h4 h3 vs [] rfl
  have g2 := useM_ok h4 (n := 0) h7
  have g3 : paM vs (usesM vs pa) = .ok pa := by
   unfold usesM
   by_cases hq : pa = -1
   ·rw [if_pos hq, hq]; rfl
   ·rw [if_neg hq]
    exact useM_ok h4 (n := 1) (h8.resolve_left hq)
  unfold progM
  simp only [List.any_nil, Bool.false_eq_true, if_false, List.length_nil]
  rw [if_pos (by decide)]
  simp only [List.map_nil] at g1
  rw [g1]
  simp only
  rw [g2]
  simp only
  rw [g3]
  rfl
 unfold valPM declB
 rw [h6, e1, e2, e3, e4]
 rfl
end C
end Go.Proofs.YtljknappbnoikaaGreatDoor
