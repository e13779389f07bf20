/- Texts of one proof: KzT, KzL, KzX, KxD. -/
import Derived.Test.YtljknappbnoikaaGreatDoorYb
import Derived.Test.YtljknappbnoikaaGreatDoorZp
import Derived.Test.YtljknappbnoikaaGreatDoorZy
import Derived.Test.YtljknappbnoikaaGreatDoorYm
import Derived.Test.YtljknappbnoikaaGreatDoorYc
import Derived.Test.YtljknappbnoikaaGreatDoorZd
set_option linter.unusedVariables false
set_option linter.unusedSimpArgs false
set_option maxRecDepth 100000
set_option maxHeartbeats 8000000
namespace Go.Proofs.YtljknappbnoikaaGreatDoor
open Go.RowKit
namespace K
open U (Ex St StsR VarsR Vr kbL)
open C (valPM v5 v5_val SomeB V1)
theorem chk_of {s : List U.Pw} : ∀ {ls : List (List St)} {k : Nat}, (∀ l ∈ ls, U.handM s l = 0) → (U.chkL s ls k).2 = 0
 | [], k, _ => rfl
 | x :: xs, k, h => by
  rw [U.chkL, if_pos (h x (List.mem_cons_self ..))]
  exact chk_of (fun l hl => h l (List.mem_cons_of_mem _ hl))
theorem val_on {x : ByteArray} {vs : List Vr} {on on2 : List (List St)} {wi pa : Int} (h : valPM x vs on wi pa = true) (h2 : ∀ l ∈ on2, l ∈ on ∨ l = []) : valPM x vs on2 wi pa = true := by
 unfold C.valPM at h ⊢
 simp only [Bool.and_eq_true, decide_eq_true_eq] at h ⊢
 refine ⟨?_, h.2⟩
 have h1 := h.1
 unfold U.checkM at h1 ⊢
 rcases hs : U.scopeM (vs.map (·.u)) with _ | s
 ·rw [hs] at h1; cases h1
 ·rw [hs] at h1 ⊢
  simp only at h1 ⊢
  refine chk_of (fun l hl => ?_)
  rcases h2 l hl with h | rfl
  ·exact chk_all h1 l h
  ·rfl
end K
end Go.Proofs.YtljknappbnoikaaGreatDoor
namespace Go.Proofs.YtljknappbnoikaaGreatDoor
open Go.RowKit
theorem low_cls {b : UInt8} (h : cls b.toNat = 4) : lowB b = true := by
 have k : ∀ n, n < 256 → cls n = 4 → 97 ≤ n ∧ n ≤ 122 := by decide +kernel
 have := k _ b.toNat_lt h
 simp [lowB, this]
theorem tail_cls {b : UInt8} (h : nameB (cls b.toNat) = true) : tailB b = true := by
 have k : ∀ n, n < 256 → nameB (cls n) = true → (97 ≤ n ∧ n ≤ 122) ∨ (48 ≤ n ∧ n ≤ 57) ∨ n = 95 := by decide +kernel
 rcases k _ b.toNat_lt h with h | h | h <;> simp [tailB, lowB, h]
theorem tail_run : ∀ l : List UInt8, l.length ≤ runLen nameB l → l.all tailB = true
 | [], _ => rfl
 | b :: r, h => by
  rw [runLen] at h
  by_cases hb : nameB (cls b.toNat) = true
  ·rw [if_pos hb] at h
   simp only [List.length_cons] at h
   rw [List.all_cons, tail_cls hb, tail_run r (by omega)]
   rfl
  ·rw [if_neg hb] at h
   simp at h
theorem idxF_in (x : ByteArray) : ∀ (l : List ByteArray) (k : Nat), 0 ≤ idxF x l k → x ∈ l
 | [], k, h => by rw [idxF] at h; omega
 | y :: l, k, h => by
  rw [idxF] at h
  by_cases e : x = y
  ·rw [e]; exact List.mem_cons_self ..
  ·rw [if_neg e] at h
   exact List.mem_cons_of_mem _ (idxF_in x l (k + 1) h)
theorem key5_subB : (refU ++ (refE ++ (refP ++ (refI ++ refO)))).all (fun y => decide (y.data.toList ∈ keyL ++ inpL)) = true := by decide +kernel
theorem of_key5 {x : ByteArray} (h : key5 x = true) : keyB x = true := by
 have hm : x ∈ refU ++ (refE ++ (refP ++ (refI ++ refO))) := by
  unfold key5 idx at h
  simp only [Bool.or_eq_true, decide_eq_true_eq] at h
  simp only [List.mem_append]
  rcases h with h | h | h | h | h
  ·exact .inl (idxF_in x _ 0 h)
  ·exact .inr (.inl (idxF_in x _ 0 h))
  ·exact .inr (.inr (.inl (idxF_in x _ 0 h)))
  ·exact .inr (.inr (.inr (.inl (idxF_in x _ 0 h))))
  ·exact .inr (.inr (.inr (.inr (idxF_in x _ 0 h))))
 have h2 := of_decide_eq_true (List.all_eq_true.1 key5_subB x hm)
 have e : x.toList = x.data.toList := by rw [ByteArray.toList_eq]
 unfold keyB inpB
 rw [Bool.or_eq_true]
 rcases List.mem_append.1 h2 with h | h
 ·exact .inl (List.any_eq_true.2 ⟨_, h, by rw [e]; exact beq_self_eq_true _⟩)
 ·exact .inr (List.any_eq_true.2 ⟨_, h, by rw [e]; exact beq_self_eq_true _⟩)
theorem name_nm5 {x : ByteArray} (h : nameB1 x = true) : nm5 x = true := by
 have hsz : x.data.toList.length = x.size := by simp
 have e : x.toList = x.data.toList := by rw [ByteArray.toList_eq]
 unfold nameB1 lx at h
 by_cases hz : 10000 < x.size
 ·rw [if_pos hz] at h; cases h
 rw [if_neg hz] at h
 by_cases he : (lexF x (x.size + 1) (gapE x 0) 0).2.1 ≠ 0
 ·rw [if_pos he] at h; cases h
 rw [if_neg he] at h
 by_cases hp : x.size ≤ gapE x 0
 ·rw [lexF_done _ _ _ _ hp] at h; cases h
 by_cases hr : (rd x (gapE x 0)).2.2 ≠ 0
 ·rw [lexF, if_neg hp, if_neg (by decide), if_pos hr] at h; cases h
 rw [lexF, if_neg hp, if_neg (by decide), if_neg hr] at h
 simp only at h
 generalize (lexF x x.size (gapE x (rd x (gapE x 0)).2.1) (0 + 1)).1 = ts at h
 generalize gapE x 0 = g at *
 rcases ts with _ | ⟨t2, ts⟩
 ·simp only [Bool.and_eq_true, decide_eq_true_eq, Bool.not_eq_true'] at h
  obtain ⟨⟨hk, hx⟩, hkey⟩ := h
  have h5 : key5 x = false := by
   rcases hq : key5 x with _ | _
   ·rfl
   ·rw [of_key5 hq] at hkey; cases hkey
  by_cases c1 : tokLen (x.data.toList.drop g) = 0
  ·unfold rd at hr; rw [if_pos c1] at hr; exact absurd (by decide) hr
  by_cases c2 : tokErr ((x.data.toList.drop g).take (tokLen (x.data.toList.drop g))) ≠ 0
  ·unfold rd at hr; rw [if_neg c1, if_pos c2] at hr; exact absurd c2 hr
  unfold rd at hk hx
  rw [if_neg c1, if_neg c2] at hk hx
  simp only at hk hx
  have hy : (x.extract g (g + tokLen (x.data.toList.drop g))).data.toList = (x.data.toList.drop g).take (tokLen (x.data.toList.drop g)) := by simp [ByteArray.data_extract]
  generalize x.extract g (g + tokLen (x.data.toList.drop g)) = y at hk hx hy
  have ey : y.toList = y.data.toList := by rw [ByteArray.toList_eq]
  have c3 : tokErr ((x.data.toList.drop g).take (tokLen (x.data.toList.drop g))) = 0 := by simpa using c2
  clear c2
  unfold tokOf at hk hx
  rcases hyl : y.data.toList with _ | ⟨b, r⟩
  ·rw [hyl] at hk; simp at hk
  rw [hyl] at hk hx
  simp only at hk hx
  by_cases hc : cls b.toNat = 4
  ·rw [if_pos hc] at hx
   have hx : y.toList = x.toList := hx
   rw [ey, e] at hx
   rw [← hy, hx] at c3
   rw [hx] at hyl hy
   have hlen := congrArg List.length hy
   rw [List.length_take, List.length_drop] at hlen
   have hl1 : x.data.toList.length = r.length + 1 := by rw [hyl]; rfl
   obtain rfl : g = 0 := by omega
   rw [List.drop_zero, hyl] at hlen
   have ht : tokLen (b :: r) = runLen nameB (b :: r) := by unfold tokLen; simp only; rw [if_pos hc]
   have hrun := tail_run (b :: r) (by rw [← ht]; simp only [List.length_cons] at hlen ⊢; omega)
   rw [hyl] at c3
   have h12 : ¬ 12 < (b :: r).length := by
    intro hh
    unfold tokErr at c3
    simp only at c3
    rw [if_pos hc, if_pos hh] at c3
    cases c3
   rw [List.all_cons, Bool.and_eq_true] at hrun
   simp only [List.length_cons] at h12
   unfold nm5
   rw [hyl, nmBytes, low_cls hc, hrun.2, h5, decide_eq_true (show 1 ≤ x.size by omega), decide_eq_true (show x.size ≤ 12 by omega)]
   rfl
  ·rw [if_neg hc] at hk
   by_cases hc5 : cls b.toNat = 5
   ·rw [if_pos hc5] at hk; cases hk
   ·rw [if_neg hc5] at hk; cases hk
 ·cases h
namespace C
theorem vVar_back {v : U.Vr} (h : vVar (vNd v) = true) : nm5 v.x = true ∧ 0 ≤ v.u ∧ v.u ≤ 4 ∧ 0 ≤ v.lo ∧ v.hi ≤ 1000000000 := by
 unfold vVar at h
 simp only [Bool.and_eq_true] at h
 obtain ⟨⟨h1, h2⟩, h3⟩ := h
 have h1 : btw v.u 0 4 = true := h1
 unfold btw at h1
 simp only [Bool.and_eq_true, decide_eq_true_eq] at h1
 unfold namedB at h2
 simp only [Bool.and_eq_true] at h2
 have h2 : nameB1 v.x = true := h2.1.1.2
 have h3 : vNumbers [numNd v.lo, numNd v.hi, numNd v.i] 3 = true := h3
 simp only [vNumbers, Go.Proofs.YtljknappbnoikaaGreatDoor.allB, Bool.and_eq_true] at h3
 have hn : ∀ k : Int, vNumber (numNd k) = true → 0 ≤ k ∧ k ≤ 1000000000 := fun k hk => by
  unfold vNumber at hk
  simp only [Bool.and_eq_true] at hk
  have hk : btw k 0 1000000000 = true := hk.1.1
  unfold btw at hk
  simpa only [Bool.and_eq_true, decide_eq_true_eq] using hk
 exact ⟨name_nm5 h2, h1.1, h1.2, (hn _ h3.2.1).1, (hn _ h3.2.2.1).2⟩
theorem vRest_back (tl : List Nd) : ∀ vs : List U.Vr, vUses (vRest (vs.map vNd ++ tl)) 0 = true → ∀ v ∈ vs, vVar (vNd v) = true
 | [], _, v, hv => by cases hv
 | u :: vs, h, v, hv => by
  by_cases hu : vVar (vNd u) = true
  ·rcases List.mem_cons.1 hv with rfl | hv
   ·exact hu
   ·refine vRest_back tl vs ?_ v hv
    have e : vRest ((u :: vs).map vNd ++ tl) = vRest (vs.map vNd ++ tl) := by
     unfold vRest
     rw [List.map_cons, List.cons_append, lead, if_pos hu, List.drop_succ_cons]
    rw [e] at h
    exact h
  ·exfalso
   have hh : ¬ vHandler (vNd u) = true := by simp [vHandler, vNd, plainB, zn, Nd.n, Nd.kind]
   have e : vRest ((u :: vs).map vNd ++ tl) = vNd u :: (vs.map vNd ++ tl) := by
    unfold vRest
    rw [List.map_cons, List.cons_append, lead, if_neg hu, List.drop_zero, lead, if_neg hh, List.drop_zero]
   rw [e, vUses] at h
   simp [namedB, zn, vNd, Nd.n, Nd.kind] at h
theorem idx_at (x : ByteArray) (l2 : List ByteArray) : ∀ (l1 : List ByteArray) (k : Nat), (∀ y ∈ l1, x ≠ y) → idxF x (l1 ++ x :: l2) k = ((k + l1.length : Nat) : Int)
 | [], k, _ => by rw [List.nil_append, idxF, if_pos rfl]; rfl
 | y :: l1, k, h => by
  rw [List.cons_append, idxF, if_neg (h y (List.mem_cons_self ..)), idx_at x l2 l1 (k + 1) (fun z hz => h z (List.mem_cons_of_mem _ hz))]
  simp only [List.length_cons]
  omega
theorem vsM_back {all : List U.Vr} (hv : ∀ v ∈ all, nm5 v.x = true ∧ 0 ≤ v.u ∧ v.u ≤ 4 ∧ 0 ≤ v.lo ∧ v.hi ≤ 1000000000) : ∀ (rest pre r : List U.Vr), pre ++ rest = all → pre.length ≤ 12 → vsM (pre.map vNd) (rest.map vNd) pre = .ok r → r = all ∧ all.length ≤ 12 ∧ okVars nm5 all rest pre.length = true
 | [], pre, r, h, hl, e => by
  simp at h
  subst h
  rw [List.map_nil, vsM] at e
  cases e
  exact ⟨rfl, hl, rfl⟩
 | v :: rest, pre, r, h, hl, e => by
  rw [List.map_cons, vsM] at e
  by_cases h1 : (pre.map vNd).length < 12
  ·rw [if_pos h1] at e
   by_cases h2 : (pre.map vNd).any (isNm (vNd v).name) = true
   ·rw [if_pos h2] at e; cases e
   rw [if_neg h2] at e
   by_cases h3 : (decide (kidN (vNd v) 0 ≤ kidN (vNd v) 2) && decide (kidN (vNd v) 2 ≤ kidN (vNd v) 1)) = true
   ·rw [if_pos h3, vrOf_vNd] at e
    have e' : vsM ((pre ++ [v]).map vNd) (rest.map vNd) (pre ++ [v]) = .ok r := by rw [List.map_append]; exact e
    have hlt : pre.length < 12 := by simpa using h1
    obtain ⟨i1, i2, i3⟩ := vsM_back hv rest (pre ++ [v]) r (by simpa using h) (by simp; omega) e'
    refine ⟨i1, i2, ?_⟩
    have h3 : (decide (v.lo ≤ v.i) && decide (v.i ≤ v.hi)) = true := h3
    simp only [Bool.and_eq_true, decide_eq_true_eq] at h3
    obtain ⟨n1, n2, n3, n4, n5⟩ := hv v (by rw [← h]; simp)
    have hidx : idx (all.map (·.x)) v.x = (pre.length : Int) := by
     unfold idx
     rw [← h, List.map_append, List.map_cons]
     have := idx_at v.x (rest.map (·.x)) (pre.map (·.x)) 0 (by
      intro y hy hxy
      obtain ⟨u, hu, rfl⟩ := List.mem_map.1 hy
      exact h2 (List.any_eq_true.2 ⟨vNd u, List.mem_map.2 ⟨u, hu, rfl⟩, decide_eq_true hxy⟩))
     rw [this]
     simp
    have hvb : varB nm5 v = true := by
     unfold varB
     rw [n1, decide_eq_true n2, decide_eq_true n3, decide_eq_true n4, decide_eq_true h3.1, decide_eq_true h3.2, decide_eq_true n5]
     rfl
    rw [okVars, hvb, decide_eq_true hidx]
    simpa using i3
   ·rw [if_neg h3] at e; cases e
  ·rw [if_neg h1] at e; cases e
theorem useM_back {vs : List U.Vr} (hall : okVars nm5 vs vs 0 = true) {k un n j : Int} (hk : inB k vs.length = true) (hu : useM vs (useNd n (nameAt vs k)) un = .ok j) : usesB vs k un = true := by
 unfold inB at hk
 simp only [Bool.and_eq_true, decide_eq_true_eq] at hk
 have hlt : k.toNat < vs.length := by omega
 have hi := okVars_idx hall k.toNat _ (List.getElem?_eq_getElem hlt)
 have hn : nameAt vs k = vs[k.toNat].x := by unfold nameAt; rw [List.getElem?_eq_getElem hlt]; rfl
 have hi2 : idx (vs.map (·.x)) (nameAt vs k) = k := by rw [hn, hi]; omega
 have hnm : (useNd n (nameAt vs k)).name = nameAt vs k := rfl
 unfold useM at hu
 rw [hnm, hi2, if_pos hk.1, List.getElem?_eq_getElem hlt] at hu
 simp only at hu
 by_cases hun : vs[k.toNat].u = un
 ·unfold usesB
  rw [List.getElem?_eq_getElem hlt, decide_eq_true hk.1, decide_eq_true hk.2]
  simpa using hun
 ·rw [if_neg hun] at hu; cases hu
theorem chk_one {s : List U.Pw} : ∀ {ls : List (List U.St)} {k : Nat}, (U.chkL s ls k).2 = 0 → (U.chkL s ls k).1 = -1
 | [], k, _ => rfl
 | x :: xs, k, h => by
  rw [U.chkL] at h ⊢
  by_cases hx : U.handM s x = 0
  ·rw [if_pos hx] at h ⊢; exact chk_one h
  ·rw [if_neg hx] at h; exact absurd h hx
theorem val_v5 {x : ByteArray} {vs : List U.Vr} {on : List (List U.St)} {wi pa : Int} (h : valPM x vs on wi pa = true) : v5 nm5 x vs on wi pa = true := by
 unfold valPM declB at h
 simp only [Bool.and_eq_true, decide_eq_true_eq] at h
 obtain ⟨h1, h2, h3, h4, h5⟩ := h
 have c1 : (U.checkM (vs.map (·.u)) on).1 = -1 := by
  unfold U.checkM at h1 ⊢
  rcases hs : U.scopeM (vs.map (·.u)) with _ | s
  ·rw [hs] at h1; cases h1
  ·rw [hs] at h1 ⊢; exact chk_one h1
 have h6 : vItem (.mk 6 x 0 0 0 (declKids vs wi pa)) = true := by
  unfold validN at h4
  simp only [Bool.and_eq_true] at h4
  have h4 : (vItem (.mk 6 x 0 0 0 (declKids vs wi pa)) && true) = true := h4.2.2
  simpa using h4
 unfold vItem at h6
 simp only [Bool.and_eq_true] at h6
 obtain ⟨h7, h8⟩ := h6
 have hx : nm5 x = true := by
  unfold namedB at h7
  simp only [Bool.and_eq_true] at h7
  exact name_nm5 h7.1.1.2
 have h8 : vProg (declKids vs wi pa) = true := by simpa [Nd.kind, Nd.kids] using h8
 unfold vProg at h8
 simp only [Bool.and_eq_true] at h8
 have hv := fun v hv => vVar_back (vRest_back _ vs (by unfold declKids at h8; exact h8.1) v hv)
 unfold progM at h5
 simp only [List.any_nil, Bool.false_eq_true, if_false, List.length_nil] at h5
 rw [if_pos (by decide)] at h5
 rcases e1 : vsM [] (vs.map vNd) [] with d | r
 ·rw [e1] at h5; cases h5
 obtain ⟨rfl, hl, hok⟩ := vsM_back hv vs [] r rfl (Nat.zero_le _) e1
 have hok : okVars nm5 r r 0 = true := hok
 rw [e1] at h5
 simp only at h5
 rcases e2 : useM r (useNd 0 (nameAt r wi)) 1 with d | j
 ·rw [e2] at h5; cases h5
 have hw := useM_back hok h2 e2
 rw [e2] at h5
 simp only at h5
 have hp : (decide (pa = -1) || usesB r pa 4) = true := by
  by_cases hq : pa = -1
  ·rw [decide_eq_true hq]; rfl
  ·rcases e3 : paM r (usesM r pa) with d | j
   ·rw [e3] at h5; cases h5
   unfold usesM at e3
   rw [if_neg hq] at e3
   have h3 : inB pa r.length = true := by
    rw [decide_eq_false hq, Bool.false_or] at h3
    exact h3
   rw [useM_back hok h3 e3, Bool.or_true]
 have h1r : 1 ≤ r.length := by
  unfold inB at h2
  simp only [Bool.and_eq_true, decide_eq_true_eq] at h2
  omega
 unfold v5
 rw [hx, decide_eq_true h1r, decide_eq_true hl, hok, decide_eq_true c1, decide_eq_true h1, hw, hp]
 rfl
theorem val_iff (x : ByteArray) (vs : List U.Vr) (on : List (List U.St)) (wi pa : Int) : valPM x vs on wi pa = v5 nm5 x vs on wi pa := by
 rcases h : v5 nm5 x vs on wi pa with _ | _
 ·rcases h2 : valPM x vs on wi pa with _ | _
  ·rfl
  ·rw [val_v5 h2] at h; cases h
 ·exact v5_val (fun y hy => nm5_name hy) h
end C
end Go.Proofs.YtljknappbnoikaaGreatDoor
namespace Go.Proofs.YtljknappbnoikaaGreatDoor
namespace K
open U (Ex St szK)
def shI (n : Nat) (x : In) : In := if x.op = 12 ∨ x.op = 13 then ⟨x.op, x.n + n, x.r⟩ else x
theorem shI_no {n : Nat} {x : In} (h : ¬ (x.op = 12 ∨ x.op = 13)) : shI n x = x := if_neg h
mutual
theorem shE (n : Nat) : ∀ e : Ex, OpX e → (cE e).map (shI n) = cE e
 | .mk op m u ks, h => by
  rw [OpX] at h
  rw [cE, List.map_append, shK n ks h.2.2, List.map_cons, List.map_nil, shI_no (by show ¬ (op = 12 ∨ op = 13); omega)]
theorem shK (n : Nat) : ∀ ks : List Ex, OpK ks → (cK ks).map (shI n) = cK ks
 | [], _ => rfl
 | k :: ks, h => by
  rw [OpK] at h
  rw [cK, List.map_append, shE n k h.1, shK n ks h.2]
end
mutual
theorem shS (n : Nat) : ∀ (x : St) (i : Nat), OpS x → (cS x i).map (shI n) = cS x (i + n)
 | .mk k v r a b th el, i, h => by
  rw [OpS] at h
  rw [cS, cS]
  by_cases hk : k = 2
  ·obtain ⟨hb, hth, hel⟩ := h.2 hk
   rw [if_pos hk, if_pos hk]
   have e1 : i + n + a.size + b.size + 1 = i + a.size + b.size + 1 + n := by omega
   have k12 : ∀ m r : Int, shI n ⟨12, m, r⟩ = ⟨12, m + n, r⟩ := fun m r => if_pos (.inl rfl)
   have k13 : ∀ m r : Int, shI n ⟨13, m, r⟩ = ⟨13, m + n, r⟩ := fun m r => if_pos (.inr rfl)
   by_cases he : el.length = 0
   ·rw [if_pos he, if_pos he]
    simp only [List.map_append, List.map_cons, shE n a h.1, shE n b hb, shL n th _ hth, k12, e1]
    congr 4
    omega
   ·rw [if_neg he, if_neg he]
    have e2 : i + a.size + b.size + 1 + n + lnL th + 1 = i + a.size + b.size + 1 + lnL th + 1 + n := by omega
    simp only [List.map_append, List.map_cons, shE n a h.1, shE n b hb, shL n th _ hth, shL n el _ hel, k12, k13, e1, e2]
    have q1 : ((i + a.size + b.size + 1 + lnL th + 1 : Nat) : Int) + n = ((i + a.size + b.size + 1 + lnL th + 1 + n : Nat) : Int) := by omega
    have q2 : ((i + a.size + b.size + 1 + lnL th + 1 + lnL el : Nat) : Int) + n = ((i + a.size + b.size + 1 + lnL th + 1 + n + lnL el : Nat) : Int) := by omega
    rw [q1, q2]
  ·rw [if_neg hk, if_neg hk, List.map_append, shE n a h.1, List.map_cons, List.map_nil, shI_no (by decide : ¬ ((11 : Int) = 12 ∨ (11 : Int) = 13))]
theorem shL (n : Nat) : ∀ (l : List St) (i : Nat), OpL l → (cL l i).map (shI n) = cL l (i + n)
 | [], _, _ => rfl
 | x :: xs, i, h => by
  rw [OpL] at h
  rw [cL, cL, List.map_append, shS n x i h.1, shL n xs _ h.2, show i + lnS x + n = i + n + lnS x by omega]
end
theorem cL_app : ∀ (a b : List St) (i : Nat), cL (a ++ b) i = cL a i ++ cL b (i + lnL a)
 | [], b, i => by rw [cL, lnL]; rfl
 | x :: xs, b, i => by rw [List.cons_append, cL, cL, cL_app xs b, lnL, List.append_assoc, show i + lnS x + lnL xs = i + (lnS x + lnL xs) by omega]
theorem lnL_app : ∀ (a b : List St), lnL (a ++ b) = lnL a + lnL b
 | [], b => by rw [lnL]; simp
 | x :: xs, b => by rw [List.cons_append, lnL, lnL, lnL_app xs b]; omega
theorem cL_both (a b : List St) (hb : OpL b) : cL (a ++ b) 0 = cL a 0 ++ (cL b 0).map (shI (lnL a)) := by rw [cL_app, shL _ _ _ hb]
end K
end Go.Proofs.YtljknappbnoikaaGreatDoor
namespace Go.Proofs.YtljknappbnoikaaGreatDoor
open Go.RowKit
namespace K
open U (Ex St)
theorem stInfo : (Tryz.prog.info? 69).map (fun i => (i.zero, i.size, i.bytes)) = some (some (.agg #[.int .i64 0, .int .i64 0, .int .i64 0, .int .i64 0, .int .i64 0, .int .i64 0, .slice none 0 0, .int .i64 0, .int .i64 0, .int .i64 0, .slice none 0 0, .slice none 0 0, .slice none 0 0]), 13, 168) := by kernel_rfl
structure RowSt (w : World) (l : List St) (A : Option Addr) (cs : List Value) : Prop where
 len : cs.length = l.length * 13
 one : ∀ u ∈ cs, u.oneCell' = true
 at_ : ∀ g o, A = some ⟨g, o, none⟩ → ∀ j u, cs[j]? = some u → w.cell? ⟨g, o + j, none⟩ = some u
 cp : ∀ w' g' o', Gr w w' → (∀ j u, cs[j]? = some u → w'.cell? ⟨g', o' + j, none⟩ = some u) → U.StsR w' l (some ⟨g', o', none⟩)
 ad : 0 < l.length → ∃ g o, A = some ⟨g, o, none⟩
theorem RowSt.of {w : World} {l : List St} {A : Option Addr} (h : U.StsR w l A) : ∃ cs, RowSt w l A cs := by
 obtain ⟨cs, h1, h2, h3, h4⟩ := StsR.row l A h
 exact ⟨cs, h1, h2, h3, h4, fun hn => h.addr hn⟩
theorem wp_append_st {w w0 : World} {o : Oper} {a : Act} {K : Act → World → Prop} {Q : Exit → Act → World → Prop} (s x : Operand)
  (ho : o.op = .call { callee := .builtin .append, args := #[s, x], argTypes := #[23, 23] })
  (base : Nat) (v : Value) (n : Nat) (xs : List Value) (hs : a.eval s = v) (hown : w.ownsRow base 69 13 v n xs) (l : List St) (A : Option Addr) (m : Nat) (cs : List Value) (hx : a.eval x = .slice A l.length m) (hy : RowSt w0 l A cs) (hg : Gr w0 w) (h63 : n + l.length ≤ 100000) (hbase : base ≤ w.heap.size)
  (h : ∀ v' w', w'.ownsRow base 69 13 v' (n + l.length) (xs ++ cs) → w.grownBy w' v.ownBlock → K (a.put o.dst v') w') : o.wp Tryz.prog a w K Q := by
 obtain ⟨ix, hi, hz0, hz1, hz2⟩ := info_parts2 stInfo
 cases A with
 | none =>
  have hl : l.length = 0 := by
   rcases Nat.eq_zero_or_pos l.length with q | q
   ·exact q
   ·obtain ⟨g, o, e⟩ := hy.ad q; cases e
  have hcs : cs = [] := List.eq_nil_of_length_eq_zero (by rw [hy.len, hl])
  rw [hl] at hx h h63
  have hrun := run_append_empty (w := w) base 23 o.type 69 ix 13 Tryz.underlying23 hi v n xs m hown
  unfold Oper.wp
  simp [execOp, ho, resolve, invoke, builtin, hs, hx, hrun, Result.andThen]
  exact h v w (by simpa [hcs] using hown) (gbRefl _ _)
 | some ad =>
  refine wp_append_own w s x 23 ho base 69 ix _ 13 168 Tryz.underlying23 hi hz0 hz1 hz2 rfl (by decide) v n xs hs hown ad l.length m cs hx hy.len (fun j u hu => ?_) hy.one (by unfold maxLen; omega) (by omega) hbase (fun v' w' h2 h3 _ => h v' w' h2 h3)
  have hj := (List.getElem?_eq_some_iff.1 hu).1
  rw [hy.len] at hj
  obtain ⟨g, o2, e⟩ := hy.ad (by omega)
  cases e
  rw [addN]
  exact grCell hg (hy.at_ g o2 rfl j u hu)
theorem step_append_st {w w0 : World} {ops : Array Oper} {o : Oper} {a : Act} {K : Act → World → Prop} {Q : Exit → Act → World → Prop} {E : Prop} (hgd : o.guard = none) (s x : Operand)
  (ho : o.op = .call { callee := .builtin .append, args := #[s, x], argTypes := #[23, 23] })
  (base : Nat) (v : Value) (n : Nat) (xs : List Value) (hs : a.eval s = v) (hown : w.ownsRow base 69 13 v n xs) (l : List St) (A : Option Addr) (m : Nat) (cs : List Value) (hx : a.eval x = .slice A l.length m) (hy : RowSt w0 l A cs) (hg : Gr w0 w) (h63 : n + l.length ≤ 100000) (hbase : base ≤ w.heap.size)
  (h : ∀ v' w', w'.ownsRow base 69 13 v' (n + l.length) (xs ++ cs) → w.grownBy w' v.ownBlock → K (a.put o.dst v') w') : if Region.wanted o (yielded ops a.tmps) = true then Oper.wp Tryz.prog o a w K Q else E := by
 have hw : Region.wanted o (yielded ops a.tmps) = true := by simp [Region.wanted, hgd]
 rw [if_pos hw]
 exact wp_append_st s x ho base v n xs hs hown l A m cs hx hy hg h63 hbase h
theorem own_sts {w w0 : World} {B n : Nat} {v : Value} {a b : List St} {A1 A2 : Option Addr} {ca cb : List Value} (h : w.ownsRow B 69 13 v n (ca ++ cb)) (hn : n = a.length + b.length) (ha : RowSt w0 a A1 ca) (hb : RowSt w0 b A2 cb) (hg : Gr w0 w) :
  ∃ A c, v = .slice A (a ++ b).length c ∧ U.StsR w (a ++ b) A := by
 rcases h.2 with ⟨rfl, h0⟩ | ⟨g, cap, cur, rfl, hb', hg', hn', hc, hs, ht⟩
 ·have e : a ++ b = [] := List.eq_nil_of_length_eq_zero (by rw [List.length_append]; omega)
  rw [e]
  exact ⟨none, 0, rfl, by unfold U.StsR; trivial⟩
 ·refine ⟨some ⟨g, 0, none⟩, cap, by rw [List.length_append, hn], ?_⟩
  have hce := World.ownsRow.cells h (g := g) rfl
  refine StsR.join ha.len ha.cp hb.cp w g 0 hg fun j u hu => ?_
  have := hce j u hu
  rw [addN] at this
  exact this
theorem set9 {w0 w : World} {b : Nat} {u0 u1 u2 u3 u4 u5 u6 u7 u8 v0 v1 v2 v3 v4 v5 v6 v7 v8 : Value} {T : TypeId} (hg : Gr w0 w) (hb : w0.heap.size ≤ b) (h : w.heap[b]? = some (.cells #[u0, u1, u2, u3, u4, u5, u6, u7, u8] T (0, 0))) :
  (((((((((w.setCell ⟨b, 0, none⟩ v0).setCell ⟨b, 1, none⟩ v1).setCell ⟨b, 2, none⟩ v2).setCell ⟨b, 3, none⟩ v3).setCell ⟨b, 4, none⟩ v4).setCell ⟨b, 5, none⟩ v5).setCell ⟨b, 6, none⟩ v6).setCell ⟨b, 7, none⟩ v7).setCell ⟨b, 8, none⟩ v8).heap[b]? = some (.cells #[v0, v1, v2, v3, v4, v5, v6, v7, v8] T (0, 0)) ∧
  Gr w0 (((((((((w.setCell ⟨b, 0, none⟩ v0).setCell ⟨b, 1, none⟩ v1).setCell ⟨b, 2, none⟩ v2).setCell ⟨b, 3, none⟩ v3).setCell ⟨b, 4, none⟩ v4).setCell ⟨b, 5, none⟩ v5).setCell ⟨b, 6, none⟩ v6).setCell ⟨b, 7, none⟩ v7).setCell ⟨b, 8, none⟩ v8) := by
 refine ⟨?_, ((((((((hg.setCell hb _).setCell hb _).setCell hb _).setCell hb _).setCell hb _).setCell hb _).setCell hb _).setCell hb _).setCell hb _⟩
 have g0 : (w.setCell ⟨b, 0, none⟩ v0).heap[b]? = some (.cells #[v0, u1, u2, u3, u4, u5, u6, u7, u8] T (0, 0)) := by rw [heap_setCell_same w b 0 _ _ _ h]; simp
 have g1 := (heap_setCell_same _ b 1 _ _ v1 g0).trans (show some (Obj.cells _ T (0, 0)) = some (.cells #[v0, v1, u2, u3, u4, u5, u6, u7, u8] T (0, 0)) by simp)
 have g2 := (heap_setCell_same _ b 2 _ _ v2 g1).trans (show some (Obj.cells _ T (0, 0)) = some (.cells #[v0, v1, v2, u3, u4, u5, u6, u7, u8] T (0, 0)) by simp)
 have g3 := (heap_setCell_same _ b 3 _ _ v3 g2).trans (show some (Obj.cells _ T (0, 0)) = some (.cells #[v0, v1, v2, v3, u4, u5, u6, u7, u8] T (0, 0)) by simp)
 have g4 := (heap_setCell_same _ b 4 _ _ v4 g3).trans (show some (Obj.cells _ T (0, 0)) = some (.cells #[v0, v1, v2, v3, v4, u5, u6, u7, u8] T (0, 0)) by simp)
 have g5 := (heap_setCell_same _ b 5 _ _ v5 g4).trans (show some (Obj.cells _ T (0, 0)) = some (.cells #[v0, v1, v2, v3, v4, v5, u6, u7, u8] T (0, 0)) by simp)
 have g6 := (heap_setCell_same _ b 6 _ _ v6 g5).trans (show some (Obj.cells _ T (0, 0)) = some (.cells #[v0, v1, v2, v3, v4, v5, v6, u7, u8] T (0, 0)) by simp)
 have g7 := (heap_setCell_same _ b 7 _ _ v7 g6).trans (show some (Obj.cells _ T (0, 0)) = some (.cells #[v0, v1, v2, v3, v4, v5, v6, v7, u8] T (0, 0)) by simp)
 exact (heap_setCell_same _ b 8 _ _ v8 g7).trans (by simp)
theorem row_ne {w : World} {B n zb : Nat} {v : Value} {xs : List Value} {cs : Array Value} (h : w.ownsRow B 69 13 v n xs) (hz : w.heap[zb]? = some (.cells cs 26 (0, 0))) : v.ownBlock ≠ some zb := by
 intro e
 rcases h.2 with ⟨rfl, h0⟩ | ⟨g, cap, cur, rfl, hb', hg', hn', hc, hs, ht⟩
 ·cases e
 ·have e2 : g = zb := by simpa [Value.ownBlock] using e
  subst e2
  rw [hz] at hg'
  injection hg' with q
  injection q with q1 q2
  exact absurd q2 (by decide)
theorem onW_mem {l : List St} {on : List (List St)} (h : l ∈ on) : ∀ q ∈ (onW l).list, q ∈ on ∨ q = [] := by
 intro q hq
 simp only [onW, U.On.list, List.mem_cons, List.not_mem_nil, or_false] at hq
 rcases hq with rfl | rfl | rfl | rfl | rfl
 ·exact .inl h
 all_goals exact .inr rfl
theorem long_both {a b : List St} (h : longB (onW (a ++ b)).list = false) : longB (onW a).list = false ∧ longB (onW b).list = false := by
 unfold longB at *
 simp only [onW, U.On.list, List.any_cons, List.any_nil, Bool.or_eq_false_iff, decide_eq_false_iff_not, lnL_app] at *
 refine ⟨⟨?_, h.2⟩, ?_, h.2⟩ <;> omega
mutual
theorem cE_no : ∀ e : Ex, OpX e → ∀ q ∈ cE e, ¬ (q.op = 12 ∨ q.op = 13)
 | .mk op m u ks, h, q, hq => by
  rw [OpX] at h
  rw [cE] at hq
  rcases List.mem_append.1 hq with hq | hq
  ·exact cK_no ks h.2.2 q hq
  ·simp only [List.mem_cons, List.not_mem_nil, or_false] at hq
   subst hq
   show ¬ (op = 12 ∨ op = 13)
   omega
theorem cK_no : ∀ ks : List Ex, OpK ks → ∀ q ∈ cK ks, ¬ (q.op = 12 ∨ q.op = 13)
 | [], _, q, hq => by rw [cK] at hq; cases hq
 | k :: ks, h, q, hq => by
  rw [OpK] at h
  rw [cK] at hq
  rcases List.mem_append.1 hq with hq | hq
  ·exact cE_no k h.1 q hq
  ·exact cK_no ks h.2 q hq
end
mutual
theorem cS_jump : ∀ (x : St) (i : Nat), OpS x → ∀ q ∈ cS x i, (q.op = 12 ∨ q.op = 13) → 0 ≤ q.n ∧ q.n ≤ i + lnS x
 | .mk k v r a b th el, i, h, q, hq, ho => by
  rw [OpS] at h
  rw [cS] at hq
  rw [lnS]
  have ne : ∀ (e : Ex), OpX e → q ∈ cE e → False := fun e he hm => by
   have := cE_no e he q hm; omega
  by_cases hk : k = 2
  ·obtain ⟨hb, hth, hel⟩ := h.2 hk
   rw [if_pos hk] at hq ⊢
   by_cases he : el.length = 0
   ·rw [if_pos he] at hq
    simp only [List.mem_append, List.mem_cons, List.not_mem_nil, or_false] at hq
    rcases hq with hq | hq | hq | hq
    ·exact (ne a h.1 hq).elim
    ·exact (ne b hb hq).elim
    ·subst hq; simp only at ho ⊢; rw [if_pos he]; omega
    ·have := cL_jump th _ hth q hq ho; rw [if_pos he]; omega
   ·rw [if_neg he] at hq
    simp only [List.mem_append, List.mem_cons, List.not_mem_nil, or_false] at hq
    rcases hq with hq | hq | hq | hq | hq | hq
    ·exact (ne a h.1 hq).elim
    ·exact (ne b hb hq).elim
    ·subst hq; simp only at ho ⊢; rw [if_neg he]; omega
    ·have := cL_jump th _ hth q hq ho; rw [if_neg he]; omega
    ·subst hq; simp only at ho ⊢; rw [if_neg he]; omega
    ·have := cL_jump el _ hel q hq ho; rw [if_neg he]; omega
  ·rw [if_neg hk] at hq ⊢
   simp only [List.mem_append, List.mem_cons, List.not_mem_nil, or_false] at hq
   rcases hq with hq | hq
   ·exact (ne a h.1 hq).elim
   ·subst hq; simp only at ho; omega
theorem cL_jump : ∀ (l : List St) (i : Nat), OpL l → ∀ q ∈ cL l i, (q.op = 12 ∨ q.op = 13) → 0 ≤ q.n ∧ q.n ≤ i + lnL l
 | [], _, _, q, hq, _ => by rw [cL] at hq; cases hq
 | x :: xs, i, h, q, hq, ho => by
  rw [OpL] at h
  rw [cL] at hq
  rw [lnL]
  rcases List.mem_append.1 hq with hq | hq
  ·have := cS_jump x i h.1 q hq ho; omega
  ·have := cL_jump xs _ h.2 q hq ho; omega
end
theorem own1 {w : World} {B sz n b i : Nat} {T : TypeId} {v u : Value} {xs : List Value} (h : w.ownsRow B T sz v n xs) (hne : v.ownBlock ≠ some b) : (w.setCell ⟨b, i, none⟩ u).ownsRow B T sz v n xs :=
 World.ownsRow.kept h (gbSet (b := b) (i := i) (v := u) (gbRefl w _)) (.inr hne)
theorem own9 {w : World} {B sz n b : Nat} {T : TypeId} {v v0 v1 v2 v3 v4 v5 v6 v7 v8 : Value} {xs : List Value} (h : w.ownsRow B T sz v n xs) (hne : v.ownBlock ≠ some b) :
  (((((((((w.setCell ⟨b, 0, none⟩ v0).setCell ⟨b, 1, none⟩ v1).setCell ⟨b, 2, none⟩ v2).setCell ⟨b, 3, none⟩ v3).setCell ⟨b, 4, none⟩ v4).setCell ⟨b, 5, none⟩ v5).setCell ⟨b, 6, none⟩ v6).setCell ⟨b, 7, none⟩ v7).setCell ⟨b, 8, none⟩ v8).ownsRow B T sz v n xs :=
 own1 (own1 (own1 (own1 (own1 (own1 (own1 (own1 (own1 h hne) hne) hne) hne) hne) hne) hne) hne) hne
theorem zKeep {w w' : World} {zb : Nat} {r : Option Nat} {o : Obj} (h : w.grownBy w' r) (hr : r ≠ some zb) (hz : w.heap[zb]? = some o) : w'.heap[zb]? = some o :=
 (h.block zb (blkLt hz) (fun e => hr e.symm)).trans hz
theorem hdl_mem {o : U.On} {k : Nat} (hk : k < 5) : hdl o.list k ∈ o.list := by
 unfold hdl
 have : k < o.list.length := hk
 rw [List.getElem?_eq_getElem this]
 exact List.getElem_mem this
end K
end Go.Proofs.YtljknappbnoikaaGreatDoor
