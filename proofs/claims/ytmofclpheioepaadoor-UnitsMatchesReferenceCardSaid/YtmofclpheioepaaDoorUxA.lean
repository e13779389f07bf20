/- Expressions and their units: the mathematics. -/
import Derived.Test.YtmofclpheioepaaDoorRows
namespace Go.Proofs.YtmofclpheioepaaDoor
set_option linter.unusedVariables false
set_option linter.unusedSimpArgs false

/-- an expression -/
inductive Ex where
  | mk (op n unit : Int) (kids : List Ex)
def Ex.op : Ex → Int | .mk o _ _ _ => o
def Ex.n : Ex → Int | .mk _ n _ _ => n
def Ex.unit : Ex → Int | .mk _ _ u _ => u
def Ex.kids : Ex → List Ex | .mk _ _ _ l => l
mutual
def Ex.size : Ex → Nat
  | .mk _ _ _ ks => 1 + szK ks
def szK : List Ex → Nat
  | [] => 0
  | k :: ks => k.size + szK ks
end
mutual
/-- how many nodes are left -/
def spE : Ex → Int → Int
  | .mk _ _ _ ks, n => spK ks (n - 1)
def spK : List Ex → Int → Int
  | [], n => n
  | k :: ks, n => if 0 ≤ n then spK ks (spE k n) else n
end
mutual
theorem spE_max : ∀ (t : Ex) (n : Int), 0 ≤ n → spE t n = max (n - t.size) (-1)
  | .mk _ _ _ ks, n, h => by
    rw [spE, spK_max ks (n - 1) (by omega), Ex.size]
    omega
theorem spK_max : ∀ (ks : List Ex) (n : Int), -1 ≤ n → spK ks n = max (n - szK ks) (-1)
  | [], n, h => by rw [spK, szK]; omega
  | k :: ks, n, h => by
    rw [spK, szK]
    by_cases h0 : 0 ≤ n
    · have h1 := spE_max k n h0
      rw [if_pos h0, spK_max ks _ (by omega)]
      omega
    · rw [if_neg h0]
      omega
end
mutual
/-- the reference's number of nodes, up to a bound -/
def rsE : Ex → Int → Int
  | .mk _ _ _ ks, b => rsK ks b 1
def rsK : List Ex → Int → Int → Int
  | [], _, n => n
  | k :: ks, b, n => if n ≤ b then rsK ks b (n + rsE k (b - n)) else n
end
mutual
theorem rsE_min : ∀ (t : Ex) (b : Int), 0 ≤ b → rsE t b = min (t.size : Int) (b + 1)
  | .mk _ _ _ ks, b, h => by
    rw [rsE, rsK_min ks b 1 (by omega), Ex.size]
    omega
theorem rsK_min : ∀ (ks : List Ex) (b n : Int), n ≤ b + 1 → rsK ks b n = min (n + szK ks) (b + 1)
  | [], b, n, h => by rw [rsK, szK]; omega
  | k :: ks, b, n, h => by
    rw [rsK, szK]
    by_cases h0 : n ≤ b
    · have h1 := rsE_min k (b - n) (by omega)
      rw [if_pos h0, rsK_min ks b _ (by omega)]
      omega
    · rw [if_neg h0]
      omega
end
theorem Ex.size_pos (t : Ex) : 0 < t.size := by cases t; rw [Ex.size]; omega

/-- a unit: the exponents of packets, bytes and time -/
structure Pw where
  a : Int
  b : Int
  c : Int
deriving DecidableEq
def btw (n lo hi : Int) : Bool := decide (lo ≤ n) && decide (n ≤ hi)
def kindP (k : Int) : Pw := if k = 1 then ⟨1, 0, 0⟩ else if k = 2 then ⟨0, 1, 0⟩ else if k = 3 then ⟨0, 0, 1⟩ else if k = 4 then ⟨0, 1, -1⟩ else ⟨0, 0, 0⟩
/-- the kind of the unit of an input -/
def inpK (n : Int) : Int := if n = 1 then 3 else if n = 2 then 2 else 1
def rgB (p : Pw) : Bool := btw p.a (-4) 4 && (btw p.b (-4) 4 && btw p.c (-4) 4)
def addP (p q : Pw) (z : Int) : Pw := ⟨p.a + z * q.a, p.b + z * q.b, p.c + z * q.c⟩
def limP (p : Pw) : Except Int Pw := if rgB p then .ok p else .error 13
def formB (len : Nat) (op n u : Int) (k : Nat) : Bool :=
  if op = 1 then decide (k = 0) && (btw n 0 1000000000 && btw u 0 4)
  else if op = 2 then decide (k = 0) && btw n 0 ((len : Int) - 1)
  else if op = 3 then decide (k = 0) && btw n 0 3
  else decide (k = 2) && btw op 4 10
def twoP (op : Int) (p q : Pw) : Except Int Pw :=
  if op = 6 then limP (addP p q 1) else if op = 7 ∨ op = 8 then limP (addP p q (-1)) else if p = q then .ok p else .error 13
/-- what a node makes of the units of its kids -/
def nodeP (s : List Pw) (op n u : Int) (ps : List Pw) : Except Int Pw :=
  if formB s.length op n u ps.length then
    if op = 1 then .ok (kindP u) else if op = 2 then .ok (s.getD n.toNat ⟨0, 0, 0⟩) else if op = 3 then .ok (kindP (inpK n))
    else twoP op (ps.getD 0 ⟨0, 0, 0⟩) (ps.getD 1 ⟨0, 0, 0⟩)
  else .error 1
mutual
/-- the unit of an expression, or its error -/
def inf (s : List Pw) : Ex → Except Int Pw
  | .mk op n u ks => match infK s ks with
    | .error e => .error e
    | .ok ps => nodeP s op n u ps
def infK (s : List Pw) : List Ex → Except Int (List Pw)
  | [] => .ok []
  | k :: ks => match inf s k with
    | .error e => .error e
    | .ok p => match infK s ks with
      | .error e => .error e
      | .ok ps => .ok (p :: ps)
end
/-- as the loop goes: the units that are there, and the kids that are left -/
def infG (s : List Pw) (op n u : Int) (acc : List Pw) (ks : List Ex) : Except Int Pw :=
  match infK s ks with
  | .error e => .error e
  | .ok ps => nodeP s op n u (acc ++ ps)
theorem inf_G (s : List Pw) (op n u : Int) (ks : List Ex) : inf s (.mk op n u ks) = infG s op n u [] ks := by rw [inf, infG]; rfl
theorem infG_nil (s : List Pw) (op n u : Int) (acc : List Pw) : infG s op n u acc [] = nodeP s op n u acc := by simp [infG, infK]
theorem infG_err {s : List Pw} {op n u : Int} {acc : List Pw} {k : Ex} {ks : List Ex} {e : Int} (h : inf s k = .error e) : infG s op n u acc (k :: ks) = .error e := by
  simp [infG, infK, h]
theorem infG_ok {s : List Pw} {op n u : Int} {acc : List Pw} {k : Ex} {ks : List Ex} {p : Pw} (h : inf s k = .ok p) : infG s op n u acc (k :: ks) = infG s op n u (acc ++ [p]) ks := by
  simp only [infG, infK, h]
  rcases infK s ks with e | ps <;> simp
theorem infK_len {s : List Pw} : ∀ {ks : List Ex} {ps : List Pw}, infK s ks = .ok ps → ps.length = ks.length
  | [], ps, h => by simp [infK] at h; subst h; rfl
  | k :: ks, ps, h => by
    simp only [infK] at h
    rcases hk : inf s k with e | p <;> rw [hk] at h <;> simp at h
    rcases hks : infK s ks with e | qs <;> rw [hks] at h <;> simp at h
    subst h
    simp [infK_len hks]
theorem kindP_rg (k : Int) : rgB (kindP k) = true := by unfold kindP; (repeat' split) <;> rfl
def allRg (s : List Pw) : Prop := ∀ p ∈ s, rgB p = true
theorem getD_rg {s : List Pw} (h : allRg s) (i : Nat) : rgB (s.getD i ⟨0, 0, 0⟩) = true := by
  rw [List.getD_eq_getElem?_getD]
  rcases hi : s[i]? with _ | p
  · rfl
  · exact h p (List.mem_of_getElem? hi)
theorem limP_rg {p q : Pw} (h : limP p = .ok q) : rgB q = true := by
  unfold limP at h
  split at h <;> simp at h
  subst h; assumption
theorem nodeP_rg {s : List Pw} (hs : allRg s) {op n u : Int} {ps : List Pw} (hp : allRg ps) {q : Pw} (h : nodeP s op n u ps = .ok q) : rgB q = true := by
  unfold nodeP at h
  split at h
  · split at h
    · simp at h; subst h; exact kindP_rg _
    · split at h
      · simp only [Except.ok.injEq] at h; subst h; exact getD_rg hs _
      · split at h
        · simp at h; subst h; exact kindP_rg _
        · unfold twoP at h
          split at h
          · exact limP_rg h
          · split at h
            · exact limP_rg h
            · split at h
              · simp only [Except.ok.injEq] at h; subst h; exact getD_rg hp _
              · simp at h
  · simp at h
mutual
theorem inf_rg {s : List Pw} (hs : allRg s) : ∀ (t : Ex) {q : Pw}, inf s t = .ok q → rgB q = true
  | .mk op n u ks, q, h => by
    rw [inf] at h
    rcases hk : infK s ks with e | ps <;> rw [hk] at h
    · simp at h
    · exact nodeP_rg hs (infK_rg hs ks hk) h
theorem infK_rg {s : List Pw} (hs : allRg s) : ∀ (ks : List Ex) {ps : List Pw}, infK s ks = .ok ps → allRg ps
  | [], ps, h => by simp [infK] at h; subst h; intro p hp; cases hp
  | k :: ks, ps, h => by
    simp only [infK] at h
    rcases hk : inf s k with e | p <;> rw [hk] at h <;> simp at h
    rcases hks : infK s ks with e | qs <;> rw [hks] at h <;> simp at h
    subst h
    intro x hx
    rcases List.mem_cons.1 hx with rfl | hx
    · exact inf_rg hs k hk
    · exact infK_rg hs ks hks x hx
end
theorem rg_iff {p : Pw} (h : rgB p = true) : (-4 ≤ p.a ∧ p.a ≤ 4) ∧ (-4 ≤ p.b ∧ p.b ≤ 4) ∧ (-4 ≤ p.c ∧ p.c ≤ 4) := by
  simpa [rgB, btw] using h

/-- the variables' kinds are right, and they are not too many -/
def scopeM (us : List Int) : Option (List Pw) := if us.length ≤ 12 ∧ us.all (fun u => btw u 0 4) = true then some (us.map kindP) else none
def inferM (us : List Int) (t : Ex) : Pw × Int :=
  match scopeM us with
  | none => (⟨0, 0, 0⟩, 1)
  | some s => if 60 < t.size then (⟨0, 0, 0⟩, 2) else match inf s t with
    | .error e => (⟨0, 0, 0⟩, e)
    | .ok p => (p, 0)
def ofM (k : Int) : Pw × Int := if btw k 0 4 then (kindP k, 0) else (⟨0, 0, 0⟩, 9)
theorem kinds_rg (us : List Int) : allRg (us.map kindP) := by
  intro p hp
  obtain ⟨k, -, rfl⟩ := List.mem_map.1 hp
  exact kindP_rg k
end Go.Proofs.YtmofclpheioepaaDoor
