/- Texts of one proof: PyC, PyD, PyE. -/
import Derived.Test.YtdaghppcomckbaaGreatDoorPmE
/- The parser as a function of the tokens. -/
namespace Go.Proofs.YtdaghppcomckbaaGreatDoor
open Go.RowKit
set_option linter.unusedVariables false
set_option linter.unusedSimpArgs false

theorem settings_le : ∀ (ws : List ByteArray) (acc : List Nd), (∀ x ∈ ws, x ≠ ⟨#[]⟩) → Le (settingsF ws acc)
  | [], acc, _, l, x, l1, h => by obtain ⟨-, rfl⟩ := ok_inj h; exact Nat.le_refl _
  | wd :: ws, acc, hne, l, x, l1, h => by
    obtain ⟨_, l2, h1, h⟩ := bind_ok h
    have a1 := word_lt wd (hne wd (by simp)) _ _ _ h1
    obtain ⟨_, l3, h2, h⟩ := bind_ok h
    have a2 := number_lt _ _ _ h2
    have a3 := settings_le ws _ (fun x hx => hne x (by simp [hx])) _ _ _ h
    omega
theorem names_le : ∀ (f : Nat) (acc : List Nd), Le (namesF f acc)
  | 0, acc, l, x, l1, h => by obtain ⟨-, rfl⟩ := ok_inj h; exact Nat.le_refl _
  | f + 1, acc, l, x, l1, h => by
    rw [namesF] at h
    split at h
    · obtain ⟨_, l2, h1, h⟩ := bind_ok h
      have a1 := name_lt _ _ _ h1
      have a2 := names_le f _ _ _ _ h
      omega
    · obtain ⟨-, rfl⟩ := ok_inj h; exact Nat.le_refl _
theorem namesM_le : Le namesM := fun l x l1 h => names_le _ _ l x l1 h
theorem policy_le : Le policyM := by
  intro l x l1 h
  obtain ⟨_, l2, h1, h⟩ := bind_ok h
  have a1 := congrArg List.length (choiceM_tail h1)
  rw [List.length_tail] at a1
  obtain ⟨_, l3, h2, h⟩ := bind_ok h
  have a2 := numbers_le _ _ _ _ _ h2
  obtain ⟨-, rfl⟩ := ok_inj h
  omega
theorem use_le (wd : ByteArray) (hne : wd ≠ ⟨#[]⟩) (p : Int) : Le (useM wd p) := by
  intro l x l1 h
  obtain ⟨_, l2, h1, h⟩ := bind_ok h
  have a1 := word_lt _ hne _ _ _ h1
  obtain ⟨_, l3, h2, h⟩ := bind_ok h
  have a2 := name_lt _ _ _ h2
  obtain ⟨_, l4, h3, h⟩ := bind_ok h
  have a3 := word_lt _ (by decide) _ _ _ h3
  obtain ⟨-, rfl⟩ := ok_inj h
  omega
theorem runF_le (wd : ByteArray) {P : List Tk → Res Nd} (hP : Le P) : ∀ (f : Nat) (acc : List Nd), Le (runF wd P f acc)
  | 0, acc, l, x, l1, h => by obtain ⟨-, rfl⟩ := ok_inj h; exact Nat.le_refl _
  | f + 1, acc, l, x, l1, h => by
    rw [runF] at h
    split at h
    · obtain ⟨_, l2, h1, h⟩ := bind_ok h
      have a1 := hP _ _ _ h1
      have a2 := runF_le wd hP f _ _ _ _ h
      omega
    · obtain ⟨-, rfl⟩ := ok_inj h; exact Nat.le_refl _
theorem progK2_le (x : ByteArray) (hs : List Nd) : Le (progK2 x hs) := by
  intro l y l1 h
  obtain ⟨_, l2, h1, h⟩ := bind_ok h
  have a1 := use_le _ (by decide) _ _ _ _ h1
  split at h
  · obtain ⟨_, l3, h2, h⟩ := bind_ok h
    have a2 := use_le _ (by decide) _ _ _ _ h2
    obtain ⟨_, l4, h3, h⟩ := bind_ok h
    have a3 := word_lt _ (by decide) _ _ _ h3
    obtain ⟨-, rfl⟩ := ok_inj h
    omega
  · obtain ⟨_, l4, h3, h⟩ := bind_ok h
    have a3 := word_lt _ (by decide) _ _ _ h3
    obtain ⟨-, rfl⟩ := ok_inj h
    omega
theorem program_le : Le programM := by
  intro l y l1 h
  obtain ⟨_, l2, h1, h⟩ := bind_ok h
  have a1 := name_lt _ _ _ h1
  obtain ⟨_, l3, h2, h⟩ := bind_ok h
  have a2 := word_lt _ (by decide) _ _ _ h2
  obtain ⟨_, l4, h3, h⟩ := bind_ok h
  have a3 := runF_le _ variable_lt.le _ _ _ _ _ h3
  obtain ⟨_, l5, h4, h⟩ := bind_ok h
  have a4 := runF_le _ handler_lt.le _ _ _ _ _ h4
  have a5 := progK2_le _ _ _ _ _ h
  omega
theorem link_le : Le linkM := by
  intro l y l1 h
  obtain ⟨_, l2, h1, h⟩ := bind_ok h
  have a1 := name_lt _ _ _ h1
  obtain ⟨_, l3, h2, h⟩ := bind_ok h
  have a2 := settings_le _ _ (by decide) _ _ _ h2
  obtain ⟨_, l4, h3, h⟩ := bind_ok h
  have a3 := policy_le _ _ _ h3
  obtain ⟨_, l5, h4, h⟩ := bind_ok h
  have a4 := word_lt _ (by decide) _ _ _ h4
  obtain ⟨-, rfl⟩ := ok_inj h
  omega
theorem path_le : Le pathM := by
  intro l y l1 h
  obtain ⟨_, l2, h1, h⟩ := bind_ok h
  have a1 := name_lt _ _ _ h1
  obtain ⟨_, l3, h2, h⟩ := bind_ok h
  have a2 := namesM_le _ _ _ h2
  obtain ⟨_, l4, h3, h⟩ := bind_ok h
  have a3 := settings_le _ _ (by decide) _ _ _ h3
  obtain ⟨_, l5, h4, h⟩ := bind_ok h
  have a4 := word_lt _ (by decide) _ _ _ h4
  obtain ⟨-, rfl⟩ := ok_inj h
  omega
theorem flow_le : Le flowM := by
  intro l y l1 h
  obtain ⟨_, l2, h1, h⟩ := bind_ok h
  have a1 := name_lt _ _ _ h1
  obtain ⟨_, l3, h2, h⟩ := bind_ok h
  have a2 := word_lt _ (by decide) _ _ _ h2
  obtain ⟨_, l4, h3, h⟩ := bind_ok h
  have a3 := name_lt _ _ _ h3
  obtain ⟨_, l5, h4, h⟩ := bind_ok h
  have a4 := word_lt _ (by decide) _ _ _ h4
  obtain ⟨_, l6, h5, h⟩ := bind_ok h
  have a5 := namesM_le _ _ _ h5
  obtain ⟨_, l7, h6, h⟩ := bind_ok h
  have a6 := settings_le _ _ (by decide) _ _ _ h6
  obtain ⟨_, l8, h7, h⟩ := bind_ok h
  have a7 := word_lt _ (by decide) _ _ _ h7
  obtain ⟨-, rfl⟩ := ok_inj h
  omega
theorem item_lt : Lt itemM := by
  intro l y l1 h
  obtain ⟨k, l2, h1, h⟩ := bind_ok h
  have a1 := choice_lt kindWs (idxNe _ (by decide)) _ _ _ h1
  obtain ⟨t, l3, h2, h⟩ := bind_ok h
  have a2 : l3.length ≤ l2.length := by
    unfold pickM at h2
    split at h2
    · exact link_le _ _ _ h2
    · split at h2
      · exact path_le _ _ _ h2
      · split at h2
        · exact flow_le _ _ _ h2
        · exact program_le _ _ _ h2
  obtain ⟨-, rfl⟩ := ok_inj h
  omega
theorem skip_le : ∀ (f : Nat) (o : Int) (l : List Tk), (skipF f o l).length ≤ l.length
  | 0, o, l => Nat.le_refl _
  | f + 1, o, l => by
    rw [skipF]
    have ht : l.tail.length ≤ l.length := by rw [List.length_tail]; omega
    have h1 := skip_le f (o + 1) l.tail
    have h2 := skip_le f (o - 1) l.tail
    have h3 := skip_le f o l.tail
    split
    · omega
    · split
      · omega
      · split
        · split <;> omega
        · split
          · split <;> omega
          · omega
theorem leave_lt (l l1 : List Tk) (h : 2 ≤ l.length) (h1 : l1.length ≤ l.length) : (leaveM l l1).length < l.length := by
  unfold leaveM
  generalize (l.take (l.length - l1.length)).foldl brace 0 = o
  cases hn : l1.length with
  | zero => have := skip_le 0 o l1; omega
  | succ n =>
    rw [skipF]
    have ht : l1.tail.length + 1 = l1.length := by rw [List.length_tail]; omega
    have h1' := skip_le n (o + 1) l1.tail
    have h2 := skip_le n (o - 1) l1.tail
    have h3 := skip_le n o l1.tail
    split
    · omega
    · split
      · omega
      · split
        · split <;> omega
        · split
          · split <;> omega
          · omega

/-- the items and the diagnostics -/
def itemsF : Nat → List Nd → List (Int × Int) → List Tk → List Nd × List (Int × Int)
  | 0, acc, ds, _ => (acc, ds)
  | f + 1, acc, ds, l => if l.length ≤ 1 ∨ 20 ≤ ds.length then (acc, ds) else match itemM l with
    | .ok t l1 => itemsF f (acc ++ [t]) ds l1
    | .err er l1 => itemsF f acc (ds ++ [(er, (hd l1).a)]) (leaveM l l1)
def zNd : Nd := .mk 0 ⟨#[]⟩ 0 0 0 []
def rootNd (ts : List Nd) : Nd := .mk 1 ⟨#[]⟩ 0 0 0 ts
def endOf (r : List Nd × List (Int × Int)) : Nd × List (Int × Int) :=
  if r.2 ≠ [] then (zNd, r.2) else if spareN (rootNd r.1) 2500 < 0 then (zNd, [(2, 0)]) else (rootNd r.1, [])
def sent (n : Nat) : Tk := ⟨0, ⟨#[]⟩, 0, (n : Int)⟩
def parseT (ts : List Tk) (n : Nat) : Nd × List (Int × Int) := endOf (itemsF (ts.length + 1) [] [] (ts ++ [sent n]))
/-- what Parse returns -/
def parseM (s : ByteArray) : Nd × List (Int × Int) := if (lx s).2.1 ≠ 0 then (zNd, [((lx s).2.1, ((lx s).2.2 : Nat))]) else parseT (lx s).1 s.size
end Go.Proofs.YtdaghppcomckbaaGreatDoor

/- The contract of Parse; condition: the listed package-level variables hold what the text lays. -/
namespace Go.Proofs.YtdaghppcomckbaaGreatDoor
open Go.RowKit
set_option linter.unusedVariables false
set_option linter.unusedSimpArgs false

def DiagsR (w : World) (D : Option Addr) (ds : List (Int × Int)) : Prop :=
  0 < ds.length → ∃ g o, D = some ⟨g, o, none⟩ ∧ ∀ (i : Nat) (d : Int × Int), ds[i]? = some d → w.cell? ⟨g, o + i * 2, none⟩ = some (.int .i64 d.1) ∧ w.cell? ⟨g, o + i * 2 + 1, none⟩ = some (.int .i64 d.2)
def ParsePost (s : ByteArray) (w : World) (e : Ending) (w' : World) : Prop :=
  ∃ A c D dc, e = .returned (.tuple #[nv (parseM s).1 A c, .slice D (parseM s).2.length dc]) ∧ KidsR w' (From w.heap.size) (parseM s).1.kids A ∧ DiagsR w' D (parseM s).2 ∧ Below w.heap.size w w'
theorem dCells_at : ∀ (ds : List (Int × Int)) (i : Nat) (d : Int × Int), ds[i]? = some d → (dCells ds)[i * 2]? = some (.int .i64 d.1) ∧ (dCells ds)[i * 2 + 1]? = some (.int .i64 d.2)
  | [], i, d, h => by simp at h
  | x :: ds, 0, d, h => by simp at h; subst h; exact ⟨rfl, rfl⟩
  | x :: ds, i + 1, d, h => by
    have := dCells_at ds i d (by simpa using h)
    have e : dCells (x :: ds) = [.int .i64 x.1, .int .i64 x.2] ++ dCells ds := rfl
    rw [e, List.getElem?_append_right (by simp; omega), List.getElem?_append_right (by simp; omega)]
    simpa [Nat.add_mul] using this
theorem DiagsR.own {w : World} {base n : Nat} {D : Option Addr} {c : Nat} {ds : List (Int × Int)} (h : w.ownsRow base 31 2 (.slice D n c) ds.length (dCells ds)) : DiagsR w D ds := by
  intro hpos
  obtain ⟨g, cap, hv, _, _⟩ := h.form hpos
  simp only [Value.slice.injEq] at hv
  obtain ⟨rfl, -, -⟩ := hv
  refine ⟨g, 0, rfl, fun i d hd => ?_⟩
  have h1 := h.cells (g := g) rfl
  have hadd : ∀ j, (⟨g, 0, none⟩ : Addr).add j = ⟨g, 0 + j, none⟩ := fun j => by unfold Addr.add; split <;> simp_all
  obtain ⟨e1, e2⟩ := dCells_at ds i d hd
  have a1 := h1 _ _ e1
  have a2 := h1 _ _ e2
  rw [hadd] at a1 a2
  exact ⟨a1, a2⟩
theorem LexPost.el {s : ByteArray} {w w' : World} {e : Ending} {ts : List Tk} {er : Int} {p : Nat} (h : LexPost s w e w') (hx : lx s = (ts, er, p)) :
    ∃ A c, e = .returned (.tuple #[.slice A ts.length c, .int .i64 er, .int .i64 (p : Nat)]) ∧ w'.ownsRow w.heap.size 44 4 (.slice A ts.length c) ts.length (cellsOf ts) ∧ Below w.heap.size w w' := by
  unfold LexPost at h
  rw [hx] at h
  obtain ⟨v, h1, h2, h3⟩ := h
  obtain ⟨A, c, rfl⟩ := own_slice h2
  exact ⟨A, c, h1, h2, h3⟩
set_option maxHeartbeats 1000000 in
set_option maxRecDepth 100000 in
theorem parse_err (s : ByteArray) (w : World) (ts : List Tk) (er : Int) (p : Nat) (hx : lx s = (ts, er, p)) (he : er ≠ 0) (hL : LaidW w) (hw : 2 < w.heap.size) (hm : s.size ≤ maxLen) : Calls Tryz.prog 5 #[.string s] w (ParsePost s w) := by
  have hM : parseM s = (zNd, [(er, ((p : Nat) : Int))]) := by unfold parseM; rw [hx, if_pos he]
  have hMH := Lib.hid hM
  have hxH := Lib.hid hx
  have hne2 : (er != 0) = true := by simp [he]
  have hb0 := (Below.refl w.heap.size w).alloc (Nat.le_refl _) (.cells zeroNd 25)
  have hX := Lib.hid (Lex_any s (w.alloc (.cells zeroNd 25)) (hL.below hb0 hw) (by simp; omega) hm)
  clear hM hx he
  go_enter Tryz.func5, Tryz.ntmps5
  go_wp2_with fail
  refine hX.out.mono ?_
  intro e w1 hp
  obtain ⟨A, c, rfl, -, hb1⟩ := hp.el hxH.out
  clear hp
  have hB2 : w1.heap[w.heap.size]? = some (.cells zeroNd 25 (0, 0)) := (hb1.block _ (by simp)).trans (newBlk _ _ _ rfl)
  obtain ⟨⟨a0, a1, a2, a3, a4, a5⟩, d0, d1, d2, d3, d4, d5⟩ := cells6 hB2
  have hlt := blkLt hB2
  have hbw : Below w.heap.size w w1 := hb0.trans (hb1.mono (by simp))
  clear hB2 hb1 hb0
  go_wp2
  refine bodyPost_ret (v := .tuple #[nv zNd none 0, .slice (some ⟨w1.heap.size, 0, none⟩) 1 1]) (by simp [results, Tryz.results5, go_sem, a0, a1, a2, a3, a4, a5, hlt, zNd, Nd.kind, Nd.name, Nd.n, Nd.unit, Nd.at0, Nd.kids]) rfl ?_
  unfold ParsePost
  rw [hMH.out]
  refine ⟨none, 0, _, 1, rfl, trivial, fun _ => ⟨w1.heap.size, 0, rfl, fun i d hd => ?_⟩, ?_⟩
  · cases i with
    | zero =>
      simp at hd
      subst hd
      constructor
      · rw [cell_of_row _ _ 0 _ _ (0, 0) (newBlk _ _ _ (by simp))]; rfl
      · rw [cell_of_row _ _ 1 _ _ (0, 0) (newBlk _ _ _ (by simp))]; rfl
    | succ i => simp at hd
  · exact ((((((hbw.setCell (by simp) _).setCell (by simp) _).setCell (by simp) _).setCell (by simp) _).setCell (by simp) _).setCell (by simp) _).alloc (by simp; exact hbw.size) _
end Go.Proofs.YtdaghppcomckbaaGreatDoor

/- The contract of Parse where the source can be read; condition: the listed package-level variables hold what the text lays. -/
namespace Go.Proofs.YtdaghppcomckbaaGreatDoor
open Go.RowKit
set_option linter.unusedVariables false
set_option linter.unusedSimpArgs false

theorem cellsOf_len (l : List Tk) : (cellsOf l).length = l.length * 4 := by
  induction l with
  | nil => rfl
  | cons t l ih =>
    have e : cellsOf (t :: l) = t.cells ++ cellsOf l := rfl
    rw [e, List.length_append, ih]
    simp [Tk.cells]; omega
theorem cellsOf_at : ∀ (l : List Tk) (i : Nat) (t : Tk), l[i]? = some t → (cellsOf l)[i * 4]? = some (.int .i64 t.k) ∧ (cellsOf l)[i * 4 + 1]? = some (.string t.x) ∧ (cellsOf l)[i * 4 + 2]? = some (.int .i64 t.m) ∧ (cellsOf l)[i * 4 + 3]? = some (.int .i64 t.a)
  | [], i, d, h => by simp at h
  | x :: l, 0, d, h => by simp at h; subst h; exact ⟨rfl, rfl, rfl, rfl⟩
  | x :: l, i + 1, d, h => by
    have := cellsOf_at l i d (by simpa using h)
    have e : cellsOf (x :: l) = x.cells ++ cellsOf l := rfl
    have e4 : x.cells.length = 4 := rfl
    rw [e, List.getElem?_append_right (by rw [e4]; omega), List.getElem?_append_right (by rw [e4]; omega), List.getElem?_append_right (by rw [e4]; omega), List.getElem?_append_right (by rw [e4]; omega), e4]
    rw [show (i + 1) * 4 - 4 = i * 4 by omega, show (i + 1) * 4 + 1 - 4 = i * 4 + 1 by omega, show (i + 1) * 4 + 2 - 4 = i * 4 + 2 by omega, show (i + 1) * 4 + 3 - 4 = i * 4 + 3 by omega]
    exact this
theorem TkAt_own {w : World} {base g n c : Nat} {l : List Tk} (h : w.ownsRow base 44 4 (.slice (some ⟨g, 0, none⟩) n c) l.length (cellsOf l)) : ∀ (i : Nat) (t : Tk), l[i]? = some t → TkAt w g i t := by
  intro i t ht
  have h1 := h.cells (g := g) rfl
  have hadd : ∀ j, (⟨g, 0, none⟩ : Addr).add j = ⟨g, j, none⟩ := fun j => by unfold Addr.add; split <;> simp_all
  obtain ⟨e0, e1, e2, e3⟩ := cellsOf_at l i t ht
  have a0 := h1 _ _ e0
  have a1 := h1 _ _ e1
  have a2 := h1 _ _ e2
  have a3 := h1 _ _ e3
  rw [hadd] at a0 a1 a2 a3
  exact ⟨a0, a1, a2, a3⟩
theorem lexF_many_le (s : ByteArray) : ∀ (f p c : Nat), c ≤ 3000 → (lexF s f p c).1.length ≤ 3000 - c := by
  intro f
  induction f with
  | zero => intro p c _; simp [lexF]
  | succ f ih =>
    intro p c hc
    rw [lexF]
    split
    · simp
    · split
      · simp
      · split
        · simp
        · have := ih (gapE s (rd s p).2.1) (c + 1) (by omega)
          simp only [List.length_cons]
          omega
theorem lx_many (s : ByteArray) : (lx s).1.length ≤ 3000 := by
  unfold lx
  have := lexF_many_le s (s.size + 1) (gapE s 0) 0 (by omega)
  split
  · simp
  · split
    · simp
    · omega
theorem own_ne {w : World} {b base n : Nat} {cs : Array Value} {fr : Nat × Nat} {dv : Value} {xs : List Value} (h1 : w.heap[b]? = some (.cells cs 25 fr)) (h2 : w.ownsRow base 31 2 dv n xs) : dv.ownBlock ≠ some b := by
  intro e
  rcases h2.2 with ⟨rfl, _⟩ | ⟨g, cap, cur, rfl, _, hg, _⟩
  · cases e
  · simp [Value.ownBlock] at e
    subst e
    rw [h1] at hg
    simp only [Option.some.injEq, Obj.cells.injEq] at hg
    exact absurd hg.2.1 (by decide)
theorem Kp.blkD {R b : Nat} {o : Option Nat} {w w' : World} {ob : Obj} (hk : Kp R o w w') (h : w.heap[b]? = some ob) (hb : b ≠ R) (ho : o ≠ some b) : w'.heap[b]? = some ob :=
  (hk.block b (Array.getElem?_eq_some_iff.1 h).1 hb (fun e => ho e.symm)).trans h
/-- the items' list; as long as there is no diagnostic, it reads as the items -/
def OwnK (B : Nat) (w : World) (v : Value) (acc : List Nd) (ds : List (Int × Int)) : Prop := ∃ vs, w.ownsRow B 25 6 v acc.length vs ∧ (ds = [] → RowsR w (Beside B v) acc vs)
theorem OwnK.own {B : Nat} {w : World} {v : Value} {acc : List Nd} {ds : List (Int × Int)} (h : OwnK B w v acc ds) : ∃ A c, v = .slice A acc.length (acc.length + c) := by
  obtain ⟨vs, h1, _⟩ := h
  rcases h1.2 with ⟨rfl, h0⟩ | ⟨g, cap, cur, rfl, hb, hg, hn, _⟩
  · exact ⟨none, 0, by rw [h0]⟩
  · exact ⟨_, cap - acc.length, by rw [Nat.add_sub_cancel' hn]⟩
theorem OwnK.err {B R : Nat} {w w' : World} {v dv : Value} {acc : List Nd} {ds : List (Int × Int)} {d : Int × Int} {base n : Nat} {xs : List Value} (h : OwnK B w v acc ds) (hk : Kp R dv.ownBlock w w') (hR : R < B) (hd : w.ownsRow base 31 2 dv n xs) : OwnK B w' v acc (ds ++ [d]) := by
  obtain ⟨vs, h1, _⟩ := h
  refine ⟨vs, ⟨h1.1, ?_⟩, fun e => by simp at e⟩
  rcases h1.2 with hn | ⟨g, cap, cur, hv, hg, hh, rest⟩
  · exact .inl hn
  · exact .inr ⟨g, cap, cur, hv, hg, hk.blkD hh (by omega) (own_ne hh hd), rest⟩
theorem OwnK.keep {B : Nat} {w w' : World} {v : Value} {acc : List Nd} {ds : List (Int × Int)} (hb : ∀ k, B ≤ k → k < w.heap.size → w'.heap[k]? = w.heap[k]?) (h : OwnK B w v acc ds) : OwnK B w' v acc ds := by
  obtain ⟨vs, h1, h2⟩ := h
  refine ⟨vs, ⟨h1.1, ?_⟩, fun e => (h2 e).keep (fun k hk hl => ⟨hb k hk.1 hl, hk⟩)⟩
  rcases h1.2 with hn | ⟨g, cap, cur, hv, hg, hh, rest⟩
  · exact .inl hn
  · exact .inr ⟨g, cap, cur, hv, hg, by rw [hb g hg (Array.getElem?_eq_some_iff.1 hh).1]; exact hh, rest⟩
theorem OwnK.snoc {B B' : Nat} {w w2 : World} {v : Value} {ts us : List Nd} {ds : List (Int × Int)} {g cap H : Nat} {vs vs2 : List Value} (hown : w.ownsRow B 25 6 v ts.length vs) (hr : ds = [] → RowsR w (Beside B v) ts vs) (hk : RowsR w (From B') us vs2)
    (hv : ∀ k, v.ownBlock = some k → k < B') (hB : B ≤ B') (hg : w.grownBy w2 v.ownBlock)
    (hown2 : w2.ownsRow B 25 6 (.slice (some ⟨g, 0, none⟩) (ts.length + us.length) cap) (ts.length + us.length) (vs ++ vs2)) (hat : v.ownBlock = some g ∨ g = H) (hH : w.heap.size ≤ H) :
    OwnK B w2 (.slice (some ⟨g, 0, none⟩) (ts.length + us.length) cap) (ts ++ us) ds := by
  refine ⟨vs ++ vs2, by simpa using hown2, fun e => ?_⟩
  have hkeep : ∀ k, Beside B v k → k < w.heap.size → w2.heap[k]? = w.heap[k]? ∧ Beside B (.slice (some ⟨g, 0, none⟩) (ts.length + us.length) cap) k := by
    intro k hk1 hk2
    refine ⟨hg.block k hk2 (fun e => hk1.2 e.symm), hk1.1, ?_⟩
    simp only [Value.ownBlock]
    intro e
    rcases hat with h1 | h1
    · exact hk1.2 (h1.trans e)
    · cases e; omega
  have hk' : RowsR w2 (Beside B (.slice (some ⟨g, 0, none⟩) (ts.length + us.length) cap)) us vs2 :=
    hk.keep (fun k hk1 hk2 => hkeep k ⟨Nat.le_trans hB hk1, fun e => by have := hv k e; exact absurd this (Nat.not_lt.2 hk1)⟩ hk2)
  exact RowsR.app hk' ts vs ((hr e).keep hkeep)
/-- append of nothing -/
theorem step_append_nothing {P : Program} (w : World) {ops : Array Oper} {o : Oper} {a : Act} {K : Act → World → Prop} {Q : Exit → Act → World → Prop} {E : Prop} (hgd : o.guard = none) (s x : Operand) (t : TypeId)
    (ho : o.op = .call { callee := .builtin .append, args := #[s, x], argTypes := #[t, t] }) (base : Nat) (e : TypeId) (i : TypeInfo) (size : Nat) (ht : P.underlying t = some (.slice e)) (hi : P.info? e = some i)
    (v : Value) (n : Nat) (xs : List Value) (hs : a.eval s = v) (hown : w.ownsRow base e size v n xs) (hx : a.eval x = .slice none 0 0) (hK : K (a.put o.dst v) w) :
    if Region.wanted o (yielded ops a.tmps) = true then Oper.wp P o a w K Q else E := by
  have hw : Region.wanted o (yielded ops a.tmps) = true := by simp [Region.wanted, hgd]
  rw [if_pos hw]
  have hrun : (Builtin.append_ #[t, t] o.type #[v, .slice none 0 0]).run P w = .ok v w := by
    rcases hown.2 with ⟨rfl, rfl⟩ | ⟨g, cap, cur, rfl, _, _, hnc, _⟩
    · simp [Builtin.append_, run_underlying ht, sizeOf, typeInfo, hi, Builtin.lenOf, Builtin.firstCells]
    · simp [Builtin.append_, run_underlying ht, sizeOf, typeInfo, hi, Builtin.lenOf, Builtin.firstCells, hnc, storeCells]
  unfold Oper.wp
  simp [execOp, ho, resolve, invoke, builtin, hs, hx, hrun, Result.andThen]
  exact hK
end Go.Proofs.YtdaghppcomckbaaGreatDoor
