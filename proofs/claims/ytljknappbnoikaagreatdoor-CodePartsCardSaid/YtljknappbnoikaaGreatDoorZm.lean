/- Texts of one proof: LxF, PxA, PxB, PxD, PxE, CxA, CxB, CxC. -/
import Derived.Test.YtljknappbnoikaaGreatDoorZl
import Derived.Laws.AppendOwn
import Derived.OwnWalk
import Derived.WalkMore
import Derived.Deep.LoopGhost
import Derived.BigCall
import Derived.Lib.Hide
import Derived.WalkSpells
import Derived.BigQuiet
import Derived.Deep.QuietTactic
import Derived.Outline
import Derived.Laws.Rows
import Derived.Laws.NewBlocks
import Derived.Below
import Derived.Deep.AppendLies
import Derived.Deep.RegionLaw
import Derived.WalkLawsBesides
import Derived.Test.YtljknappbnoikaaGreatDoorZa
set_option linter.unusedVariables false
set_option linter.unusedSimpArgs false
set_option maxRecDepth 100000
set_option maxHeartbeats 8000000
namespace Go.Proofs.YtljknappbnoikaaGreatDoor
open Go.RowKit
def gapE (s : ByteArray) (p : Nat) : Nat := p + gapLen false (s.data.toList.drop p)
def lexF (s : ByteArray) : Nat → Nat → Nat → List Tk × Int × Nat
 | 0, _, _ => ([], 0, 0)
 | f + 1, p, c =>
  if s.size ≤ p then ([], 0, 0)
  else if c = 3000 then ([], 2, p)
  else if (rd s p).2.2 ≠ 0 then ([], (rd s p).2.2, p)
  else ((rd s p).1 :: (lexF s f (gapE s (rd s p).2.1) (c + 1)).1, (lexF s f (gapE s (rd s p).2.1) (c + 1)).2)
def lx (s : ByteArray) : List Tk × Int × Nat :=
 if 10000 < s.size then ([], 2, 0)
 else if (lexF s (s.size + 1) (gapE s 0) 0).2.1 ≠ 0 then ([], (lexF s (s.size + 1) (gapE s 0) 0).2)
 else ((lexF s (s.size + 1) (gapE s 0) 0).1, 0, 0)
def cellsOf (l : List Tk) : List Value := l.flatMap Tk.cells
theorem gapE_ge (s : ByteArray) (p : Nat) : p ≤ gapE s p := Nat.le_add_right _ _
theorem gapE_le (s : ByteArray) (p : Nat) (h : p ≤ s.size) : gapE s p ≤ s.size := by
 unfold gapE
 have h1 := gapLen_le (s.data.toList.drop p) false
 have h2 : (s.data.toList.drop p).length = s.size - p := by simp
 omega
def LexPost (s : ByteArray) (w : World) (e : Ending) (w' : World) : Prop :=
 ∃ v : Value, e = .returned (.tuple #[v, .int .i64 (lx s).2.1, .int .i64 ((lx s).2.2 : Nat)]) ∧ w'.ownsRow w.heap.size 167 4 v (lx s).1.length (cellsOf (lx s).1) ∧ Below w.heap.size w w'
theorem Lex_long (s : ByteArray) (w : World) (h : 10000 < s.size) (hm : s.size ≤ maxLen) : Calls Tryz.prog 122 #[.string s] w (LexPost s w) := by
 have hx : lx s = ([], 2, 0) := by unfold lx; rw [if_pos h]
 unfold maxLen at hm
 have H : Hid (LexPost s w (.returned (.tuple #[.slice none 0 0, .int .i64 2, .int .i64 0])) w) := by
  unfold LexPost
  rw [hx]
  exact ⟨_, rfl, World.ownsRow_nil _ _ _ _, Below.refl _ _⟩
 clear hx
 go_enter Tryz.func122, Tryz.ntmps122
 go_wp2
 go_step3
 go_wp2
 try rw [Exit.noGoto_ret]
 go_ret3
 exact H.out
theorem own_slice {w : World} {base e size n : Nat} {v : Value} {xs : List Value} (h : w.ownsRow base e size v n xs) : ∃ A c, v = .slice A n c := by
 rcases h.2 with ⟨rfl, rfl⟩ | ⟨g, cap, cur, rfl, _⟩
 ·exact ⟨none, 0, rfl⟩
 ·exact ⟨_, _, rfl⟩
theorem tokInfo : (Tryz.prog.info? 167).map (fun i => (i.zero, i.size, i.bytes)) = some (some zeroV, 4, 40) := by kernel_rfl
theorem cellsOf_snoc (ts : List Tk) (t : Tk) : cellsOf (ts ++ [t]) = cellsOf ts ++ t.cells := by simp [cellsOf]
def Inv (s : ByteArray) (g p : Nat) (ts : List Tk) : Prop :=
 lexF s (s.size + 1) (gapE s 0) 0 = (ts ++ (lexF s (g + 1) p ts.length).1, (lexF s (g + 1) p ts.length).2)
theorem ownsRow_below {wr w1 : World} {base e size n : Nat} {v : Value} {xs : List Value} (h : wr.ownsRow base e size v n xs) (hb : Below wr.heap.size wr w1) : w1.ownsRow base e size v n xs :=
 h.kept (row := none) ⟨hb.os, hb.tape, hb.output, hb.size, fun k hk _ => hb.block k hk⟩ (by cases hv : v.ownBlock <;> simp)
theorem read_eq (s : ByteArray) (at0 : Nat) (tk : Tk) (nx : Nat) (er : Int) (hq : Hid (rd s at0 = (tk, nx, er))) (w : World) (hL : LaidW w) (hlt0 : at0 < s.size) (hs : s.size ≤ 10000) :
  Calls Tryz.prog 133 #[.string s, .int .i64 at0] w fun e w' => e = .returned (.tuple #[.agg #[.int .i64 tk.k, .string tk.x, .int .i64 tk.m, .int .i64 tk.a], .int .i64 nx, .int .i64 er]) ∧ Below w.heap.size w w' := by
 have h := read_any s at0 w hL hlt0 hs
 rw [hq.out] at h
 exact h
theorem rd_ok (s : ByteArray) (p : Nat) (tk : Tk) (nx : Nat) (hp : p < s.size) (hq : rd s p = (tk, nx, 0)) : p < nx ∧ nx ≤ s.size := by
 have hle := tokLen_le (s.data.toList.drop p)
 have hle2 : tokLen (s.data.toList.drop p) ≤ s.size - p := by simpa using hle
 unfold rd at hq
 split at hq
 ·simp at hq
 ·split at hq
  ·simp only [Prod.mk.injEq] at hq
   rename_i h1 h2
   exact absurd hq.2.2 h2
  ·simp only [Prod.mk.injEq] at hq
   omega
theorem lexF_done (s : ByteArray) (f p c : Nat) (h : s.size ≤ p) : lexF s (f + 1) p c = ([], 0, 0) := by rw [lexF, if_pos h]
theorem lexF_many (s : ByteArray) (f p : Nat) (h : p < s.size) : lexF s (f + 1) p 3000 = ([], 2, p) := by rw [lexF, if_neg (by omega), if_pos rfl]
theorem lexF_bad (s : ByteArray) (f p c : Nat) (tk : Tk) (nx : Nat) (er : Int) (h : p < s.size) (hc : c ≠ 3000) (hq : rd s p = (tk, nx, er)) (he : er ≠ 0) : lexF s (f + 1) p c = ([], er, p) := by
 rw [lexF, if_neg (by omega), if_neg hc, hq, if_pos he]
theorem lexF_tok (s : ByteArray) (f p c : Nat) (tk : Tk) (nx : Nat) (h : p < s.size) (hc : c ≠ 3000) (hq : rd s p = (tk, nx, 0)) :
  lexF s (f + 1) p c = (tk :: (lexF s f (gapE s nx) (c + 1)).1, (lexF s f (gapE s nx) (c + 1)).2) := by
 rw [lexF, if_neg (by omega), if_neg hc, hq, if_neg (by show ¬ ((0 : Int) ≠ 0); decide)]
theorem Inv.ok {s : ByteArray} {g p : Nat} {ts : List Tk} (h : Inv s g p ts) (hs : s.size ≤ 10000) (hp : s.size ≤ p) : lx s = (ts, 0, 0) := by
 unfold Inv at h
 rw [lexF_done s g p _ hp] at h
 unfold lx
 rw [if_neg (by omega), h]
 simp
theorem Inv.err {s : ByteArray} {g p : Nat} {ts : List Tk} {er : Int} (h : Inv s g p ts) (hs : s.size ≤ 10000) (he : er ≠ 0) (hq : lexF s (g + 1) p ts.length = ([], er, p)) : lx s = ([], er, p) := by
 unfold Inv at h
 rw [hq] at h
 unfold lx
 rw [if_neg (by omega), h, if_pos he]
theorem Inv.next {s : ByteArray} {g p : Nat} {ts : List Tk} {tk : Tk} {nx : Nat} (h : Inv s (g + 1) p ts) (hp : p < s.size) (hc : ts.length ≠ 3000) (hq : rd s p = (tk, nx, 0)) : Inv s g (gapE s nx) (ts ++ [tk]) := by
 unfold Inv at h ⊢
 rw [lexF_tok s _ p _ tk nx hp hc hq] at h
 rw [h]
 simp
theorem LexPost.ok {s : ByteArray} {w w' : World} {v : Value} {ts : List Tk} (h : lx s = (ts, 0, 0)) (hown : w'.ownsRow w.heap.size 167 4 v ts.length (cellsOf ts)) (hb : Below w.heap.size w w') :
  LexPost s w (.returned (.tuple #[v, .int .i64 0, .int .i64 0])) w' := by
 unfold LexPost
 rw [h]
 exact ⟨v, rfl, hown, hb⟩
theorem LexPost.err {s : ByteArray} {w w' : World} {er : Int} {p : Nat} (h : lx s = ([], er, p)) (hb : Below w.heap.size w w') :
  LexPost s w (.returned (.tuple #[.slice none 0 0, .int .i64 er, .int .i64 (p : Nat)])) w' := by
 unfold LexPost
 rw [h]
 exact ⟨_, rfl, World.ownsRow_nil _ _ _ _, hb⟩
theorem new_cells (W : World) (arr : Array Value) (T : TypeId) (b : Nat) (hb : b = W.heap.size) : ∀ j u, arr.toList[j]? = some u → (W.alloc (.cells arr T)).cell? ((⟨b, 0, none⟩ : Addr).add j) = some u := by
 intro j u hu
 subst hb
 have hadd : (⟨W.heap.size, 0, none⟩ : Addr).add j = ⟨W.heap.size, j, none⟩ := by unfold Addr.add; split <;> simp_all
 rw [hadd, cell_of_row _ _ j arr T (0, 0) (heap_alloc_new W _)]
 simpa using hu
theorem tk_one (t : Tk) : ∀ u ∈ t.cells, u.oneCell' = true := by
 intro u hu
 simp only [Tk.cells, List.mem_cons, List.not_mem_nil, or_false] at hu
 rcases hu with rfl | rfl | rfl | rfl <;> rfl
theorem Lex_short (s : ByteArray) (w : World) (hL : LaidW w) (hw : 8 < w.heap.size) (h : s.size ≤ 10000) : Calls Tryz.prog 122 #[.string s] w (LexPost s w) := by
 have hsl := Lib.hid (show s.size ≤ maxLen by unfold maxLen; omega)
 obtain ⟨i0, hi, hz0, hz1, hz2⟩ := info_parts tokInfo
 go_enter Tryz.func122, Tryz.ntmps122
 go_wp2
 go_step3
 go_wp2_with fail
 refine (gapEnd_any s 0 _ hL.1 (Nat.zero_le _) hsl.out).mono ?_
 rintro e w' ⟨rfl, rfl⟩
 go_wp2
 go_step3
 go_wp2
 go_loopg [5, 6, 7] s.size (fun gk v f i wr => ∃ (p : Nat) (ts : List Tk), f = .int .i64 0 ∧ i = .int .i64 p ∧ p ≤ s.size ∧ s.size ≤ p + gk ∧ ts.length ≤ 3000 ∧ Hid (Inv s gk p ts) ∧ wr.ownsRow w.heap.size 167 4 v ts.length (cellsOf ts) ∧ Below w.heap.size w wr)
 case atStart =>
  refine ⟨gapE s 0, [], rfl, ?_, gapE_le s 0 (Nat.zero_le _), by omega, by simp, ?_, World.ownsRow_nil _ _ _ _, Below.refl _ _⟩
  ·simp [gapE]
  ·show lexF s (s.size + 1) (gapE s 0) 0 = _
   simp
 case round =>
  obtain ⟨p, ts, rfl, rfl, hp, hg, hlen, hI, hown, hb⟩ := hrel
  obtain ⟨A, c, rfl⟩ := own_slice hown
  by_cases hlt : p < s.size
  ·by_cases hmany : ts.length = 3000
   ·have H := Lib.hid (LexPost.err (w' := wr) (hI.out.err (er := 2) h (by decide) (by rw [hmany]; exact lexF_many s gk p hlt)) hb)
    have HM := Lib.hid hmany
    have hmb : ((ts.length : Int) == 3000) = true := by rw [hmany]; rfl
    clear hmany
    go_wp2
    rw [Exit.noGoto_ret]
    go_ret3
    exact H.out
   ·obtain ⟨tk, nx, er, hq⟩ : ∃ tk nx er, rd s p = (tk, nx, er) := ⟨_, _, _, rfl⟩
    have hmb : ((ts.length : Int) == 3000) = false := by simp; omega
    by_cases he : er = 0
    ·subst he
     have hQ := Lib.hid hq
     have HM := Lib.hid hmany
     have hnx := rd_ok s p tk nx hlt hq
     have hl2 : ts.length + 1 ≤ 3000 := by omega
     clear hq hmany
     go_wp2_with fail
     refine (read_eq s p tk nx 0 hQ _ (hL.below hb hw) hlt h).mono ?_
     rintro e w1 ⟨rfl, hb1⟩
     have hown1 := ownsRow_below hown hb1
     have hbase : w.heap.size ≤ w1.heap.size := Nat.le_trans hb.size hb1.size
     go_wp2_with (at_builtin; refine wpList_append_own _ rfl _ _ 163 rfl w.heap.size 167 i0 zeroV 4 40 Tryz.underlying163 hi hz0 hz1 hz2 rfl (by decide) _ _ _ rfl ((hown1.alloc _).alloc _) ⟨w1.heap.size + 1, 0, none⟩ 1 1 tk.cells rfl rfl ?c1 ?c2 ?c3 ?c4 ?c5 ?_)
     case c1 => exact new_cells _ #[.int .i64 tk.k, .string tk.x, .int .i64 tk.m, .int .i64 tk.a] _ _ (by simp)
     case c2 => exact tk_one tk
     case c3 => unfold maxLen; omega
     case c4 => omega
     case c5 => simp; omega
     intro v' w2 hown2 hgrow _
     have hb2 : Below w.heap.size w w2 := (((hb.trans (hb1.mono hb.size)).alloc hbase _).alloc (by simp; omega) _).grown hgrow (by simp; omega) (fun k hk => (hown.lt k hk).1)
     rw [← cellsOf_snoc] at hown2
     have hI2 : ∃ g, gk = g + 1 := ⟨gk - 1, by omega⟩
     obtain ⟨g, rfl⟩ := hI2
     have hI3 := Lib.hid (hI.out.next hlt HM.out hQ.out)
     have hgl := gapE_le s nx hnx.2
     have hgg := gapE_ge s nx
     clear hgrow hown1 hown hb1 hI
     go_wp2_with fail
     refine (gapEnd_any s nx _ (hL.below hb2 hw).1 hnx.2 hsl.out).mono ?_
     rintro e w3 ⟨rfl, rfl⟩
     go_wp2
     go_roundg g
     case measure => omega
     case rel => exact ⟨gapE s nx, ts ++ [tk], rfl, rfl, hgl, by omega, by simp; omega, hI3, by simpa using hown2, hb2⟩
    ·have hQ := Lib.hid hq
     have HLX := Lib.hid (hI.out.err (er := er) h he (lexF_bad s gk p ts.length tk nx er hlt hmany hq he))
     have hne : (er == 0) = false := by simp [he]
     have hne2 : (er != 0) = true := by simp [he]
     have HE := Lib.hid he
     clear hq hmany he
     go_wp2_with fail
     refine (read_eq s p tk nx er hQ _ (hL.below hb hw) hlt h).mono ?_
     rintro e w1 ⟨rfl, hb1⟩
     have hbase : w.heap.size ≤ w1.heap.size := Nat.le_trans hb.size hb1.size
     have hb2 : Below w.heap.size w w1 := hb.trans (hb1.mono hb.size)
     go_wp2
     rw [Exit.noGoto_ret]
     go_ret3
     exact LexPost.err HLX.out (hb2.alloc hbase _)
  ·have H := Lib.hid (LexPost.ok (hI.out.ok h (by omega)) hown hb)
   go_wp2
   rw [Exit.noGoto_ret]
   go_ret3
   exact H.out
theorem Lex_any (s : ByteArray) (w : World) (hL : LaidW w) (hw : 8 < w.heap.size) (hm : s.size ≤ maxLen) : Calls Tryz.prog 122 #[.string s] w (LexPost s w) := by
 by_cases h : s.size ≤ 10000
 ·exact Lex_short s w hL hw h
 ·exact Lex_long s w (by omega) hm
end Go.Proofs.YtljknappbnoikaaGreatDoor
namespace Go.Proofs.YtljknappbnoikaaGreatDoor
open Go.RowKit
def idxF (x : ByteArray) : List ByteArray → Nat → Int
 | [], _ => -1
 | y :: l, k => if x = y then k else idxF x l (k + 1)
def idx (ws : List ByteArray) (x : ByteArray) : Int := idxF x ws 0
def StrS (w : World) (g : Nat) (ws : List ByteArray) : Prop := ∀ (i : Nat) (x : ByteArray), ws[i]? = some x → w.cell? ⟨g, i, none⟩ = some (.string x)
theorem idxF_drop_hit (x : ByteArray) (ws : List ByteArray) (k j : Nat) (hk : k < ws.length) (h : x = ws[k]) : idxF x (ws.drop k) j = j := by
 rw [List.drop_eq_getElem_cons hk, idxF, if_pos h]
theorem idxF_drop_miss (x : ByteArray) (ws : List ByteArray) (k j : Nat) (hk : k < ws.length) (h : ¬ x = ws[k]) : idxF x (ws.drop k) j = idxF x (ws.drop (k + 1)) (j + 1) := by
 rw [List.drop_eq_getElem_cons hk, idxF, if_neg h]
theorem idxF_drop_end (x : ByteArray) (ws : List ByteArray) (k j : Nat) (hk : ws.length ≤ k) : idxF x (ws.drop k) j = -1 := by
 rw [List.drop_eq_nil_of_le hk, idxF]
theorem ret_i {k : IntKind} {a b : Int} (h : a = b) : Ending.returned (.int k a) = .returned (.int k b) := by rw [h]
theorem toList_inj {x y : ByteArray} (h : x.toList = y.toList) : x = y := by
 rw [ByteArray.toList_eq, ByteArray.toList_eq] at h
 cases x; cases y; simp at h; rw [h]
theorem bne_of (x y : ByteArray) (h : ¬ x = y) : (x.toList == y.toList) = false := by
 simp only [beq_eq_false_iff_ne]
 exact fun e => h (toList_inj e)
end Go.Proofs.YtljknappbnoikaaGreatDoor
namespace Go.Proofs.YtljknappbnoikaaGreatDoor
open Go.RowKit
def TkAt (w : World) (g i : Nat) (t : Tk) : Prop :=
 w.cell? ⟨g, i * 4, none⟩ = some (.int .i64 t.k) ∧ w.cell? ⟨g, i * 4 + 1, none⟩ = some (.string t.x) ∧ w.cell? ⟨g, i * 4 + 2, none⟩ = some (.int .i64 t.m) ∧ w.cell? ⟨g, i * 4 + 3, none⟩ = some (.int .i64 t.a)
def hd (l : List Tk) : Tk := l.headD ⟨0, ⟨#[]⟩, 0, 0⟩
end Go.Proofs.YtljknappbnoikaaGreatDoor
namespace Go.Proofs.YtljknappbnoikaaGreatDoor
open Go.RowKit
theorem new_strs (W : World) (arr : Array Value) (T : TypeId) (ws : List ByteArray) (h : arr = (ws.map Value.string).toArray) : StrS (W.alloc (.cells arr T)) W.heap.size ws := by
 intro i x hx
 rw [cell_of_row _ _ i _ T (0, 0) (heap_alloc_new W _)]
 subst h
 simpa using hx
end Go.Proofs.YtljknappbnoikaaGreatDoor
namespace Go.Proofs.YtljknappbnoikaaGreatDoor
open Go.RowKit
inductive Nd where
 | mk (kind : Int) (name : ByteArray) (n unit at0 : Int) (kids : List Nd)
def Nd.kind : Nd → Int | .mk k _ _ _ _ _ => k
def Nd.name : Nd → ByteArray | .mk _ x _ _ _ _ => x
def Nd.n : Nd → Int | .mk _ _ n _ _ _ => n
def Nd.unit : Nd → Int | .mk _ _ _ u _ _ => u
def Nd.at0 : Nd → Int | .mk _ _ _ _ a _ => a
def Nd.kids : Nd → List Nd | .mk _ _ _ _ _ l => l
def nCells (t : Nd) (A : Option Addr) (c : Nat) : List Value := [.int .i64 t.kind, .string t.name, .int .i64 t.n, .int .i64 t.unit, .int .i64 t.at0, .slice A t.kids.length (t.kids.length + c)]
mutual
def KidsR (w : World) (P : Nat → Prop) : List Nd → Option Addr → Prop
 | [], _ => True
 | t :: ts, A => ∃ g o, A = some ⟨g, o, none⟩ ∧ P g ∧ OneR w P t g o ∧ KidsR w P ts (some ⟨g, o + 6, none⟩)
def OneR (w : World) (P : Nat → Prop) : Nd → Nat → Nat → Prop
 | .mk k x n u a kids, g, o => ∃ A c, w.cell? ⟨g, o, none⟩ = some (.int .i64 k) ∧ w.cell? ⟨g, o + 1, none⟩ = some (.string x) ∧ w.cell? ⟨g, o + 2, none⟩ = some (.int .i64 n) ∧
  w.cell? ⟨g, o + 3, none⟩ = some (.int .i64 u) ∧ w.cell? ⟨g, o + 4, none⟩ = some (.int .i64 a) ∧ w.cell? ⟨g, o + 5, none⟩ = some (.slice A kids.length (kids.length + c)) ∧ KidsR w P kids A
end
mutual
theorem KidsR.keep {w w' : World} {P P' : Nat → Prop} (hb : ∀ k, P k → k < w.heap.size → w'.heap[k]? = w.heap[k]? ∧ P' k) : ∀ (ts : List Nd) (A : Option Addr), KidsR w P ts A → KidsR w' P' ts A
 | [], _, _ => trivial
 | t :: ts, A, h => by
  unfold KidsR at h ⊢
  obtain ⟨g, o, hA, hg, h1, h2⟩ := h
  obtain ⟨h3, h4⟩ := OneR.keep hb t g o hg h1
  exact ⟨g, o, hA, h4, h3, KidsR.keep hb ts _ h2⟩
theorem OneR.keep {w w' : World} {P P' : Nat → Prop} (hb : ∀ k, P k → k < w.heap.size → w'.heap[k]? = w.heap[k]? ∧ P' k) : ∀ (t : Nd) (g o : Nat), P g → OneR w P t g o → OneR w' P' t g o ∧ P' g
 | .mk k x n u a kids, g, o, hg, h => by
  unfold OneR at h ⊢
  obtain ⟨A, c, h0, h1, h2, h3, h4, h5, h6⟩ := h
  have hlt := World.block_lt_of_cell? w _ h0
  have e : ∀ i, w'.cell? ⟨g, i, none⟩ = w.cell? ⟨g, i, none⟩ := fun i => World.cell?_of_block (a := ⟨g, i, none⟩) (hb g hg hlt).1
  exact ⟨⟨A, c, by rw [e]; exact h0, by rw [e]; exact h1, by rw [e]; exact h2, by rw [e]; exact h3, by rw [e]; exact h4, by rw [e]; exact h5, KidsR.keep hb kids A h6⟩, (hb g hg hlt).2⟩
end
def RowsR (w : World) (P : Nat → Prop) : List Nd → List Value → Prop
 | [], vs => vs = []
 | t :: ts, vs => ∃ A c rest, vs = nCells t A c ++ rest ∧ KidsR w P t.kids A ∧ RowsR w P ts rest
theorem RowsR.keep {w w' : World} {P P' : Nat → Prop} (hb : ∀ k, P k → k < w.heap.size → w'.heap[k]? = w.heap[k]? ∧ P' k) : ∀ (ts : List Nd) (vs : List Value), RowsR w P ts vs → RowsR w' P' ts vs
 | [], _, h => h
 | t :: ts, vs, h => by
  obtain ⟨A, c, rest, h1, h2, h3⟩ := h
  exact ⟨A, c, rest, h1, KidsR.keep hb _ _ h2, RowsR.keep hb ts rest h3⟩
theorem RowsR.app {w : World} {P : Nat → Prop} {us : List Nd} {vs' : List Value} (h' : RowsR w P us vs') : ∀ (ts : List Nd) (vs : List Value), RowsR w P ts vs → RowsR w P (ts ++ us) (vs ++ vs')
 | [], vs, h => by unfold RowsR at h; subst h; exact h'
 | t :: ts, vs, h => by
  obtain ⟨A, c, rest, h1, h2, h3⟩ := h
  exact ⟨A, c, rest ++ vs', by rw [h1, List.append_assoc], h2, RowsR.app h' ts rest h3⟩
theorem RowsR.one {w : World} {P : Nat → Prop} (t : Nd) (A : Option Addr) (c : Nat) (h : KidsR w P t.kids A) : RowsR w P [t] (nCells t A c) :=
 ⟨A, c, [], by simp, h, rfl⟩
theorem RowsR.kids {w : World} {P : Nat → Prop} {g : Nat} (hg : P g) : ∀ (ts : List Nd) (vs : List Value) (o : Nat), RowsR w P ts vs → (∀ j u, vs[j]? = some u → w.cell? ⟨g, o + j, none⟩ = some u) → KidsR w P ts (some ⟨g, o, none⟩)
 | [], _, _, _, _ => trivial
 | t :: ts, vs, o, h, hc => by
  obtain ⟨A, c, rest, rfl, h2, h3⟩ := h
  unfold KidsR
  refine ⟨g, o, rfl, hg, ?_, RowsR.kids hg ts rest (o + 6) h3 (fun j u hu => ?_)⟩
  ·obtain ⟨k, x, n, u, a, kids⟩ := t
   unfold OneR
   exact ⟨A, c, hc 0 _ rfl, hc 1 _ rfl, hc 2 _ rfl, hc 3 _ rfl, hc 4 _ rfl, hc 5 _ rfl, h2⟩
  ·rw [show o + 6 + j = o + (6 + j) by omega]
   refine hc (6 + j) u ?_
   rw [List.getElem?_append_right (by simp [nCells])]
   simpa [nCells] using hu
abbrev nv (t : Nd) (A : Option Addr) (c : Nat) : Value := .agg #[.int .i64 t.kind, .string t.name, .int .i64 t.n, .int .i64 t.unit, .int .i64 t.at0, .slice A t.kids.length (t.kids.length + c)]
def From (B : Nat) (k : Nat) : Prop := B ≤ k
def Beside (B : Nat) (v : Value) (k : Nat) : Prop := B ≤ k ∧ v.ownBlock ≠ some k
def VNds (B : Nat) (w : World) (v : Value) (ts : List Nd) : Prop := ∃ vs, w.ownsRow B 79 6 v ts.length vs ∧ RowsR w (Beside B v) ts vs
theorem VNds.kids {B : Nat} {w : World} {v : Value} {ts : List Nd} (h : VNds B w v ts) : ∃ A c, v = .slice A ts.length (ts.length + c) ∧ KidsR w (From B) ts A := by
 obtain ⟨vs, h1, h2⟩ := h
 rcases h1.2 with ⟨rfl, h0⟩ | ⟨g, cap, cur, rfl, hb, hg, hn, hc, hs, ht⟩
 ·obtain rfl : ts = [] := List.eq_nil_of_length_eq_zero h0
  exact ⟨none, 0, rfl, trivial⟩
 ·have h2' : RowsR w (From B) ts vs := h2.keep (fun k hk _ => ⟨rfl, hk.1⟩)
  refine ⟨_, cap - ts.length, by rw [Nat.add_sub_cancel' hn], h2'.kids hb ts vs 0 (fun j u hu => ?_)⟩
  have := h1.cells (g := g) rfl j u hu
  have hadd : (⟨g, 0, none⟩ : Addr).add j = ⟨g, 0 + j, none⟩ := by unfold Addr.add; split <;> simp_all
  rw [hadd] at this
  exact this
theorem VNds.nil (B : Nat) (w : World) : VNds B w (.slice none 0 0) [] := ⟨[], World.ownsRow_nil _ _ _ _, rfl⟩
theorem VNds.keep {B : Nat} {w w' : World} {v : Value} {ts : List Nd} (hb : ∀ k, B ≤ k → k < w.heap.size → w'.heap[k]? = w.heap[k]?) (h : VNds B w v ts) : VNds B w' v ts := by
 obtain ⟨vs, h1, h2⟩ := h
 refine ⟨vs, ⟨h1.1, ?_⟩, h2.keep (fun k hk hl => ⟨hb k hk.1 hl, hk⟩)⟩
 rcases h1.2 with hn | ⟨g, cap, cur, hv, hg, hh, rest⟩
 ·exact .inl hn
 ·exact .inr ⟨g, cap, cur, hv, hg, by rw [hb g hg (Array.getElem?_eq_some_iff.1 hh).1]; exact hh, rest⟩
theorem cells6 {w : World} {b : Nat} {v0 v1 v2 v3 v4 v5 : Value} {T : TypeId} (h : w.heap[b]? = some (.cells #[v0, v1, v2, v3, v4, v5] T (0, 0))) :
  (w.cell? ⟨b, 0, none⟩ = some v0 ∧ w.cell? ⟨b, 1, none⟩ = some v1 ∧ w.cell? ⟨b, 2, none⟩ = some v2 ∧ w.cell? ⟨b, 3, none⟩ = some v3 ∧ w.cell? ⟨b, 4, none⟩ = some v4 ∧ w.cell? ⟨b, 5, none⟩ = some v5) ∧
  (w.frozen? ⟨b, 0, none⟩ = false ∧ w.frozen? ⟨b, 1, none⟩ = false ∧ w.frozen? ⟨b, 2, none⟩ = false ∧ w.frozen? ⟨b, 3, none⟩ = false ∧ w.frozen? ⟨b, 4, none⟩ = false ∧ w.frozen? ⟨b, 5, none⟩ = false) := by
 refine ⟨⟨?_, ?_, ?_, ?_, ?_, ?_⟩, ?_, ?_, ?_, ?_, ?_, ?_⟩
 ·rw [cell_of_row _ _ 0 _ _ (0, 0) h]; rfl
 ·rw [cell_of_row _ _ 1 _ _ (0, 0) h]; rfl
 ·rw [cell_of_row _ _ 2 _ _ (0, 0) h]; rfl
 ·rw [cell_of_row _ _ 3 _ _ (0, 0) h]; rfl
 ·rw [cell_of_row _ _ 4 _ _ (0, 0) h]; rfl
 ·rw [cell_of_row _ _ 5 _ _ (0, 0) h]; rfl
 all_goals simp [World.frozen?, h]
theorem gbRefl (w : World) (r : Option Nat) : w.grownBy w r := ⟨rfl, rfl, rfl, Nat.le_refl _, fun _ _ _ => rfl⟩
theorem gbSet {w w' : World} {b i : Nat} {v : Value} (h : w.grownBy w' (some b)) : w.grownBy (w'.setCell ⟨b, i, none⟩ v) (some b) :=
 ⟨h.os, h.tape, h.output, by simpa using h.size, fun k hk hn => (heap_setCell_other w' _ k v (fun e => hn (by rw [e]))).trans (h.block k hk hn)⟩
theorem gbAlloc {w w' : World} {r : Option Nat} {o : Obj} (h : w.grownBy w' r) : w.grownBy (w'.alloc o) r :=
 ⟨h.os, h.tape, h.output, by have := h.size; simp; omega, fun k hk hn => (Below.heap_alloc w' o k (Nat.lt_of_lt_of_le hk h.size)).trans (h.block k hk hn)⟩
theorem gbTrans {a b c : World} {r : Option Nat} (h : a.grownBy b r) (k : b.grownBy c r) : a.grownBy c r :=
 ⟨k.os.trans h.os, k.tape.trans h.tape, k.output.trans h.output, Nat.le_trans h.size k.size, fun i hi hn => (k.block i (Nat.lt_of_lt_of_le hi h.size) hn).trans (h.block i hi hn)⟩
abbrev zeroNd : Array Value := #[.int .i64 0, .string ⟨#[]⟩, .int .i64 0, .int .i64 0, .int .i64 0, .slice none 0 0]
end Go.Proofs.YtljknappbnoikaaGreatDoor
namespace Go.Proofs.YtljknappbnoikaaGreatDoor
open Go.RowKit
namespace C
def V1 (v : Value) (w : World) (e : Ending) (w' : World) : Prop := e = .returned v ∧ Below w.heap.size w w'
abbrev dpanic (er at0 : Int) : Ending := .panicked [{ v := .iface 106 (.agg #[.int .i64 er, .int .i64 at0]), recovered := false }]
theorem ret_vC {a b : Int} (h : a = b) : Ending.returned (.int .i64 a) = .returned (.int .i64 b) := by rw [h]
theorem bAllocC {w X : World} {o : Obj} (h : Below w.heap.size w X) : Below w.heap.size w (X.alloc o) := h.alloc h.size o
theorem bCallC {w X w1 : World} (h : Below w.heap.size w X) (hb : Below X.heap.size X w1) : Below w.heap.size w w1 := h.trans (hb.mono h.size)
theorem KidsR.bel {w w' : World} {ts : List Nd} {A : Option Addr} (h : KidsR w (From 0) ts A) (hb : Below w.heap.size w w') : KidsR w' (From 0) ts A := h.keep (fun q h1 h2 => ⟨hb.block q h2, h1⟩)
theorem newBlkC (w : World) (o : Obj) (b : Nat) (h : b = w.heap.size) : (w.alloc o).heap[b]? = some o := by subst h; exact heap_alloc_new w o
theorem blkLtC {w : World} {b : Nat} {o : Obj} (h : w.heap[b]? = some o) : b < w.heap.size := (Array.getElem?_eq_some_iff.1 h).1
abbrev ndA (t : Nd) (A : Option Addr) (c : Nat) : Array Value := #[.int .i64 t.kind, .string t.name, .int .i64 t.n, .int .i64 t.unit, .int .i64 t.at0, .slice A t.kids.length (t.kids.length + c)]
theorem kids_get {w : World} : ∀ (ts : List Nd) (g o : Nat), KidsR w (From 0) ts (some ⟨g, o, none⟩) → ∀ (i : Nat) (t : Nd), ts[i]? = some t → OneR w (From 0) t g (o + i * 6)
 | [], g, o, h, i, t, ht => by simp at ht
 | u :: us, g, o, h, i, t, ht => by
  unfold KidsR at h
  obtain ⟨g', o', hA, -, h1, h2⟩ := h
  cases hA
  cases i with
  | zero => simp at ht; subst ht; simpa using h1
  | succ i =>
   have := kids_get us g (o + 6) h2 i t (by simpa using ht)
   rw [show o + (i + 1) * 6 = o + 6 + i * 6 by omega]
   exact this
theorem kids_addr {w : World} {ts : List Nd} {A : Option Addr} (h : KidsR w (From 0) ts A) (hn : 0 < ts.length) : ∃ g o, A = some ⟨g, o, none⟩ := by
 cases ts with
 | nil => simp at hn
 | cons t ts => unfold KidsR at h; obtain ⟨g, o, hA, _⟩ := h; exact ⟨g, o, hA⟩
theorem one_cells {w : World} {t : Nd} {g o : Nat} (h : OneR w (From 0) t g o) : ∃ A c, (w.cell? ⟨g, o, none⟩ = some (.int .i64 t.kind) ∧ w.cell? ⟨g, o + 1, none⟩ = some (.string t.name) ∧ w.cell? ⟨g, o + 2, none⟩ = some (.int .i64 t.n) ∧
  w.cell? ⟨g, o + 3, none⟩ = some (.int .i64 t.unit) ∧ w.cell? ⟨g, o + 4, none⟩ = some (.int .i64 t.at0) ∧ w.cell? ⟨g, o + 5, none⟩ = some (.slice A t.kids.length (t.kids.length + c))) ∧ KidsR w (From 0) t.kids A := by
 obtain ⟨k, x, n, u, a, kids⟩ := t
 unfold OneR at h
 obtain ⟨A, c, h0, h1, h2, h3, h4, h5, h6⟩ := h
 exact ⟨A, c, ⟨h0, h1, h2, h3, h4, h5⟩, h6⟩
theorem need_any (b : Bool) (er : Int) (t : Nd) (A : Option Addr) (c : Nat) (w : World) : Calls Tryz.prog 94 #[.bool b, .int .i64 er, nv t A c] w (fun e w' => (if b then e = .returned (.tuple #[]) else e = dpanic er t.at0) ∧ Below w.heap.size w w') := by
 cases b
 ·go_enter Tryz.func94, Tryz.ntmps94
  go_wp2
  exact ⟨rfl, rfl, (Below.refl _ _).alloc (Nat.le_refl _) _⟩
 ·go_enter Tryz.func94, Tryz.ntmps94
  go_wp2
  exact ⟨rfl, .tuple #[], by simp [results, Tryz.results94, go_sem], rfl, (Below.refl _ _).alloc (Nat.le_refl _) _⟩
end C
end Go.Proofs.YtljknappbnoikaaGreatDoor
namespace Go.Proofs.YtljknappbnoikaaGreatDoor
open Go.RowKit
namespace C
theorem toList_eqC (x : ByteArray) : (x.toList == x.toList) = true := by simp
theorem index1_any (v : U.Vr) (b : Nat) (y : ByteArray) (w : World) (hy : w.cell? ⟨b, 1, none⟩ = some (.string y)) :
  Calls Tryz.prog 129 #[.agg #[.string v.x, .int .i64 v.u, .int .i64 v.lo, .int .i64 v.hi, .int .i64 v.i], .pointer (some ⟨b, 0, none⟩)] w (V1 (.bool (decide (y = v.x))) w) := by
 have hb := World.block_lt_of_cell? _ _ hy
 by_cases h : y = v.x
 ·rw [decide_eq_true h]
  subst h
  have g := toList_eqC v.x
  go_enter Tryz.func129, Tryz.ntmps129
  go_wp2
  go_ret
  exact ⟨rfl, (Below.refl _ _).alloc (Nat.le_refl _) _⟩
 ·rw [decide_eq_false h]
  have g := bne_of v.x y (fun e => h e.symm)
  go_enter Tryz.func129, Tryz.ntmps129
  go_wp2
  go_ret
  exact ⟨rfl, (Below.refl _ _).alloc (Nat.le_refl _) _⟩
theorem IndexFunc_any (vs : List U.Vr) (S : Option Addr) (m b : Nat) (y : ByteArray) (w : World) (hV : U.VarsR w vs S) (hlen : vs.length ≤ 1000000) (hy : w.cell? ⟨b, 1, none⟩ = some (.string y)) :
  Calls Tryz.prog 128 #[.slice S vs.length m, .func (.func 129) #[] #[.pointer (some ⟨b, 0, none⟩)]] w (V1 (.int .i64 (idx (vs.map (·.x)) y)) w) := by
 obtain ⟨r, hr⟩ : ∃ r, idx (vs.map (·.x)) y = r := ⟨_, rfl⟩
 rw [hr]
 have HR : Hid (idxF y ((vs.map (·.x)).drop 0) 0 = r) := Lib.hid hr
 have HV := Lib.hid hV
 have hb := World.block_lt_of_cell? _ _ hy
 have HY := Lib.hid (fun wx (h : Below w.heap.size w wx) => (World.cell?_of_block (a := ⟨b, 1, none⟩) (h.block b hb)).trans hy)
 clear hV hr hy
 go_enter Tryz.func128, Tryz.ntmps128
 go_wp2
 go_loopg [8] (vs.length) (fun gk i wr => ∃ (k : Nat), k + gk = vs.length ∧ i = .int .i64 k ∧ Hid (idxF y ((vs.map (·.x)).drop k) k = r) ∧ Hid (Below w.heap.size w wr))
 case atStart => exact ⟨0, by omega, rfl, HR, Lib.hid (Below.refl _ _)⟩
 case round =>
  obtain ⟨k, hk, rfl, hM, hW⟩ := hrel
  by_cases hlt : k < vs.length
  ·obtain ⟨g, rfl⟩ : ∃ g, gk = g + 1 := ⟨gk - 1, by omega⟩
   obtain ⟨ga, oa, rfl, hat⟩ := (HV.out.below hW.out).addr (by omega)
   obtain ⟨e0, e1, e2, e3, e4⟩ := hat _ _ (List.getElem?_eq_getElem hlt)
   have hl2 : k < (vs.map (·.x)).length := by simpa using hlt
   have h1 := Lib.hid (idxF_drop_hit y (vs.map (·.x)) k k hl2)
   have h2 := Lib.hid (idxF_drop_miss y (vs.map (·.x)) k k hl2)
   simp only [List.getElem_map] at h1 h2
   clear hat
   generalize vs[k] = t at *
   have HC := Lib.hid (index1_any t b y wr (HY.out _ hW.out))
   by_cases hxy : y = t.x
   ·rw [decide_eq_true hxy] at HC
    have h3 := Lib.hid ((h1.out hxy).symm.trans hM.out)
    clear h1 h2 hM hxy
    go_wp2_with (go_at_call 129; refine HC.out.mono ?_; rintro e w2 ⟨rfl, hb2⟩; have hW2 := Lib.hid (bCallC hW.out hb2); clear hb2)
    go_ret
    exact ⟨ret_vC h3.out, hW2.out⟩
   ·rw [decide_eq_false hxy] at HC
    have h3 := Lib.hid ((h2.out hxy).symm.trans hM.out)
    clear h1 h2 hM hxy
    go_wp2_with (go_at_call 129; refine HC.out.mono ?_; rintro e w2 ⟨rfl, hb2⟩; have hW2 := Lib.hid (bCallC hW.out hb2); clear hb2)
    go_roundg g
    case measure => omega
    case rel => exact ⟨k + 1, by omega, by go_num, h3, hW2⟩
  ·have hF : Hid ((-1 : Int) = r) := Lib.hid (by have := hM.out; rw [idxF_drop_end _ _ _ _ (by simp; omega)] at this; exact this)
   have hkl : decide ((k : Int) < (vs.length : Int)) = false := by simp; omega
   clear hM
   go_wp2_with fail
   go_ret
   exact ⟨ret_vC hF.out, hW.out⟩
def IxP (i at0 : Int) (w : World) (e : Ending) (w' : World) : Prop := (if 0 ≤ i then e = .returned (.int .i64 i) else e = dpanic 8 at0) ∧ Below w.heap.size w w'
theorem index_any (vs : List U.Vr) (S : Option Addr) (m : Nat) (t : Nd) (A : Option Addr) (c : Nat) (w : World) (hV : U.VarsR w vs S) (hlen : vs.length ≤ 1000000) :
  Calls Tryz.prog 117 #[.slice S vs.length m, nv t A c] w (IxP (idx (vs.map (·.x)) t.name) t.at0 w) := by
 have HB := Lib.hid ((Below.refl w.heap.size w).alloc (Nat.le_refl _) (.cells (ndA t A c) 79))
 have HX := Lib.hid (newBlkC w (.cells (ndA t A c) 79) _ rfl)
 obtain ⟨⟨c0, c1, c2, c3, c4, c5⟩, -⟩ := cells6 HX.out
 have hx := blkLtC HX.out
 have HI := Lib.hid (IndexFunc_any vs S m w.heap.size t.name _ (hV.below HB.out) hlen c1)
 have hmf : ∀ (fn : Fn) (first cap : Array Value) (w : World), (Instr.makeFunc fn first cap).run Tryz.prog w = .ok (.func fn first cap) w := fun _ _ _ _ => rfl
 unfold IxP
 generalize idx (vs.map (·.x)) t.name = i at *
 generalize vs.length = vn at *
 clear hV hlen
 by_cases h0 : 0 ≤ i
 ·have d0 : decide (i ≥ 0) = true := by simp; omega
  simp only [if_pos h0]
  have HN := Lib.hid (fun wx => need_any true 8 t A c wx)
  clear h0
  go_enter Tryz.func117, Tryz.ntmps117
  go_wp2_with (first
   | (go_at_call 128; refine HI.out.mono ?_; rintro e w2 ⟨rfl, hb2⟩; have HX := Lib.hid ((hb2.block _ hx).trans HX.out); have HB := Lib.hid (bCallC HB.out hb2); clear c0 c1 c2 c3 c4 c5 hx; obtain ⟨⟨c0, c1, c2, c3, c4, c5⟩, -⟩ := cells6 HX.out; have hx := blkLtC HX.out; clear hb2)
   | (go_at_call 94; refine (HN.out _).mono ?_; rintro e w3 ⟨he, hb3⟩; simp only [if_pos] at he; subst he; have HB := Lib.hid (bCallC HB.out hb3); clear hb3))
  go_ret
  exact ⟨rfl, HB.out⟩
 ·have d0 : decide (i ≥ 0) = false := by simp; omega
  simp only [if_neg h0]
  have HN := Lib.hid (fun wx => need_any false 8 t A c wx)
  clear h0
  go_enter Tryz.func117, Tryz.ntmps117
  go_wp2_with (first
   | (go_at_call 128; refine HI.out.mono ?_; rintro e w2 ⟨rfl, hb2⟩; have HX := Lib.hid ((hb2.block _ hx).trans HX.out); have HB := Lib.hid (bCallC HB.out hb2); clear c0 c1 c2 c3 c4 c5 hx; obtain ⟨⟨c0, c1, c2, c3, c4, c5⟩, -⟩ := cells6 HX.out; have hx := blkLtC HX.out; clear hb2)
   | (go_at_call 94; refine (HN.out _).mono ?_; rintro e w3 ⟨he, hb3⟩; simp only [Bool.false_eq_true, if_neg, not_false_eq_true] at he; subst he; have HB := Lib.hid (bCallC HB.out hb3); clear hb3))
  exact ⟨rfl, rfl, HB.out⟩
end C
end Go.Proofs.YtljknappbnoikaaGreatDoor
namespace Go.Proofs.YtljknappbnoikaaGreatDoor
open Go.RowKit
namespace C
theorem ndInfo : (Tryz.prog.info? 79).map (fun i => (i.zero, i.size, i.bytes)) = some (some (.agg zeroNd), 6, 72) := by kernel_rfl
def Old (B : Nat) (k : Nat) : Prop := k < B
theorem KidsR.old {w : World} {P : Nat → Prop} {ts : List Nd} {A : Option Addr} (h : KidsR w P ts A) : KidsR w (Old w.heap.size) ts A := h.keep (fun k _ hl => ⟨rfl, hl⟩)
theorem KidsR.oldTo {w w' : World} {ts : List Nd} {A : Option Addr} (h : KidsR w (From 0) ts A) (hb : Below w.heap.size w w') : KidsR w' (Old w.heap.size) ts A := h.keep (fun k _ hl => ⟨hb.block k hl, hl⟩)
theorem RowsR.oldKeep {B : Nat} {w w' : World} {ts : List Nd} {vs : List Value} (h : RowsR w (Old B) ts vs) (hb : ∀ k, k < B → w'.heap[k]? = w.heap[k]?) : RowsR w' (Old B) ts vs := h.keep (fun k hk _ => ⟨hb k hk, hk⟩)
def OwnO (B : Nat) (w : World) (v : Value) (ts : List Nd) : Prop := ∃ vs, w.ownsRow B 79 6 v ts.length vs ∧ RowsR w (Old B) ts vs
theorem OwnO.kids {B : Nat} {w : World} {v : Value} {ts : List Nd} (h : OwnO B w v ts) : ∃ A c, v = .slice A ts.length (ts.length + c) ∧ KidsR w (From 0) ts A := by
 obtain ⟨vs, h1, h2⟩ := h
 rcases h1.2 with ⟨rfl, h0⟩ | ⟨g, cap, cur, rfl, hb, hg, hn, hc, hs, ht⟩
 ·obtain rfl : ts = [] := List.eq_nil_of_length_eq_zero h0
  exact ⟨none, 0, rfl, trivial⟩
 ·have h2' : RowsR w (From 0) ts vs := h2.keep (fun k hk _ => ⟨rfl, Nat.zero_le _⟩)
  refine ⟨_, cap - ts.length, by rw [Nat.add_sub_cancel' hn], h2'.kids (Nat.zero_le _) ts vs 0 (fun j u hu => ?_)⟩
  have := h1.cells (g := g) rfl j u hu
  have hadd : (⟨g, 0, none⟩ : Addr).add j = ⟨g, 0 + j, none⟩ := by unfold Addr.add; split <;> simp_all
  rw [hadd] at this
  exact this
theorem OwnO.keep {B : Nat} {w w2 : World} {v : Value} {ts : List Nd} (h : OwnO B w v ts) (hB : B ≤ w.heap.size) (h2 : ∀ k, k < w.heap.size → w2.heap[k]? = w.heap[k]?) : OwnO B w2 v ts := by
 obtain ⟨vs, hown, hrows⟩ := h
 refine ⟨vs, ⟨hown.1, ?_⟩, RowsR.oldKeep hrows (fun k hk => h2 k (Nat.lt_of_lt_of_le hk hB))⟩
 rcases hown.2 with hn | ⟨g, cap, cur, hv, hg, hh, rest⟩
 ·exact .inl hn
 ·exact .inr ⟨g, cap, cur, hv, hg, by rw [h2 g (Array.getElem?_eq_some_iff.1 hh).1]; exact hh, rest⟩
theorem gbBelowC {a b : World} {B : Nat} {r : Option Nat} (h : a.grownBy b r) (hB : B ≤ a.heap.size) (hr : ∀ k, r = some k → B ≤ k) : Below B a b :=
 ⟨h.os, h.tape, h.output, h.size, fun i hi => h.block i (by omega) (fun e => by have := hr i e.symm; omega)⟩
theorem nd_one (t : Nd) (A : Option Addr) (c : Nat) : ∀ u ∈ nCells t A c, u.oneCell' = true := by
 intro u hu
 simp only [nCells, List.mem_cons, List.not_mem_nil, or_false] at hu
 rcases hu with rfl | rfl | rfl | rfl | rfl | rfl <;> rfl
def OfP (k : Int) (ts : List Nd) (w : World) (e : Ending) (w' : World) : Prop := (∃ A c, e = .returned (.slice A (ts.filter (fun t => decide (t.kind = k))).length ((ts.filter (fun t => decide (t.kind = k))).length + c)) ∧ KidsR w' (From 0) (ts.filter (fun t => decide (t.kind = k))) A) ∧ Below w.heap.size w w'
theorem ofKind_any (ts : List Nd) (A : Option Addr) (m : Nat) (kd : Int) (w : World) (hK : KidsR w (From 0) ts A) (hlen : ts.length ≤ 100000) : Calls Tryz.prog 58 #[.slice A ts.length m, .int .i64 kd] w (OfP kd ts w) := by
 have HK := Lib.hid hK
 obtain ⟨i0, hi, hz0, hz1, hz2⟩ := info_parts ndInfo
 obtain ⟨r, hr⟩ : ∃ r, ts.filter (fun t => decide (t.kind = kd)) = r := ⟨_, rfl⟩
 unfold OfP
 rw [hr]
 have HR : Hid ([] ++ (ts.drop 0).filter (fun t => decide (t.kind = kd)) = r) := Lib.hid hr
 clear hK hr
 go_enter Tryz.func58, Tryz.ntmps58
 go_wp2
 go_loopg [5, 10] (ts.length) (fun gk v i wr => ∃ (k : Nat) (acc : List Nd), k + gk = ts.length ∧ i = .int .i64 k ∧ acc.length ≤ k ∧ Hid (acc ++ (ts.drop k).filter (fun t => decide (t.kind = kd)) = r) ∧ Hid (OwnO w.heap.size wr v acc) ∧ Hid (Below w.heap.size w wr))
 case atStart => exact ⟨0, [], by omega, rfl, Nat.le_refl _, HR, Lib.hid ⟨[], World.ownsRow_nil _ _ _ _, rfl⟩, Lib.hid (Below.refl _ _)⟩
 case round =>
  obtain ⟨k, acc, hk, rfl, hacc, hM, hO, hW⟩ := hrel
  by_cases hlt : k < ts.length
  ·obtain ⟨g, rfl⟩ : ∃ g, gk = g + 1 := ⟨gk - 1, by omega⟩
   have hKw : KidsR wr (From 0) ts A := KidsR.bel HK.out hW.out
   have hmem := List.getElem_mem hlt
   obtain ⟨ga, oa, rfl⟩ := kids_addr hKw (by omega)
   obtain ⟨A1, a1, ⟨k0, k1, k2, k3, k4, k5⟩, hK1⟩ := one_cells (kids_get _ _ _ hKw k _ (List.getElem?_eq_getElem hlt))
   obtain ⟨A0, a0, ⟨-, -, -, -, -, k05⟩, hK0⟩ := one_cells (kids_get _ _ _ HK.out k _ (List.getElem?_eq_getElem hlt))
   have hsame : A1 = A0 := by
    have hb := World.block_lt_of_cell? w _ k05
    have e := (World.cell?_of_block (a := ⟨ga, oa + k * 6 + 5, none⟩) (hW.out.block ga hb)).trans k05
    have := e.symm.trans k5
    simp at this
    exact this.1.symm
   subst hsame
   have hM1 := hM.out
   rw [List.drop_eq_getElem_cons hlt, List.filter_cons] at hM1
   clear hKw hmem hK1 k05 hM
   generalize ts[k] = u at *
   by_cases hkd : u.kind = kd
   ·have hM2 : Hid ((acc ++ [u]) ++ (ts.drop (k + 1)).filter (fun t => decide (t.kind = kd)) = r) := Lib.hid (by rw [if_pos (by simp [hkd])] at hM1; rw [← hM1]; simp)
    obtain ⟨vs, hown, hrows⟩ := hO.out
    have hrows := Lib.hid hrows
    have hown := Lib.hid hown
    have hol := hown.out.lt
    have hK0 := Lib.hid hK0
    have hwsz := hW.out.size
    clear hM1
    subst hkd
    go_wp2_with (at_builtin; refine wpList_append_lies _ rfl _ _ 77 rfl w.heap.size 79 i0 (.agg zeroNd) 6 72 Tryz.underlying77 hi hz0 hz1 hz2 rfl (by decide) _ acc.length vs rfl ((hown.out.alloc _).alloc _) ⟨wr.heap.size + 1, 0, none⟩ 1 1 (nCells u A1 a1) rfl rfl ?c1 (nd_one _ _ _) (by decide) ?c3 ?c4 ?c5 (wr.heap.size + 1 + 1) ?c6 ?_)
    case c1 => exact World.news_of_block (cs := ndA u A1 a1) (t := 79) (fr := (0, 0)) (newBlkC _ _ _ (by simp))
    case c3 => unfold maxLen; omega
    case c4 => omega
    case c5 => simp; omega
    case c6 => simp
    intro gb cap w3 hown3 hgrow hat hlt3
    have hB3 : Below w.heap.size w w3 := hW.out.trans (gbBelowC (gbTrans (gbAlloc (gbAlloc (gbRefl _ _))) hgrow) hwsz (fun k e => (hol k e).1))
    have hO3 : Hid (OwnO w.heap.size w3 (.slice (some ⟨gb, 0, none⟩) (acc.length + 1) cap) (acc ++ [u])) := Lib.hid ⟨vs ++ nCells u A1 a1, by rw [List.length_append]; exact hown3, RowsR.app (RowsR.one u A1 a1 (KidsR.oldTo hK0.out hB3)) _ _ (RowsR.oldKeep hrows.out (fun k hk => (hB3.block k hk).trans (hW.out.block k hk).symm))⟩
    have hW3 := Lib.hid hB3
    clear hown3 hgrow hat hB3
    go_wp2
    go_roundg g
    case measure => omega
    case rel => exact ⟨k + 1, acc ++ [u], by omega, by go_num, by simp; omega, hM2, hO3, hW3⟩
   ·have hM2 : Hid (acc ++ (ts.drop (k + 1)).filter (fun t => decide (t.kind = kd)) = r) := Lib.hid (by rw [if_neg (by simp [hkd])] at hM1; exact hM1)
    have hkf : (u.kind == kd) = false := by simp [hkd]
    clear hM1
    go_wp2_with fail
    go_roundg g
    case measure => omega
    case rel => exact ⟨k + 1, acc, by omega, by go_num, by omega, hM2, Lib.hid (OwnO.keep hO.out hW.out.size (fun k hk => Below.heap_alloc _ _ _ hk)), Lib.hid (bAllocC hW.out)⟩
  ·have hF : Hid (acc = r) := Lib.hid (by have := hM.out; rw [List.drop_eq_nil_of_le (by omega)] at this; simpa using this)
   have hkl : decide ((k : Int) < (ts.length : Int)) = false := by simp; omega
   obtain ⟨A9, c9, rfl, hK9⟩ := hO.out.kids
   have hK9 := Lib.hid hK9
   clear hM hO
   go_wp2_with fail
   go_ret
   have := hF.out
   subst this
   exact ⟨⟨A9, c9, rfl, hK9.out⟩, hW.out⟩
end C
end Go.Proofs.YtljknappbnoikaaGreatDoor
