/- Texts of one proof: LxF. -/
import Derived.Test.YtdaghppcomckbaaGreatDoorLmB
import Derived.Laws.AppendOwn
import Derived.OwnWalk
import Derived.WalkMore
import Derived.Deep.LoopGhost
import Derived.BigCall
/- The whole lexer as a function, and the contract of Lex; condition: the listed package-level variables hold what the text lays. -/
namespace Go.Proofs.YtdaghppcomckbaaGreatDoor
open Go.RowKit
set_option linter.unusedVariables false
set_option linter.unusedSimpArgs false

/-- behind the gap at an offset -/
def gapE (s : ByteArray) (p : Nat) : Nat := p + gapLen false (s.data.toList.drop p)
/-- the tokens from an offset on (c are before it), the error, its offset -/
def lexF (s : ByteArray) : Nat → Nat → Nat → List Tk × Int × Nat
  | 0, _, _ => ([], 0, 0)
  | f + 1, p, c =>
    if s.size ≤ p then ([], 0, 0)
    else if c = 3000 then ([], 2, p)
    else if (rd s p).2.2 ≠ 0 then ([], (rd s p).2.2, p)
    else ((rd s p).1 :: (lexF s f (gapE s (rd s p).2.1) (c + 1)).1, (lexF s f (gapE s (rd s p).2.1) (c + 1)).2)
/-- what Lex returns -/
def lx (s : ByteArray) : List Tk × Int × Nat :=
  if 10000 < s.size then ([], 2, 0)
  else if (lexF s (s.size + 1) (gapE s 0) 0).2.1 ≠ 0 then ([], (lexF s (s.size + 1) (gapE s 0) 0).2)
  else ((lexF s (s.size + 1) (gapE s 0) 0).1, 0, 0)
def cellsOf (l : List Tk) : List Value := l.flatMap Tk.cells

theorem gapE_ge (s : ByteArray) (p : Nat) : p ≤ gapE s p := Nat.le_add_right _ _
theorem gapE_le (s : ByteArray) (p : Nat) (h : p ≤ s.size) : gapE s p ≤ s.size := by
  unfold gapE
  have h1 := gapLen_le (s.data.toList.drop p) false
  have h2 : (s.data.toList.drop p).length = s.size - p := by simp
  omega

/-- the contract of Lex -/
def LexPost (s : ByteArray) (w : World) (e : Ending) (w' : World) : Prop :=
  ∃ v : Value, e = .returned (.tuple #[v, .int .i64 (lx s).2.1, .int .i64 ((lx s).2.2 : Nat)]) ∧ w'.ownsRow w.heap.size 44 4 v (lx s).1.length (cellsOf (lx s).1) ∧ Below w.heap.size w w'

set_option maxHeartbeats 400000 in
set_option maxRecDepth 100000 in
theorem Lex_long (s : ByteArray) (w : World) (h : 10000 < s.size) (hm : s.size ≤ maxLen) : Calls Tryz.prog 11 #[.string s] w (LexPost s w) := by
  have hx : lx s = ([], 2, 0) := by unfold lx; rw [if_pos h]
  unfold maxLen at hm
  have H : Hid (LexPost s w (.returned (.tuple #[.slice none 0 0, .int .i64 2, .int .i64 0])) w) := by
    unfold LexPost
    rw [hx]
    exact ⟨_, rfl, World.ownsRow_nil _ _ _ _, Below.refl _ _⟩
  clear hx
  go_enter Tryz.func11, Tryz.ntmps11
  go_wp2
  go_step3
  go_wp2
  try rw [Exit.noGoto_ret]
  go_ret3
  exact H.out

theorem own_slice {w : World} {base e size n : Nat} {v : Value} {xs : List Value} (h : w.ownsRow base e size v n xs) : ∃ A c, v = .slice A n c := by
  rcases h.2 with ⟨rfl, rfl⟩ | ⟨g, cap, cur, rfl, _⟩
  · exact ⟨none, 0, rfl⟩
  · exact ⟨_, _, rfl⟩
theorem tokInfo : (Tryz.prog.info? 44).map (fun i => (i.zero, i.size, i.bytes)) = some (some zeroV, 4, 40) := by kernel_rfl

theorem cellsOf_snoc (ts : List Tk) (t : Tk) : cellsOf (ts ++ [t]) = cellsOf ts ++ t.cells := by simp [cellsOf]

/-- what the loop knows at its head -/
def Inv (s : ByteArray) (g p : Nat) (ts : List Tk) : Prop :=
  lexF s (s.size + 1) (gapE s 0) 0 = (ts ++ (lexF s (g + 1) p ts.length).1, (lexF s (g + 1) p ts.length).2)

theorem ownsRow_below {wr w1 : World} {base e size n : Nat} {v : Value} {xs : List Value} (h : wr.ownsRow base e size v n xs) (hb : Below wr.heap.size wr w1) : w1.ownsRow base e size v n xs :=
  h.kept (row := none) ⟨hb.os, hb.tape, hb.output, hb.size, fun k hk _ => hb.block k hk⟩ (by cases hv : v.ownBlock <;> simp)

theorem read_eq (s : ByteArray) (at0 : Nat) (tk : Tk) (nx : Nat) (er : Int) (hq : Hid (rd s at0 = (tk, nx, er))) (w : World) (hL : LaidW w) (hlt0 : at0 < s.size) (hs : s.size ≤ 10000) :
    Calls Tryz.prog 19 #[.string s, .int .i64 at0] w fun e w' => e = .returned (.tuple #[.agg #[.int .i64 tk.k, .string tk.x, .int .i64 tk.m, .int .i64 tk.a], .int .i64 nx, .int .i64 er]) ∧ Below w.heap.size w w' := by
  have h := read_any s at0 w hL hlt0 hs
  rw [hq.out] at h
  exact h
theorem rd_ok (s : ByteArray) (p : Nat) (tk : Tk) (nx : Nat) (hp : p < s.size) (hq : rd s p = (tk, nx, 0)) : p < nx ∧ nx ≤ s.size := by
  have hle := tokLen_le (s.data.toList.drop p)
  have hle2 : tokLen (s.data.toList.drop p) ≤ s.size - p := by simpa using hle
  unfold rd at hq
  split at hq
  · simp at hq
  · split at hq
    · simp only [Prod.mk.injEq] at hq
      rename_i h1 h2
      exact absurd hq.2.2 h2
    · simp only [Prod.mk.injEq] at hq
      omega

theorem lexF_done (s : ByteArray) (f p c : Nat) (h : s.size ≤ p) : lexF s (f + 1) p c = ([], 0, 0) := by rw [lexF, if_pos h]
theorem lexF_many (s : ByteArray) (f p : Nat) (h : p < s.size) : lexF s (f + 1) p 3000 = ([], 2, p) := by rw [lexF, if_neg (by omega), if_pos rfl]
theorem lexF_bad (s : ByteArray) (f p c : Nat) (tk : Tk) (nx : Nat) (er : Int) (h : p < s.size) (hc : c ≠ 3000) (hq : rd s p = (tk, nx, er)) (he : er ≠ 0) : lexF s (f + 1) p c = ([], er, p) := by
  rw [lexF, if_neg (by omega), if_neg hc, hq, if_pos he]
theorem lexF_tok (s : ByteArray) (f p c : Nat) (tk : Tk) (nx : Nat) (h : p < s.size) (hc : c ≠ 3000) (hq : rd s p = (tk, nx, 0)) :
    lexF s (f + 1) p c = (tk :: (lexF s f (gapE s nx) (c + 1)).1, (lexF s f (gapE s nx) (c + 1)).2) := by
  rw [lexF, if_neg (by omega), if_neg hc, hq, if_neg (by show ¬ ((0 : Int) ≠ 0); decide)]

theorem Inv.ok {s : ByteArray} {g p : Nat} {ts : List Tk} (h : Inv s g p ts) (hs : s.size ≤ 10000) (hp : s.size ≤ p) : lx s = (ts, 0, 0) := by
  unfold Inv at h
  rw [lexF_done s g p _ hp] at h
  unfold lx
  rw [if_neg (by omega), h]
  simp
theorem Inv.err {s : ByteArray} {g p : Nat} {ts : List Tk} {er : Int} (h : Inv s g p ts) (hs : s.size ≤ 10000) (he : er ≠ 0) (hq : lexF s (g + 1) p ts.length = ([], er, p)) : lx s = ([], er, p) := by
  unfold Inv at h
  rw [hq] at h
  unfold lx
  rw [if_neg (by omega), h, if_pos he]
theorem Inv.next {s : ByteArray} {g p : Nat} {ts : List Tk} {tk : Tk} {nx : Nat} (h : Inv s (g + 1) p ts) (hp : p < s.size) (hc : ts.length ≠ 3000) (hq : rd s p = (tk, nx, 0)) : Inv s g (gapE s nx) (ts ++ [tk]) := by
  unfold Inv at h ⊢
  rw [lexF_tok s _ p _ tk nx hp hc hq] at h
  rw [h]
  simp

theorem LexPost.ok {s : ByteArray} {w w' : World} {v : Value} {ts : List Tk} (h : lx s = (ts, 0, 0)) (hown : w'.ownsRow w.heap.size 44 4 v ts.length (cellsOf ts)) (hb : Below w.heap.size w w') :
    LexPost s w (.returned (.tuple #[v, .int .i64 0, .int .i64 0])) w' := by
  unfold LexPost
  rw [h]
  exact ⟨v, rfl, hown, hb⟩
theorem LexPost.err {s : ByteArray} {w w' : World} {er : Int} {p : Nat} (h : lx s = ([], er, p)) (hb : Below w.heap.size w w') :
    LexPost s w (.returned (.tuple #[.slice none 0 0, .int .i64 er, .int .i64 (p : Nat)])) w' := by
  unfold LexPost
  rw [h]
  exact ⟨_, rfl, World.ownsRow_nil _ _ _ _, hb⟩

theorem new_cells (W : World) (arr : Array Value) (T : TypeId) (b : Nat) (hb : b = W.heap.size) : ∀ j u, arr.toList[j]? = some u → (W.alloc (.cells arr T)).cell? ((⟨b, 0, none⟩ : Addr).add j) = some u := by
  intro j u hu
  subst hb
  have hadd : (⟨W.heap.size, 0, none⟩ : Addr).add j = ⟨W.heap.size, j, none⟩ := by unfold Addr.add; split <;> simp_all
  rw [hadd, cell_of_row _ _ j arr T (0, 0) (heap_alloc_new W _)]
  simpa using hu
theorem tk_one (t : Tk) : ∀ u ∈ t.cells, u.oneCell' = true := by
  intro u hu
  simp only [Tk.cells, List.mem_cons, List.not_mem_nil, or_false] at hu
  rcases hu with rfl | rfl | rfl | rfl <;> rfl

set_option maxHeartbeats 800000 in
set_option maxRecDepth 100000 in
theorem Lex_short (s : ByteArray) (w : World) (hL : LaidW w) (hw : 2 < w.heap.size) (h : s.size ≤ 10000) : Calls Tryz.prog 11 #[.string s] w (LexPost s w) := by
  have hsl := Lib.hid (show s.size ≤ maxLen by unfold maxLen; omega)
  obtain ⟨i0, hi, hz0, hz1, hz2⟩ := info_parts tokInfo
  go_enter Tryz.func11, Tryz.ntmps11
  go_wp2
  go_step3
  go_wp2_with fail
  refine (gapEnd_any s 0 _ hL.1 (Nat.zero_le _) hsl.out).mono ?_
  rintro e w' ⟨rfl, rfl⟩
  go_wp2
  go_step3
  go_wp2
  go_loopg [5, 6, 7] s.size (fun gk v f i wr => ∃ (p : Nat) (ts : List Tk), f = .int .i64 0 ∧ i = .int .i64 p ∧ p ≤ s.size ∧ s.size ≤ p + gk ∧ ts.length ≤ 3000 ∧ Hid (Inv s gk p ts) ∧ wr.ownsRow w.heap.size 44 4 v ts.length (cellsOf ts) ∧ Below w.heap.size w wr)
  case atStart =>
    refine ⟨gapE s 0, [], rfl, ?_, gapE_le s 0 (Nat.zero_le _), by omega, by simp, ?_, World.ownsRow_nil _ _ _ _, Below.refl _ _⟩
    · simp [gapE]
    · show lexF s (s.size + 1) (gapE s 0) 0 = _
      simp
  case round =>
    obtain ⟨p, ts, rfl, rfl, hp, hg, hlen, hI, hown, hb⟩ := hrel
    obtain ⟨A, c, rfl⟩ := own_slice hown
    by_cases hlt : p < s.size
    · by_cases hmany : ts.length = 3000
      · have H := Lib.hid (LexPost.err (w' := wr) (hI.out.err (er := 2) h (by decide) (by rw [hmany]; exact lexF_many s gk p hlt)) hb)
        have HM := Lib.hid hmany
        have hmb : ((ts.length : Int) == 3000) = true := by rw [hmany]; rfl
        clear hmany
        go_wp2
        rw [Exit.noGoto_ret]
        go_ret3
        exact H.out
      · obtain ⟨tk, nx, er, hq⟩ : ∃ tk nx er, rd s p = (tk, nx, er) := ⟨_, _, _, rfl⟩
        have hmb : ((ts.length : Int) == 3000) = false := by simp; omega
        by_cases he : er = 0
        · subst he
          have hQ := Lib.hid hq
          have HM := Lib.hid hmany
          have hnx := rd_ok s p tk nx hlt hq
          have hl2 : ts.length + 1 ≤ 3000 := by omega
          clear hq hmany
          go_wp2_with fail
          refine (read_eq s p tk nx 0 hQ _ (hL.below hb hw) hlt h).mono ?_
          rintro e w1 ⟨rfl, hb1⟩
          have hown1 := ownsRow_below hown hb1
          have hbase : w.heap.size ≤ w1.heap.size := Nat.le_trans hb.size hb1.size
          go_wp2_with (at_builtin; refine wpList_append_own _ rfl _ _ 40 rfl w.heap.size 44 i0 zeroV 4 40 Tryz.underlying40 hi hz0 hz1 hz2 rfl (by decide) _ _ _ rfl ((hown1.alloc _).alloc _) ⟨w1.heap.size + 1, 0, none⟩ 1 1 tk.cells rfl rfl ?c1 ?c2 ?c3 ?c4 ?c5 ?_)
          case c1 => exact new_cells _ #[.int .i64 tk.k, .string tk.x, .int .i64 tk.m, .int .i64 tk.a] _ _ (by simp)
          case c2 => exact tk_one tk
          case c3 => unfold maxLen; omega
          case c4 => omega
          case c5 => simp; omega
          intro v' w2 hown2 hgrow _
          have hb2 : Below w.heap.size w w2 := (((hb.trans (hb1.mono hb.size)).alloc hbase _).alloc (by simp; omega) _).grown hgrow (by simp; omega) (fun k hk => (hown.lt k hk).1)
          rw [← cellsOf_snoc] at hown2
          have hI2 : ∃ g, gk = g + 1 := ⟨gk - 1, by omega⟩
          obtain ⟨g, rfl⟩ := hI2
          have hI3 := Lib.hid (hI.out.next hlt HM.out hQ.out)
          have hgl := gapE_le s nx hnx.2
          have hgg := gapE_ge s nx
          clear hgrow hown1 hown hb1 hI
          go_wp2_with fail
          refine (gapEnd_any s nx _ (hL.below hb2 hw).1 hnx.2 hsl.out).mono ?_
          rintro e w3 ⟨rfl, rfl⟩
          go_wp2
          go_roundg g
          case measure => omega
          case rel => exact ⟨gapE s nx, ts ++ [tk], rfl, rfl, hgl, by omega, by simp; omega, hI3, by simpa using hown2, hb2⟩
        · have hQ := Lib.hid hq
          have HLX := Lib.hid (hI.out.err (er := er) h he (lexF_bad s gk p ts.length tk nx er hlt hmany hq he))
          have hne : (er == 0) = false := by simp [he]
          have hne2 : (er != 0) = true := by simp [he]
          have HE := Lib.hid he
          clear hq hmany he
          go_wp2_with fail
          refine (read_eq s p tk nx er hQ _ (hL.below hb hw) hlt h).mono ?_
          rintro e w1 ⟨rfl, hb1⟩
          have hbase : w.heap.size ≤ w1.heap.size := Nat.le_trans hb.size hb1.size
          have hb2 : Below w.heap.size w w1 := hb.trans (hb1.mono hb.size)
          go_wp2
          rw [Exit.noGoto_ret]
          go_ret3
          exact LexPost.err HLX.out (hb2.alloc hbase _)
    · have H := Lib.hid (LexPost.ok (hI.out.ok h (by omega)) hown hb)
      go_wp2
      rw [Exit.noGoto_ret]
      go_ret3
      exact H.out

theorem Lex_any (s : ByteArray) (w : World) (hL : LaidW w) (hw : 2 < w.heap.size) (hm : s.size ≤ maxLen) : Calls Tryz.prog 11 #[.string s] w (LexPost s w) := by
  by_cases h : s.size ≤ 10000
  · exact Lex_short s w hL hw h
  · exact Lex_long s w (by omega) hm
end Go.Proofs.YtdaghppcomckbaaGreatDoor
