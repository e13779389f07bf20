/- Texts of one proof: QbD, QbE. -/
import Derived.Test.YtdaghppcomckbaaGreatDoorQmD
import Derived.Test.YtdaghppcomckbaaGreatDoorQaJ
import Derived.Deep.Cut
/- The fixed examples of the parser's laws. -/
namespace Go.Proofs.YtdaghppcomckbaaGreatDoor
open Go.RowKit
set_option linter.unusedVariables false
set_option linter.unusedSimpArgs false

def hs1 : ByteArray := ⟨#[112, 97, 116, 104, 32, 112, 32, 97, 32, 98, 97, 99, 107, 32, 53, 59]⟩
def ht1 : Nd := .mk 1 ⟨#[]⟩ 0 0 0 [.mk 4 ⟨#[112]⟩ 0 0 0 [.mk 14 ⟨#[97]⟩ 0 0 7 [], .mk 13 ⟨#[]⟩ 5 0 14 []]]
def hs2 : ByteArray := ⟨#[112, 114, 111, 103, 114, 97, 109, 32, 99, 32, 123, 32, 118, 97, 114, 32, 119, 32, 112, 97, 99, 107, 101, 116, 115, 32, 49, 32, 57, 32, 49, 59, 32, 111, 110, 32, 97, 99, 107, 32, 123, 32, 119, 32, 61, 32, 119, 32, 43, 32, 49, 32, 112, 97, 99, 107, 101, 116, 115, 32, 42, 32, 50, 59, 32, 125, 32, 119, 105, 110, 100, 111, 119, 32, 119, 59, 32, 125]⟩
def ht2 : Nd := .mk 1 ⟨#[]⟩ 0 0 0 [.mk 6 ⟨#[99]⟩ 0 0 0 [.mk 7 ⟨#[119]⟩ 1 0 12 [.mk 13 ⟨#[]⟩ 1 0 26 [], .mk 13 ⟨#[]⟩ 9 0 28 [], .mk 13 ⟨#[]⟩ 1 0 30 []], .mk 8 ⟨#[]⟩ 0 0 33 [.mk 10 ⟨#[119]⟩ 0 0 42 [.mk 15 ⟨#[]⟩ 0 0 46 [.mk 14 ⟨#[119]⟩ 0 0 46 [], .mk 17 ⟨#[]⟩ 0 0 50 [.mk 13 ⟨#[]⟩ 1 1 50 [], .mk 13 ⟨#[]⟩ 2 0 62 []]]]], .mk 9 ⟨#[119]⟩ 0 0 67 []]]
def hs3 : ByteArray := ⟨#[112, 97, 116, 104, 32, 112, 59, 32, 102, 108, 111, 119, 32, 102]⟩
def hs4 : ByteArray := ⟨#[112, 114, 111, 103, 114, 97, 109, 32, 99, 32, 123, 32, 111, 110, 32, 97, 99, 107, 32, 123, 32, 120, 32, 61, 32, 59, 32, 125, 32, 119, 105, 110, 100, 111, 119, 32, 120, 59, 32, 125, 32, 112, 97, 116, 104, 32, 112, 32, 97, 32, 98, 97, 99, 107, 32, 53]⟩
set_option maxRecDepth 100000 in
theorem hp1 : parseM hs1 = (ht1, []) := by kernel_rfl
set_option maxRecDepth 100000 in
theorem hp2 : parseM hs2 = (ht2, []) := by kernel_rfl
set_option maxRecDepth 100000 in
theorem hp3 : parseM hs3 = (zNd, [(7, 6), (7, 14)]) := by kernel_rfl
set_option maxRecDepth 100000 in
theorem hp4 : parseM hs4 = (zNd, [(7, 25), (7, 56)]) := by kernel_rfl
set_option maxRecDepth 100000 in
theorem hv1 : validN ht1 = true := by kernel_rfl
set_option maxRecDepth 100000 in
theorem hv2 : validN ht2 = true := by kernel_rfl
def hq1 : Nd := .mk 4 ⟨#[112]⟩ 0 0 0 [.mk 14 ⟨#[97]⟩ 0 0 7 [], .mk 13 ⟨#[]⟩ 5 0 14 []]
set_option maxRecDepth 100000 in
theorem hv3 : validN hq1 = false := by kernel_rfl
def hw1 : Nd := .mk 10 ⟨#[119]⟩ 0 0 42 [.mk 15 ⟨#[]⟩ 0 0 46 [.mk 14 ⟨#[119]⟩ 0 0 46 [], .mk 17 ⟨#[]⟩ 0 0 50 [.mk 13 ⟨#[]⟩ 1 1 50 [], .mk 13 ⟨#[]⟩ 2 0 62 []]]]
theorem hn1 : NmS ht1 := by unfold ht1; simp [NmS, NmSs, maxLen] <;> decide
theorem hn2 : NmS ht2 := by unfold ht2; simp [NmS, NmSs, maxLen] <;> decide
theorem hn3 : NmS hq1 := by unfold hq1; simp [NmS, NmSs, maxLen] <;> decide
theorem hn4 : NmS hw1 := by unfold hw1; simp [NmS, NmSs, maxLen] <;> decide
theorem hlen1 : hs1.size ≤ maxLen ∧ hs2.size ≤ maxLen ∧ hs3.size ≤ maxLen ∧ hs4.size ≤ maxLen := by unfold maxLen; decide
theorem parse_hs1 (w : World) (hL : LaidW w) (hw : 2 < w.heap.size) : Calls Tryz.prog 5 #[.string hs1] w fun e w' =>
    ∃ A c D dc, e = .returned (.tuple #[.agg #[.int .i64 1, .string ⟨#[]⟩, .int .i64 0, .int .i64 0, .int .i64 0, .slice A 1 (1 + c)], .slice D 0 dc]) ∧ KidsR w' (From 0) ht1.kids A ∧ Below w.heap.size w w' :=
  (Parse_any hs1 w hL hw hlen1.1).mono fun e w' hp => by
    unfold ParsePost at hp
    rw [hp1] at hp
    obtain ⟨A, c, D, dc, he, hK, -, hb⟩ := hp
    exact ⟨A, c, D, dc, he, hK.keep (fun q h1 _ => ⟨rfl, Nat.zero_le _⟩), hb⟩
theorem parse_hs2 (w : World) (hL : LaidW w) (hw : 2 < w.heap.size) : Calls Tryz.prog 5 #[.string hs2] w fun e w' =>
    ∃ A c D dc, e = .returned (.tuple #[.agg #[.int .i64 1, .string ⟨#[]⟩, .int .i64 0, .int .i64 0, .int .i64 0, .slice A 1 (1 + c)], .slice D 0 dc]) ∧ KidsR w' (From 0) ht2.kids A ∧ Below w.heap.size w w' :=
  (Parse_any hs2 w hL hw hlen1.2.1).mono fun e w' hp => by
    unfold ParsePost at hp
    rw [hp2] at hp
    obtain ⟨A, c, D, dc, he, hK, -, hb⟩ := hp
    exact ⟨A, c, D, dc, he, hK.keep (fun q h1 _ => ⟨rfl, Nat.zero_le _⟩), hb⟩
/-- the first text's tree in memory -/
theorem cells_ht1 {w : World} {A : Option Addr} (h : KidsR w (From 0) ht1.kids A) : ∃ g o g2 o2 c B C cB cC, A = some ⟨g, o, none⟩ ∧
    (w.cell? ⟨g, o, none⟩ = some (.int .i64 4) ∧ w.cell? ⟨g, o + 1, none⟩ = some (.string ⟨#[112]⟩) ∧ w.cell? ⟨g, o + 2, none⟩ = some (.int .i64 0) ∧ w.cell? ⟨g, o + 3, none⟩ = some (.int .i64 0) ∧ w.cell? ⟨g, o + 4, none⟩ = some (.int .i64 0) ∧ w.cell? ⟨g, o + 5, none⟩ = some (.slice (some ⟨g2, o2, none⟩) 2 (2 + c))) ∧
    (w.cell? ⟨g2, o2, none⟩ = some (.int .i64 14) ∧ w.cell? ⟨g2, o2 + 1, none⟩ = some (.string ⟨#[97]⟩) ∧ w.cell? ⟨g2, o2 + 2, none⟩ = some (.int .i64 0) ∧ w.cell? ⟨g2, o2 + 3, none⟩ = some (.int .i64 0) ∧ w.cell? ⟨g2, o2 + 4, none⟩ = some (.int .i64 7) ∧ w.cell? ⟨g2, o2 + 5, none⟩ = some (.slice B 0 cB)) ∧
    (w.cell? ⟨g2, o2 + 6, none⟩ = some (.int .i64 13) ∧ w.cell? ⟨g2, o2 + 6 + 1, none⟩ = some (.string ⟨#[]⟩) ∧ w.cell? ⟨g2, o2 + 6 + 2, none⟩ = some (.int .i64 5) ∧ w.cell? ⟨g2, o2 + 6 + 3, none⟩ = some (.int .i64 0) ∧ w.cell? ⟨g2, o2 + 6 + 4, none⟩ = some (.int .i64 14) ∧ w.cell? ⟨g2, o2 + 6 + 5, none⟩ = some (.slice C 0 cC)) ∧ KidsR w (From 0) hq1.kids (some ⟨g2, o2, none⟩) := by
  obtain ⟨g, o, rfl⟩ := h.addr (by decide)
  obtain ⟨A1, c1, e1, h1⟩ := (KidsR.get _ _ _ h 0 _ rfl).cells
  obtain ⟨g2, o2, rfl⟩ := h1.addr (by decide)
  obtain ⟨B, cB, e2, h2⟩ := (KidsR.get _ _ _ h1 0 _ rfl).cells
  obtain ⟨C, cC, e3, h3⟩ := (KidsR.get _ _ _ h1 1 _ rfl).cells
  exact ⟨g, o, g2, o2, c1, B, C, 0 + cB, 0 + cC, rfl, e1, e2, e3, h1⟩
/-- the second text's tree in memory, as far as it is looked at -/
theorem cells_ht2 {w : World} {A : Option Addr} (h : KidsR w (From 0) ht2.kids A) : ∃ g o g2 o2 g3 o3 c c2 A4 c4, A = some ⟨g, o, none⟩ ∧
    (w.cell? ⟨g, o, none⟩ = some (.int .i64 6) ∧ w.cell? ⟨g, o + 1, none⟩ = some (.string ⟨#[99]⟩) ∧ w.cell? ⟨g, o + 2, none⟩ = some (.int .i64 0) ∧ w.cell? ⟨g, o + 3, none⟩ = some (.int .i64 0) ∧ w.cell? ⟨g, o + 4, none⟩ = some (.int .i64 0) ∧ w.cell? ⟨g, o + 5, none⟩ = some (.slice (some ⟨g2, o2, none⟩) 3 (3 + c))) ∧
    (w.cell? ⟨g2, o2 + 6, none⟩ = some (.int .i64 8) ∧ w.cell? ⟨g2, o2 + 6 + 1, none⟩ = some (.string ⟨#[]⟩) ∧ w.cell? ⟨g2, o2 + 6 + 2, none⟩ = some (.int .i64 0) ∧ w.cell? ⟨g2, o2 + 6 + 3, none⟩ = some (.int .i64 0) ∧ w.cell? ⟨g2, o2 + 6 + 4, none⟩ = some (.int .i64 33) ∧ w.cell? ⟨g2, o2 + 6 + 5, none⟩ = some (.slice (some ⟨g3, o3, none⟩) 1 (1 + c2))) ∧
    (w.cell? ⟨g3, o3, none⟩ = some (.int .i64 10) ∧ w.cell? ⟨g3, o3 + 1, none⟩ = some (.string ⟨#[119]⟩) ∧ w.cell? ⟨g3, o3 + 2, none⟩ = some (.int .i64 0) ∧ w.cell? ⟨g3, o3 + 3, none⟩ = some (.int .i64 0) ∧ w.cell? ⟨g3, o3 + 4, none⟩ = some (.int .i64 42) ∧ w.cell? ⟨g3, o3 + 5, none⟩ = some (.slice A4 1 (1 + c4))) ∧ KidsR w (From 0) hw1.kids A4 := by
  obtain ⟨g, o, rfl⟩ := h.addr (by decide)
  obtain ⟨A1, c1, e1, h1⟩ := (KidsR.get _ _ _ h 0 _ rfl).cells
  obtain ⟨g2, o2, rfl⟩ := h1.addr (by decide)
  obtain ⟨A2, c2, e2, h2⟩ := (KidsR.get _ _ _ h1 1 _ rfl).cells
  obtain ⟨g3, o3, rfl⟩ := h2.addr (by decide)
  obtain ⟨A4, c4, e3, h3⟩ := (KidsR.get _ _ _ h2 0 _ rfl).cells
  exact ⟨g, o, g2, o2, g3, o3, c1, c2, A4, c4, rfl, e1, e2, e3, h3⟩
end Go.Proofs.YtdaghppcomckbaaGreatDoor

/- The contract of the parser laws' fixed examples (head): it returns true; condition: the listed package-level variables hold what the text lays. -/
namespace Go.Proofs.YtdaghppcomckbaaGreatDoor
open Go.RowKit
set_option linter.unusedVariables false
set_option linter.unusedSimpArgs false

theorem cellK {w : World} {b : Nat} {cs : Array Value} {T : TypeId} {v : Value} (h : w.heap[b]? = some (.cells cs T (0, 0))) (i : Nat) (hi : cs[i]? = some v) : w.cell? ⟨b, i, none⟩ = some v := by rw [cell_of_row _ _ i _ _ (0, 0) h]; exact hi
theorem grow6 (w : World) (O1 O2 O3 O4 O5 O6 : Obj) (W : World) (h : ((((((w.alloc O1).alloc O2).alloc O3).alloc O4).alloc O5).alloc O6) = W) :
    Below w.heap.size w W ∧ w.heap.size + 6 ≤ W.heap.size ∧ W.heap[w.heap.size]? = some O1 ∧ W.heap[w.heap.size + 1]? = some O2 ∧ W.heap[w.heap.size + 1 + 1]? = some O3 ∧ W.heap[w.heap.size + 1 + 1 + 1]? = some O4 ∧ W.heap[w.heap.size + 1 + 1 + 1 + 1]? = some O5 ∧ W.heap[w.heap.size + 1 + 1 + 1 + 1 + 1]? = some O6 := by
  subst h
  have k : ∀ (u : World) (O : Obj) (b : Nat) (o : Obj), u.heap[b]? = some o → (u.alloc O).heap[b]? = some o := fun u O b o hb => (Below.heap_alloc u O b (blkLt hb)).trans hb
  have n1 := newBlk w O1 w.heap.size rfl
  have n2 := newBlk (w.alloc O1) O2 (w.heap.size + 1) (by simp)
  have n3 := newBlk ((w.alloc O1).alloc O2) O3 (w.heap.size + 1 + 1) (by simp)
  have n4 := newBlk (((w.alloc O1).alloc O2).alloc O3) O4 (w.heap.size + 1 + 1 + 1) (by simp)
  have n5 := newBlk ((((w.alloc O1).alloc O2).alloc O3).alloc O4) O5 (w.heap.size + 1 + 1 + 1 + 1) (by simp)
  have n6 := newBlk (((((w.alloc O1).alloc O2).alloc O3).alloc O4).alloc O5) O6 (w.heap.size + 1 + 1 + 1 + 1 + 1) (by simp)
  refine ⟨?_, by simp, k _ _ _ _ (k _ _ _ _ (k _ _ _ _ (k _ _ _ _ (k _ _ _ _ n1)))), k _ _ _ _ (k _ _ _ _ (k _ _ _ _ (k _ _ _ _ n2))), k _ _ _ _ (k _ _ _ _ (k _ _ _ _ n3)), k _ _ _ _ (k _ _ _ _ n4), k _ _ _ _ n5, n6⟩
  exact ((((((Below.refl _ _).alloc (Nat.le_refl _) _).alloc (by simp) _).alloc (by simp; omega) _).alloc (by simp; omega) _).alloc (by simp; omega) _).alloc (by simp; omega) _
set_option maxHeartbeats 4000000 in
set_option maxRecDepth 100000 in
theorem head_any (w : World) (hL : LaidW w) (hw : 2 < w.heap.size) : Calls Tryz.prog 4 #[] w (BB true w) := by
  have HL := Lib.hid (fun wx (hb : Below w.heap.size w wx) => hL.below hb hw)
  have HS := Lib.hid (fun wx (hb : Below w.heap.size w wx) => Nat.lt_of_lt_of_le hw hb.size)
  have HP1 := Lib.hid (parse_hs1 w hL hw)
  unfold hs1 at HP1
  have HP2 := Lib.hid (fun wx (hb : Below w.heap.size w wx) => parse_hs2 wx (HL.out wx hb) (HS.out wx hb))
  unfold hs2 at HP2
  clear hL
  go_enter Tryz.func4, Tryz.ntmps4
  go_upto_region 7 with (first
    | (go_at_call_of 5 (Value.string ⟨#[112, 97, 116, 104, 32, 112, 32, 97, 32, 98, 97, 99, 107, 32, 53, 59]⟩); refine HP1.out.mono ?_; rintro e w1 ⟨A1, c1, D1, dc1, rfl, hK1, hb1⟩; have HW1 := Lib.hid hb1; have HW1n := Lib.hid (hb1.alloc hb1.size (.cells (#[.int .i64 1, .string ⟨#[]⟩, .int .i64 0, .int .i64 0, .int .i64 0, .slice A1 1 (1 + c1)] : Array Value) 25)); have HBn := Lib.hid (newBlk w1 (.cells (#[.int .i64 1, .string ⟨#[]⟩, .int .i64 0, .int .i64 0, .int .i64 0, .slice A1 1 (1 + c1)] : Array Value) 25) _ rfl); have HK1 := Lib.hid (hK1.keep (w' := w1.alloc (.cells (#[.int .i64 1, .string ⟨#[]⟩, .int .i64 0, .int .i64 0, .int .i64 0, .slice A1 1 (1 + c1)] : Array Value) 25)) (P' := From 0) (fun q h1 h2 => ⟨Below.heap_alloc _ _ _ h2, h1⟩)); clear hK1 hb1)
    | (go_at_call 5; refine (HP2.out _ HW1n.out).mono ?_; rintro e w2 ⟨A2, c2, D2, dc2, rfl, hK2, hb2⟩; have HW2 := Lib.hid (HW1n.out.trans (hb2.mono HW1n.out.size)); have HBn2 := Lib.hid ((hb2.block _ (blkLt HBn.out)).trans HBn.out); have hK1w := HK1.out.keep (w' := w2) (P' := From 0) (fun q h1 h2 => ⟨hb2.block q h2, h1⟩); have HKn := Lib.hid hK1w; have HKm := Lib.hid hK2; obtain ⟨g1, o1, g2, o2, c3, B1, C1, cB, cC, rfl, ⟨p0, p1, p2, p3, p4, p5⟩, ⟨a0, a1, a2, a3, a4, a5⟩, ⟨n0, n1, n2, n3, n4, n5⟩, hKq⟩ := cells_ht1 hK1w; obtain ⟨g3, o3, g4, o4, g5, o5, c4, c5, A6, c6, rfl, ⟨r0, r1, r2, r3, r4, r5⟩, ⟨s0, s1, s2, s3, s4, s5⟩, ⟨t0, t1, t2, t3, t4, t5⟩, hKa⟩ := cells_ht2 hK2; have HKq := Lib.hid hKq; have HKa := Lib.hid hKa; have x1 := World.block_lt_of_cell? w2 _ p0; have x2 := World.block_lt_of_cell? w2 _ a0; have x3 := World.block_lt_of_cell? w2 _ r0; have x4 := World.block_lt_of_cell? w2 _ s0; have x5 := World.block_lt_of_cell? w2 _ t0; have x0 := blkLt HBn2.out; obtain ⟨⟨y0, y1, y2, y3, y4, y5⟩, -⟩ := cells6 HBn2.out; clear hK1w hK2 hKq hKa hb2))
  generalize hW : (((((w2.alloc _).alloc _).alloc _).alloc _).alloc _).alloc _ = w3
  obtain ⟨hV3, hsz3, bM, bA, bL3, bL4, bL5, bW⟩ := grow6 w2 _ _ _ _ _ _ w3 hW
  clear hW p0 p1 p2 p3 p4 p5 a0 a1 a2 a3 a4 a5 n0 n1 n2 n3 n4 n5 r0 r1 r2 r3 r4 r5 s0 s1 s2 s3 s4 s5 t0 t1 t2 t3 t4 t5 y0 y1 y2 y3 y4 y5 x1 x2 x3 x4 x5
  have HV3 := Lib.hid hV3
  have HM3 := Lib.hid bM
  have HBn3 := Lib.hid ((hV3.block _ x0).trans HBn2.out)
  obtain ⟨g1x, o1x, h2, q2, d3, B1, C1, cB, cC, ee, ⟨p0, p1, p2, p3, p4, p5⟩, ⟨a0, a1, a2, a3, a4, a5⟩, ⟨n0, n1, n2, n3, n4, n5⟩, hKq⟩ := cells_ht1 (HKn.out.keep (w' := w3) (P' := From 0) (fun q h1 h2 => ⟨hV3.block q h2, h1⟩)); cases ee
  have hx3n := blkLt HBn3.out
  have z1 := World.block_lt_of_cell? w3 _ p0
  have z2 := World.block_lt_of_cell? w3 _ a0
  obtain ⟨⟨y0, y1, y2, y3, y4, y5⟩, -⟩ := cells6 HBn3.out
  obtain ⟨⟨u0, u1, u2, u3, u4, u5⟩, -⟩ := cells6 bA
  obtain ⟨⟨v0, v1, v2, v3, v4, v5⟩, -⟩ := cells6 bW
  have hxa := blkLt bA
  have hxw := blkLt bW
  have hxm := blkLt bM
  have hka3 : KidsR w3 (From 0) hw1.kids A6 := HKa.out.keep (fun q h1 h2 => ⟨HV3.out.block q h2, h1⟩)
  have hkm : KidsR w3 (From 0) [.mk 13 ⟨#[]⟩ 1 1 50 [], .mk 13 ⟨#[]⟩ 2 0 62 []] (some ⟨w2.heap.size + 1 + 1, 0, none⟩) := kids2 (t1 := .mk 13 ⟨#[]⟩ 1 1 50 []) (t2 := .mk 13 ⟨#[]⟩ 2 0 62 []) (A1 := none) (A2 := none) (c1 := 0) (c2 := 0) bL3 (Nat.zero_le _) trivial trivial
  have hkx : KidsR w3 (From 0) [.mk 14 ⟨#[119]⟩ 0 0 46 [], .mk 17 ⟨#[]⟩ 0 0 50 [.mk 13 ⟨#[]⟩ 1 1 50 [], .mk 13 ⟨#[]⟩ 2 0 62 []]] (some ⟨w2.heap.size + 1 + 1 + 1, 0, none⟩) := kids2 (t1 := .mk 14 ⟨#[119]⟩ 0 0 46 []) (t2 := .mk 17 ⟨#[]⟩ 0 0 50 [.mk 13 ⟨#[]⟩ 1 1 50 [], .mk 13 ⟨#[]⟩ 2 0 62 []]) (A1 := none) (A2 := some ⟨w2.heap.size + 1 + 1, 0, none⟩) (c1 := 0) (c2 := 0) bL4 (Nat.zero_le _) trivial hkm
  have hkw : KidsR w3 (From 0) hw1.kids (some ⟨w2.heap.size + 1 + 1 + 1 + 1, 0, none⟩) := kids1 (t1 := .mk 15 ⟨#[]⟩ 0 0 46 [.mk 14 ⟨#[119]⟩ 0 0 46 [], .mk 17 ⟨#[]⟩ 0 0 50 [.mk 13 ⟨#[]⟩ 1 1 50 [], .mk 13 ⟨#[]⟩ 2 0 62 []]]) (A1 := some ⟨w2.heap.size + 1 + 1 + 1, 0, none⟩) (c1 := 0) bL5 (Nat.zero_le _) hkx
  have HSame : Hid (∀ wx, Below w3.heap.size w3 wx → Calls Tryz.prog 8 #[.agg #[.int .i64 10, .string ⟨#[119]⟩, .int .i64 0, .int .i64 0, .int .i64 42, .slice A6 1 (1 + c6)], .agg #[.int .i64 10, .string ⟨#[119]⟩, .int .i64 0, .int .i64 0, .int .i64 42, .slice (some ⟨w2.heap.size + 1 + 1 + 1 + 1, 0, none⟩) 1 1]] wx (BB true wx)) := by
    refine Lib.hid (fun wx hb => ?_)
    have h := same_any hw1 hw1 wx A6 (some ⟨w2.heap.size + 1 + 1 + 1 + 1, 0, none⟩) c6 0 hn4.len hn4 (KidsR.keep (fun q h1 h2 => ⟨hb.block q h2, h1⟩) _ _ hka3) (KidsR.keep (fun q h1 h2 => ⟨hb.block q h2, h1⟩) _ _ hkw)
    rw [(sameN_iff hw1 hw1).2 rfl] at h
    exact h
  have HG := Lib.hid (fun (s : ByteArray) (p q : Int) (hp : parseM s = (zNd, [(7, p), (7, q)])) (hm : s.size ≤ maxLen) (wx : World) (hb : Below w2.heap.size w2 wx) (gA : Nat) (h0 : wx.cell? ⟨gA, 0, none⟩ = some (.int .i64 p)) (h1 : wx.cell? ⟨gA, 1, none⟩ = some (.int .i64 q)) => gives_two s p q hp gA 2 wx (HL.out wx (HW2.out.trans (hb.mono HW2.out.size))) (HS.out wx (HW2.out.trans (hb.mono HW2.out.size))) hm h0 h1)
  have HG3 := Lib.hid (HG.out hs3 6 14 hp3 hlen1.2.2.1)
  unfold hs3 at HG3
  have HG4 := Lib.hid (HG.out hs4 25 56 hp4 hlen1.2.2.2)
  unfold hs4 at HG4
  have HVn : Hid (∀ wx, Below w2.heap.size w2 wx → Calls Tryz.prog 10 #[.agg #[.int .i64 1, .string ⟨#[]⟩, .int .i64 0, .int .i64 0, .int .i64 0, .slice (some ⟨g1, o1, none⟩) 1 (1 + c1)]] wx (BB true wx)) := by
    refine Lib.hid (fun wx hb => ?_)
    have h := Valid_any ht1 wx (some ⟨g1, o1, none⟩) c1 (HL.out wx (HW2.out.trans (hb.mono HW2.out.size))) (HS.out wx (HW2.out.trans (hb.mono HW2.out.size))) hn1 (KidsR.keep (fun q h1 h2 => ⟨hb.block q h2, h1⟩) _ _ HKn.out)
    rw [hv1] at h
    exact h
  have HVm : Hid (∀ wx, Below w2.heap.size w2 wx → Calls Tryz.prog 10 #[.agg #[.int .i64 1, .string ⟨#[]⟩, .int .i64 0, .int .i64 0, .int .i64 0, .slice (some ⟨g3, o3, none⟩) 1 (1 + c2)]] wx (BB true wx)) := by
    refine Lib.hid (fun wx hb => ?_)
    have h := Valid_any ht2 wx (some ⟨g3, o3, none⟩) c2 (HL.out wx (HW2.out.trans (hb.mono HW2.out.size))) (HS.out wx (HW2.out.trans (hb.mono HW2.out.size))) hn2 (KidsR.keep (fun q h1 h2 => ⟨hb.block q h2, h1⟩) _ _ HKm.out)
    rw [hv2] at h
    exact h
  have HKq3 := Lib.hid hKq
  have HVq : Hid (∀ wx, Below w3.heap.size w3 wx → Below w2.heap.size w2 wx → Calls Tryz.prog 10 #[.agg #[.int .i64 4, .string ⟨#[112]⟩, .int .i64 0, .int .i64 0, .int .i64 0, .slice (some ⟨h2, q2, none⟩) 2 (2 + d3)]] wx (BB false wx)) := by
    refine Lib.hid (fun wx hb3 hb => ?_)
    have h := Valid_any hq1 wx (some ⟨h2, q2, none⟩) d3 (HL.out wx (HW2.out.trans (hb.mono HW2.out.size))) (HS.out wx (HW2.out.trans (hb.mono HW2.out.size))) hn3 (KidsR.keep (fun q h1 h2 => ⟨hb3.block q h2, h1⟩) _ _ HKq3.out)
    rw [hv3] at h
    exact h
  have HP3 := Lib.hid ((Below.refl w3.heap.size w3).alloc (Nat.le_refl _) (.cells (#[.int .i64 4, .string ⟨#[112]⟩, .int .i64 0, .int .i64 0, .int .i64 0, .slice (some ⟨h2, q2, none⟩) 2 (2 + d3)] : Array Value) 25))
  have HBp3 := Lib.hid (newBlk w3 (.cells (#[.int .i64 4, .string ⟨#[112]⟩, .int .i64 0, .int .i64 0, .int .i64 0, .slice (some ⟨h2, q2, none⟩) 2 (2 + d3)] : Array Value) 25) _ rfl)
  have HBn3p := Lib.hid ((Below.heap_alloc w3 (.cells (#[.int .i64 4, .string ⟨#[112]⟩, .int .i64 0, .int .i64 0, .int .i64 0, .slice (some ⟨h2, q2, none⟩) 2 (2 + d3)] : Array Value) 25) _ (blkLt HBn3.out)).trans HBn3.out)
  have HM3p := Lib.hid ((Below.heap_alloc w3 (.cells (#[.int .i64 4, .string ⟨#[112]⟩, .int .i64 0, .int .i64 0, .int .i64 0, .slice (some ⟨h2, q2, none⟩) 2 (2 + d3)] : Array Value) 25) _ (blkLt HM3.out)).trans HM3.out)
  clear hka3 hkm hkx hkw bL3 bL4 bL5 hKq hV3 hsz3 bM bA bW
  go_wp2_with (first
    | (go_at_call 8; refine (HSame.out _ HP3.out).mono ?_; rintro e w4 ⟨rfl, hb4⟩; have HX4 := Lib.hid (HP3.out.trans (hb4.mono HP3.out.size)); have HV4 := Lib.hid (HV3.out.trans (HX4.out.mono HV3.out.size)); have HBn4 := Lib.hid ((hb4.block _ (blkLt HBn3p.out)).trans HBn3p.out); have HM4 := Lib.hid ((hb4.block _ (blkLt HM3p.out)).trans HM3p.out); have HBp4 := Lib.hid ((hb4.block _ (blkLt HBp3.out)).trans HBp3.out); clear p0 p1 p2 p3 p4 p5 a0 a1 a2 a3 a4 a5 n0 n1 n2 n3 n4 n5 y0 y1 y2 y3 y4 y5 u0 u1 u2 u3 u4 u5 v0 v1 v2 v3 v4 v5; obtain ⟨⟨p0, p1, p2, p3, p4, p5⟩, -⟩ := cells6 HBp4.out; have hxp := blkLt HBp4.out; have hKq4 := HKq3.out.keep (w' := w4) (P' := From 0) (fun q h1 h2 => ⟨HX4.out.block q h2, h1⟩); obtain ⟨Bz, cz, ⟨a0, a1, a2, a3, a4, a5⟩, -⟩ := (KidsR.get _ _ _ hKq4 0 _ rfl).cells; obtain ⟨Cz, ez, ⟨n0, n1, n2, n3, n4, n5⟩, -⟩ := (KidsR.get _ _ _ hKq4 1 _ rfl).cells; simp only [Nat.zero_mul, Nat.add_zero, Nat.one_mul, Nd.kind, Nd.name, Nd.n, Nd.unit, Nd.at0, Nd.kids] at a0 a1 a2 a3 a4 a5 n0 n1 n2 n3 n4 n5; have xa := World.block_lt_of_cell? w4 _ a0; clear hKq4 hb4; have HX4a := Lib.hid (HX4.out.alloc HX4.out.size (.cells (#[.int .i64 6, .int .i64 14] : Array Value) 3)); have HV4a := Lib.hid (HV4.out.alloc HV4.out.size (.cells (#[.int .i64 6, .int .i64 14] : Array Value) 3)); have HSa := Lib.hid (newBlk w4 (.cells (#[.int .i64 6, .int .i64 14] : Array Value) 3) _ rfl); have HBn4a := Lib.hid ((Below.heap_alloc w4 (.cells (#[.int .i64 6, .int .i64 14] : Array Value) 3) _ (blkLt HBn4.out)).trans HBn4.out); have HM4a := Lib.hid ((Below.heap_alloc w4 (.cells (#[.int .i64 6, .int .i64 14] : Array Value) 3) _ (blkLt HM4.out)).trans HM4.out); have HBp4a := Lib.hid ((Below.heap_alloc w4 (.cells (#[.int .i64 6, .int .i64 14] : Array Value) 3) _ (blkLt HBp4.out)).trans HBp4.out))
    | (go_at_call_of 9 (Value.string ⟨#[112, 97, 116, 104, 32, 112, 59, 32, 102, 108, 111, 119, 32, 102]⟩); refine (HG3.out _ HV4a.out w4.heap.size (cellK HSa.out 0 rfl) (cellK HSa.out 1 rfl)).mono ?_; rintro e w5 ⟨rfl, hb5⟩; have HX5 := Lib.hid (HX4a.out.trans (hb5.mono HX4a.out.size)); have HV5 := Lib.hid (HV4a.out.trans (hb5.mono HV4a.out.size)); have HBn5 := Lib.hid ((hb5.block _ (blkLt HBn4a.out)).trans HBn4a.out); have HM5 := Lib.hid ((hb5.block _ (blkLt HM4a.out)).trans HM4a.out); have HBp5 := Lib.hid ((hb5.block _ (blkLt HBp4a.out)).trans HBp4a.out); clear hb5; have HX5a := Lib.hid (HX5.out.alloc HX5.out.size (.cells (#[.int .i64 25, .int .i64 56] : Array Value) 3)); have HV5a := Lib.hid (HV5.out.alloc HV5.out.size (.cells (#[.int .i64 25, .int .i64 56] : Array Value) 3)); have HSb := Lib.hid (newBlk w5 (.cells (#[.int .i64 25, .int .i64 56] : Array Value) 3) _ rfl); have HBn5a := Lib.hid ((Below.heap_alloc w5 (.cells (#[.int .i64 25, .int .i64 56] : Array Value) 3) _ (blkLt HBn5.out)).trans HBn5.out); have HM5a := Lib.hid ((Below.heap_alloc w5 (.cells (#[.int .i64 25, .int .i64 56] : Array Value) 3) _ (blkLt HM5.out)).trans HM5.out); have HBp5a := Lib.hid ((Below.heap_alloc w5 (.cells (#[.int .i64 25, .int .i64 56] : Array Value) 3) _ (blkLt HBp5.out)).trans HBp5.out))
    | (go_at_call 9; refine (HG4.out _ HV5a.out w5.heap.size (cellK HSb.out 0 rfl) (cellK HSb.out 1 rfl)).mono ?_; rintro e w6 ⟨rfl, hb6⟩; have HX6 := Lib.hid (HX5a.out.trans (hb6.mono HX5a.out.size)); have HV6 := Lib.hid (HV5a.out.trans (hb6.mono HV5a.out.size)); have HBn6 := Lib.hid ((hb6.block _ (blkLt HBn5a.out)).trans HBn5a.out); have HM6 := Lib.hid ((hb6.block _ (blkLt HM5a.out)).trans HM5a.out); have HBp6 := Lib.hid ((hb6.block _ (blkLt HBp5a.out)).trans HBp5a.out); clear hb6; obtain ⟨⟨y0, y1, y2, y3, y4, y5⟩, -⟩ := cells6 HBn6.out; have hxy := blkLt HBn6.out)
    | (go_at_call_of 10 c1; refine (HVn.out _ HV6.out).mono ?_; rintro e w7 ⟨rfl, hb7⟩; have HX7 := Lib.hid (HX6.out.trans (hb7.mono HX6.out.size)); have HV7 := Lib.hid (HV6.out.trans (hb7.mono HV6.out.size)); have HBn7 := Lib.hid ((hb7.block _ (blkLt HBn6.out)).trans HBn6.out); have HM7 := Lib.hid ((hb7.block _ (blkLt HM6.out)).trans HM6.out); have HBp7 := Lib.hid ((hb7.block _ (blkLt HBp6.out)).trans HBp6.out); clear hb7; clear y0 y1 y2 y3 y4 y5; obtain ⟨⟨y0, y1, y2, y3, y4, y5⟩, -⟩ := cells6 HM7.out; have hxy7 := blkLt HM7.out)
    | (go_at_call_of 10 c2; refine (HVm.out _ HV7.out).mono ?_; rintro e w8 ⟨rfl, hb8⟩; have HX8 := Lib.hid (HX7.out.trans (hb8.mono HX7.out.size)); have HV8 := Lib.hid (HV7.out.trans (hb8.mono HV7.out.size)); have HBn8 := Lib.hid ((hb8.block _ (blkLt HBn7.out)).trans HBn7.out); have HM8 := Lib.hid ((hb8.block _ (blkLt HM7.out)).trans HM7.out); have HBp8 := Lib.hid ((hb8.block _ (blkLt HBp7.out)).trans HBp7.out); clear hb8; clear y0 y1 y2 y3 y4 y5; obtain ⟨⟨y0, y1, y2, y3, y4, y5⟩, -⟩ := cells6 HBp8.out; have hxy8 := blkLt HBp8.out)
    | (go_at_call_of 10 d3; refine (HVq.out _ HX8.out HV8.out).mono ?_; rintro e w9 ⟨rfl, hb9⟩; have HX9 := Lib.hid (HX8.out.trans (hb9.mono HX8.out.size)); have HV9 := Lib.hid (HV8.out.trans (hb9.mono HV8.out.size)); have HBn9 := Lib.hid ((hb9.block _ (blkLt HBn8.out)).trans HBn8.out); have HM9 := Lib.hid ((hb9.block _ (blkLt HM8.out)).trans HM8.out); have HBp9 := Lib.hid ((hb9.block _ (blkLt HBp8.out)).trans HBp8.out); clear hb9))
  all_goals
    go_ret
    exact ⟨rfl, HW2.out.trans (HV9.out.mono HW2.out.size)⟩
end Go.Proofs.YtdaghppcomckbaaGreatDoor
