/- Texts of one proof: MxT, MxV. -/
import Derived.Test.YtdgompdbhlhofaaGreatDoorYm
import Derived.Test.YtdgompdbhlhofaaGreatDoorRows
import Derived.OpenShut
import Derived.ChangeArms
import Derived.ChangeSame
import Derived.Lib.LaidTab
import Derived.Stop.LaidErr
import Derived.MakeChecks
import Derived.LaidMore
namespace Go.Proofs.YtdgompdbhlhofaaGreatDoor
open Go.RowKit
set_option linter.unusedVariables false
set_option linter.unusedSimpArgs false
namespace M
open I
open U (Ex)
theorem wr64 {x : Int} (h1 : -9223372036854775808 ≤ x) (h2 : x ≤ 9223372036854775807) : IntKind.i64.wrap x = x := by
  exact IntWalk.i64_in _ (by omega)
theorem q_val {a b : Int} (ha : vN a = true) (hb : vN b = true) (h0 : b ≠ 0) : evalE [a, b] [0, 0, 0, 0] (x2 7) = (divF a b, 0) := by
  rw [x2_val ha hb]
  have h : opE 7 a b = .ok (divF a b) := by unfold opE; simp [h0]
  rw [h, chkE, if_pos (quot_v ha h0)]
  rfl
theorem vN_neg {x : Int} (h : vN x = true) : vN (-x) = true := by rw [vN_iff] at h ⊢; omega
theorem u_val {a b : Int} (ha : vN a = true) (hb : vN b = true) (h0 : b ≠ 0) : evalE [a, b] [0, 0, 0, 0] (x2 8) = (-(divF (-a) b), 0) := by
  rw [x2_val ha hb]
  have h : opE 8 a b = .ok (-(divF (-a) b)) := by unfold opE; simp [h0]
  rw [h, chkE, if_pos (vN_neg (quot_v (vN_neg ha) h0))]
  rfl
set_option maxHeartbeats 8000000 in
set_option maxRecDepth 100000 in
theorem quot_any (a b : Int) (w : World) (hL : LaidM w) : Calls Tryz.prog 3 #[.int .i64 a, .int .i64 b] w (BB true w) := by
  have HH := Lib.hid (head_any w hL)
  clear hL
  by_cases c0 : a < -1000000000000
  · skip
    have t0 : decide (a < -1000000000000) = true := by simp only [decide_eq_true_eq]; omega
    clear c0
    go_enter Tryz.func3, Tryz.ntmps3
    go_wp2_with (go_at_call 5; refine HH.out.mono ?_; rintro e w1 ⟨rfl, hb⟩; have HB := Lib.hid hb; clear hb)
    go_ret
    exact ⟨rfl, HB.out⟩
  by_cases c1 : 1000000000000 < a
  · skip
    have t0 : decide (a < -1000000000000) = false := by simp only [decide_eq_false_iff_not]; omega
    have t1 : decide (1000000000000 < a) = true := by simp only [decide_eq_true_eq]; omega
    clear c0 c1
    go_enter Tryz.func3, Tryz.ntmps3
    go_wp2_with (go_at_call 5; refine HH.out.mono ?_; rintro e w1 ⟨rfl, hb⟩; have HB := Lib.hid hb; clear hb)
    go_ret
    exact ⟨rfl, HB.out⟩
  by_cases c2 : b < -1000000000000
  · skip
    have t0 : decide (a < -1000000000000) = false := by simp only [decide_eq_false_iff_not]; omega
    have t1 : decide (1000000000000 < a) = false := by simp only [decide_eq_false_iff_not]; omega
    have t2 : decide (b < -1000000000000) = true := by simp only [decide_eq_true_eq]; omega
    clear c0 c1 c2
    go_enter Tryz.func3, Tryz.ntmps3
    go_wp2_with (go_at_call 5; refine HH.out.mono ?_; rintro e w1 ⟨rfl, hb⟩; have HB := Lib.hid hb; clear hb)
    go_ret
    exact ⟨rfl, HB.out⟩
  by_cases c3 : 1000000000000 < b
  · skip
    have t0 : decide (a < -1000000000000) = false := by simp only [decide_eq_false_iff_not]; omega
    have t1 : decide (1000000000000 < a) = false := by simp only [decide_eq_false_iff_not]; omega
    have t2 : decide (b < -1000000000000) = false := by simp only [decide_eq_false_iff_not]; omega
    have t3 : decide (1000000000000 < b) = true := by simp only [decide_eq_true_eq]; omega
    clear c0 c1 c2 c3
    go_enter Tryz.func3, Tryz.ntmps3
    go_wp2_with (go_at_call 5; refine HH.out.mono ?_; rintro e w1 ⟨rfl, hb⟩; have HB := Lib.hid hb; clear hb)
    go_ret
    exact ⟨rfl, HB.out⟩
  by_cases c4 : b = 0
  · skip
    have t0 : decide (a < -1000000000000) = false := by simp only [decide_eq_false_iff_not]; omega
    have t1 : decide (1000000000000 < a) = false := by simp only [decide_eq_false_iff_not]; omega
    have t2 : decide (b < -1000000000000) = false := by simp only [decide_eq_false_iff_not]; omega
    have t3 : decide (1000000000000 < b) = false := by simp only [decide_eq_false_iff_not]; omega
    subst c4
    clear c0 c1 c2 c3
    go_enter Tryz.func3, Tryz.ntmps3
    go_wp2_with (go_at_call 5; refine HH.out.mono ?_; rintro e w1 ⟨rfl, hb⟩; have HB := Lib.hid hb; clear hb)
    go_ret
    exact ⟨rfl, HB.out⟩
  have ha : vN a = true := vN_iff.2 ⟨by omega, by omega⟩
  have hb : vN b = true := vN_iff.2 ⟨by omega, by omega⟩
  have H1 := Lib.hid (fun wx => lval_any 7 a b wx)
  have H2 := Lib.hid (fun wx => lval_any 8 a b wx)
  have H3 := Lib.hid (fun wx => lval_any 7 (-a) b wx)
  rw [q_val ha hb c4] at H1
  rw [u_val ha hb c4] at H2
  rw [q_val (vN_neg ha) hb c4] at H3
  have hq := vN_iff.1 (quot_v ha c4)
  have hd := vN_iff.1 (quot_v (vN_neg ha) c4)
  have hok := quot_ok (a := a) c4
  generalize divF a b = q at *
  generalize divF (-a) b = d at *
  obtain ⟨m, hm⟩ : ∃ m, IntKind.i64.wrap (q * b) = m := ⟨_, rfl⟩
  have hmv : q * b = m := by rw [← hm]; exact (wr64 (by omega) (by omega)).symm
  rw [hmv] at hok
  obtain ⟨r, hr⟩ : ∃ r, IntKind.i64.wrap (a - m) = r := ⟨_, rfl⟩
  have hrv : a - m = r := by rw [← hr]; exact (wr64 (by omega) (by omega)).symm
  rw [hrv] at hok
  obtain ⟨na, hna⟩ : ∃ na, IntKind.i64.wrap (-a) = na := ⟨_, rfl⟩
  have hnv : -a = na := by rw [← hna]; exact (wr64 (by omega) (by omega)).symm
  rw [hnv] at H3
  obtain ⟨nd, hnd⟩ : ∃ nd, IntKind.i64.wrap (-d) = nd := ⟨_, rfl⟩
  have hdv : -d = nd := by rw [← hnd]; exact (wr64 (by omega) (by omega)).symm
  have hu : (-d == nd) = true := by simp [hdv]
  obtain ⟨u, hue⟩ : ∃ u, -d = u := ⟨_, rfl⟩
  rw [hue] at H2 hu
  have t0 : decide (a < -1000000000000) = false := by simp only [decide_eq_false_iff_not]; omega
  have t1 : decide (1000000000000 < a) = false := by simp only [decide_eq_false_iff_not]; omega
  have t2 : decide (b < -1000000000000) = false := by simp only [decide_eq_false_iff_not]; omega
  have t3 : decide (1000000000000 < b) = false := by simp only [decide_eq_false_iff_not]; omega
  have t4 : (b == 0) = false := by simp [c4]
  have s0 : decide (q < -1000000000000) = false := by simp only [decide_eq_false_iff_not]; omega
  have s1 : decide (1000000000000 < q) = false := by simp only [decide_eq_false_iff_not]; omega
  clear c0 c1 c2 c3 c4 ha hb hq hd hmv hrv hnv hdv
  rcases hok with ⟨k0, k1, k2⟩ | ⟨k0, k1, k2⟩
  · skip
    have l0 : decide (0 < b) = true := by simp only [decide_eq_true_eq]; omega
    have l1 : decide (0 ≤ r) = true := by simp only [decide_eq_true_eq]; omega
    have l2 : decide (r < b) = true := by simp only [decide_eq_true_eq]; omega
    clear k0 k1 k2 hue
    go_enter Tryz.func3, Tryz.ntmps3
    go_wp2_with (first
      | (go_at_call 5; refine HH.out.mono ?_; rintro e w1 ⟨rfl, hb⟩; have HB := Lib.hid hb; clear hb)
      | (go_at_call_of 6 (Value.int .i64 8); refine (H2.out _).mono ?_; rintro e w3 ⟨rfl, hb⟩; have HB := Lib.hid (Gr.tr HB.out hb); clear hb)
      | (go_at_call_of 6 (Value.int .i64 na); refine (H3.out _).mono ?_; rintro e w4 ⟨rfl, hb⟩; have HB := Lib.hid (Gr.tr HB.out hb); clear hb)
      | (go_at_call 6; refine (H1.out _).mono ?_; rintro e w2 ⟨rfl, hb⟩; have HB := Lib.hid (Gr.tr HB.out hb); clear hb))
    go_ret
    exact ⟨rfl, HB.out⟩
  · skip
    have l0 : decide (0 < b) = false := by simp only [decide_eq_false_iff_not]; omega
    have l1 : decide (b < 0) = true := by simp only [decide_eq_true_eq]; omega
    have l2 : decide (r ≤ 0) = true := by simp only [decide_eq_true_eq]; omega
    have l3 : decide (b < r) = true := by simp only [decide_eq_true_eq]; omega
    clear k0 k1 k2 hue
    go_enter Tryz.func3, Tryz.ntmps3
    go_wp2_with (first
      | (go_at_call 5; refine HH.out.mono ?_; rintro e w1 ⟨rfl, hb⟩; have HB := Lib.hid hb; clear hb)
      | (go_at_call_of 6 (Value.int .i64 8); refine (H2.out _).mono ?_; rintro e w3 ⟨rfl, hb⟩; have HB := Lib.hid (Gr.tr HB.out hb); clear hb)
      | (go_at_call_of 6 (Value.int .i64 na); refine (H3.out _).mono ?_; rintro e w4 ⟨rfl, hb⟩; have HB := Lib.hid (Gr.tr HB.out hb); clear hb)
      | (go_at_call 6; refine (H1.out _).mono ?_; rintro e w2 ⟨rfl, hb⟩; have HB := Lib.hid (Gr.tr HB.out hb); clear hb))
    go_ret
    exact ⟨rfl, HB.out⟩
end M
end Go.Proofs.YtdgompdbhlhofaaGreatDoor

namespace Go.Proofs.YtdgompdbhlhofaaGreatDoor
open Go.RowKit Go.ChangeShapes Go.WideShapes
set_option linter.unusedVariables false
set_option linter.unusedSimpArgs false
namespace L8
open U (PwAt)
theorem gClasses : Tryz.prog.globalNamed "queuelab/lexer.classes" = some 3 := by kernel_rfl
theorem gClassesT : (Tryz.prog.globals[3]?).map (·.type) = some 153 := by kernel_rfl
theorem cellsArr : Tryz.prog.cellsOf 153 = 128 := by kernel_rfl
theorem cellsCls : Tryz.prog.cellsOf 146 = 1 := by kernel_rfl
theorem gES : Tryz.prog.globalNamed "strconv.ErrSyntax" = some 6 := by kernel_rfl
theorem gEST : (Tryz.prog.globals[6]?).map (·.type) = some 155 := by kernel_rfl
theorem gER : Tryz.prog.globalNamed "strconv.ErrRange" = some 7 := by kernel_rfl
theorem gERT : (Tryz.prog.globals[7]?).map (·.type) = some 155 := by kernel_rfl
theorem cellsES : Tryz.prog.cellsOf 181 = 1 := by kernel_rfl
theorem cellsStr : Tryz.prog.cellsOf 9 = 1 := by kernel_rfl
theorem starES : "*" ++ "errors.errorString" = "*errors.errorString" := by decide
theorem rowES (u : TypeId) (h : Tryz.prog.typeName? 3 u = some "*errors.errorString") : u = 179 :=
  typeName_ptr_named (nm := "errors.errorString") (by rw [starES]; kernel_rfl) (by kernel_rfl) (by decide) u (by rw [starES]; exact h)
theorem gLast : Tryz.prog.globalNamed "math/bits.deBruijn64tab" = some 10 := by kernel_rfl
theorem gLastT : (Tryz.prog.globals[10]?).map (·.type) = some 195 := by kernel_rfl
theorem cells64 : Tryz.prog.cellsOf 195 = 64 := by kernel_rfl
theorem cellsU8 : Tryz.prog.cellsOf 5 = 1 := by kernel_rfl
theorem gK : Tryz.prog.globalNamed "queuelab/units.kinds" = some 1 := by kernel_rfl
theorem gKT : (Tryz.prog.globals[1]?).map (·.type) = some 101 := by kernel_rfl
theorem gI : Tryz.prog.globalNamed "queuelab/units.inputs" = some 2 := by kernel_rfl
theorem gIT : (Tryz.prog.globals[2]?).map (·.type) = some 38 := by kernel_rfl
theorem cellsI4 : Tryz.prog.cellsOf 38 = 4 := by kernel_rfl
theorem cellsInt : Tryz.prog.cellsOf 3 = 1 := by kernel_rfl
theorem cellsP3 : Tryz.prog.cellsOf 100 = 3 := by kernel_rfl
section
variable {H : Type} {enc : TypeId × Value → H} {W : World} {sp : Nat → Bool} {held : Bool}
theorem int_of {fuel : Nat} {cs : List Value} {y : DataW H × List MemPlace} {a : Int} (h : DataW.trod enc Tryz.prog W 0 sp held fuel 3 cs = some y) (hy : y.1 = .lit (.int .i64 a)) : cs = [.int .i64 a] := by
  obtain ⟨n, e, hx, -⟩ := DataW.trod_int Tryz.underlying3 h
  rw [hx] at hy
  simp at hy
  rw [e, hy]
set_option maxRecDepth 100000 in
theorem row_of {fuel : Nat} {cs : List Value} {y : DataW H × List MemPlace} {a b c : Int} (h : DataW.trod enc Tryz.prog W 0 sp held fuel 100 cs = some y) (hy : y.1 = .agg [.lit (.int .i64 a), .lit (.int .i64 b), .lit (.int .i64 c)]) : cs = [.int .i64 a, .int .i64 b, .int .i64 c] := by
  obtain ⟨xs, m, rfl, hx, hl, hlen, hf⟩ := DataW.trod_array Tryz.underlying100 h
  rw [cellsP3] at hl
  rw [hx] at hy
  simp only [cellsInt] at hf
  match cs, hl with
  | [c0, c1, c2], _ =>
    match xs, hlen with
    | [y0, y1, y2], _ =>
      simp at hy
      obtain ⟨e0, e1, e2⟩ := hy
      have h0 := int_of (by simpa using hf 0 (by decide)) e0
      have h1 := int_of (by simpa using hf 1 (by decide)) e1
      have h2 := int_of (by simpa using hf 2 (by decide)) e2
      simp at h0 h1 h2
      rw [h0, h1, h2]
end
theorem take3 {cs : Array Value} {i : Nat} {a b c : Value} (h : (cs.toList.drop (i * 3)).take 3 = [a, b, c]) : cs[i * 3]? = some a ∧ cs[i * 3 + 1]? = some b ∧ cs[i * 3 + 2]? = some c := by
  have e : ∀ j, j < 3 → cs[i * 3 + j]? = ([a, b, c] : List Value)[j]? := fun j hj => by
    rw [← h, List.getElem?_take_of_lt hj, List.getElem?_drop]
    simp
  exact ⟨e 0 (by decide), e 1 (by decide), e 2 (by decide)⟩
theorem gM : Tryz.prog.globalNamed "queuelab/meaning.inputs" = some 0 := by kernel_rfl
theorem gMT : (Tryz.prog.globals[0]?).map (·.type) = some 94 := by kernel_rfl
theorem cellsSp2 : Tryz.prog.cellsOf 93 = 2 := by kernel_rfl
section
variable {H : Type} {enc : TypeId × Value → H} {W : World} {sp : Nat → Bool} {held : Bool}
set_option maxRecDepth 100000 in
theorem span_of {fuel : Nat} {cs : List Value} {y : DataW H × List MemPlace} {a b : Int} (h : DataW.trod enc Tryz.prog W 0 sp held fuel 93 cs = some y) (hy : y.1 = .agg [.lit (.int .i64 a), .lit (.int .i64 b)]) : cs = [.int .i64 a, .int .i64 b] := by
  obtain ⟨xs, n, rfl, hx, hl, hlen, hf⟩ := DataW.trod_struct Tryz.underlying93 h
  rw [cellsSp2] at hl
  rw [hx] at hy
  match cs, hl with
  | [c0, c1], _ =>
    match xs, hlen with
    | [y0, y1], _ =>
      simp at hy
      obtain ⟨e0, e1⟩ := hy
      have h0 := hf 0 _ rfl
      have h1 := hf 1 _ rfl
      simp [cellsInt] at h0 h1
      have k0 := int_of h0 e0
      have k1 := int_of h1 e1
      simp at k0 k1
      rw [k0, k1]
end
theorem take2 {cs : Array Value} {i : Nat} {a b : Value} (h : (cs.toList.drop (i * 2)).take 2 = [a, b]) : cs[i * 2]? = some a ∧ cs[i * 2 + 1]? = some b := by
  have e : ∀ j, j < 2 → cs[i * 2 + j]? = ([a, b] : List Value)[j]? := fun j hj => by
    rw [← h, List.getElem?_take_of_lt hj, List.getElem?_drop]
    simp
  exact ⟨e 0 (by decide), e 1 (by decide)⟩
set_option maxRecDepth 100000 in
theorem lexer_laid {W : World} {r : List (String × DataW Unit)} (h : laidMet Tryz.prog (("math/bits.deBruijn32tab", Rows.laid_math_bits_deBruijn32tab) :: ("math/bits.deBruijn64tab", Rows.laid_math_bits_deBruijn64tab) :: ("internal/strconv.uint64pow10", Rows.laid_internal_strconv_uint64pow10) :: ("strconv.ErrRange", Rows.laid_strconv_ErrRange) :: ("strconv.ErrSyntax", Rows.laid_strconv_ErrSyntax) :: ("queuelab/lexer.classes", Rows.laid_queuelab_lexer_classes) :: r) W) : LaidW W ∧ 7 < W.heap.size := by
  have h2 := laidMet.tail h
  have h3 := laidMet.tail h2
  have h4 := laidMet.tail h3
  have h5 := laidMet.tail h4
  have h6 := laidMet.tail h5
  obtain ⟨a0, s0, hv0, -, -, -⟩ := laid_sentinel h4 gER gERT Tryz.underlying155 rowES Tryz.underlying179 Tryz.underlying181 rfl rfl Tryz.underlying9 cellsES cellsStr
  obtain ⟨a1, s1, hv1, -, -, -⟩ := laid_sentinel h5 gES gEST Tryz.underlying155 rowES Tryz.underlying179 Tryz.underlying181 rfl rfl Tryz.underlying9 cellsES cellsStr
  have ht : Lib.TabIs Tryz.prog W "queuelab/lexer.classes" .u8 clsTab :=
    Lib.tabIs_of_head (rest := r) gClasses gClassesT Tryz.underlying153 Tryz.underlying146 cellsCls cellsArr h6
  have hl := Lib.tabIs_of_head (zs := [0, 1, 56, 2, 57, 49, 28, 3, 61, 58, 42, 50, 38, 29, 17, 4, 62, 47, 59, 36, 45, 43, 51, 22, 53, 39, 33, 30, 24, 18, 12, 5, 63, 55, 48, 27, 60, 41, 37, 16, 46, 35, 44, 21, 52, 32, 23, 11, 54, 26, 40, 15, 34, 20, 31, 10, 25, 14, 19, 9, 13, 8, 7, 6]) gLast gLastT Tryz.underlying195 Tryz.underlying5 cellsU8 cells64 h2
  have hpos : ∀ i, i < 128 → clsTab.getD i 0 = ((cls i : Nat) : Int) := by decide +kernel
  refine ⟨⟨fun i hi => ?_, ⟨179, .pointer (some a1), ?_⟩, ⟨179, .pointer (some a0), ?_⟩⟩, ?_⟩
  · have := ht.cell gClasses i hi
    rw [this, hpos i hi]
  · have := World.var?_cell gES hv1 0
    simpa using this
  · have := World.var?_cell gER hv0 0
    simpa using this
  · have := hl.cell gLast 0 (by decide)
    exact Nat.lt_of_le_of_lt (by decide) (World.block_lt_of_cell? W _ this)
set_option maxRecDepth 100000 in
theorem units_laid {W : World} {r : List (String × DataW Unit)} (h : laidMet Tryz.prog (("queuelab/units.kinds", Rows.laid_queuelab_units_kinds) :: ("queuelab/units.inputs", Rows.laid_queuelab_units_inputs) :: r) W) : U.LaidW W := by
  have h2 := laidMet.tail h
  have hin := Lib.tabIs_of_head (zs := [1, 3, 2, 1]) gI gIT Tryz.underlying38 Tryz.underlying3 cellsInt cellsI4 h2
  obtain ⟨ps, ⟨g', t', cs, fuel, p, q, hg', ht', hvar, hd, _, _⟩, _⟩ := h
  obtain rfl := Option.some.inj (gK.symm.trans hg')
  obtain rfl := Option.some.inj (gKT.symm.trans ht')
  obtain ⟨xs, m, rfl, hx, hl, hlen, hf⟩ := DataW.trod_array Tryz.underlying101 hd
  simp only [cellsP3] at hf
  match xs, hlen with
  | [y0, y1, y2, y3, y4], _ =>
    simp [Rows.laid_queuelab_units_kinds] at hx
    obtain ⟨⟨e0, e1, e2, e3, e4⟩, -⟩ := hx
    have r0 := take3 (i := 0) (row_of (by simpa using hf 0 (by decide)) e0.symm)
    have r1 := take3 (i := 1) (row_of (by simpa using hf 1 (by decide)) e1.symm)
    have r2 := take3 (i := 2) (row_of (by simpa using hf 2 (by decide)) e2.symm)
    have r3 := take3 (i := 3) (row_of (by simpa using hf 3 (by decide)) e3.symm)
    have r4 := take3 (i := 4) (row_of (by simpa using hf 4 (by decide)) e4.symm)
    have hc : ∀ i, W.cell? ⟨1, i, none⟩ = cs[i]? := fun i => by simpa using World.var?_cell gK hvar i
    refine ⟨fun k hk => ?_, fun k hk => ?_⟩
    · unfold PwAt
      rw [hc, hc, hc]
      match k, hk with
      | 0, _ => exact r0
      | 1, _ => exact r1
      | 2, _ => exact r2
      | 3, _ => exact r3
      | 4, _ => exact r4
    · have := hin.cell gI k hk
      rw [this]
      match k, hk with
      | 0, _ => rfl
      | 1, _ => rfl
      | 2, _ => rfl
      | 3, _ => rfl
set_option maxRecDepth 100000 in
theorem inputs_laid {W : World} {r : List (String × DataW Unit)} (h : laidMet Tryz.prog (("queuelab/meaning.inputs", Rows.laid_queuelab_meaning_inputs) :: r) W) : M.LaidI W := by
  obtain ⟨ps, ⟨g', t', cs, fuel, p, q, hg', ht', hvar, hd, _, _⟩, _⟩ := h
  obtain rfl := Option.some.inj (gM.symm.trans hg')
  obtain rfl := Option.some.inj (gMT.symm.trans ht')
  obtain ⟨xs, m, rfl, hx, hl, hlen, hf⟩ := DataW.trod_array Tryz.underlying94 hd
  simp only [cellsSp2] at hf
  match xs, hlen with
  | [y0, y1, y2, y3], _ =>
    simp [Rows.laid_queuelab_meaning_inputs] at hx
    obtain ⟨⟨e0, e1, e2, e3⟩, -⟩ := hx
    have r0 := take2 (i := 0) (span_of (by simpa using hf 0 (by decide)) e0.symm)
    have r1 := take2 (i := 1) (span_of (by simpa using hf 1 (by decide)) e1.symm)
    have r2 := take2 (i := 2) (span_of (by simpa using hf 2 (by decide)) e2.symm)
    have r3 := take2 (i := 3) (span_of (by simpa using hf 3 (by decide)) e3.symm)
    have hc : ∀ i, W.cell? ⟨0, i, none⟩ = cs[i]? := fun i => by simpa using World.var?_cell gM hvar i
    intro k s hs
    rw [hc, hc]
    match k, hs with
    | 0, hs => cases hs; exact r0
    | 1, hs => cases hs; exact r1
    | 2, hs => cases hs; exact r2
    | 3, hs => cases hs; exact r3
    | k + 4, hs => simp [R.insR] at hs
set_option maxRecDepth 100000 in
theorem of_laidM {W : World} (h : laidMetH Tryz.prog Rows.meaningQuotientsRow.laid W) : M.LaidM W := by
  rw [MakeChecks.laidMetH_plain _ _ _ (by kernel_rfl)] at h
  have h7 := laidMet.tail (laidMet.tail (laidMet.tail (laidMet.tail (laidMet.tail (laidMet.tail h)))))
  have h11 := laidMet.tail (laidMet.tail (laidMet.tail (laidMet.tail h7)))
  obtain ⟨a, b⟩ := lexer_laid h
  exact ⟨a, b, units_laid h7, inputs_laid h11⟩
end L8
end Go.Proofs.YtdgompdbhlhofaaGreatDoor
