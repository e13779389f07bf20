/- Arguments of law package 10, opened from their reading; the laid variables. -/
import Derived.Test.YthgngkajdiclcaaDoorNdF
import Derived.Test.YthgngkajdiclcaaDoorRows
import Derived.OpenShut
import Derived.ChangeArms
import Derived.DataReads
import Derived.ChangeSlices
import Derived.ChangeSame
import Derived.Lib.LaidTab
import Derived.MakeChecks
import Derived.LaidMore
namespace Go.Proofs.YthgngkajdiclcaaDoor
open Go.RowKit Go.ChangeShapes Go.WideShapes
set_option linter.unusedVariables false
set_option linter.unusedSimpArgs false
set_option maxRecDepth 100000
namespace N
open K
theorem cellsVr : Tryd.prog.cellsOf 59 = 5 := by kernel_rfl
theorem cellsIn : Tryd.prog.cellsOf 42 = 3 := by kernel_rfl
theorem cellsOne : Tryd.prog.cellsOf 3 = 1 := by kernel_rfl
theorem cellsStr : Tryd.prog.cellsOf 9 = 1 := by kernel_rfl
theorem cellsIn4 : Tryd.prog.cellsOf 28 = 4 := by kernel_rfl
theorem cellsCl : Tryd.prog.cellsOf 30 = 5 := by kernel_rfl
theorem cellsCd : Tryd.prog.cellsOf 26 = 5 := by kernel_rfl
theorem cellsOn : Tryd.prog.cellsOf 24 = 5 := by kernel_rfl
theorem cellsSl : Tryd.prog.cellsOf 23 = 1 := by kernel_rfl
theorem spotK {w : World} {a : Addr} {v : Value} {k : Nat} (h : w.cell? ((a.add (0 * k)).add 0) = some v) : a.spot = none := by
  have := World.cell?_spot h
  simpa [Addr.add] using this
theorem pick {P : Nat → Prop} {α : Type} (d : α) {Q : Nat → α → Prop} {len : Nat} (h : ∀ i, i < len → ∃ v, Q i v) : ∃ l : List α, l.length = len ∧ ∀ i v, l[i]? = some v → Q i v := by
  classical
  refine ⟨(List.range len).map (fun i => if hi : i < len then Classical.choose (h i hi) else d), by simp, fun i v hv => ?_⟩
  simp only [List.getElem?_map, Option.map_eq_some_iff] at hv
  obtain ⟨j, hj, rfl⟩ := hv
  obtain ⟨hlt, rfl⟩ : i < len ∧ i = j := by
    rw [List.getElem?_eq_some_iff] at hj
    obtain ⟨h1, h2⟩ := hj
    simp at h1 h2
    exact ⟨h1, h2⟩
  simp only [dif_pos hlt]
  exact Classical.choose_spec (h i hlt)
section
variable {H : Type} {enc : TypeId × Value → H} {W : World}
theorem open_ints (fuel : Nat) (cs : List Value) (x : DataW H × List MemPlace) (h : DataW.trod enc Tryd.prog W 0 (fun _ => true) true fuel 27 cs = some x) :
    ∃ (l : List Int) (A : Option Addr) (m : Nat), cs = [.slice A l.length m] ∧ IntsR W l A ∧ l.length ≤ maxLen ∧ (A = none → m = 0) := by
  rcases DataW.trod_slice Tryd.underlying27 h with ⟨e3, -⟩ | ⟨ad, len, cap, elems, rest, m, hm, e3, -, -, hlc, hcap, hel, hall, -, -⟩
  · exact ⟨[], none, 0, e3, .inl rfl, Nat.zero_le _, fun _ => rfl⟩
  · have hraw : ∀ i, i < len → ∃ b : Int, W.cell? ((ad.add (i * 1)).add 0) = some (.int .i64 b) := by
      intro i hi
      have hb := hall i hi
      rw [List.getElem?_eq_getElem (by omega), cellsOne] at hb
      obtain ⟨cs', hc', ht'⟩ := Option.bind_eq_some_iff.1 hb
      obtain ⟨b, rfl, -, hw⟩ := DataW.trod_int Tryd.underlying3 ht'
      obtain ⟨-, -, hcell⟩ := World.cells?_some hc'
      exact ⟨b, hcell 0 (by omega)⟩
    by_cases h0 : len = 0
    · subst h0
      exact ⟨[], some ad, cap, e3, .inl rfl, Nat.zero_le _, fun h => by cases h⟩
    · obtain ⟨_, hk0⟩ := hraw 0 (by omega)
      have hsp := spotK hk0
      obtain ⟨g, o, sp⟩ := ad
      simp only at hsp
      subst hsp
      have hadd : ∀ p q : Nat, ((⟨g, o, none⟩ : Addr).add p).add q = ⟨g, o + p + q, none⟩ := fun p q => by rw [Go.WideShapes.add_plain, Go.WideShapes.add_plain]
      obtain ⟨l, hl, hq⟩ := pick (P := fun _ => True) (0 : Int) hraw
      refine ⟨l, some ⟨g, o, none⟩, cap, by rw [hl]; exact e3, .inr ⟨g, o, rfl, fun i n hn => ?_⟩, by omega, fun h => by cases h⟩
      have := hq i n hn
      rw [hadd] at this
      simpa using this
theorem open_rng (fuel : Nat) (cs : List Value) (x : DataW H × List MemPlace) (h : DataW.trod enc Tryd.prog W 0 (fun _ => true) true fuel 22 cs = some x) :
    ∃ (l : List (Int × Int)) (A : Option Addr) (m : Nat), cs = [.slice A l.length m] ∧ VsR W l A ∧ l.length ≤ maxLen := by
  rcases DataW.trod_slice Tryd.underlying22 h with ⟨e3, -⟩ | ⟨ad, len, cap, elems, rest, m, hm, e3, -, -, hlc, hcap, hel, hall, -, -⟩
  · exact ⟨[], none, 0, e3, .inl rfl, Nat.zero_le _⟩
  · have hraw : ∀ i, i < len → ∃ v : Int × Int, (∃ u, W.cell? ((ad.add (i * 5)).add 0) = some u) ∧ W.cell? ((ad.add (i * 5)).add 2) = some (.int .i64 v.1) ∧ W.cell? ((ad.add (i * 5)).add 3) = some (.int .i64 v.2) := by
      intro i hi
      have hb := hall i hi
      rw [List.getElem?_eq_getElem (by omega), cellsVr] at hb
      obtain ⟨cs', hc', ht'⟩ := Option.bind_eq_some_iff.1 hb
      obtain ⟨xs, n, rfl, -, hl, hlen, hf⟩ := DataW.trod_struct Tryd.underlying59 ht'
      rw [cellsVr] at hl
      match cs', hl with
      | [c0, c1, c2, c3, c4], _ =>
        match xs, hlen with
        | [y0, y1, y2, y3, y4], _ =>
          have h2 := hf 2 _ rfl
          have h3 := hf 3 _ rfl
          simp [cellsOne, cellsStr] at h2 h3
          obtain ⟨b, e2, -, -⟩ := DataW.trod_int Tryd.underlying3 h2
          obtain ⟨c, e3, -, -⟩ := DataW.trod_int Tryd.underlying3 h3
          simp only [List.cons.injEq, and_true] at e2 e3
          subst e2 e3
          obtain ⟨-, -, hcell⟩ := World.cells?_some hc'
          exact ⟨(b, c), ⟨c0, hcell 0 (by omega)⟩, hcell 2 (by omega), hcell 3 (by omega)⟩
    by_cases h0 : len = 0
    · subst h0
      exact ⟨[], some ad, cap, e3, .inl rfl, Nat.zero_le _⟩
    · obtain ⟨_, ⟨_, hk0⟩, -⟩ := hraw 0 (by omega)
      have hsp := spotK hk0
      obtain ⟨g, o, sp⟩ := ad
      simp only at hsp
      subst hsp
      have hadd : ∀ p q : Nat, ((⟨g, o, none⟩ : Addr).add p).add q = ⟨g, o + p + q, none⟩ := fun p q => by rw [Go.WideShapes.add_plain, Go.WideShapes.add_plain]
      obtain ⟨l, hl, hq⟩ := pick (P := fun _ => True) ((0, 0) : Int × Int) hraw
      refine ⟨l, some ⟨g, o, none⟩, cap, by rw [hl]; exact e3, .inr ⟨g, o, rfl, fun i v hv => ?_⟩, by omega⟩
      obtain ⟨-, k2, k3⟩ := hq i v hv
      rw [hadd] at k2 k3
      exact ⟨k2, k3⟩
theorem open_ins (fuel : Nat) (cs : List Value) (x : DataW H × List MemPlace) (h : DataW.trod enc Tryd.prog W 0 (fun _ => true) true fuel 23 cs = some x) :
    ∃ y : Hd, cs = [hdV y] ∧ InsR W y.l y.A ∧ y.l.length ≤ maxLen := by
  rcases DataW.trod_slice Tryd.underlying23 h with ⟨e3, -⟩ | ⟨ad, len, cap, elems, rest, m, hm, e3, -, -, hlc, hcap, hel, hall, -, -⟩
  · exact ⟨⟨[], none, 0⟩, e3, .inl rfl, Nat.zero_le _⟩
  · have hraw : ∀ i, i < len → ∃ v : In, W.cell? ((ad.add (i * 3)).add 0) = some (.int .i64 v.op) ∧ W.cell? ((ad.add (i * 3)).add 1) = some (.int .i64 v.n) ∧ W.cell? ((ad.add (i * 3)).add 2) = some (.int .i64 v.r) := by
      intro i hi
      have hb := hall i hi
      rw [List.getElem?_eq_getElem (by omega), cellsIn] at hb
      obtain ⟨cs', hc', ht'⟩ := Option.bind_eq_some_iff.1 hb
      obtain ⟨xs, n, rfl, -, hl, hlen, hf⟩ := DataW.trod_struct Tryd.underlying42 ht'
      rw [cellsIn] at hl
      match cs', hl with
      | [c0, c1, c2], _ =>
        match xs, hlen with
        | [y0, y1, y2], _ =>
          have h0 := hf 0 _ rfl
          have h1 := hf 1 _ rfl
          have h2 := hf 2 _ rfl
          simp [cellsOne] at h0 h1 h2
          obtain ⟨a, e0, -, -⟩ := DataW.trod_int Tryd.underlying3 h0
          obtain ⟨b, e1, -, -⟩ := DataW.trod_int Tryd.underlying3 h1
          obtain ⟨c, e2, -, -⟩ := DataW.trod_int Tryd.underlying3 h2
          simp only [List.cons.injEq, and_true] at e0 e1 e2
          subst e0 e1 e2
          obtain ⟨-, -, hcell⟩ := World.cells?_some hc'
          exact ⟨⟨a, b, c⟩, hcell 0 (by omega), hcell 1 (by omega), hcell 2 (by omega)⟩
    by_cases h0 : len = 0
    · subst h0
      exact ⟨⟨[], some ad, cap⟩, e3, .inl rfl, Nat.zero_le _⟩
    · obtain ⟨_, hk0, -⟩ := hraw 0 (by omega)
      have hsp := spotK hk0
      obtain ⟨g, o, sp⟩ := ad
      simp only at hsp
      subst hsp
      have hadd : ∀ p q : Nat, ((⟨g, o, none⟩ : Addr).add p).add q = ⟨g, o + p + q, none⟩ := fun p q => by rw [Go.WideShapes.add_plain, Go.WideShapes.add_plain]
      obtain ⟨l, hl, hq⟩ := pick (P := fun _ => True) (⟨0, 0, 0⟩ : In) hraw
      refine ⟨⟨l, some ⟨g, o, none⟩, cap⟩, by rw [e3, ← hl], .inr ⟨g, o, rfl, fun i v hv => ?_⟩, by simp only; omega⟩
      obtain ⟨k0, k1, k2⟩ := hq i v hv
      rw [hadd] at k0 k1 k2
      exact ⟨k0, k1, k2⟩
theorem open_code (fuel : Nat) (cs : List Value) (x : DataW H × List MemPlace) (h : DataW.trod enc Tryd.prog W 0 (fun _ => true) true fuel 26 cs = some x) :
    ∃ h0 h1 h2 h3 h4 : Hd, cs = (cdA h0 h1 h2 h3 h4).toList ∧ (∀ y ∈ [h0, h1, h2, h3, h4], InsR W y.l y.A) ∧ (∀ y ∈ [h0, h1, h2, h3, h4], y.l.length ≤ maxLen) := by
  obtain ⟨xs, n, rfl, -, hl, hlen, hf⟩ := DataW.trod_struct Tryd.underlying26 h
  rw [cellsCd] at hl
  match cs, hl with
  | [c0, c1, c2, c3, c4], _ =>
    match xs, hlen with
    | [y0], _ =>
      have h0 := hf 0 _ rfl
      simp [cellsOn] at h0
      obtain ⟨zs, m, -, -, -, zlen, zf⟩ := DataW.trod_array Tryd.underlying24 h0
      simp only [cellsSl] at zf
      match zs, zlen with
      | [z0, z1, z2, z3, z4], _ =>
        obtain ⟨k0, a0, r0, n0⟩ := open_ins _ _ _ (by simpa using zf 0 (by decide))
        obtain ⟨k1, a1, r1, n1⟩ := open_ins _ _ _ (by simpa using zf 1 (by decide))
        obtain ⟨k2, a2, r2, n2⟩ := open_ins _ _ _ (by simpa using zf 2 (by decide))
        obtain ⟨k3, a3, r3, n3⟩ := open_ins _ _ _ (by simpa using zf 3 (by decide))
        obtain ⟨k4, a4, r4, n4⟩ := open_ins _ _ _ (by simpa using zf 4 (by decide))
        simp only [List.cons.injEq, and_true] at a0 a1 a2 a3 a4
        subst a0 a1 a2 a3 a4
        refine ⟨k0, k1, k2, k3, k4, rfl, fun y hy => ?_, fun y hy => ?_⟩
        · simp only [List.mem_cons, List.not_mem_nil, or_false] at hy
          rcases hy with rfl | rfl | rfl | rfl | rfl <;> assumption
        · simp only [List.mem_cons, List.not_mem_nil, or_false] at hy
          rcases hy with rfl | rfl | rfl | rfl | rfl <;> assumption
theorem open_call (fuel : Nat) (cs : List Value) (x : DataW H × List MemPlace) (h : DataW.trod enc Tryd.prog W 0 (fun _ => true) true fuel 30 cs = some x) :
    ∃ e i0 i1 i2 i3 : Int, cs = (clA e i0 i1 i2 i3).toList := by
  obtain ⟨xs, n, rfl, -, hl, hlen, hf⟩ := DataW.trod_struct Tryd.underlying30 h
  rw [cellsCl] at hl
  match cs, hl with
  | [c0, c1, c2, c3, c4], _ =>
    match xs, hlen with
    | [y0, y1], _ =>
      have h0 := hf 0 _ rfl
      have h1 := hf 1 _ rfl
      simp [cellsOne, cellsIn4] at h0 h1
      obtain ⟨e, e0, -, -⟩ := DataW.trod_int Tryd.underlying3 h0
      obtain ⟨zs, m, -, -, -, zlen, zf⟩ := DataW.trod_array Tryd.underlying28 h1
      simp only [cellsOne] at zf
      match zs, zlen with
      | [z0, z1, z2, z3], _ =>
        obtain ⟨i0, a0, -, -⟩ := DataW.trod_int Tryd.underlying3 (by simpa using zf 0 (by decide))
        obtain ⟨i1, a1, -, -⟩ := DataW.trod_int Tryd.underlying3 (by simpa using zf 1 (by decide))
        obtain ⟨i2, a2, -, -⟩ := DataW.trod_int Tryd.underlying3 (by simpa using zf 2 (by decide))
        obtain ⟨i3, a3, -, -⟩ := DataW.trod_int Tryd.underlying3 (by simpa using zf 3 (by decide))
        simp only [List.cons.injEq, and_true] at e0 a0 a1 a2 a3
        subst e0 a0 a1 a2 a3
        exact ⟨e, i0, i1, i2, i3, rfl⟩
end
end N
end Go.Proofs.YthgngkajdiclcaaDoor
