/- Expressions and variables that come in as arguments, opened from their reading. -/
import Derived.Test.YtmofclpheioepaaDoorUxC
import Derived.ChangeArms
import Derived.DataReads
import Derived.ChangeSlices
namespace Go.Proofs.YtmofclpheioepaaDoor
open Go.RowKit
set_option linter.unusedVariables false
set_option linter.unusedSimpArgs false

theorem cellsEx : Tryd.prog.cellsOf 29 = 4 := by kernel_rfl
theorem cellsVr : Tryd.prog.cellsOf 50 = 5 := by kernel_rfl
theorem cellsI : Tryd.prog.cellsOf 3 = 1 := by kernel_rfl
theorem cellsS : Tryd.prog.cellsOf 9 = 1 := by kernel_rfl
theorem cellsKids : Tryd.prog.cellsOf 27 = 1 := by kernel_rfl
theorem kids_of {w : World} {g o len : Nat} (h : ∀ i, i < len → ∃ t, OneE w t g (o + i * 4)) : ∀ k, k ≤ len → ∃ ts : List Ex, ts.length = k ∧ KidsE w ts (some ⟨g, o + (len - k) * 4, none⟩)
  | 0, _ => ⟨[], rfl, by unfold KidsE; trivial⟩
  | k + 1, hk => by
    obtain ⟨ts, hl, hK⟩ := kids_of h k (by omega)
    obtain ⟨t, ht⟩ := h (len - (k + 1)) (by omega)
    refine ⟨t :: ts, by simp [hl], ?_⟩
    unfold KidsE
    refine ⟨g, o + (len - (k + 1)) * 4, rfl, ht, ?_⟩
    rw [show o + (len - (k + 1)) * 4 + 4 = o + (len - k) * 4 by omega]
    exact hK
theorem spot_none {w : World} {a : Addr} {v : Value} (h : w.cell? ((a.add (0 * 4)).add 0) = some v) : a.spot = none := by
  have := World.cell?_spot h
  simpa [Addr.add] using this
theorem spot_none5 {w : World} {a : Addr} {v : Value} (h : w.cell? ((a.add (0 * 5)).add 0) = some v) : a.spot = none := by
  have := World.cell?_spot h
  simpa [Addr.add] using this
section
variable {H : Type} {enc : TypeId × Value → H} {W : World}
theorem open_ex : ∀ (fuel : Nat) (cs : List Value) (x : DataW H × List MemPlace), DataW.trod enc Tryd.prog W 0 (fun _ => true) true fuel 29 cs = some x →
    ∃ (t : Ex) (A : Option Addr) (c : Nat), cs = [.int .i64 t.op, .int .i64 t.n, .int .i64 t.unit, .slice A t.kids.length (t.kids.length + c)] ∧ KidsE W t.kids A ∧ t.kids.length ≤ maxLen := by
  intro fuel
  induction fuel using Nat.strongRecOn with
  | ind fuel ih =>
    intro cs x h
    obtain ⟨xs, n, rfl, -, hl, hlen, hf⟩ := DataW.trod_struct Tryd.underlying29 h
    rw [cellsEx] at hl
    match cs, hl with
    | [c0, c1, c2, c3], _ =>
      match xs, hlen with
      | [y0, y1, y2, y3], _ =>
        have h0 := hf 0 _ rfl
        have h1 := hf 1 _ rfl
        have h2 := hf 2 _ rfl
        have h3 := hf 3 _ rfl
        simp [cellsI, cellsKids] at h0 h1 h2 h3
        obtain ⟨a, e0, -, -⟩ := DataW.trod_int Tryd.underlying3 h0
        obtain ⟨b, e1, -, -⟩ := DataW.trod_int Tryd.underlying3 h1
        obtain ⟨u, e2, -, -⟩ := DataW.trod_int Tryd.underlying3 h2
        simp only [List.cons.injEq, and_true] at e0 e1 e2
        subst e0 e1 e2
        rcases DataW.trod_slice Tryd.underlying27 h3 with ⟨e3, -⟩ | ⟨ad, len, cap, elems, rest, m, hm, e3, -, -, hlc, hcap, hel, hall, -, -⟩
        · simp only [List.cons.injEq, and_true] at e3
          subst e3
          exact ⟨.mk a b u [], none, 0, rfl, by unfold Ex.kids KidsE; trivial, Nat.zero_le _⟩
        · simp only [List.cons.injEq, and_true] at e3
          subst e3
          have hraw : ∀ i, i < len → ∃ (t : Ex) (A : Option Addr) (c : Nat), W.cell? ((ad.add (i * 4)).add 0) = some (.int .i64 t.op) ∧ W.cell? ((ad.add (i * 4)).add 1) = some (.int .i64 t.n) ∧ W.cell? ((ad.add (i * 4)).add 2) = some (.int .i64 t.unit) ∧
              W.cell? ((ad.add (i * 4)).add 3) = some (.slice A t.kids.length (t.kids.length + c)) ∧ t.kids.length ≤ maxLen ∧ KidsE W t.kids A := by
            intro i hi
            have hb := hall i hi
            rw [List.getElem?_eq_getElem (by omega), cellsEx] at hb
            obtain ⟨cs', hc', ht'⟩ := Option.bind_eq_some_iff.1 hb
            obtain ⟨t, A, c, rfl, hK, hkl⟩ := ih m (by omega) cs' _ ht'
            obtain ⟨-, -, hcell⟩ := World.cells?_some hc'
            exact ⟨t, A, c, hcell 0 (by omega), hcell 1 (by omega), hcell 2 (by omega), hcell 3 (by omega), hkl, hK⟩
          obtain ⟨ts, hts, hK⟩ : ∃ ts : List Ex, ts.length = len ∧ KidsE W ts (some ad) := by
            by_cases h0 : len = 0
            · subst h0
              exact ⟨[], rfl, by unfold KidsE; trivial⟩
            · obtain ⟨_, _, _, hk0, -⟩ := hraw 0 (by omega)
              have hsp := spot_none hk0
              obtain ⟨g, o, sp⟩ := ad
              simp only at hsp
              subst hsp
              have hadd : ∀ p q : Nat, ((⟨g, o, none⟩ : Addr).add p).add q = ⟨g, o + p + q, none⟩ := fun p q => by rw [Go.WideShapes.add_plain, Go.WideShapes.add_plain]
              have hone : ∀ i, i < len → ∃ t, OneE W t g (o + i * 4) := by
                intro i hi
                obtain ⟨t, A, c, k0, k1, k2, k3, hkl, hK⟩ := hraw i hi
                rw [hadd] at k0 k1 k2 k3
                exact ⟨t, OneE.mk' (A := A) (c := c) k0 k1 k2 k3 hkl hK⟩
              obtain ⟨ts, hts, hK⟩ := kids_of hone len (Nat.le_refl _)
              exact ⟨ts, hts, by simpa using hK⟩
          refine ⟨.mk a b u ts, some ad, cap - len, ?_, hK, by show ts.length ≤ maxLen; omega⟩
          show _ = [Value.int .i64 a, .int .i64 b, .int .i64 u, .slice (some ad) ts.length (ts.length + (cap - len))]
          rw [hts, Nat.add_sub_cancel' hlc]
theorem open_vr (fuel : Nat) (cs : List Value) (x : DataW H × List MemPlace) (h : DataW.trod enc Tryd.prog W 0 (fun _ => true) true fuel 50 cs = some x) :
    ∃ v : Vr, cs = [.string v.x, .int .i64 v.u, .int .i64 v.lo, .int .i64 v.hi, .int .i64 v.i] := by
  obtain ⟨xs, n, rfl, -, hl, hlen, hf⟩ := DataW.trod_struct Tryd.underlying50 h
  rw [cellsVr] at hl
  match cs, hl with
  | [c0, c1, c2, c3, c4], _ =>
    match xs, hlen with
    | [y0, y1, y2, y3, y4], _ =>
      have h0 := hf 0 _ rfl
      have h1 := hf 1 _ rfl
      have h2 := hf 2 _ rfl
      have h3 := hf 3 _ rfl
      have h4 := hf 4 _ rfl
      simp [cellsI, cellsS] at h0 h1 h2 h3 h4
      obtain ⟨s, e0, -, -⟩ := DataW.trod_string Tryd.underlying9 h0
      obtain ⟨a, e1, -, -⟩ := DataW.trod_int Tryd.underlying3 h1
      obtain ⟨b, e2, -, -⟩ := DataW.trod_int Tryd.underlying3 h2
      obtain ⟨c, e3, -, -⟩ := DataW.trod_int Tryd.underlying3 h3
      obtain ⟨d, e4, -, -⟩ := DataW.trod_int Tryd.underlying3 h4
      simp only [List.cons.injEq, and_true] at e0 e1 e2 e3 e4
      subst e0 e1 e2 e3 e4
      exact ⟨⟨s, a, b, c, d⟩, rfl⟩
theorem open_vars (fuel : Nat) (cs : List Value) (x : DataW H × List MemPlace) (h : DataW.trod enc Tryd.prog W 0 (fun _ => true) true fuel 22 cs = some x) :
    ∃ (l : List Vr) (A : Option Addr) (m : Nat), cs = [.slice A l.length m] ∧ VarsR W l A ∧ l.length ≤ maxLen := by
  rcases DataW.trod_slice Tryd.underlying22 h with ⟨e3, -⟩ | ⟨ad, len, cap, elems, rest, m, hm, e3, -, -, hlc, hcap, hel, hall, -, -⟩
  · exact ⟨[], none, 0, e3, .inl rfl, Nat.zero_le _⟩
  · have hraw : ∀ i, i < len → ∃ v : Vr, W.cell? ((ad.add (i * 5)).add 0) = some (.string v.x) ∧ W.cell? ((ad.add (i * 5)).add 1) = some (.int .i64 v.u) ∧ W.cell? ((ad.add (i * 5)).add 2) = some (.int .i64 v.lo) ∧ W.cell? ((ad.add (i * 5)).add 3) = some (.int .i64 v.hi) ∧ W.cell? ((ad.add (i * 5)).add 4) = some (.int .i64 v.i) := by
      intro i hi
      have hb := hall i hi
      rw [List.getElem?_eq_getElem (by omega), cellsVr] at hb
      obtain ⟨cs', hc', ht'⟩ := Option.bind_eq_some_iff.1 hb
      obtain ⟨v, rfl⟩ := open_vr m cs' _ ht'
      obtain ⟨-, -, hcell⟩ := World.cells?_some hc'
      exact ⟨v, hcell 0 (by omega), hcell 1 (by omega), hcell 2 (by omega), hcell 3 (by omega), hcell 4 (by omega)⟩
    by_cases h0 : len = 0
    · subst h0
      exact ⟨[], some ad, cap, e3, .inl rfl, Nat.zero_le _⟩
    · obtain ⟨_, hk0, -⟩ := hraw 0 (by omega)
      have hsp := spot_none5 hk0
      obtain ⟨g, o, sp⟩ := ad
      simp only at hsp
      subst hsp
      have hadd : ∀ p q : Nat, ((⟨g, o, none⟩ : Addr).add p).add q = ⟨g, o + p + q, none⟩ := fun p q => by rw [Go.WideShapes.add_plain, Go.WideShapes.add_plain]
      have hone : ∀ i, i < len → ∃ v, VrAt W g (o + i * 5) v := by
        intro i hi
        obtain ⟨v, k0, k1, k2, k3, k4⟩ := hraw i hi
        rw [hadd] at k0 k1 k2 k3 k4
        exact ⟨v, k0, k1, k2, k3, k4⟩
      have hch : ∃ f : Nat → Vr, ∀ i, i < len → VrAt W g (o + i * 5) (f i) := by
        classical
        refine ⟨fun i => if hi : i < len then Classical.choose (hone i hi) else ⟨⟨#[]⟩, 0, 0, 0, 0⟩, fun i hi => ?_⟩
        simp only [dif_pos hi]
        exact Classical.choose_spec (hone i hi)
      obtain ⟨f, hfv⟩ := hch
      refine ⟨(List.range len).map f, some ⟨g, o, none⟩, cap, by simpa using e3, .inr ⟨g, o, rfl, fun i v hv => ?_⟩, by simp; omega⟩
      simp only [List.getElem?_map, Option.map_eq_some_iff] at hv
      obtain ⟨j, hj, rfl⟩ := hv
      obtain ⟨hlt, rfl⟩ : i < len ∧ i = j := by
        rw [List.getElem?_eq_some_iff] at hj
        obtain ⟨h1, h2⟩ := hj
        simp at h1 h2
        exact ⟨h1, h2⟩
      exact hfv i hlt
end
end Go.Proofs.YtmofclpheioepaaDoor
