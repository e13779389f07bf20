/- Programs that come in as arguments, opened from their reading. -/
import Derived.Test.YtmofclpheioepaaDoorUxM
import Derived.Test.YtmofclpheioepaaDoorUxR
import Derived.OpenShut
namespace Go.Proofs.YtmofclpheioepaaDoor
open Go.RowKit
set_option linter.unusedVariables false
set_option linter.unusedSimpArgs false

theorem cellsSt : Tryd.prog.cellsOf 58 = 13 := by kernel_rfl
theorem cellsSts : Tryd.prog.cellsOf 23 = 1 := by kernel_rfl
theorem cellsOn : Tryd.prog.cellsOf 24 = 5 := by kernel_rfl
theorem cellsVars : Tryd.prog.cellsOf 22 = 1 := by kernel_rfl
theorem cellsPg : Tryd.prog.cellsOf 26 = 9 := by kernel_rfl
theorem sts_of {w : World} {g o len : Nat} (h : ∀ i, i < len → ∃ t, StR w t g (o + i * 13)) : ∀ k, k ≤ len → ∃ ts : List St, ts.length = k ∧ StsR w ts (some ⟨g, o + (len - k) * 13, none⟩)
  | 0, _ => ⟨[], rfl, by unfold StsR; trivial⟩
  | k + 1, hk => by
    obtain ⟨ts, hl, hK⟩ := sts_of h k (by omega)
    obtain ⟨t, ht⟩ := h (len - (k + 1)) (by omega)
    refine ⟨t :: ts, by simp [hl], ?_⟩
    unfold StsR
    refine ⟨g, o + (len - (k + 1)) * 13, rfl, ht, ?_⟩
    rw [show o + (len - (k + 1)) * 13 + 13 = o + (len - k) * 13 by omega]
    exact hK
theorem spot_none13 {w : World} {a : Addr} {v : Value} (h : w.cell? ((a.add (0 * 13)).add 0) = some v) : a.spot = none := by
  have := World.cell?_spot h
  simpa [Addr.add] using this
/-- cells that are a statement -/
def StX (W : World) (cs : List Value) : Prop :=
  ∃ (t : St) (A : Option Addr) (c : Nat) (B : Option Addr) (d : Nat) (T : Option Addr) (m : Nat) (E : Option Addr) (n : Nat), cs = (sArr t A c B d T m E n).toList ∧
    KidsE W t.a.kids A ∧ KidsE W t.b.kids B ∧ StsR W t.th T ∧ StsR W t.el E ∧ t.th.length ≤ maxLen ∧ t.el.length ≤ maxLen
section
variable {H : Type} {enc : TypeId × Value → H} {W : World}
theorem open_sts (n : Nat) (ih : ∀ m, m < n → ∀ (cs : List Value) (x : DataW H × List MemPlace), DataW.trod enc Tryd.prog W 0 (fun _ => true) true m 58 cs = some x → StX W cs)
    (cs : List Value) (x : DataW H × List MemPlace) (h : DataW.trod enc Tryd.prog W 0 (fun _ => true) true n 23 cs = some x) :
    ∃ (l : List St) (A : Option Addr) (m : Nat), cs = [.slice A l.length m] ∧ StsR W l A ∧ l.length ≤ maxLen := by
  rcases DataW.trod_slice Tryd.underlying23 h with ⟨e3, -⟩ | ⟨ad, len, cap, elems, rest, m, hm, e3, -, -, hlc, hcap, hel, hall, -, -⟩
  · exact ⟨[], none, 0, e3, by unfold StsR; trivial, Nat.zero_le _⟩
  · have hraw : ∀ i, i < len → ∃ cs', W.cells? 0 (ad.add (i * 13)) 13 = some cs' ∧ StX W cs' := by
      intro i hi
      have hb := hall i hi
      rw [List.getElem?_eq_getElem (by omega), cellsSt] at hb
      obtain ⟨cs', hc', ht'⟩ := Option.bind_eq_some_iff.1 hb
      exact ⟨cs', hc', ih m (by omega) cs' _ ht'⟩
    by_cases h0 : len = 0
    · subst h0
      exact ⟨[], some ad, cap, e3, by unfold StsR; trivial, Nat.zero_le _⟩
    · obtain ⟨cs0, hc0, t0, _, _, _, _, _, _, _, _, rfl, -⟩ := hraw 0 (by omega)
      obtain ⟨-, -, hcell0⟩ := World.cells?_some hc0
      have hsp := spot_none13 (hcell0 0 (by omega))
      obtain ⟨g, o, sp⟩ := ad
      simp only at hsp
      subst hsp
      have hadd : ∀ p q : Nat, ((⟨g, o, none⟩ : Addr).add p).add q = ⟨g, o + p + q, none⟩ := fun p q => by rw [Go.WideShapes.add_plain, Go.WideShapes.add_plain]
      have hone : ∀ i, i < len → ∃ t, StR W t g (o + i * 13) := by
        intro i hi
        obtain ⟨cs', hc', t, A, c, B, d, T, m, E, n, rfl, k1, k2, k3, k4, k5, k6⟩ := hraw i hi
        obtain ⟨-, -, hcell⟩ := World.cells?_some hc'
        have hc : ∀ j, j < 13 → W.cell? ⟨g, o + i * 13 + j, none⟩ = (sArr t A c B d T m E n).toList[j]? := fun j hj => by
          have := hcell j hj
          rw [hadd] at this
          rw [this]
        refine ⟨t, ?_⟩
        obtain ⟨tk, tv, tr, ta, tb, tt, te⟩ := t
        unfold StR
        refine ⟨A, c, B, d, T, m, E, n, ⟨hc 0 (by decide), hc 1 (by decide), hc 2 (by decide), hc 3 (by decide), hc 4 (by decide), hc 5 (by decide), hc 6 (by decide), hc 7 (by decide), hc 8 (by decide), hc 9 (by decide), hc 10 (by decide), hc 11 (by decide), hc 12 (by decide)⟩, k1, k2, k3, k4, k5, k6⟩
      obtain ⟨ts, hts, hK⟩ := sts_of hone len (Nat.le_refl _)
      exact ⟨ts, some ⟨g, o, none⟩, cap, by rw [hts]; exact e3, by simpa using hK, by omega⟩
theorem open_st : ∀ (fuel : Nat) (cs : List Value) (x : DataW H × List MemPlace), DataW.trod enc Tryd.prog W 0 (fun _ => true) true fuel 58 cs = some x → StX W cs := by
  intro fuel
  induction fuel using Nat.strongRecOn with
  | ind fuel ih =>
    intro cs x h
    obtain ⟨xs, n, rfl, -, hl, hlen, hf⟩ := DataW.trod_struct Tryd.underlying58 h
    rw [cellsSt] at hl
    match cs, hl with
    | [c0, c1, c2, c3, c4, c5, c6, c7, c8, c9, c10, c11, c12], _ =>
      match xs, hlen with
      | [y0, y1, y2, y3, y4, y5, y6], _ =>
        have h0 := hf 0 _ rfl
        have h1 := hf 1 _ rfl
        have h2 := hf 2 _ rfl
        have h3 := hf 3 _ rfl
        have h4 := hf 4 _ rfl
        have h5 := hf 5 _ rfl
        have h6 := hf 6 _ rfl
        simp [cellsI, cellsEx, cellsSts] at h0 h1 h2 h3 h4 h5 h6
        obtain ⟨i0, e0, -, -⟩ := DataW.trod_int Tryd.underlying3 h0
        obtain ⟨i1, e1, -, -⟩ := DataW.trod_int Tryd.underlying3 h1
        obtain ⟨i2, e2, -, -⟩ := DataW.trod_int Tryd.underlying3 h2
        obtain ⟨a, A, c, ea, hKa, -⟩ := open_ex _ _ _ h3
        obtain ⟨b, B, d, eb, hKb, -⟩ := open_ex _ _ _ h4
        obtain ⟨th, T, m, et, hT, hlT⟩ := open_sts n (fun m hm => ih m (by omega)) _ _ h5
        obtain ⟨el, E, k, ee, hE, hlE⟩ := open_sts n (fun m hm => ih m (by omega)) _ _ h6
        simp only [List.cons.injEq, and_true] at e0 e1 e2 ea eb et ee
        obtain ⟨rfl, rfl, rfl, rfl⟩ := ea
        obtain ⟨rfl, rfl, rfl, rfl⟩ := eb
        subst e0 e1 e2 et ee
        exact ⟨.mk i0 i1 i2 a b th el, A, c, B, d, T, m, E, k, rfl, hKa, hKb, hT, hE, hlT, hlE⟩
theorem open_stsF (n : Nat) (cs : List Value) (x : DataW H × List MemPlace) (h : DataW.trod enc Tryd.prog W 0 (fun _ => true) true n 23 cs = some x) :
    ∃ (l : List St) (A : Option Addr) (m : Nat), cs = [.slice A l.length m] ∧ StsR W l A ∧ l.length ≤ maxLen := open_sts n (fun m _ => open_st m) cs x h
theorem open_on (n : Nat) (cs : List Value) (x : DataW H × List MemPlace) (h : DataW.trod enc Tryd.prog W 0 (fun _ => true) true n 24 cs = some x) :
    ∃ (o : On) (a : OnA), cs = [.slice a.a0 o.l0.length a.m0, .slice a.a1 o.l1.length a.m1, .slice a.a2 o.l2.length a.m2, .slice a.a3 o.l3.length a.m3, .slice a.a4 o.l4.length a.m4] ∧ OnR W o a := by
  obtain ⟨xs, m, rfl, -, hl, hlen, hf⟩ := DataW.trod_array Tryd.underlying24 h
  rw [cellsOn] at hl
  simp only [cellsSts] at hf
  match cs, hl with
  | [c0, c1, c2, c3, c4], _ =>
    match xs, hlen with
    | [y0, y1, y2, y3, y4], _ =>
      obtain ⟨l0, A0, m0, e0, k0, n0⟩ := open_stsF m _ _ (by simpa using hf 0 (by decide))
      obtain ⟨l1, A1, m1, e1, k1, n1⟩ := open_stsF m _ _ (by simpa using hf 1 (by decide))
      obtain ⟨l2, A2, m2, e2, k2, n2⟩ := open_stsF m _ _ (by simpa using hf 2 (by decide))
      obtain ⟨l3, A3, m3, e3, k3, n3⟩ := open_stsF m _ _ (by simpa using hf 3 (by decide))
      obtain ⟨l4, A4, m4, e4, k4, n4⟩ := open_stsF m _ _ (by simpa using hf 4 (by decide))
      simp only [List.cons.injEq, and_true] at e0 e1 e2 e3 e4
      subst e0 e1 e2 e3 e4
      exact ⟨⟨l0, l1, l2, l3, l4⟩, ⟨A0, A1, A2, A3, A4, m0, m1, m2, m3, m4⟩, rfl, ⟨k0, k1, k2, k3, k4, n0, n1, n2, n3, n4⟩⟩
/-- a program that comes in -/
theorem open_prog (fuel : Nat) (cs : List Value) (x : DataW H × List MemPlace) (h : DataW.trod enc Tryd.prog W 0 (fun _ => true) true fuel 26 cs = some x) :
    ∃ (s : ByteArray) (l : List Vr) (A : Option Addr) (m : Nat) (o : On) (a : OnA) (wi pa : Int), cs = (pgArr s A l.length m o a wi pa).toList ∧ VarsR W l A ∧ l.length ≤ maxLen ∧ OnR W o a := by
  obtain ⟨xs, n, rfl, -, hl, hlen, hf⟩ := DataW.trod_struct Tryd.underlying26 h
  rw [cellsPg] at hl
  match cs, hl with
  | [c0, c1, c2, c3, c4, c5, c6, c7, c8], _ =>
    match xs, hlen with
    | [y0, y1, y2, y3, y4], _ =>
      have h0 := hf 0 _ rfl
      have h1 := hf 1 _ rfl
      have h2 := hf 2 _ rfl
      have h3 := hf 3 _ rfl
      have h4 := hf 4 _ rfl
      simp [cellsI, cellsS, cellsVars, cellsOn] at h0 h1 h2 h3 h4
      obtain ⟨s, e0, -, -⟩ := DataW.trod_string Tryd.underlying9 h0
      obtain ⟨l, A, m, e1, hV, hlv⟩ := open_vars _ _ _ h1
      obtain ⟨o, a, e2, hO⟩ := open_on _ _ _ h2
      obtain ⟨wi, e3, -, -⟩ := DataW.trod_int Tryd.underlying3 h3
      obtain ⟨pa, e4, -, -⟩ := DataW.trod_int Tryd.underlying3 h4
      simp only [List.cons.injEq, and_true] at e0 e1 e2 e3 e4
      obtain ⟨rfl, rfl, rfl, rfl, rfl⟩ := e2
      subst e0 e1 e3 e4
      exact ⟨s, l, A, m, o, a, wi, pa, rfl, hV, hlv, hO⟩
end
end Go.Proofs.YtmofclpheioepaaDoor
