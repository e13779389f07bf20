/- Law package 13: a network, ratios, numbers of 16 bits that come in as arguments. -/
import Derived.Test.YtbjhdfakocfapaaMsA
import Derived.ChangeArms
import Derived.DataReads
import Derived.OpenShut
import Derived.WideShapes
namespace Go.Proofs.Ytbjhdfakocfapaa
open Go.RowKit
set_option linter.unusedVariables false
set_option linter.unusedSimpArgs false
set_option maxRecDepth 100000
namespace O
theorem cellsQ : Try.prog.cellsOf 35 = 2 := by kernel_rfl
theorem cellsOne : Try.prog.cellsOf 3 = 1 := by kernel_rfl
theorem cellsU : Try.prog.cellsOf 63 = 1 := by kernel_rfl
theorem cellsSl : Try.prog.cellsOf 22 = 1 := by kernel_rfl
theorem cellsRw : Try.prog.cellsOf 23 = 1 := by kernel_rfl
theorem cellsNet : Try.prog.cellsOf 25 = 3 := by kernel_rfl
theorem spotK {w : World} {a : Addr} {v : Value} {k : Nat} (h : w.cell? ((a.add (0 * k)).add 0) = some v) : a.spot = none := by
  have := World.cell?_spot h
  simpa [Addr.add] using this
theorem pick {P : Nat → Prop} {α : Type} (d : α) {Q : Nat → α → Prop} {len : Nat} (h : ∀ i, i < len → ∃ v, Q i v) : ∃ l : List α, l.length = len ∧ ∀ i v, l[i]? = some v → Q i v := by
  classical
  refine ⟨(List.range len).map (fun i => if hi : i < len then Classical.choose (h i hi) else d), by simp, fun i v hv => ?_⟩
  simp only [List.getElem?_map, Option.map_eq_some_iff] at hv
  obtain ⟨j, hj, rfl⟩ := hv
  obtain ⟨hlt, rfl⟩ : i < len ∧ i = j := by
    rw [List.getElem?_eq_some_iff] at hj
    obtain ⟨h1, h2⟩ := hj
    simp at h1 h2
    exact ⟨h1, h2⟩
  simp only [dif_pos hlt]
  exact Classical.choose_spec (h i hlt)
/-- numbers of 16 bits in memory -/
def UsR (w : World) (l : List Int) (A : Option Addr) : Prop := l = [] ∨ ∃ g o, A = some ⟨g, o, none⟩ ∧ ∀ (i : Nat) (n : Int), l[i]? = some n → w.cell? ⟨g, o + i, none⟩ = some (.int .u16 n) ∧ 0 ≤ n ∧ n < 65536
theorem UsR.gr {w w' : World} {l : List Int} {A : Option Addr} (h : UsR w l A) (hg : Gr w w') : UsR w' l A := by
  rcases h with h | ⟨g, o, e, hc⟩
  · exact .inl h
  · exact .inr ⟨g, o, e, fun i n hi => ⟨grCell hg (hc i n hi).1, (hc i n hi).2⟩⟩
theorem UsR.addr {w : World} {l : List Int} {A : Option Addr} (h : UsR w l A) (hl : 0 < l.length) : ∃ g o, A = some ⟨g, o, none⟩ ∧ ∀ (i : Nat) (n : Int), l[i]? = some n → w.cell? ⟨g, o + i, none⟩ = some (.int .u16 n) ∧ 0 ≤ n ∧ n < 65536 := by
  rcases h with h | h
  · subst h; simp at hl
  · exact h
theorem u16_rg {n : Int} (h : (Lit.int .u16 n).wf = true) : 0 ≤ n ∧ n < 65536 := by
  simp [Lit.wf, IntKind.min, IntKind.max, IntKind.signed, IntKind.bits] at h
  exact ⟨by omega, by omega⟩
theorem u8_rg {n : Int} (h : (Lit.int .u8 n).wf = true) : 0 ≤ n ∧ n < 256 := by
  simp [Lit.wf, IntKind.min, IntKind.max, IntKind.signed, IntKind.bits] at h
  exact ⟨by omega, by omega⟩
section
variable {H : Type} {enc : TypeId × Value → H} {W : World}
theorem open_ints (fuel : Nat) (cs : List Value) (x : DataW H × List MemPlace) (h : DataW.trod enc Try.prog W 0 (fun _ => true) true fuel 22 cs = some x) :
    ∃ (l : List Int) (A : Option Addr) (m : Nat), cs = [.slice A l.length m] ∧ IntsR W l A ∧ l.length ≤ maxLen := by
  rcases DataW.trod_slice Try.underlying22 h with ⟨e3, -⟩ | ⟨ad, len, cap, elems, rest, m, hm, e3, -, -, hlc, hcap, hel, hall, -, -⟩
  · exact ⟨[], none, 0, e3, .inl rfl, Nat.zero_le _⟩
  · have hraw : ∀ i, i < len → ∃ b : Int, W.cell? ((ad.add (i * 1)).add 0) = some (.int .i64 b) := by
      intro i hi
      have hb := hall i hi
      rw [List.getElem?_eq_getElem (by omega), cellsOne] at hb
      obtain ⟨cs', hc', ht'⟩ := Option.bind_eq_some_iff.1 hb
      obtain ⟨b, rfl, -, hw⟩ := DataW.trod_int Try.underlying3 ht'
      obtain ⟨-, -, hcell⟩ := World.cells?_some hc'
      exact ⟨b, hcell 0 (by omega)⟩
    by_cases h0 : len = 0
    · subst h0
      exact ⟨[], some ad, cap, e3, .inl rfl, Nat.zero_le _⟩
    · obtain ⟨_, hk0⟩ := hraw 0 (by omega)
      have hsp := spotK hk0
      obtain ⟨g, o, sp⟩ := ad
      simp only at hsp
      subst hsp
      have hadd : ∀ p q : Nat, ((⟨g, o, none⟩ : Addr).add p).add q = ⟨g, o + p + q, none⟩ := fun p q => by rw [Go.WideShapes.add_plain, Go.WideShapes.add_plain]
      obtain ⟨l, hl, hq⟩ := pick (P := fun _ => True) (0 : Int) hraw
      refine ⟨l, some ⟨g, o, none⟩, cap, by rw [hl]; exact e3, .inr ⟨g, o, rfl, fun i n hn => ?_⟩, by omega⟩
      have := hq i n hn
      rw [hadd] at this
      simpa using this
theorem open_us (fuel : Nat) (cs : List Value) (x : DataW H × List MemPlace) (h : DataW.trod enc Try.prog W 0 (fun _ => true) true fuel 36 cs = some x) :
    ∃ (l : List Int) (A : Option Addr) (m : Nat), cs = [.slice A l.length m] ∧ UsR W l A ∧ l.length ≤ maxLen := by
  rcases DataW.trod_slice Try.underlying36 h with ⟨e3, -⟩ | ⟨ad, len, cap, elems, rest, m, hm, e3, -, -, hlc, hcap, hel, hall, -, -⟩
  · exact ⟨[], none, 0, e3, .inl rfl, Nat.zero_le _⟩
  · have hraw : ∀ i, i < len → ∃ b : Int, W.cell? ((ad.add (i * 1)).add 0) = some (.int .u16 b) ∧ 0 ≤ b ∧ b < 65536 := by
      intro i hi
      have hb := hall i hi
      rw [List.getElem?_eq_getElem (by omega), cellsU] at hb
      obtain ⟨cs', hc', ht'⟩ := Option.bind_eq_some_iff.1 hb
      obtain ⟨b, rfl, -, hw⟩ := DataW.trod_int Try.underlying63 ht'
      obtain ⟨-, -, hcell⟩ := World.cells?_some hc'
      exact ⟨b, hcell 0 (by omega), u16_rg hw⟩
    by_cases h0 : len = 0
    · subst h0
      exact ⟨[], some ad, cap, e3, .inl rfl, Nat.zero_le _⟩
    · obtain ⟨_, hk0, -⟩ := hraw 0 (by omega)
      have hsp := spotK hk0
      obtain ⟨g, o, sp⟩ := ad
      simp only at hsp
      subst hsp
      have hadd : ∀ p q : Nat, ((⟨g, o, none⟩ : Addr).add p).add q = ⟨g, o + p + q, none⟩ := fun p q => by rw [Go.WideShapes.add_plain, Go.WideShapes.add_plain]
      obtain ⟨l, hl, hq⟩ := pick (P := fun _ => True) (0 : Int) hraw
      refine ⟨l, some ⟨g, o, none⟩, cap, by rw [hl]; exact e3, .inr ⟨g, o, rfl, fun i n hn => ?_⟩, by omega⟩
      have := hq i n hn
      rw [hadd] at this
      simpa using this
theorem open_rows (fuel : Nat) (cs : List Value) (x : DataW H × List MemPlace) (h : DataW.trod enc Try.prog W 0 (fun _ => true) true fuel 23 cs = some x) :
    ∃ (l : List (List Int)) (A : Option Addr) (m : Nat), cs = [.slice A l.length m] ∧ RowsR W l A ∧ l.length ≤ maxLen ∧ ∀ r ∈ l, r.length ≤ maxLen := by
  rcases DataW.trod_slice Try.underlying23 h with ⟨e3, -⟩ | ⟨ad, len, cap, elems, rest, m, hm, e3, -, -, hlc, hcap, hel, hall, -, -⟩
  · exact ⟨[], none, 0, e3, .inl rfl, Nat.zero_le _, fun r hr => by cases hr⟩
  · have hraw : ∀ i, i < len → ∃ r : List Int, (∃ (B : Option Addr) (m : Nat), W.cell? ((ad.add (i * 1)).add 0) = some (.slice B r.length m) ∧ IntsR W r B) ∧ r.length ≤ maxLen := by
      intro i hi
      have hb := hall i hi
      rw [List.getElem?_eq_getElem (by omega), cellsSl] at hb
      obtain ⟨cs', hc', ht'⟩ := Option.bind_eq_some_iff.1 hb
      obtain ⟨r, B, m2, rfl, hR, hl⟩ := open_ints _ _ _ ht'
      obtain ⟨-, -, hcell⟩ := World.cells?_some hc'
      exact ⟨r, ⟨B, m2, hcell 0 (by omega), hR⟩, hl⟩
    by_cases h0 : len = 0
    · subst h0
      exact ⟨[], some ad, cap, e3, .inl rfl, Nat.zero_le _, fun r hr => by cases hr⟩
    · obtain ⟨_, ⟨_, _, hk0, -⟩, -⟩ := hraw 0 (by omega)
      have hsp := spotK hk0
      obtain ⟨g, o, sp⟩ := ad
      simp only at hsp
      subst hsp
      have hadd : ∀ p q : Nat, ((⟨g, o, none⟩ : Addr).add p).add q = ⟨g, o + p + q, none⟩ := fun p q => by rw [Go.WideShapes.add_plain, Go.WideShapes.add_plain]
      obtain ⟨l, hl, hq⟩ := pick (P := fun _ => True) ([] : List Int) hraw
      refine ⟨l, some ⟨g, o, none⟩, cap, by rw [hl]; exact e3, .inr ⟨g, o, rfl, fun i r hn => ?_⟩, by omega, fun r hr => ?_⟩
      · obtain ⟨⟨B, m2, h1, h2⟩, -⟩ := hq i r hn
        rw [hadd] at h1
        exact ⟨B, m2, by simpa using h1, h2⟩
      · obtain ⟨i, hi, rfl⟩ := List.getElem_of_mem hr
        exact (hq i _ (List.getElem?_eq_getElem hi)).2
theorem open_qs (fuel : Nat) (cs : List Value) (x : DataW H × List MemPlace) (h : DataW.trod enc Try.prog W 0 (fun _ => true) true fuel 26 cs = some x) :
    ∃ (l : List Q) (A : Option Addr) (m : Nat), cs = [.slice A l.length m] ∧ QsR W l A ∧ l.length ≤ maxLen := by
  rcases DataW.trod_slice Try.underlying26 h with ⟨e3, -⟩ | ⟨ad, len, cap, elems, rest, m, hm, e3, -, -, hlc, hcap, hel, hall, -, -⟩
  · exact ⟨[], none, 0, e3, .inl rfl, Nat.zero_le _⟩
  · have hraw : ∀ i, i < len → ∃ q : Q, W.cell? ((ad.add (i * 2)).add 0) = some (.int .i64 q.n) ∧ W.cell? ((ad.add (i * 2)).add 1) = some (.int .i64 q.d) := by
      intro i hi
      have hb := hall i hi
      rw [List.getElem?_eq_getElem (by omega), cellsQ] at hb
      obtain ⟨cs', hc', ht'⟩ := Option.bind_eq_some_iff.1 hb
      obtain ⟨xs, n, rfl, -, hl, hlen, hf⟩ := DataW.trod_struct Try.underlying35 ht'
      rw [cellsQ] at hl
      match cs', hl with
      | [c0, c1], _ =>
        match xs, hlen with
        | [y0, y1], _ =>
          have h0 := hf 0 _ rfl
          have h1 := hf 1 _ rfl
          simp [cellsOne] at h0 h1
          obtain ⟨a, e0, -, -⟩ := DataW.trod_int Try.underlying3 h0
          obtain ⟨b, e1, -, -⟩ := DataW.trod_int Try.underlying3 h1
          simp only [List.cons.injEq, and_true] at e0 e1
          subst e0 e1
          obtain ⟨-, -, hcell⟩ := World.cells?_some hc'
          exact ⟨⟨a, b⟩, hcell 0 (by omega), hcell 1 (by omega)⟩
    by_cases h0 : len = 0
    · subst h0
      exact ⟨[], some ad, cap, e3, .inl rfl, Nat.zero_le _⟩
    · obtain ⟨_, hk0, -⟩ := hraw 0 (by omega)
      have hsp := spotK hk0
      obtain ⟨g, o, sp⟩ := ad
      simp only at hsp
      subst hsp
      have hadd : ∀ p q : Nat, ((⟨g, o, none⟩ : Addr).add p).add q = ⟨g, o + p + q, none⟩ := fun p q => by rw [Go.WideShapes.add_plain, Go.WideShapes.add_plain]
      obtain ⟨l, hl, hq⟩ := pick (P := fun _ => True) (⟨0, 0⟩ : Q) hraw
      refine ⟨l, some ⟨g, o, none⟩, cap, by rw [hl]; exact e3, .inr ⟨g, o, rfl, fun i v hv => ?_⟩, by omega⟩
      obtain ⟨k0, k1⟩ := hq i v hv
      rw [hadd] at k0 k1
      exact ⟨k0, k1⟩
abbrev nArr (n : Net) (a : NetA) : Array Value := #[.slice a.ca n.c.length a.cm, .slice a.fa n.f.length a.fm, .slice a.la n.l.length a.lm]
theorem open_net (fuel : Nat) (cs : List Value) (x : DataW H × List MemPlace) (h : DataW.trod enc Try.prog W 0 (fun _ => true) true fuel 25 cs = some x) :
    ∃ (n : Net) (a : NetA), cs = (nArr n a).toList ∧ NetR W n a ∧ (n.c.length ≤ maxLen ∧ n.f.length ≤ maxLen ∧ n.l.length ≤ maxLen) ∧ ∀ r ∈ n.f, r.length ≤ maxLen := by
  obtain ⟨xs, k, rfl, -, hl, hlen, hf⟩ := DataW.trod_struct Try.underlying25 h
  rw [cellsNet] at hl
  match cs, hl with
  | [c0, c1, c2], _ =>
    match xs, hlen with
    | [y0, y1, y2], _ =>
      have h0 := hf 0 _ rfl
      have h1 := hf 1 _ rfl
      have h2 := hf 2 _ rfl
      simp [cellsSl, cellsRw] at h0 h1 h2
      obtain ⟨l0, A0, m0, e0, r0, n0⟩ := open_ints _ _ _ h0
      obtain ⟨l1, A1, m1, e1, r1, n1, b1⟩ := open_rows _ _ _ h1
      obtain ⟨l2, A2, m2, e2, r2, n2⟩ := open_ints _ _ _ h2
      simp only [List.cons.injEq, and_true] at e0 e1 e2
      subst e0 e1 e2
      exact ⟨⟨l0, l1, l2⟩, ⟨A0, m0, A1, m1, A2, m2⟩, rfl, ⟨r0, r1, r2⟩, ⟨n0, n1, n2⟩, b1⟩
end
end O
end Go.Proofs.Ytbjhdfakocfapaa
