/- Law package 13: possible, as a contract. -/
import Derived.Test.YtbjhdfakocfapaaMuC
import Derived.Test.YtbjhdfakocfapaaMsN
namespace Go.Proofs.Ytbjhdfakocfapaa
open Go.RowKit
set_option linter.unusedVariables false
set_option linter.unusedSimpArgs false
def PossP (n : Net) (d : Int) (w : World) (e : Ending) (w' : World) : Prop :=
  Gr w w' ∧ ∃ (ys : List Int) (O : Nat), w.heap.size ≤ O ∧ Poss n d ys ∧ w'.heap[O]? = some (.cells (iC ys).toArray 3 (0, 0)) ∧ e = .returned (.slice (some ⟨O, 0, none⟩) ys.length ys.length)
theorem mulb1 {c d : Int} (h : 0 ≤ c ∧ c ≤ 1000) (hd : 1 ≤ d ∧ d ≤ 60) : 0 ≤ c * d ∧ c * d ≤ 60000 := by
  refine ⟨Int.mul_nonneg h.1 (by omega), ?_⟩
  have h1 : c * d ≤ c * 60 := Int.mul_le_mul_of_nonneg_left hd.2 h.1
  omega
set_option maxHeartbeats 4000000 in
set_option maxRecDepth 100000 in
theorem possible_any (n : Net) (a : NetA) (ps : List Int) (PA : Option Addr) (pm : Nat) (d : Int) (w : World) (hv : validB n = true) (hn : NetR w n a) (hp : O.UsR w ps PA) (hpl : ps.length ≤ maxLen) (hd : 1 ≤ d ∧ d ≤ 60) :
    Calls Try.prog 19 #[nv n a, .slice PA ps.length pm, .int .i64 d] w (PossP n d w) := by
  have hml : maxLen = 9223372036854775807 := rfl
  obtain ⟨k1, k2, k3, k4, k5, k6⟩ := valid_parts hv
  obtain ⟨W1, hW1⟩ : ∃ W1, W1 = w.alloc (netB n a) := ⟨_, rfl⟩
  have G1 : Gr w W1 := by rw [hW1]; exact grAlloc _ _
  have A1 : W1.heap[w.heap.size]? = some (netB n a) := by rw [hW1]; exact newBlk _ _ _ rfl
  obtain ⟨a0, a1, a2⟩ := cells3 A1
  have HN := Lib.hid (fun wx (hg : Gr W1 wx) => hn.gr (Gr.tr G1 hg))
  have HP := Lib.hid (fun wx (hg : Gr W1 wx) => hp.gr (Gr.tr G1 hg))
  have HB := Lib.hid (fun wx (hg : Gr W1 wx) => cells3 (grBlk hg A1))
  have HG := Lib.hid G1
  have HV := Lib.hid hv
  have HD := Lib.hid (And.intro hd hpl)
  have K1 := Lib.hid (And.intro k1 (And.intro k2 k3))
  have K5 := Lib.hid (fun j => capsB_num k5 j)
  have K6 := Lib.hid (fun j => capsB_num k6 j)
  have mk := Lib.hid (fun k (hk : k ≤ 8) wx => mkI k (by omega) wx)
  have mk1 := mk.out n.c.length k1
  clear A1 hn hp G1 k3 k4 k5 k6 hv hd hpl
  go_enter Try.func19, Try.ntmps19
  go_upto_region 1 with fail
  rw [← hW1]
  clear hW1
  go_upto_region 2 with fail
  obtain ⟨W2, hW2⟩ : ∃ W2, W1.alloc (.cells (iC (List.replicate n.c.length 0)).toArray 3 (0, 0)) = W2 := ⟨_, rfl⟩
  have G2 : Gr W1 W2 := by rw [← hW2]; exact grAlloc _ _
  have L2 : W2.heap[W1.heap.size]? = some (.cells (iC (List.replicate n.c.length 0)).toArray 3 (0, 0)) := by rw [← hW2]; exact newBlk _ _ _ rfl
  obtain ⟨L, hL⟩ : ∃ L, W1.heap.size = L := ⟨_, rfl⟩
  rw [hW2, hL]
  rw [hL] at L2
  have HL := Lib.hid (Nat.le_of_eq hL)
  have L2 := Lib.hid L2
  have G2 := Lib.hid G2
  clear hW2 hL a0 a1 a2
  go_wp2
  go_loopg [8] (n.c.length) (fun gk s wr => ∃ (k : Nat) (left : List Int), k + gk = n.c.length ∧ s = .int .i64 k ∧ left.length = n.c.length ∧ Hid (∀ j, j < k → num left j = num n.c j * d) ∧ Hid (wr.heap[L]? = some (.cells (iC left).toArray 3 (0, 0))) ∧ Hid (Gr W1 wr))
  case atStart => exact ⟨0, List.replicate n.c.length 0, by omega, rfl, by simp, Lib.hid (fun j hj => absurd hj (by omega)), L2, G2⟩
  case round =>
    obtain ⟨k, left, hk, rfl, hll, hI, hL, hG⟩ := hrel
    clear L2 G2
    obtain ⟨a0, a1, a2⟩ := HB.out _ hG.out
    have hD := HD.out.1
    by_cases hlt : k < n.c.length
    · obtain ⟨g9, rfl⟩ : ∃ g, gk = g + 1 := ⟨gk - 1, by omega⟩
      obtain ⟨g, o, hA, hcs⟩ := (HN.out _ hG.out).1.addr (by omega)
      have p0 := hcs k (num n.c k) (by simp [num, hlt])
      rw [hA] at a0
      have hlc := iC_at hL.out (i := k) (by omega)
      have hfr : wr.frozen? ⟨L, k, none⟩ = false := by simp [World.frozen?, hL.out]
      have h5 := K5.out k
      have e1 : IntKind.i64.wrap (num n.c k * d) = num n.c k * d := by
        have := mulb1 h5 hD
        exact IntWalk.i64_in _ (by omega)
      have hq : IntKind.i64.wrap ((k : Int) + 1) = (k : Int) + 1 := IntWalk.i64_in _ (by omega)
      have hI2 := Lib.hid (show ∀ j, j < k + 1 → num (left.set k (num n.c k * d)) j = num n.c j * d from fun j hj => by
        rw [num_set _ _ (by omega)]
        split
        · rename_i e; rw [e]
        · exact hI.out j (by omega))
      clear hcs hI h5
      go_wp2
      go_roundg g9
      case rel => exact ⟨k + 1, left.set k (num n.c k * d), by omega, by go_num, by simp [hll], hI2, Lib.hid (iC_put hL.out _), Lib.hid (Below.setCell (p := ⟨L, k, none⟩) hG.out HL.out _)⟩
      case measure => omega
    · have mk2 := mk.out n.f.length k2
      go_upto_region 7 with fail
      obtain ⟨W3, hW3⟩ : ∃ W3, wr.alloc (.cells (iC (List.replicate n.f.length 0)).toArray 3 (0, 0)) = W3 := ⟨_, rfl⟩
      have G3 : Gr wr W3 := by rw [← hW3]; exact grAlloc _ _
      have O3 : W3.heap[wr.heap.size]? = some (.cells (iC (List.replicate n.f.length 0)).toArray 3 (0, 0)) := by rw [← hW3]; exact newBlk _ _ _ rfl
      have hOz := hG.out.size
      have hLz := blkLt hL.out
      obtain ⟨O, hO⟩ : ∃ O, wr.heap.size = O := ⟨_, rfl⟩
      rw [hW3, hO]
      rw [hO] at O3 hOz hLz
      have HW := Lib.hid (show PW W1 L O left (List.replicate n.f.length 0) W3 from ⟨hG.out.tr G3, HL.out, hOz, by omega, grBlk G3 hL.out, O3⟩)
      have HK := Lib.hid (pk_start HV.out hD.1 hll (fun j hj => hI.out j (by omega)))
      clear hW3 hO a0 a1 a2 hI hL hG hll hOz hLz G3 O3 mk1 mk2 mk hD
      go_wp2
      go_loopg [10] (n.f.length) (fun gk s wr => ∃ (k : Nat) (lf out : List Int), k + gk = n.f.length ∧ s = .int .i64 k ∧ Hid (PK n d k lf out) ∧ Hid (PW W1 L O lf out wr))
      case atStart => exact ⟨0, left, List.replicate n.f.length 0, by omega, rfl, HK, HW⟩
      case round =>
        clear HW HK
        rename_i wr0 gk0
        obtain ⟨k, lf, out, hk, rfl, hPK, hPW⟩ := hrel
        have hgr := hPW.out.gr
        obtain ⟨a0, a1, a2⟩ := HB.out _ hgr
        have hpl := HD.out.2
        have hq : IntKind.i64.wrap ((k : Int) + 1) = (k : Int) + 1 := IntWalk.i64_in _ (by omega)
        by_cases hlt : k < n.f.length
        · by_cases hlp : k < ps.length
          · obtain ⟨g9, rfl⟩ : ∃ g, gk = g + 1 := ⟨gk - 1, by omega⟩
            have hN1 := HN.out W1 (Below.refl _ _)
            obtain ⟨r, hr⟩ : ∃ r, n.f[k]?.getD [] = r := ⟨_, rfl⟩
            have hrk : n.f[k]? = some r := by rw [← hr, List.getElem?_eq_getElem hlt]; rfl
            have hrm : r ∈ n.f := List.mem_of_getElem? hrk
            have hrl : linksB n.c.length r = true := (valid_parts HV.out).2.2.2.1 r hrm
            have hr16 := links_len hrl
            have hrB : linkB n.c.length r 0 = true := by
              simp only [linksB, Bool.and_eq_true, decide_eq_true_eq] at hrl
              exact hrl.2
            obtain ⟨gF, oF, hAF, hcs⟩ := hN1.2.1.addr (by omega)
            obtain ⟨B, mB, hc1, hri⟩ := hcs k r hrk
            obtain ⟨gB, oB, rfl, hbs⟩ := hri.addr (by omega)
            obtain ⟨gL, oL, hAL, hcl⟩ := hN1.2.2.addr (by have := K1.out.2.2; omega)
            have hl1 := hcl k (num n.l k) (by have := K1.out.2.2; simp [num, show k < n.l.length by omega])
            obtain ⟨gP, oP, hAP, hcp⟩ := (HP.out W1 (Below.refl _ _)).addr (by omega)
            obtain ⟨q, hqk⟩ : ∃ q, ps[k]? = some q := ⟨_, List.getElem?_eq_getElem hlp⟩
            obtain ⟨pc1, pr1⟩ := hcp k q hqk
            have HR := Lib.hid (show (1 ≤ r.length ∧ r.length ≤ 6) ∧ ∀ j (h : j < r.length), ∃ p : Nat, r[j] = (p : Int) ∧ p < n.c.length from ⟨hr16, fun j h => by
              have := link_ge hrB _ (List.getElem_mem h)
              exact ⟨r[j].toNat, by omega, by omega⟩⟩)
            have HRB := Lib.hid (And.intro hrB hr)
            have HC := Lib.hid (And.intro hc1 (And.intro hbs (And.intro pc1 (And.intro pr1 trivial))))
            have hc := grCell hgr hc1
            have p2 := grCell hgr hl1
            rw [hAF] at a1
            rw [hAL] at a2
            rw [hAP]
            have HE := Lib.hid (And.intro hAP hAL)
            clear hN1 hr hrk hrm hrl hr16 hrB hcs hc1 hri hbs hcl hl1 hcp pc1 pr1 hqk hAP hAL
            have e2 : IntKind.i64.wrap (1000 * d) = 1000 * d := by have := HD.out.1; exact IntWalk.i64_in _ (by omega)
            have e3 : IntKind.i64.wrap (num n.l k * d) = num n.l k * d := by have := mulb1 (K6.out k) HD.out.1; exact IntWalk.i64_in _ (by omega)
            have hlk : k < n.l.length := by have := K1.out.2.2; omega
            obtain ⟨b, hb⟩ : ∃ b : Bool, decide ((0 : Int) < num n.l k) = b := ⟨_, rfl⟩
            cases b with
            | true =>
              have HMe := Lib.hid (show ∀ x, num n.l k * d = x → 0 ≤ x ∧ x ≤ 1000 * d ∧ (0 < num n.l k → x ≤ num n.l k * d) from fun x hm0 => by rw [← hm0]; have := mulb1 (K6.out k) HD.out.1; exact ⟨by omega, by have h1 : num n.l k * d ≤ 1000 * d := Int.mul_le_mul_of_nonneg_right (K6.out k).2 (by have := HD.out.1; omega); omega, fun _ => Int.le_refl _⟩)
              go_upto_region 13 with fail
              obtain ⟨m0, hm0⟩ : ∃ m0, num n.l k * d = m0 := ⟨_, rfl⟩
              have HM := Lib.hid (HMe.out m0 hm0)
              rw [hm0]
              clear HMe
              clear hm0 hb e2 e3 p2
              go_wp2
              go_loopg [11, 12] (r.length) (fun gk s11 s12 wx => ∃ (j : Nat) (m : Int), j + gk = r.length ∧ s11 = .int .i64 m ∧ s12 = .int .i64 j ∧ Hid (0 ≤ m ∧ m ≤ m0 ∧ ∀ i, i < j → m ≤ num lf ((r[i]?.getD 0).toNat)) ∧ Hid (PW W1 L O lf out wx))
              case atStart => exact ⟨0, m0, by omega, rfl, rfl, Lib.hid ⟨HM.out.1, Int.le_refl _, fun i hi => absurd hi (by omega)⟩, hPW⟩
              case round =>
                obtain ⟨j, m, hj, rfl, rfl, hMi, hPx⟩ := hrel
                clear hPW a0 a1 a2 hc
                have hgx := hPx.out.gr
                obtain ⟨a0, a1, a2⟩ := HB.out _ hgx
                rw [hAF] at a1
                have hc := grCell hgx HC.out.1
                have hr8 := HR.out
                by_cases hlj : j < r.length
                · obtain ⟨g8, rfl⟩ : ∃ g, gk = g + 1 := ⟨gk - 1, by omega⟩
                  obtain ⟨p, hp, hpc⟩ := hr8.2 j hlj
                  have hb1 := grCell hgx (HC.out.2.1 j (p : Int) (by rw [List.getElem?_eq_getElem hlj, hp]))
                  have hpl : p < lf.length := by rw [hPK.out.ll]; exact hpc
                  have hl1 := iC_at hPx.out.lft hpl
                  obtain ⟨m', hm'⟩ : ∃ m', m' = min m (num lf p) := ⟨_, rfl⟩
                  have em := run_min2 m (num lf p) m' hm'
                  have qj : IntKind.i64.wrap ((j : Int) + 1) = (j : Int) + 1 := IntWalk.i64_in _ (by omega)
                  have hMn := Lib.hid (show 0 ≤ m' ∧ m' ≤ m0 ∧ ∀ i, i < j + 1 → m' ≤ num lf ((r[i]?.getD 0).toNat) from by
                    have h1 := hMi.out
                    have h2 := hPK.out.pos p hpc
                    refine ⟨by omega, by omega, fun i hi => ?_⟩
                    by_cases e : i = j
                    · subst e
                      rw [List.getElem?_eq_getElem hlj, hp]
                      show m' ≤ num lf (Int.toNat (p : Int))
                      rw [Int.toNat_natCast]
                      omega
                    · have := h1.2.2 i (by omega); omega)
                  clear hm' hMi hr8 hp
                  go_wp2
                  go_roundg g8
                  case rel => exact ⟨j + 1, m', by omega, rfl, by go_num, hMn, hPx⟩
                  case measure => omega
                · have h1 := hMi.out
                  have pc := grCell hgx HC.out.2.2.1
                  have hout : k < out.length := by rw [hPK.out.lo]; exact hlt
                  have ho1 := iC_at hPx.out.outs hout
                  have hfo : wr.frozen? ⟨O, k, none⟩ = false := by simp [World.frozen?, hPx.out.outs]
                  have HM2 := HM.out
                  have hdb := HD.out.1
                  have hpr := HC.out.2.2.2.1
                  have e5 : IntKind.i64.wrap (m + 1) = m + 1 := IntWalk.i64_in _ (by omega)
                  have hlp3 := HD.out.2
                  have e6 : IntKind.i64.wrap q = q := IntWalk.i64_in _ (by omega)
                  have hz : ¬ m + 1 = 0 := by omega
                  have e7 : q.tmod (m + 1) = q % (m + 1) := Int.tmod_eq_emod_of_nonneg hpr.1
                  obtain ⟨v, hv⟩ : ∃ v, q % (m + 1) = v := ⟨_, rfl⟩
                  have hv0 : 0 ≤ v := by rw [← hv]; exact Int.emod_nonneg _ hz
                  have hv1 : v ≤ m := by have := Int.emod_lt_of_pos q (show 0 < m + 1 by omega); omega
                  have e8 : IntKind.i64.wrap v = v := IntWalk.i64_in _ (by omega)
                  rw [hv] at e7
                  have HVv := Lib.hid (show 0 ≤ v ∧ v ≤ 1000 * d ∧ (0 < num n.l k → v ≤ num n.l k * d) ∧ ∀ l : Nat, (l : Int) ∈ r → v ≤ num lf l from ⟨hv0, by omega, fun h => by have := HM2.2.2 h; omega, fun l hl => by
                    obtain ⟨i, hi, e⟩ := List.getElem_of_mem hl
                    have h2 := h1.2.2 i (by omega)
                    rw [List.getElem?_eq_getElem hi, e] at h2
                    have h3 : m ≤ num lf (Int.toNat (l : Int)) := h2
                    rw [Int.toNat_natCast] at h3
                    omega⟩)
                  clear hv hv0 hv1 h1 HM2 hMi
                  go_upto_region 18 with fail
                  have hPy := Lib.hid (hPx.out.setO k v)
                  generalize (wr.setCell ⟨O, k, none⟩ (.int .i64 v)) = wy at *
                  clear hPx hgx a0 a1 a2 hc pc ho1 hfo e5 e6 e7 e8 hz hpr
                  go_wp2
                  go_loopg [13] (r.length) (fun gk s wx => ∃ (j : Nat) (ly : List Int), j + gk = r.length ∧ s = .int .i64 j ∧ Hid (ly.length = lf.length ∧ ∀ l, num ly l = subJ lf r j v l) ∧ Hid (PW W1 L O ly (out.set k v) wx))
                  case atStart => exact ⟨0, lf, by omega, rfl, Lib.hid ⟨rfl, fun l => by simp [subJ]⟩, hPy⟩
                  case round =>
                    obtain ⟨j2, ly, hj2, rfl, hS, hPz⟩ := hrel
                    clear hPy
                    have hgz := hPz.out.gr
                    obtain ⟨a0, a1, a2⟩ := HB.out _ hgz
                    rw [hAF] at a1
                    have hc := grCell hgz HC.out.1
                    have hr8 := HR.out
                    by_cases hlj2 : j2 < r.length
                    · obtain ⟨g8, rfl⟩ : ∃ g, gk = g + 1 := ⟨gk - 1, by omega⟩
                      obtain ⟨p, hp, hpc⟩ := hr8.2 j2 hlj2
                      have hb1 := grCell hgz (HC.out.2.1 j2 (p : Int) (by rw [List.getElem?_eq_getElem hlj2, hp]))
                      have hpl : p < ly.length := by rw [hS.out.1, hPK.out.ll]; exact hpc
                      have hl1 := iC_at hPz.out.lft hpl
                      have ho1 := iC_at hPz.out.outs (i := k) (by simp [hout])
                      rw [num_set v k hout, if_pos rfl] at ho1
                      have hfo : wr.frozen? ⟨L, p, none⟩ = false := by simp [World.frozen?, hPz.out.lft]
                      have qj : IntKind.i64.wrap ((j2 : Int) + 1) = (j2 : Int) + 1 := IntWalk.i64_in _ (by omega)
                      have hSn := Lib.hid (show (ly.set p (num ly p - v)).length = lf.length ∧ ∀ l, num (ly.set p (num ly p - v)) l = subJ lf r (j2 + 1) v l from ⟨by simp [hS.out.1], subJ_succ HRB.out.1 hlj2 hp hpl hS.out.2⟩)
                      have e9 : IntKind.i64.wrap (num ly p - v) = num ly p - v := by
                        have h1 := hS.out.2 p
                        have h2 := hPK.out.pos p hpc
                        have h3 := hPK.out.top p hpc
                        have h4 := mulb1 (K5.out p) HD.out.1
                        have h5 := HVv.out
                        have h6 := HD.out.1
                        have h7 : -60000 ≤ num ly p ∧ num ly p ≤ 60000 := by
                          rw [h1]; unfold subJ; split <;> omega
                        exact IntWalk.i64_in _ (by omega)
                      clear hr8 hp hS
                      obtain ⟨z, hz⟩ : ∃ z, num ly p - v = z := ⟨_, rfl⟩
                      rw [hz] at e9 hSn
                      have HZ := Lib.hid hz
                      go_upto_region 21 with fail
                      have a1 : wr.drew.cell? ⟨w.heap.size, 1, none⟩ = some (.slice (some ⟨gF, oF, none⟩) n.f.length a.fm) := a1
                      have hc : wr.drew.cell? ⟨gF, oF + k, none⟩ = some (.slice (some ⟨gB, oB, none⟩) r.length mB) := hc
                      have hb1 : wr.drew.cell? ⟨gB, oB + j2, none⟩ = some (.int .i64 (p : Int)) := hb1
                      have hl1 : wr.drew.cell? ⟨L, p, none⟩ = some (.int .i64 (num ly p)) := hl1
                      have ho1 : wr.drew.cell? ⟨O, k, none⟩ = some (.int .i64 v) := ho1
                      have hfo : wr.drew.frozen? ⟨L, p, none⟩ = false := hfo
                      clear hgz a0 a2
                      go_region
                      go_wp2
                      go_roundg g8
                      case rel => exact ⟨j2 + 1, ly.set p z, by omega, by go_num, hSn, Lib.hid ((hPz.out.setL p z).up (grDrew _))⟩
                      case measure => omega
                    · have hrl : j2 = r.length := by omega
                      have hPn := Lib.hid (show PK n d (k + 1) ly (out.set k v) from by
                        obtain ⟨v1, v2, v3, v4⟩ := HVv.out
                        refine pk_step hPK.out hlt v1 v2 v3 (fun l hl => v4 l (by rw [HRB.out.2] at hl; exact hl)) hS.out.1 (fun l => ?_)
                        rw [HRB.out.2, ← hrl]
                        exact hS.out.2 l)
                      clear hrl hS hr8
                      go_wp2
                      rw [← HE.out.1]
                      go_roundg g9
                      case rel => exact ⟨k + 1, ly, out.set k v, by omega, by go_num, hPn, hPz⟩
                      case measure => omega

            | false =>
              have HMe := Lib.hid (show ∀ x, 1000 * d = x → 0 ≤ x ∧ x ≤ 1000 * d ∧ (0 < num n.l k → x ≤ num n.l k * d) from fun x hm0 => by rw [← hm0]; have := HD.out.1; exact ⟨by omega, Int.le_refl _, fun h => absurd h (by simpa using hb)⟩)
              go_upto_region 13 with fail
              obtain ⟨m0, hm0⟩ : ∃ m0, 1000 * d = m0 := ⟨_, rfl⟩
              have HM := Lib.hid (HMe.out m0 hm0)
              rw [hm0]
              clear HMe
              clear hm0 hb e2 e3 p2
              go_wp2
              go_loopg [11, 12] (r.length) (fun gk s11 s12 wx => ∃ (j : Nat) (m : Int), j + gk = r.length ∧ s11 = .int .i64 m ∧ s12 = .int .i64 j ∧ Hid (0 ≤ m ∧ m ≤ m0 ∧ ∀ i, i < j → m ≤ num lf ((r[i]?.getD 0).toNat)) ∧ Hid (PW W1 L O lf out wx))
              case atStart => exact ⟨0, m0, by omega, rfl, rfl, Lib.hid ⟨HM.out.1, Int.le_refl _, fun i hi => absurd hi (by omega)⟩, hPW⟩
              case round =>
                obtain ⟨j, m, hj, rfl, rfl, hMi, hPx⟩ := hrel
                clear hPW a0 a1 a2 hc
                have hgx := hPx.out.gr
                obtain ⟨a0, a1, a2⟩ := HB.out _ hgx
                rw [hAF] at a1
                have hc := grCell hgx HC.out.1
                have hr8 := HR.out
                by_cases hlj : j < r.length
                · obtain ⟨g8, rfl⟩ : ∃ g, gk = g + 1 := ⟨gk - 1, by omega⟩
                  obtain ⟨p, hp, hpc⟩ := hr8.2 j hlj
                  have hb1 := grCell hgx (HC.out.2.1 j (p : Int) (by rw [List.getElem?_eq_getElem hlj, hp]))
                  have hpl : p < lf.length := by rw [hPK.out.ll]; exact hpc
                  have hl1 := iC_at hPx.out.lft hpl
                  obtain ⟨m', hm'⟩ : ∃ m', m' = min m (num lf p) := ⟨_, rfl⟩
                  have em := run_min2 m (num lf p) m' hm'
                  have qj : IntKind.i64.wrap ((j : Int) + 1) = (j : Int) + 1 := IntWalk.i64_in _ (by omega)
                  have hMn := Lib.hid (show 0 ≤ m' ∧ m' ≤ m0 ∧ ∀ i, i < j + 1 → m' ≤ num lf ((r[i]?.getD 0).toNat) from by
                    have h1 := hMi.out
                    have h2 := hPK.out.pos p hpc
                    refine ⟨by omega, by omega, fun i hi => ?_⟩
                    by_cases e : i = j
                    · subst e
                      rw [List.getElem?_eq_getElem hlj, hp]
                      show m' ≤ num lf (Int.toNat (p : Int))
                      rw [Int.toNat_natCast]
                      omega
                    · have := h1.2.2 i (by omega); omega)
                  clear hm' hMi hr8 hp
                  go_wp2
                  go_roundg g8
                  case rel => exact ⟨j + 1, m', by omega, rfl, by go_num, hMn, hPx⟩
                  case measure => omega
                · have h1 := hMi.out
                  have pc := grCell hgx HC.out.2.2.1
                  have hout : k < out.length := by rw [hPK.out.lo]; exact hlt
                  have ho1 := iC_at hPx.out.outs hout
                  have hfo : wr.frozen? ⟨O, k, none⟩ = false := by simp [World.frozen?, hPx.out.outs]
                  have HM2 := HM.out
                  have hdb := HD.out.1
                  have hpr := HC.out.2.2.2.1
                  have e5 : IntKind.i64.wrap (m + 1) = m + 1 := IntWalk.i64_in _ (by omega)
                  have hlp3 := HD.out.2
                  have e6 : IntKind.i64.wrap q = q := IntWalk.i64_in _ (by omega)
                  have hz : ¬ m + 1 = 0 := by omega
                  have e7 : q.tmod (m + 1) = q % (m + 1) := Int.tmod_eq_emod_of_nonneg hpr.1
                  obtain ⟨v, hv⟩ : ∃ v, q % (m + 1) = v := ⟨_, rfl⟩
                  have hv0 : 0 ≤ v := by rw [← hv]; exact Int.emod_nonneg _ hz
                  have hv1 : v ≤ m := by have := Int.emod_lt_of_pos q (show 0 < m + 1 by omega); omega
                  have e8 : IntKind.i64.wrap v = v := IntWalk.i64_in _ (by omega)
                  rw [hv] at e7
                  have HVv := Lib.hid (show 0 ≤ v ∧ v ≤ 1000 * d ∧ (0 < num n.l k → v ≤ num n.l k * d) ∧ ∀ l : Nat, (l : Int) ∈ r → v ≤ num lf l from ⟨hv0, by omega, fun h => by have := HM2.2.2 h; omega, fun l hl => by
                    obtain ⟨i, hi, e⟩ := List.getElem_of_mem hl
                    have h2 := h1.2.2 i (by omega)
                    rw [List.getElem?_eq_getElem hi, e] at h2
                    have h3 : m ≤ num lf (Int.toNat (l : Int)) := h2
                    rw [Int.toNat_natCast] at h3
                    omega⟩)
                  clear hv hv0 hv1 h1 HM2 hMi
                  go_upto_region 18 with fail
                  have hPy := Lib.hid (hPx.out.setO k v)
                  generalize (wr.setCell ⟨O, k, none⟩ (.int .i64 v)) = wy at *
                  clear hPx hgx a0 a1 a2 hc pc ho1 hfo e5 e6 e7 e8 hz hpr
                  go_wp2
                  go_loopg [13] (r.length) (fun gk s wx => ∃ (j : Nat) (ly : List Int), j + gk = r.length ∧ s = .int .i64 j ∧ Hid (ly.length = lf.length ∧ ∀ l, num ly l = subJ lf r j v l) ∧ Hid (PW W1 L O ly (out.set k v) wx))
                  case atStart => exact ⟨0, lf, by omega, rfl, Lib.hid ⟨rfl, fun l => by simp [subJ]⟩, hPy⟩
                  case round =>
                    obtain ⟨j2, ly, hj2, rfl, hS, hPz⟩ := hrel
                    clear hPy
                    have hgz := hPz.out.gr
                    obtain ⟨a0, a1, a2⟩ := HB.out _ hgz
                    rw [hAF] at a1
                    have hc := grCell hgz HC.out.1
                    have hr8 := HR.out
                    by_cases hlj2 : j2 < r.length
                    · obtain ⟨g8, rfl⟩ : ∃ g, gk = g + 1 := ⟨gk - 1, by omega⟩
                      obtain ⟨p, hp, hpc⟩ := hr8.2 j2 hlj2
                      have hb1 := grCell hgz (HC.out.2.1 j2 (p : Int) (by rw [List.getElem?_eq_getElem hlj2, hp]))
                      have hpl : p < ly.length := by rw [hS.out.1, hPK.out.ll]; exact hpc
                      have hl1 := iC_at hPz.out.lft hpl
                      have ho1 := iC_at hPz.out.outs (i := k) (by simp [hout])
                      rw [num_set v k hout, if_pos rfl] at ho1
                      have hfo : wr.frozen? ⟨L, p, none⟩ = false := by simp [World.frozen?, hPz.out.lft]
                      have qj : IntKind.i64.wrap ((j2 : Int) + 1) = (j2 : Int) + 1 := IntWalk.i64_in _ (by omega)
                      have hSn := Lib.hid (show (ly.set p (num ly p - v)).length = lf.length ∧ ∀ l, num (ly.set p (num ly p - v)) l = subJ lf r (j2 + 1) v l from ⟨by simp [hS.out.1], subJ_succ HRB.out.1 hlj2 hp hpl hS.out.2⟩)
                      have e9 : IntKind.i64.wrap (num ly p - v) = num ly p - v := by
                        have h1 := hS.out.2 p
                        have h2 := hPK.out.pos p hpc
                        have h3 := hPK.out.top p hpc
                        have h4 := mulb1 (K5.out p) HD.out.1
                        have h5 := HVv.out
                        have h6 := HD.out.1
                        have h7 : -60000 ≤ num ly p ∧ num ly p ≤ 60000 := by
                          rw [h1]; unfold subJ; split <;> omega
                        exact IntWalk.i64_in _ (by omega)
                      clear hr8 hp hS
                      obtain ⟨z, hz⟩ : ∃ z, num ly p - v = z := ⟨_, rfl⟩
                      rw [hz] at e9 hSn
                      have HZ := Lib.hid hz
                      go_upto_region 21 with fail
                      have a1 : wr.drew.cell? ⟨w.heap.size, 1, none⟩ = some (.slice (some ⟨gF, oF, none⟩) n.f.length a.fm) := a1
                      have hc : wr.drew.cell? ⟨gF, oF + k, none⟩ = some (.slice (some ⟨gB, oB, none⟩) r.length mB) := hc
                      have hb1 : wr.drew.cell? ⟨gB, oB + j2, none⟩ = some (.int .i64 (p : Int)) := hb1
                      have hl1 : wr.drew.cell? ⟨L, p, none⟩ = some (.int .i64 (num ly p)) := hl1
                      have ho1 : wr.drew.cell? ⟨O, k, none⟩ = some (.int .i64 v) := ho1
                      have hfo : wr.drew.frozen? ⟨L, p, none⟩ = false := hfo
                      clear hgz a0 a2
                      go_region
                      go_wp2
                      go_roundg g8
                      case rel => exact ⟨j2 + 1, ly.set p z, by omega, by go_num, hSn, Lib.hid ((hPz.out.setL p z).up (grDrew _))⟩
                      case measure => omega
                    · have hrl : j2 = r.length := by omega
                      have hPn := Lib.hid (show PK n d (k + 1) ly (out.set k v) from by
                        obtain ⟨v1, v2, v3, v4⟩ := HVv.out
                        refine pk_step hPK.out hlt v1 v2 v3 (fun l hl => v4 l (by rw [HRB.out.2] at hl; exact hl)) hS.out.1 (fun l => ?_)
                        rw [HRB.out.2, ← hrl]
                        exact hS.out.2 l)
                      clear hrl hS hr8
                      go_wp2
                      rw [← HE.out.1]
                      go_roundg g9
                      case rel => exact ⟨k + 1, ly, out.set k v, by omega, by go_num, hPn, hPz⟩
                      case measure => omega

          · have hE := Lib.hid (pk_end hPK.out (by omega))
            go_wp2
            go_ret
            exact ⟨Gr.tr HG.out hgr, out, O, Nat.le_trans HG.out.size hPW.out.hO, hE.out, hPW.out.outs, by rw [hE.out.len]; rfl⟩
        · have hE := Lib.hid (pk_end hPK.out (by omega))
          go_wp2
          go_ret
          exact ⟨Gr.tr HG.out hgr, out, O, Nat.le_trans HG.out.size hPW.out.hO, hE.out, hPW.out.outs, by rw [hE.out.len]; rfl⟩
end Go.Proofs.Ytbjhdfakocfapaa
