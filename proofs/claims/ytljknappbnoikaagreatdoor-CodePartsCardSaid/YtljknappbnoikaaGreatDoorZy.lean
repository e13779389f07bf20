/- Texts of one proof: CxO, CxP, KzW. -/
import Derived.Test.YtljknappbnoikaaGreatDoorZs
import Derived.Test.YtljknappbnoikaaGreatDoorZx
import Derived.Laws.AppendOwnNone
import Derived.Test.YtljknappbnoikaaGreatDoorZd
set_option linter.unusedVariables false
set_option linter.unusedSimpArgs false
set_option maxRecDepth 100000
set_option maxHeartbeats 8000000
namespace Go.Proofs.YtljknappbnoikaaGreatDoor
open Go.RowKit
namespace C
theorem pgInfo : (Tryz.prog.info? 26).map (fun i => (i.zero, i.size, i.bytes)) = some (some (.agg zPg), 9, 176) := by kernel_rfl
theorem dgInfo : (Tryz.prog.info? 106).map (fun i => (i.zero, i.size, i.bytes)) = some (some (.agg #[.int .i64 0, .int .i64 0]), 2, 16) := by kernel_rfl
def okE {α : Type} : Except (Int × Int) α → Bool
 | .ok _ => true
 | .error _ => false
def BuildQ (b : Bool) (w : World) (e : Ending) (w' : World) : Prop := (∃ v G k cc, e = .returned (.tuple #[v, .slice G k cc]) ∧ decide (k = 0) = b) ∧ Below w.heap.size w w'
theorem pg_one (x : ByteArray) (VA : Option Addr) (n m : Nat) (wi pa : Int) : ∀ u ∈ (pgN x VA n m wi pa).toList, u.oneCell' = true := by
 intro u hu
 simp only [List.mem_cons, List.not_mem_nil, or_false] at hu
 rcases hu with rfl | rfl | rfl | rfl | rfl | rfl | rfl | rfl | rfl <;> rfl
def DvP (ok : Bool) (dv : Value) (w : World) : Prop := (ok = true ∧ dv = .slice none 0 0) ∨ (ok = false ∧ ∃ (g : Nat) (e1 e2 : Int), dv = .slice (some ⟨g, 0, none⟩) 1 1 ∧ w.heap[g]? = some (.cells #[.int .i64 e1, .int .i64 e2] 106 (0, 0)))
theorem DvP.bel {ok : Bool} {dv : Value} {w w' : World} (h : DvP ok dv w) (hg : Gr w w') : DvP ok dv w' := by
 rcases h with h | ⟨h1, g, e1, e2, h2, h3⟩
 ·exact .inl h
 ·exact .inr ⟨h1, g, e1, e2, h2, grBlk hg h3⟩
theorem DvP.keep {ok : Bool} {dv : Value} {w w' : World} {r : Nat} {xs : Array Value} (h : DvP ok dv w) (hr : w.heap[r]? = some (.cells xs 26 (0, 0))) (hk : ∀ k, k ≠ r → w'.heap[k]? = w.heap[k]?) : DvP ok dv w' := by
 rcases h with h | ⟨h1, g, e1, e2, h2, h3⟩
 ·exact .inl h
 ·refine .inr ⟨h1, g, e1, e2, h2, (hk g ?_).trans h3⟩
  rintro rfl
  rw [hr] at h3
  simp at h3
theorem bld_parts {x : ByteArray} {r : Except (Int × Int) (List U.Vr × Int × Int)} {w w' : World} {e : Ending} (h : BldP x r w e w') : ∃ y VA vn vm wi pa dv, e = .returned (.tuple #[.agg (pgN y VA vn vm wi pa), dv]) ∧ DvP (okE r) dv w' := by
 obtain ⟨he, -⟩ := h
 rcases r with d | ⟨vs, wi, pa⟩
 ·obtain ⟨g, he, hgg⟩ := he
  exact ⟨⟨#[]⟩, none, 0, 0, 0, 0, _, he, .inr ⟨rfl, g, d.1, d.2, rfl, hgg⟩⟩
 ·obtain ⟨VA, cv, he⟩ := he
  exact ⟨x, VA, _, _, wi, pa, _, he, .inl ⟨rfl, rfl⟩⟩
theorem Build_one (t it : Nd) (A : Option Addr) (c : Nat) (u0 : Nd) (us : List Nd) (w : World) (hP : LaidW w) (hw : 8 < w.heap.size) (hL : U.LaidW w) (hN : NmS t) (hk : t.kids = [it]) (h6 : it.kind = 6) (hK : KidsR w (From 0) t.kids A) (hn : it.kids.length ≤ 100000)
  (h8 : it.kids.filter (fun t => decide (t.kind = 8)) = []) (h9 : it.kids.filter (fun t => decide (t.kind = 9)) = u0 :: us) (h7 : ∀ t ∈ it.kids.filter (fun t => decide (t.kind = 7)), 3 ≤ t.kids.length) :
  Calls Tryz.prog 36 #[nv t A c] w (BuildQ (validN t && okE (progM [] it u0 us (it.kids.filter (fun t => decide (t.kind = 7))))) w) := by
 have HX := Lib.hid (newBlkC w (.cells (ndA t A c) 79) _ rfl)
 have HB := Lib.hid (bAllocC (o := .cells (ndA t A c) 79) (Below.refl w.heap.size w))
 obtain ⟨⟨c0, c1, c2, c3, c4, c5⟩, -⟩ := cells6 HX.out
 have hx := blkLtC HX.out
 have HV := Lib.hid (Valid_any t _ A c (hP.below HB.out hw) (Nat.lt_of_lt_of_le hw HB.out.size) hN (KidsR.bel hK HB.out))
 have HK := Lib.hid hK
 have HL := Lib.hid hL
 have hlen1 : Hid (t.kids.length ≤ 100000) := Lib.hid (by rw [hk]; simp)
 have h6f : Hid (t.kids.filter (fun t => decide (t.kind = 6)) = [it]) := Lib.hid (by rw [hk]; simp [h6])
 have h7 := Lib.hid h7
 have h8 := Lib.hid h8
 have h9 := Lib.hid h9
 clear hP hw hL hN hK hk h6
 go_enter Tryz.func36, Tryz.ntmps36
 generalize hvn : validN t = vn at *
 cases vn
 case false =>
  go_wp2_with (go_at_call 57; refine HV.out.mono ?_; rintro e w2 ⟨rfl, hb2⟩; have HB := Lib.hid (bCallC HB.out hb2); clear hb2)
  exact bodyPost_ret (v := .tuple #[.slice none 0 0, .slice (some ⟨w2.heap.size, 0, none⟩) 1 1]) (by simp [results, Tryz.results36, go_sem]) rfl ⟨⟨_, _, _, _, rfl, rfl⟩, bAllocC HB.out⟩
 case true =>
  obtain ⟨r, hr⟩ : ∃ r, progM [] it u0 us (it.kids.filter (fun t => decide (t.kind = 7))) = r := ⟨_, rfl⟩
  rw [hr, Bool.true_and]
  have hr := Lib.hid hr
  go_upto_region 6 with (first
   | (go_at_call 57; refine HV.out.mono ?_; rintro e w2 ⟨rfl, hb2⟩; have HX := Lib.hid ((hb2.block _ hx).trans HX.out); have HB := Lib.hid (bCallC HB.out hb2); clear c0 c1 c2 c3 c4 c5 hx hb2; obtain ⟨⟨c0, c1, c2, c3, c4, c5⟩, -⟩ := cells6 HX.out; have hx := blkLtC HX.out)
   | (go_at_call 58; refine (ofKind_any t.kids A (t.kids.length + c) 6 _ (KidsR.bel HK.out HB.out) hlen1.out).mono ?_; rintro e w3 ⟨⟨A1, a1, he, hk1⟩, hb3⟩; rw [h6f.out] at he hk1; subst he; have HB := Lib.hid (bCallC HB.out hb3); clear c0 c1 c2 c3 c4 c5 hx hb3))
  go_wp2_with fail
  obtain ⟨g1, o1, rfl⟩ := kids_addr hk1 (by simp)
  have hk1 := Lib.hid hk1
  go_loopg [4, 5, 7] 1 (fun gk p d i wr => (gk = 1 ∧ p = .slice none 0 0 ∧ d = .slice none 0 0 ∧ i = .int .i64 0 ∧ w3 = wr) ∨ (gk = 0 ∧ i = .int .i64 1 ∧ (∃ G k cc, d = .slice G k cc ∧ k ≤ 1 ∧ decide (k = 0) = okE r) ∧ Hid (Below w.heap.size w wr)))
  case atStart => exact .inl ⟨rfl, rfl, rfl, rfl, rfl⟩
  case round =>
   rcases hrel with ⟨rfl, rfl, rfl, rfl, rfl⟩ | ⟨rfl, rfl, ⟨G, k, cc, rfl, hk1', hkd⟩, hW⟩
   ·obtain ⟨A2, a2, ⟨k0, k1, k2, k3, k4, k5⟩, hK2⟩ := one_cells (kids_get _ _ _ hk1.out 0 it rfl)
    simp only [Nat.zero_mul, Nat.add_zero] at k0 k1 k2 k3 k4 k5
    have HBd : Hid (∀ wx, Gr w3 wx → Calls Tryz.prog 59 #[nv it A2 a2, .slice (some ⟨g1, o1, none⟩) 0 (1 + a1)] wx (BldP it.name r wx)) := Lib.hid (fun wx hg => by
     have hbx : Below w.heap.size w wx := HB.out.trans (hg.mono HB.out.size)
     have := build_any it A2 (some ⟨g1, o1, none⟩) a2 (1 + a1) [] u0 us wx (HL.out.below hbx) (KidsR.bel hK2 hg) trivial hn (by simp) h8.out h9.out h7.out
     rw [hr.out] at this
     simpa using this)
    clear hK2
    go_upto_region 9 with fail
    go_cut [8, 9] from 18 to 46 (fun s1 dv wx => ∃ pb x VA vn vm wi pa, s1 = .pointer (some ⟨pb, 0, none⟩) ∧ Hid (wx.heap[pb]? = some (.cells (pgN x VA vn vm wi pa) 26 (0, 0))) ∧ Hid (DvP (okE r) dv wx) ∧ Hid (Below w.heap.size w wx))
    case first =>
     refine wp_region_G (S := fun wq => Gr w3 wq) (by kernel_rfl) (grDrew _) (fun hHeld => ?_)
     have hSG : Hid (∀ wp wq : World, Gr w3 wp → Gr wp wq → Gr w3 wq) := Lib.hid (fun _ _ h k => h.tr k)
     have hmv := Lib.hid (fun (wq : World) (hq : Gr w3 wq) => And.intro (grCell hq k0) (And.intro (grCell hq k1) (And.intro (grCell hq k2) (And.intro (grCell hq k3) (And.intro (grCell hq k4) (grCell hq k5))))))
     first
      | (refine tk hSG 0 (v := ?_) rfl (by kernel_rfl) (fun _ _ _ h => h) (by rfl) ?_ hHeld ?_; rotate_left; focus (intro w' hSw; obtain ⟨k0, k1, k2, k3, k4, k5⟩ := hmv.out _ hSw; go_simp; (try with_reducible rfl)))
      | refine tn hSG 0 rfl (by kernel_rfl) (fun _ _ _ h => h) (by rfl) hHeld ?_
     (try simp only [zq1, zq2, zq3, Act.put, zq4, zq5, zq6])
     first
      | (refine tk hSG 1 (v := ?_) rfl (by kernel_rfl) (fun _ _ _ h => h) (by rfl) ?_ hHeld ?_; rotate_left; focus (intro w' hSw; obtain ⟨k0, k1, k2, k3, k4, k5⟩ := hmv.out _ hSw; go_simp; (try with_reducible rfl)))
      | refine tn hSG 1 rfl (by kernel_rfl) (fun _ _ _ h => h) (by rfl) hHeld ?_
     (try simp only [zq1, zq2, zq3, Act.put, zq4, zq5, zq6])
     refine tk hSG 2 (v := .pointer (some ⟨g1, o1, none⟩)) rfl (by kernel_rfl) (fun _ _ _ h => h) (by rfl) ?_ hHeld ?_
     focus (intro w' hSw; obtain ⟨k0, k1, k2, k3, k4, k5⟩ := hmv.out _ hSw; go_simp; (try (intro hq; omega)))
     (try simp only [zq1, zq2, zq3, Act.put, zq4, zq5, zq6])
     first
      | (refine tk hSG 3 (v := ?_) rfl (by kernel_rfl) (fun _ _ _ h => h) (by rfl) ?_ hHeld ?_; rotate_left; focus (intro w' hSw; obtain ⟨k0, k1, k2, k3, k4, k5⟩ := hmv.out _ hSw; go_simp; (try with_reducible rfl)))
      | refine tn hSG 3 rfl (by kernel_rfl) (fun _ _ _ h => h) (by rfl) hHeld ?_
     (try simp only [zq1, zq2, zq3, Act.put, zq4, zq5, zq6])
     first
      | (refine tk hSG 4 (v := ?_) rfl (by kernel_rfl) (fun _ _ _ h => h) (by rfl) ?_ hHeld ?_; rotate_left; focus (intro w' hSw; obtain ⟨k0, k1, k2, k3, k4, k5⟩ := hmv.out _ hSw; go_simp; (try with_reducible rfl)))
      | refine tn hSG 4 rfl (by kernel_rfl) (fun _ _ _ h => h) (by rfl) hHeld ?_
     (try simp only [zq1, zq2, zq3, Act.put, zq4, zq5, zq6])
     first
      | (refine tk hSG 5 (v := ?_) rfl (by kernel_rfl) (fun _ _ _ h => h) (by rfl) ?_ hHeld ?_; rotate_left; focus (intro w' hSw; obtain ⟨k0, k1, k2, k3, k4, k5⟩ := hmv.out _ hSw; go_simp; (try with_reducible rfl)))
      | refine tn hSG 5 rfl (by kernel_rfl) (fun _ _ _ h => h) (by rfl) hHeld ?_
     (try simp only [zq1, zq2, zq3, Act.put, zq4, zq5, zq6])
     refine tk hSG 6 (v := .slice (some ⟨g1, o1, none⟩) 0 (1 + a1)) rfl (by kernel_rfl) (fun _ _ _ h => h) (by rfl) ?_ hHeld ?_
     focus (intro w' hSw; obtain ⟨k0, k1, k2, k3, k4, k5⟩ := hmv.out _ hSw; go_simp; (try (intro hq; omega)))
     (try simp only [zq1, zq2, zq3, Act.put, zq4, zq5, zq6])
     refine wpAnyG_ready (rs := [7, 11]) (by kernel_rfl) (by simp) (AllG.cons rfl (fun w4 hg K hK => ?_) (AllG.cons rfl (fun w4 hg K hK => ?_) AllG.nil))
     ·skip
      have hgS := hSG.out _ _ hHeld.out hg
      go_simp
      go_at_call 59
      refine (HBd.out w4 hgS).mono ?_
      intro e w5 hbl
      obtain ⟨x, VA, vn, vm, wi, pa, dv, he2, hdv⟩ := bld_parts hbl
      subst he2
      have hdv := Lib.hid hdv
      refine hK.out _ _ (hgS.tr hbl.2) (fun hHeld => ?_)
      have hg5 := hgS.tr hbl.2
      clear hK K hg hgS hbl
      first
       | (refine tk hSG 8 (v := ?_) rfl (by kernel_rfl) (fun _ _ _ h => h) (by rfl) ?_ hHeld ?_; rotate_left; focus (intro w' hSw; obtain ⟨k0, k1, k2, k3, k4, k5⟩ := hmv.out _ hSw; go_simp; (try with_reducible rfl)))
       | refine tn hSG 8 rfl (by kernel_rfl) (fun _ _ _ h => h) (by rfl) hHeld ?_
      (try simp only [zq1, zq2, zq3, Act.put, zq4, zq5, zq6])
      first
       | (refine tk hSG 9 (v := ?_) rfl (by kernel_rfl) (fun _ _ _ h => h) (by rfl) ?_ hHeld ?_; rotate_left; focus (intro w' hSw; obtain ⟨k0, k1, k2, k3, k4, k5⟩ := hmv.out _ hSw; go_simp; (try with_reducible rfl)))
       | refine tn hSG 9 rfl (by kernel_rfl) (fun _ _ _ h => h) (by rfl) hHeld ?_
      (try simp only [zq1, zq2, zq3, Act.put, zq4, zq5, zq6])
      first
       | (refine tk hSG 10 (v := ?_) rfl (by kernel_rfl) (fun _ _ _ h => h) (by rfl) ?_ hHeld ?_; rotate_left; focus (intro w' hSw; obtain ⟨k0, k1, k2, k3, k4, k5⟩ := hmv.out _ hSw; go_simp; (try with_reducible rfl)))
       | refine tn hSG 10 rfl (by kernel_rfl) (fun _ _ _ h => h) (by rfl) hHeld ?_
      (try simp only [zq1, zq2, zq3, Act.put, zq4, zq5, zq6])
      refine wpAnyG_ready (rs := [11]) (by kernel_rfl) (by simp) (AllG.cons rfl (fun w6 hg K hK => ?_) AllG.nil)
      have hgS := hSG.out _ _ hHeld.out hg
      go_simp
      refine hK.out _ _ (hgS.tr (grAlloc _ _)) (fun hHeld => ?_)
      have hs6 := hgS.size
      have HP := Lib.hid (newBlkC w6 (.cells zPg 26) _ rfl)
      have hdv := Lib.hid ((hdv.out.bel hg).bel (grAlloc w6 (.cells zPg 26)))
      clear hK K hg hgS
      refine wpAnyG_ready (rs := [12]) (by kernel_rfl) (by simp) (AllG.cons rfl (fun w7 hg K hK => ?_) AllG.nil)
      have hgS := hSG.out _ _ hHeld.out hg
      have HP := Lib.hid (grBlk hg HP.out)
      have hdv := Lib.hid (hdv.out.bel hg)
      have HPz := HP.out
      obtain ⟨⟨p0, p1, p2, p3, p4, p5, p6, p7, p8⟩, hfz⟩ := cells9C HP.out
      have d0 := hfz 0 (by omega)
      have d1 := hfz 1 (by omega)
      have d2 := hfz 2 (by omega)
      have d3 := hfz 3 (by omega)
      have d4 := hfz 4 (by omega)
      have d5 := hfz 5 (by omega)
      have d6 := hfz 6 (by omega)
      have d7 := hfz 7 (by omega)
      have d8 := hfz 8 (by omega)
      clear hfz
      go_simp
      refine hK.out _ _ (below9C hgS hs6) (fun hHeld => ?_)
      have HP := Lib.hid (res9C (x0 := .string x) (x1 := .slice VA vn vm) (x2 := .slice none 0 0) (x3 := .slice none 0 0) (x4 := .slice none 0 0) (x5 := .slice none 0 0) (x6 := .slice none 0 0) (x7 := .int .i64 wi) (x8 := .int .i64 pa) HP.out)
      have hdv := Lib.hid (hdv.out.keep HPz (fun k hk => below9k (x0 := .string x) (x1 := .slice VA vn vm) (x2 := .slice none 0 0) (x3 := .slice none 0 0) (x4 := .slice none 0 0) (x5 := .slice none 0 0) (x6 := .slice none 0 0) (x7 := .int .i64 wi) (x8 := .int .i64 pa) hk))
      clear hK K p0 p1 p2 p3 p4 p5 p6 p7 p8 d0 d1 d2 d3 d4 d5 d6 d7 d8 hg hgS HPz
      first
       | (refine tk hSG 13 (v := ?_) rfl (by kernel_rfl) (fun _ _ _ h => h) (by rfl) ?_ hHeld ?_; rotate_left; focus (intro w' hSw; obtain ⟨k0, k1, k2, k3, k4, k5⟩ := hmv.out _ hSw; go_simp; (try with_reducible rfl)))
       | refine tn hSG 13 rfl (by kernel_rfl) (fun _ _ _ h => h) (by rfl) hHeld ?_
      (try simp only [zq1, zq2, zq3, Act.put, zq4, zq5, zq6])
      refine wpAnyG_done (by kernel_rfl) (fun w8 hg => ?_) _
      have hg8 := hSG.out _ _ hHeld.out hg
      have HP := Lib.hid (grBlk hg HP.out)
      have hdv := Lib.hid (hdv.out.bel hg)
      have HB8 := Lib.hid (HB.out.trans (hg8.mono HB.out.size))
      clear hg hg8 hHeld hSG
      go_wp2
      go_meet
      exact ⟨_, x, VA, vn, vm, wi, pa, rfl, HP, hdv, HB8⟩
     ·skip
      have hgS := hSG.out _ _ hHeld.out hg
      go_simp
      refine hK.out _ _ (hgS.tr (grAlloc _ _)) (fun hHeld => ?_)
      have hs4 := hgS.size
      have HP := Lib.hid (newBlkC w4 (.cells zPg 26) _ rfl)
      clear hK K hg hgS
      refine wpAnyG_ready (rs := [7]) (by kernel_rfl) (by simp) (AllG.cons rfl (fun w6 hg K hK => ?_) AllG.nil)
      have hgS := hSG.out _ _ hHeld.out hg
      have HP := Lib.hid (grBlk hg HP.out)
      go_simp
      go_at_call 59
      refine (HBd.out w6 hgS).mono ?_
      intro e w5 hbl
      obtain ⟨x, VA, vn, vm, wi, pa, dv, he2, hdv⟩ := bld_parts hbl
      subst he2
      have hdv := Lib.hid hdv
      have HP := Lib.hid (grBlk hbl.2 HP.out)
      refine hK.out _ _ (hgS.tr hbl.2) (fun hHeld => ?_)
      clear hK K hg hgS hbl
      first
       | (refine tk hSG 8 (v := ?_) rfl (by kernel_rfl) (fun _ _ _ h => h) (by rfl) ?_ hHeld ?_; rotate_left; focus (intro w' hSw; obtain ⟨k0, k1, k2, k3, k4, k5⟩ := hmv.out _ hSw; go_simp; (try with_reducible rfl)))
       | refine tn hSG 8 rfl (by kernel_rfl) (fun _ _ _ h => h) (by rfl) hHeld ?_
      (try simp only [zq1, zq2, zq3, Act.put, zq4, zq5, zq6])
      first
       | (refine tk hSG 9 (v := ?_) rfl (by kernel_rfl) (fun _ _ _ h => h) (by rfl) ?_ hHeld ?_; rotate_left; focus (intro w' hSw; obtain ⟨k0, k1, k2, k3, k4, k5⟩ := hmv.out _ hSw; go_simp; (try with_reducible rfl)))
       | refine tn hSG 9 rfl (by kernel_rfl) (fun _ _ _ h => h) (by rfl) hHeld ?_
      (try simp only [zq1, zq2, zq3, Act.put, zq4, zq5, zq6])
      first
       | (refine tk hSG 10 (v := ?_) rfl (by kernel_rfl) (fun _ _ _ h => h) (by rfl) ?_ hHeld ?_; rotate_left; focus (intro w' hSw; obtain ⟨k0, k1, k2, k3, k4, k5⟩ := hmv.out _ hSw; go_simp; (try with_reducible rfl)))
       | refine tn hSG 10 rfl (by kernel_rfl) (fun _ _ _ h => h) (by rfl) hHeld ?_
      (try simp only [zq1, zq2, zq3, Act.put, zq4, zq5, zq6])
      refine wpAnyG_ready (rs := [12]) (by kernel_rfl) (by simp) (AllG.cons rfl (fun w7 hg K hK => ?_) AllG.nil)
      have hgS := hSG.out _ _ hHeld.out hg
      have HP := Lib.hid (grBlk hg HP.out)
      have hdv := Lib.hid (hdv.out.bel hg)
      have HPz := HP.out
      obtain ⟨⟨p0, p1, p2, p3, p4, p5, p6, p7, p8⟩, hfz⟩ := cells9C HP.out
      have d0 := hfz 0 (by omega)
      have d1 := hfz 1 (by omega)
      have d2 := hfz 2 (by omega)
      have d3 := hfz 3 (by omega)
      have d4 := hfz 4 (by omega)
      have d5 := hfz 5 (by omega)
      have d6 := hfz 6 (by omega)
      have d7 := hfz 7 (by omega)
      have d8 := hfz 8 (by omega)
      clear hfz
      go_simp
      refine hK.out _ _ (below9C hgS hs4) (fun hHeld => ?_)
      have HP := Lib.hid (res9C (x0 := .string x) (x1 := .slice VA vn vm) (x2 := .slice none 0 0) (x3 := .slice none 0 0) (x4 := .slice none 0 0) (x5 := .slice none 0 0) (x6 := .slice none 0 0) (x7 := .int .i64 wi) (x8 := .int .i64 pa) HP.out)
      have hdv := Lib.hid (hdv.out.keep HPz (fun k hk => below9k (x0 := .string x) (x1 := .slice VA vn vm) (x2 := .slice none 0 0) (x3 := .slice none 0 0) (x4 := .slice none 0 0) (x5 := .slice none 0 0) (x6 := .slice none 0 0) (x7 := .int .i64 wi) (x8 := .int .i64 pa) hk))
      clear hK K p0 p1 p2 p3 p4 p5 p6 p7 p8 d0 d1 d2 d3 d4 d5 d6 d7 d8 hg hgS HPz
      first
       | (refine tk hSG 13 (v := ?_) rfl (by kernel_rfl) (fun _ _ _ h => h) (by rfl) ?_ hHeld ?_; rotate_left; focus (intro w' hSw; obtain ⟨k0, k1, k2, k3, k4, k5⟩ := hmv.out _ hSw; go_simp; (try with_reducible rfl)))
       | refine tn hSG 13 rfl (by kernel_rfl) (fun _ _ _ h => h) (by rfl) hHeld ?_
      (try simp only [zq1, zq2, zq3, Act.put, zq4, zq5, zq6])
      refine wpAnyG_done (by kernel_rfl) (fun w8 hg => ?_) _
      have hg8 := hSG.out _ _ hHeld.out hg
      have HP := Lib.hid (grBlk hg HP.out)
      have hdv := Lib.hid (hdv.out.bel hg)
      have HB8 := Lib.hid (HB.out.trans (hg8.mono HB.out.size))
      clear hg hg8 hHeld hSG
      go_wp2
      go_meet
      exact ⟨_, x, VA, vn, vm, wi, pa, rfl, HP, hdv, HB8⟩
    case rest =>
     obtain ⟨pb, x, VA, vn, vm, wi, pa, rfl, HP, hdv, HB8⟩ := hcut
     have hp := blkLtC HP.out
     obtain ⟨⟨p0, p1, p2, p3, p4, p5, p6, p7, p8⟩, -⟩ := cells9C HP.out
     obtain ⟨ip, hpi, hp0, hp1, hp2⟩ := info_parts pgInfo
     obtain ⟨id, hdi, hd0, hd1, hd2⟩ := info_parts dgInfo
     have hs8 := HB8.out.size
     clear HV HX HBd k0 k1 k2 k3 k4 k5
     go_wp2_with (at_builtin; refine wpList_append_lies _ rfl _ _ 73 rfl w.heap.size 26 ip (.agg zPg) 9 176 Tryz.underlying73 hpi hp0 hp1 hp2 rfl (by decide) _ 0 [] rfl (World.ownsRow_nil _ _ _ _) ⟨wc.heap.size, 0, none⟩ 1 1 (pgN x VA vn vm wi pa).toList rfl rfl (World.news_of_block (cs := pgN x VA vn vm wi pa) (t := 26) (fr := (0, 0)) (newBlkC _ _ _ rfl)) (pg_one _ _ _ _ _ _) (by decide) ?c3 ?c4 ?c5 (wc.heap.size + 1) ?c6 ?_)
     case c3 => unfold maxLen; omega
     case c4 => omega
     case c5 => simp; omega
     case c6 => simp
     intro gb cap w9 hown9 hgrow hat hlt9
     have HB9 := Lib.hid ((bAllocC HB8.out).trans (gbBelowC hgrow (by simp; omega) (fun k e => by simp [Value.ownBlock] at e)))
     have hs9 := hgrow.size
     rcases hdv.out with ⟨hok, hdv2⟩ | ⟨hok, g, e1, e2, hdv2, hgg⟩
     ·subst hdv2
      go_wp2_with (at_builtin; refine wpList_append_own_none rfl _ _ 74 rfl w.heap.size 106 id 2 Tryz.underlying74 hdi _ 0 [] rfl (World.ownsRow_nil _ _ _ _) rfl ?_)
      go_wp2
      go_roundg 0
      case measure => omega
      case rel => exact .inr ⟨rfl, by go_num, ⟨_, _, _, rfl, by omega, by rw [hok]; rfl⟩, HB9⟩
     ·subst hdv2
      have hgg9 := (hgrow.block _ (by simp; have := (Array.getElem?_eq_some_iff.1 hgg).1; omega) (by simp [Value.ownBlock])).trans ((Below.heap_alloc _ _ _ (Array.getElem?_eq_some_iff.1 hgg).1).trans hgg)
      go_wp2_with (at_builtin; refine wpList_append_lies _ rfl _ _ 74 rfl w.heap.size 106 id (.agg #[.int .i64 0, .int .i64 0]) 2 16 Tryz.underlying74 hdi hd0 hd1 hd2 rfl (by decide) _ 0 [] rfl (World.ownsRow_nil _ _ _ _) ⟨g, 0, none⟩ 1 1 [.int .i64 e1, .int .i64 e2] rfl rfl ?c1 ?c2 (by decide) ?c3 ?c4 ?c5 w9.heap.size rfl ?_)
      case c1 => exact World.news_of_block (cs := #[.int .i64 e1, .int .i64 e2]) (t := 106) (fr := (0, 0)) hgg9
      case c2 => intro u hu; simp only [List.mem_cons, List.not_mem_nil, or_false] at hu; rcases hu with rfl | rfl <;> rfl
      case c3 => unfold maxLen; omega
      case c4 => omega
      case c5 => have := HB9.out.size; omega
      intro gb2 cap2 w10 hown10 hgrow2 hat2 hlt10
      have HB10 := Lib.hid (HB9.out.trans (gbBelowC hgrow2 (by have := HB9.out.size; omega) (fun k e => by simp [Value.ownBlock] at e)))
      go_wp2
      go_roundg 0
      case measure => omega
      case rel => exact .inr ⟨rfl, by go_num, ⟨_, _, _, rfl, by omega, by rw [hok]; rfl⟩, HB10⟩
   ·by_cases h0 : k = 0
    ·subst h0
     go_wp2_with fail
     exact bodyPost_ret (v := .tuple #[u4, .slice none 0 0]) (by simp [results, Tryz.results36, go_sem]) rfl ⟨⟨_, _, _, _, rfl, hkd⟩, hW.out⟩
    ·have hk1 : k = 1 := by omega
     subst hk1
     go_wp2_with fail
     exact bodyPost_ret (v := .tuple #[.slice none 0 0, .slice G 1 cc]) (by simp [results, Tryz.results36, go_sem]) rfl ⟨⟨_, _, _, _, rfl, hkd⟩, hW.out⟩
end C
end Go.Proofs.YtljknappbnoikaaGreatDoor
namespace Go.Proofs.YtljknappbnoikaaGreatDoor
open Go.RowKit
namespace C
def inB (n : Int) (l : Nat) : Bool := decide (0 ≤ n) && decide (n < l)
theorem isIndex_any (n l : Int) (w : World) : Calls Tryz.prog 35 #[.int .i64 n, .int .i64 l] w (V1 (.bool (decide (0 ≤ n) && decide (n < l))) w) := by
 by_cases h : 0 ≤ n
 ·have h1 : decide (0 ≤ n) = true := by simp [h]
  rw [h1]
  go_enter Tryz.func35, Tryz.ntmps35
  go_wp2
  go_ret
  exact ⟨by simp, Below.refl _ _⟩
 ·have h1 : decide (0 ≤ n) = false := by simp; omega
  rw [h1]
  go_enter Tryz.func35, Tryz.ntmps35
  go_wp2
  go_ret
  exact ⟨by simp, Below.refl _ _⟩
def usesM (vs : List U.Vr) (pa : Int) : List Nd := if pa = -1 then [] else [useNd 1 (nameAt vs pa)]
theorem decl8 (vs : List U.Vr) (wi pa : Int) : (declKids vs wi pa).filter (fun t => decide (t.kind = 8)) = [] := by
 unfold declKids
 rw [List.filter_append, List.filter_eq_nil_iff.2 (by intro t ht; obtain ⟨v, -, rfl⟩ := List.mem_map.1 ht; simp [vNd, Nd.kind]), List.nil_append]
 by_cases h : pa = -1 <;> simp [h, useNd, Nd.kind]
theorem decl9 (vs : List U.Vr) (wi pa : Int) : (declKids vs wi pa).filter (fun t => decide (t.kind = 9)) = useNd 0 (nameAt vs wi) :: usesM vs pa := by
 unfold declKids usesM
 rw [List.filter_append, List.filter_eq_nil_iff.2 (by intro t ht; obtain ⟨v, -, rfl⟩ := List.mem_map.1 ht; simp [vNd, Nd.kind]), List.nil_append]
 by_cases h : pa = -1 <;> simp [h, useNd, Nd.kind]
theorem decl7 (vs : List U.Vr) (wi pa : Int) : (declKids vs wi pa).filter (fun t => decide (t.kind = 7)) = vs.map vNd := by
 unfold declKids
 rw [List.filter_append, List.filter_eq_self.2 (by intro t ht; obtain ⟨v, -, rfl⟩ := List.mem_map.1 ht; simp [vNd, Nd.kind])]
 by_cases h : pa = -1 <;> simp [h, useNd, Nd.kind]
theorem nameAt_size (vs : List U.Vr) (k : Int) (hv : ∀ v ∈ vs, v.x.size ≤ maxLen) : (nameAt vs k).size ≤ maxLen := by
 unfold nameAt
 rcases h : vs[k.toNat]? with _ | v
 ·exact Nat.zero_le _
 ·exact hv v (List.mem_of_getElem? h)
theorem NmSs_iff : ∀ (l : List Nd), NmSs l ↔ ∀ t ∈ l, NmS t
 | [] => by simp [NmSs]
 | t :: ts => by simp [NmSs, NmSs_iff ts]
theorem decl_nm (x : ByteArray) (vs : List U.Vr) (wi pa : Int) (hx : x.size ≤ maxLen) (hv : ∀ v ∈ vs, v.x.size ≤ maxLen) (hl : vs.length ≤ 1000) : NmS (declNd x vs wi pa) := by
 have hz : (⟨#[]⟩ : ByteArray).size ≤ maxLen := Nat.zero_le _
 have hnum : ∀ n, NmS (numNd n) := fun n => by unfold numNd NmS; exact ⟨hz, Nat.zero_le _, by unfold NmSs; trivial⟩
 have huse : ∀ n y, y.size ≤ maxLen → NmS (useNd n y) := fun n y h => by unfold useNd NmS; exact ⟨h, Nat.zero_le _, by unfold NmSs; trivial⟩
 have hlen : (declKids vs wi pa).length ≤ maxLen := by
  unfold declKids maxLen
  by_cases h : pa = -1 <;> simp [h] <;> omega
 unfold declNd NmS
 refine ⟨hz, by simp [maxLen], ?_⟩
 rw [NmSs_iff]
 intro t ht
 obtain rfl := List.mem_singleton.1 ht
 unfold NmS
 refine ⟨hx, hlen, ?_⟩
 rw [NmSs_iff]
 intro t ht
 unfold declKids at ht
 rcases List.mem_append.1 ht with ht | ht
 ·obtain ⟨v, hvm, rfl⟩ := List.mem_map.1 ht
  unfold vNd NmS
  refine ⟨hv v hvm, by simp [maxLen], ?_⟩
  rw [NmSs_iff]
  intro t ht
  simp only [List.mem_cons, List.not_mem_nil, or_false] at ht
  rcases ht with rfl | rfl | rfl <;> exact hnum _
 ·rcases List.mem_cons.1 ht with rfl | ht
  ·exact huse _ _ (nameAt_size vs wi hv)
  ·by_cases h : pa = -1
   ·rw [if_pos h] at ht; cases ht
   ·rw [if_neg h] at ht
    obtain rfl := List.mem_singleton.1 ht
    exact huse _ _ (nameAt_size vs pa hv)
def declB (x : ByteArray) (vs : List U.Vr) (wi pa : Int) : Bool := validN (declNd x vs wi pa) && okE (progM [] (.mk 6 x 0 0 0 (declKids vs wi pa)) (useNd 0 (nameAt vs wi)) (usesM vs pa) (vs.map vNd))
def valPM (x : ByteArray) (vs : List U.Vr) (on : List (List U.St)) (wi pa : Int) : Bool :=
 decide ((U.checkM (vs.map (·.u)) on).2 = 0) && (inB wi vs.length && ((decide (pa = -1) || inB pa vs.length) && declB x vs wi pa))
theorem declBuild (x : ByteArray) (vs : List U.Vr) (wi pa : Int) (A : Option Addr) (c : Nat) (w : World) (hP : LaidW w) (hw : 8 < w.heap.size) (hL : U.LaidW w) (hx : x.size ≤ maxLen) (hv : ∀ v ∈ vs, v.x.size ≤ maxLen) (hl : vs.length ≤ 1000)
  (hK : KidsR w (From 0) (declNd x vs wi pa).kids A) : Calls Tryz.prog 36 #[nv (declNd x vs wi pa) A c] w (BuildQ (declB x vs wi pa) w) := by
 have h := Build_one (declNd x vs wi pa) (.mk 6 x 0 0 0 (declKids vs wi pa)) A c (useNd 0 (nameAt vs wi)) (usesM vs pa) w hP hw hL (decl_nm x vs wi pa hx hv hl) rfl rfl hK
  (by show (declKids vs wi pa).length ≤ 100000; unfold declKids; by_cases h : pa = -1 <;> simp [h] <;> omega) (decl8 vs wi pa) (decl9 vs wi pa)
  (by show ∀ t ∈ (declKids vs wi pa).filter (fun t => decide (t.kind = 7)), _; rw [decl7]; intro t ht; obtain ⟨v, -, rfl⟩ := List.mem_map.1 ht; simp [vNd, Nd.kids])
 have e : (Nd.mk 6 x 0 0 0 (declKids vs wi pa)).kids.filter (fun t => decide (t.kind = 7)) = vs.map vNd := decl7 vs wi pa
 rw [e] at h
 exact h
theorem CValid_any (x : ByteArray) (vs : List U.Vr) (VA : Option Addr) (vm : Nat) (o : U.On) (a : U.OnA) (wi pa : Int) (w : World) (hP : LaidW w) (hw : 8 < w.heap.size) (hL : U.LaidW w) (hV : U.VarsR w vs VA) (hO : U.OnR w o a) (hx : x.size ≤ maxLen) (hv : ∀ v ∈ vs, v.x.size ≤ maxLen) :
  Calls Tryz.prog 18 #[U.pgv x VA vs.length vm o a wi pa] w (V1 (.bool (valPM x vs o.list wi pa)) w) := by
 have HX := Lib.hid (newBlkC w (.cells (U.pgArr x VA vs.length vm o a wi pa) 26) _ rfl)
 have HB := Lib.hid (bAllocC (o := .cells (U.pgArr x VA vs.length vm o a wi pa) 26) (Below.refl w.heap.size w))
 obtain ⟨⟨p0, p1, p2, p3, p4, p5, p6, p7, p8⟩, -⟩ := cells9C HX.out
 have hx0 := blkLtC HX.out
 have HC := Lib.hid (U.Check_any x vs VA vm o a wi pa _ (hL.below HB.out) (hV.below HB.out) (hO.below HB.out))
 unfold valPM
 have hsc : (U.checkM (vs.map (·.u)) o.list).2 = 0 → vs.length ≤ 1000 := fun h => by
  unfold U.checkM at h
  rcases hs : U.scopeM (vs.map (·.u)) with _ | s
  ·rw [hs] at h; simp at h
  ·unfold U.scopeM at hs
   split at hs
   ·rename_i h1
    have := h1.1
    simp at this
    omega
   ·cases hs
 generalize hcm : U.checkM (vs.map (·.u)) o.list = cm at *
 have hcm := Lib.hid hcm
 by_cases h0 : cm.2 = 0
 case neg =>
  have h0b : (cm.2 != 0) = true := by simp [h0]
  have h0d : decide (cm.2 = 0) = false := by simp [h0]
  rw [h0d, Bool.false_and]
  clear hP hL hV hO hv hsc
  go_enter Tryz.func18, Tryz.ntmps18
  go_wp2_with (go_at_call 34; refine HC.out.mono ?_; rintro e w2 ⟨rfl, hb2⟩; have HX := Lib.hid ((hb2.block _ hx0).trans HX.out); have HB := Lib.hid (bCallC HB.out hb2); clear p0 p1 p2 p3 p4 p5 p6 p7 p8 hx0 hb2; obtain ⟨⟨p0, p1, p2, p3, p4, p5, p6, p7, p8⟩, -⟩ := cells9C HX.out; have hx0 := blkLtC HX.out)
  go_ret
  exact ⟨rfl, HB.out⟩
 case pos =>
  have hlen := hsc h0
  rw [h0, show decide ((0 : Int) = 0) = true from rfl, Bool.true_and]
  have h0b : (cm.2 != 0) = false := by simp [h0]
  have HD0 : Hid (∀ wx, Below w.heap.size w wx → (0 ≤ wi ∧ wi < vs.length) → (pa = -1 ∨ (0 ≤ pa ∧ pa < vs.length)) → Calls Tryz.prog 37 #[U.pgv x VA vs.length vm o a wi pa] wx (TreeP (declNd x vs wi pa) wx)) := Lib.hid (fun wx hb h1 h2 => declarations_any x vs VA vm o a wi pa wx (hV.below hb) hlen h1 h2)
  have HBd : Hid (∀ wx, Below w.heap.size w wx → ∀ A4 c4, KidsR wx (From 0) (declNd x vs wi pa).kids A4 → Calls Tryz.prog 36 #[nv (declNd x vs wi pa) A4 c4] wx (BuildQ (declB x vs wi pa) wx)) := Lib.hid (fun wx hb A4 c4 hk => declBuild x vs wi pa A4 c4 wx (hP.below hb hw) (Nat.lt_of_lt_of_le hw hb.size) (hL.below hb) hx hv hlen hk)
  generalize declB x vs wi pa = db at *
  generalize declNd x vs wi pa = dn at *
  clear hP hL hV hO hv hsc hx hw
  rcases hi : (decide (0 ≤ wi) && decide (wi < (vs.length : Int))) with _ | _
  ·have hi2 : inB wi vs.length = false := hi
   rw [hi2, Bool.false_and]
   have hi := Lib.hid hi
   clear hi2 HD0 HBd
   go_enter Tryz.func18, Tryz.ntmps18
   go_wp2_with (first
    | (go_at_call 34; refine HC.out.mono ?_; rintro e w2 ⟨rfl, hb2⟩; have HX := Lib.hid ((hb2.block _ hx0).trans HX.out); have HB := Lib.hid (bCallC HB.out hb2); clear p0 p1 p2 p3 p4 p5 p6 p7 p8 hx0 hb2; obtain ⟨⟨p0, p1, p2, p3, p4, p5, p6, p7, p8⟩, -⟩ := cells9C HX.out; have hx0 := blkLtC HX.out)
    | (go_at_call_of 35 (Value.int .i64 wi); refine (isIndex_any _ _ _).mono ?_; rintro e w3 ⟨he, hb3⟩; rw [hi.out] at he; subst he; have HX := Lib.hid ((hb3.block _ hx0).trans HX.out); have HB := Lib.hid (bCallC HB.out hb3); clear p0 p1 p2 p3 p4 p5 p6 p7 p8 hx0 hb3; obtain ⟨⟨p0, p1, p2, p3, p4, p5, p6, p7, p8⟩, -⟩ := cells9C HX.out; have hx0 := blkLtC HX.out))
   go_ret
   exact ⟨rfl, HB.out⟩
  have hi2 : inB wi vs.length = true := hi
  have hi3 : 0 ≤ wi ∧ wi < vs.length := by simpa using hi
  rw [hi2, Bool.true_and]
  have hi := Lib.hid hi
  have hi3 := Lib.hid hi3
  clear hi2
  by_cases hm : pa = -1
  ·subst hm
   rw [show decide ((-1 : Int) = -1) = true from rfl, Bool.true_or, Bool.true_and]
   have HD := Lib.hid (fun wx hb => HD0.out wx hb hi3.out (.inl rfl))
   clear HD0 hi3
   go_enter Tryz.func18, Tryz.ntmps18
   go_upto_region 7 with (first
    | (go_at_call 34; refine HC.out.mono ?_; rintro e w2 ⟨rfl, hb2⟩; have HX := Lib.hid ((hb2.block _ hx0).trans HX.out); have HB := Lib.hid (bCallC HB.out hb2); clear p0 p1 p2 p3 p4 p5 p6 p7 p8 hx0 hb2; obtain ⟨⟨p0, p1, p2, p3, p4, p5, p6, p7, p8⟩, -⟩ := cells9C HX.out; have hx0 := blkLtC HX.out)
    | (go_at_call_of 35 (Value.int .i64 wi); refine (isIndex_any _ _ _).mono ?_; rintro e w3 ⟨he, hb3⟩; rw [hi.out] at he; subst he; have HX := Lib.hid ((hb3.block _ hx0).trans HX.out); have HB := Lib.hid (bCallC HB.out hb3); clear p0 p1 p2 p3 p4 p5 p6 p7 p8 hx0 hb3; obtain ⟨⟨p0, p1, p2, p3, p4, p5, p6, p7, p8⟩, -⟩ := cells9C HX.out; have hx0 := blkLtC HX.out)
    | (go_at_call 37; refine (HD.out _ HB.out).mono ?_; rintro e w4 ⟨⟨A4, c4, rfl, hk4⟩, hb4⟩; have HB := Lib.hid (bCallC HB.out hb4))
    | (go_at_call 36; refine (HBd.out _ HB.out A4 c4 hk4).mono ?_; rintro e w5 ⟨⟨v, G, k, cc, rfl, hkd⟩, hb5⟩; have HB := Lib.hid (bCallC HB.out hb5)))
   have hkd := Lib.hid hkd
   by_cases k0 : k = 0
   ·subst k0
    obtain rfl : db = true := hkd.out.symm
    go_wp2
    go_ret
    exact ⟨rfl, HB.out⟩
   ·have kf : ((k : Int) == 0) = false := by simp; omega
    obtain rfl : db = false := by rw [← hkd.out]; simp [k0]
    go_wp2
    go_ret
    exact ⟨rfl, HB.out⟩
  ·have hmd : decide (pa = -1) = false := by simp [hm]
   have hmb : (pa != -1) = true := by simp [hm]
   rw [hmd, Bool.false_or]
   rcases hj : (decide (0 ≤ pa) && decide (pa < (vs.length : Int))) with _ | _
   ·have hj2 : inB pa vs.length = false := hj
    rw [hj2, Bool.false_and]
    have hj := Lib.hid hj
    clear hj2 HD0 HBd hi3
    go_enter Tryz.func18, Tryz.ntmps18
    go_wp2_with (first
     | (go_at_call 34; refine HC.out.mono ?_; rintro e w2 ⟨rfl, hb2⟩; have HX := Lib.hid ((hb2.block _ hx0).trans HX.out); have HB := Lib.hid (bCallC HB.out hb2); clear p0 p1 p2 p3 p4 p5 p6 p7 p8 hx0 hb2; obtain ⟨⟨p0, p1, p2, p3, p4, p5, p6, p7, p8⟩, -⟩ := cells9C HX.out; have hx0 := blkLtC HX.out)
     | (go_at_call_of 35 (Value.int .i64 pa); refine (isIndex_any _ _ _).mono ?_; rintro e w3 ⟨he, hb3⟩; rw [hj.out] at he; subst he; have HX := Lib.hid ((hb3.block _ hx0).trans HX.out); have HB := Lib.hid (bCallC HB.out hb3); clear p0 p1 p2 p3 p4 p5 p6 p7 p8 hx0 hb3; obtain ⟨⟨p0, p1, p2, p3, p4, p5, p6, p7, p8⟩, -⟩ := cells9C HX.out; have hx0 := blkLtC HX.out)
     | (go_at_call_of 35 (Value.int .i64 wi); refine (isIndex_any _ _ _).mono ?_; rintro e w3 ⟨he, hb3⟩; rw [hi.out] at he; subst he; have HX := Lib.hid ((hb3.block _ hx0).trans HX.out); have HB := Lib.hid (bCallC HB.out hb3); clear p0 p1 p2 p3 p4 p5 p6 p7 p8 hx0 hb3; obtain ⟨⟨p0, p1, p2, p3, p4, p5, p6, p7, p8⟩, -⟩ := cells9C HX.out; have hx0 := blkLtC HX.out))
    go_ret
    exact ⟨rfl, HB.out⟩
   ·have hj2 : inB pa vs.length = true := hj
    have hj3 : 0 ≤ pa ∧ pa < vs.length := by simpa using hj
    rw [hj2, Bool.true_and]
    have hj := Lib.hid hj
    have HD := Lib.hid (fun wx hb => HD0.out wx hb hi3.out (.inr hj3))
    clear hj2 HD0 hi3 hj3
    go_enter Tryz.func18, Tryz.ntmps18
    go_upto_region 7 with (first
     | (go_at_call 34; refine HC.out.mono ?_; rintro e w2 ⟨rfl, hb2⟩; have HX := Lib.hid ((hb2.block _ hx0).trans HX.out); have HB := Lib.hid (bCallC HB.out hb2); clear p0 p1 p2 p3 p4 p5 p6 p7 p8 hx0 hb2; obtain ⟨⟨p0, p1, p2, p3, p4, p5, p6, p7, p8⟩, -⟩ := cells9C HX.out; have hx0 := blkLtC HX.out)
     | (go_at_call_of 35 (Value.int .i64 pa); refine (isIndex_any _ _ _).mono ?_; rintro e w3 ⟨he, hb3⟩; rw [hj.out] at he; subst he; have HX := Lib.hid ((hb3.block _ hx0).trans HX.out); have HB := Lib.hid (bCallC HB.out hb3); clear p0 p1 p2 p3 p4 p5 p6 p7 p8 hx0 hb3; obtain ⟨⟨p0, p1, p2, p3, p4, p5, p6, p7, p8⟩, -⟩ := cells9C HX.out; have hx0 := blkLtC HX.out)
     | (go_at_call_of 35 (Value.int .i64 wi); refine (isIndex_any _ _ _).mono ?_; rintro e w3 ⟨he, hb3⟩; rw [hi.out] at he; subst he; have HX := Lib.hid ((hb3.block _ hx0).trans HX.out); have HB := Lib.hid (bCallC HB.out hb3); clear p0 p1 p2 p3 p4 p5 p6 p7 p8 hx0 hb3; obtain ⟨⟨p0, p1, p2, p3, p4, p5, p6, p7, p8⟩, -⟩ := cells9C HX.out; have hx0 := blkLtC HX.out)
     | (go_at_call 37; refine (HD.out _ HB.out).mono ?_; rintro e w4 ⟨⟨A4, c4, rfl, hk4⟩, hb4⟩; have HB := Lib.hid (bCallC HB.out hb4))
     | (go_at_call 36; refine (HBd.out _ HB.out A4 c4 hk4).mono ?_; rintro e w5 ⟨⟨v, G, k, cc, rfl, hkd⟩, hb5⟩; have HB := Lib.hid (bCallC HB.out hb5)))
    have hkd := Lib.hid hkd
    by_cases k0 : k = 0
    ·subst k0
     obtain rfl : db = true := hkd.out.symm
     go_wp2
     go_ret
     exact ⟨rfl, HB.out⟩
    ·have kf : ((k : Int) == 0) = false := by simp; omega
     obtain rfl : db = false := by rw [← hkd.out]; simp [k0]
     go_wp2
     go_ret
     exact ⟨rfl, HB.out⟩
end C
end Go.Proofs.YtljknappbnoikaaGreatDoor
namespace Go.Proofs.YtljknappbnoikaaGreatDoor
namespace K
open U (Ex St szK)
theorem chk_all {s : List U.Pw} : ∀ {ls : List (List St)} {k : Nat}, (U.chkL s ls k).2 = 0 → ∀ l ∈ ls, U.handM s l = 0
 | [], _, _, l, hl => by cases hl
 | x :: xs, k, h, l, hl => by
  rw [U.chkL] at h
  split at h
  ·rename_i g
   rcases List.mem_cons.1 hl with rfl | hl
   ·exact g
   ·exact chk_all h l hl
  ·rename_i g
   exact absurd h g
theorem check_op {us : List Int} {on : List (List St)} (h : (U.checkM us on).2 = 0) : ∀ l ∈ on, OpL l ∧ lnL l ≤ 12200 := by
 unfold U.checkM at h
 rcases hs : U.scopeM us with _ | s
 ·rw [hs] at h; cases h
 ·rw [hs] at h
  simp only at h
  intro l hm
  exact hand_op (chk_all h l hm)
theorem valPM_op {x : ByteArray} {vs : List U.Vr} {on : List (List St)} {wi pa : Int} (h : C.valPM x vs on wi pa = true) : ∀ l ∈ on, OpL l ∧ lnL l ≤ 12200 := by
 unfold C.valPM at h
 rw [Bool.and_eq_true, decide_eq_true_eq] at h
 exact check_op h.1
end K
end Go.Proofs.YtljknappbnoikaaGreatDoor
