/- Texts of one proof: CxP, RxB, MxA, MxB, RxD, RxE. -/
import Derived.Test.YtdgompdbhlhofaaGreatDoorZx
import Derived.Test.YtdgompdbhlhofaaGreatDoorZe
import Derived.Test.YtdgompdbhlhofaaGreatDoorZd
import Derived.StillTailTactics
import Derived.Test.YtdgompdbhlhofaaGreatDoorZn
namespace Go.Proofs.YtdgompdbhlhofaaGreatDoor
open Go.RowKit
set_option linter.unusedVariables false
set_option linter.unusedSimpArgs false
namespace C
def inB (n : Int) (l : Nat) : Bool := decide (0 ≤ n) && decide (n < l)
set_option maxHeartbeats 1000000 in
set_option maxRecDepth 100000 in
theorem isIndex_any (n l : Int) (w : World) : Calls Tryz.prog 22 #[.int .i64 n, .int .i64 l] w (V1 (.bool (decide (0 ≤ n) && decide (n < l))) w) := by
  by_cases h : 0 ≤ n
  · have h1 : decide (0 ≤ n) = true := by simp [h]
    rw [h1]
    go_enter Tryz.func22, Tryz.ntmps22
    go_wp2
    go_ret
    exact ⟨by simp, Below.refl _ _⟩
  · have h1 : decide (0 ≤ n) = false := by simp; omega
    rw [h1]
    go_enter Tryz.func22, Tryz.ntmps22
    go_wp2
    go_ret
    exact ⟨by simp, Below.refl _ _⟩
def usesM (vs : List U.Vr) (pa : Int) : List Nd := if pa = -1 then [] else [useNd 1 (nameAt vs pa)]
theorem decl8 (vs : List U.Vr) (wi pa : Int) : (declKids vs wi pa).filter (fun t => decide (t.kind = 8)) = [] := by
  unfold declKids
  rw [List.filter_append, List.filter_eq_nil_iff.2 (by intro t ht; obtain ⟨v, -, rfl⟩ := List.mem_map.1 ht; simp [vNd, Nd.kind]), List.nil_append]
  by_cases h : pa = -1 <;> simp [h, useNd, Nd.kind]
theorem decl9 (vs : List U.Vr) (wi pa : Int) : (declKids vs wi pa).filter (fun t => decide (t.kind = 9)) = useNd 0 (nameAt vs wi) :: usesM vs pa := by
  unfold declKids usesM
  rw [List.filter_append, List.filter_eq_nil_iff.2 (by intro t ht; obtain ⟨v, -, rfl⟩ := List.mem_map.1 ht; simp [vNd, Nd.kind]), List.nil_append]
  by_cases h : pa = -1 <;> simp [h, useNd, Nd.kind]
theorem decl7 (vs : List U.Vr) (wi pa : Int) : (declKids vs wi pa).filter (fun t => decide (t.kind = 7)) = vs.map vNd := by
  unfold declKids
  rw [List.filter_append, List.filter_eq_self.2 (by intro t ht; obtain ⟨v, -, rfl⟩ := List.mem_map.1 ht; simp [vNd, Nd.kind])]
  by_cases h : pa = -1 <;> simp [h, useNd, Nd.kind]
theorem nameAt_size (vs : List U.Vr) (k : Int) (hv : ∀ v ∈ vs, v.x.size ≤ maxLen) : (nameAt vs k).size ≤ maxLen := by
  unfold nameAt
  rcases h : vs[k.toNat]? with _ | v
  · exact Nat.zero_le _
  · exact hv v (List.mem_of_getElem? h)
theorem NmSs_iff : ∀ (l : List Nd), NmSs l ↔ ∀ t ∈ l, NmS t
  | [] => by simp [NmSs]
  | t :: ts => by simp [NmSs, NmSs_iff ts]
theorem decl_nm (x : ByteArray) (vs : List U.Vr) (wi pa : Int) (hx : x.size ≤ maxLen) (hv : ∀ v ∈ vs, v.x.size ≤ maxLen) (hl : vs.length ≤ 1000) : NmS (declNd x vs wi pa) := by
  have hz : (⟨#[]⟩ : ByteArray).size ≤ maxLen := Nat.zero_le _
  have hnum : ∀ n, NmS (numNd n) := fun n => by unfold numNd NmS; exact ⟨hz, Nat.zero_le _, by unfold NmSs; trivial⟩
  have huse : ∀ n y, y.size ≤ maxLen → NmS (useNd n y) := fun n y h => by unfold useNd NmS; exact ⟨h, Nat.zero_le _, by unfold NmSs; trivial⟩
  have hlen : (declKids vs wi pa).length ≤ maxLen := by
    unfold declKids maxLen
    by_cases h : pa = -1 <;> simp [h] <;> omega
  unfold declNd NmS
  refine ⟨hz, by simp [maxLen], ?_⟩
  rw [NmSs_iff]
  intro t ht
  obtain rfl := List.mem_singleton.1 ht
  unfold NmS
  refine ⟨hx, hlen, ?_⟩
  rw [NmSs_iff]
  intro t ht
  unfold declKids at ht
  rcases List.mem_append.1 ht with ht | ht
  · obtain ⟨v, hvm, rfl⟩ := List.mem_map.1 ht
    unfold vNd NmS
    refine ⟨hv v hvm, by simp [maxLen], ?_⟩
    rw [NmSs_iff]
    intro t ht
    simp only [List.mem_cons, List.not_mem_nil, or_false] at ht
    rcases ht with rfl | rfl | rfl <;> exact hnum _
  · rcases List.mem_cons.1 ht with rfl | ht
    · exact huse _ _ (nameAt_size vs wi hv)
    · by_cases h : pa = -1
      · rw [if_pos h] at ht; cases ht
      · rw [if_neg h] at ht
        obtain rfl := List.mem_singleton.1 ht
        exact huse _ _ (nameAt_size vs pa hv)
def declB (x : ByteArray) (vs : List U.Vr) (wi pa : Int) : Bool := validN (declNd x vs wi pa) && okE (progM [] (.mk 6 x 0 0 0 (declKids vs wi pa)) (useNd 0 (nameAt vs wi)) (usesM vs pa) (vs.map vNd))
def valPM (x : ByteArray) (vs : List U.Vr) (on : List (List U.St)) (wi pa : Int) : Bool :=
  decide ((U.checkM (vs.map (·.u)) on).2 = 0) && (inB wi vs.length && ((decide (pa = -1) || inB pa vs.length) && declB x vs wi pa))
theorem declBuild (x : ByteArray) (vs : List U.Vr) (wi pa : Int) (A : Option Addr) (c : Nat) (w : World) (hP : LaidW w) (hw : 7 < w.heap.size) (hL : U.LaidW w) (hx : x.size ≤ maxLen) (hv : ∀ v ∈ vs, v.x.size ≤ maxLen) (hl : vs.length ≤ 1000)
    (hK : KidsR w (From 0) (declNd x vs wi pa).kids A) : Calls Tryz.prog 23 #[nv (declNd x vs wi pa) A c] w (BuildQ (declB x vs wi pa) w) := by
  have h := Build_one (declNd x vs wi pa) (.mk 6 x 0 0 0 (declKids vs wi pa)) A c (useNd 0 (nameAt vs wi)) (usesM vs pa) w hP hw hL (decl_nm x vs wi pa hx hv hl) rfl rfl hK
    (by show (declKids vs wi pa).length ≤ 100000; unfold declKids; by_cases h : pa = -1 <;> simp [h] <;> omega) (decl8 vs wi pa) (decl9 vs wi pa)
    (by show ∀ t ∈ (declKids vs wi pa).filter (fun t => decide (t.kind = 7)), _; rw [decl7]; intro t ht; obtain ⟨v, -, rfl⟩ := List.mem_map.1 ht; simp [vNd, Nd.kids])
  have e : (Nd.mk 6 x 0 0 0 (declKids vs wi pa)).kids.filter (fun t => decide (t.kind = 7)) = vs.map vNd := decl7 vs wi pa
  rw [e] at h
  exact h
set_option maxHeartbeats 4000000 in
set_option maxRecDepth 100000 in
theorem CValid_any (x : ByteArray) (vs : List U.Vr) (VA : Option Addr) (vm : Nat) (o : U.On) (a : U.OnA) (wi pa : Int) (w : World) (hP : LaidW w) (hw : 7 < w.heap.size) (hL : U.LaidW w) (hV : U.VarsR w vs VA) (hO : U.OnR w o a) (hx : x.size ≤ maxLen) (hv : ∀ v ∈ vs, v.x.size ≤ maxLen) :
    Calls Tryz.prog 14 #[U.pgv x VA vs.length vm o a wi pa] w (V1 (.bool (valPM x vs o.list wi pa)) w) := by
  have HX := Lib.hid (newBlkC w (.cells (U.pgArr x VA vs.length vm o a wi pa) 34) _ rfl)
  have HB := Lib.hid (bAllocC (o := .cells (U.pgArr x VA vs.length vm o a wi pa) 34) (Below.refl w.heap.size w))
  obtain ⟨⟨p0, p1, p2, p3, p4, p5, p6, p7, p8⟩, -⟩ := cells9C HX.out
  have hx0 := blkLtC HX.out
  have HC := Lib.hid (U.Check_any x vs VA vm o a wi pa _ (hL.below HB.out) (hV.below HB.out) (hO.below HB.out))
  unfold valPM
  have hsc : (U.checkM (vs.map (·.u)) o.list).2 = 0 → vs.length ≤ 1000 := fun h => by
    unfold U.checkM at h
    rcases hs : U.scopeM (vs.map (·.u)) with _ | s
    · rw [hs] at h; simp at h
    · unfold U.scopeM at hs
      split at hs
      · rename_i h1
        have := h1.1
        simp at this
        omega
      · cases hs
  generalize hcm : U.checkM (vs.map (·.u)) o.list = cm at *
  have hcm := Lib.hid hcm
  by_cases h0 : cm.2 = 0
  case neg =>
    have h0b : (cm.2 != 0) = true := by simp [h0]
    have h0d : decide (cm.2 = 0) = false := by simp [h0]
    rw [h0d, Bool.false_and]
    clear hP hL hV hO hv hsc
    go_enter Tryz.func14, Tryz.ntmps14
    go_wp2_with (go_at_call 21; refine HC.out.mono ?_; rintro e w2 ⟨rfl, hb2⟩; have HX := Lib.hid ((hb2.block _ hx0).trans HX.out); have HB := Lib.hid (bCallC HB.out hb2); clear p0 p1 p2 p3 p4 p5 p6 p7 p8 hx0 hb2; obtain ⟨⟨p0, p1, p2, p3, p4, p5, p6, p7, p8⟩, -⟩ := cells9C HX.out; have hx0 := blkLtC HX.out)
    go_ret
    exact ⟨rfl, HB.out⟩
  case pos =>
    have hlen := hsc h0
    rw [h0, show decide ((0 : Int) = 0) = true from rfl, Bool.true_and]
    have h0b : (cm.2 != 0) = false := by simp [h0]
    have HD0 : Hid (∀ wx, Below w.heap.size w wx → (0 ≤ wi ∧ wi < vs.length) → (pa = -1 ∨ (0 ≤ pa ∧ pa < vs.length)) → Calls Tryz.prog 24 #[U.pgv x VA vs.length vm o a wi pa] wx (TreeP (declNd x vs wi pa) wx)) := Lib.hid (fun wx hb h1 h2 => declarations_any x vs VA vm o a wi pa wx (hV.below hb) hlen h1 h2)
    have HBd : Hid (∀ wx, Below w.heap.size w wx → ∀ A4 c4, KidsR wx (From 0) (declNd x vs wi pa).kids A4 → Calls Tryz.prog 23 #[nv (declNd x vs wi pa) A4 c4] wx (BuildQ (declB x vs wi pa) wx)) := Lib.hid (fun wx hb A4 c4 hk => declBuild x vs wi pa A4 c4 wx (hP.below hb hw) (Nat.lt_of_lt_of_le hw hb.size) (hL.below hb) hx hv hlen hk)
    generalize declB x vs wi pa = db at *
    generalize declNd x vs wi pa = dn at *
    clear hP hL hV hO hv hsc hx hw
    rcases hi : (decide (0 ≤ wi) && decide (wi < (vs.length : Int))) with _ | _
    · have hi2 : inB wi vs.length = false := hi
      rw [hi2, Bool.false_and]
      have hi := Lib.hid hi
      clear hi2 HD0 HBd
      go_enter Tryz.func14, Tryz.ntmps14
      go_wp2_with (first
        | (go_at_call 21; refine HC.out.mono ?_; rintro e w2 ⟨rfl, hb2⟩; have HX := Lib.hid ((hb2.block _ hx0).trans HX.out); have HB := Lib.hid (bCallC HB.out hb2); clear p0 p1 p2 p3 p4 p5 p6 p7 p8 hx0 hb2; obtain ⟨⟨p0, p1, p2, p3, p4, p5, p6, p7, p8⟩, -⟩ := cells9C HX.out; have hx0 := blkLtC HX.out)
        | (go_at_call_of 22 (Value.int .i64 wi); refine (isIndex_any _ _ _).mono ?_; rintro e w3 ⟨he, hb3⟩; rw [hi.out] at he; subst he; have HX := Lib.hid ((hb3.block _ hx0).trans HX.out); have HB := Lib.hid (bCallC HB.out hb3); clear p0 p1 p2 p3 p4 p5 p6 p7 p8 hx0 hb3; obtain ⟨⟨p0, p1, p2, p3, p4, p5, p6, p7, p8⟩, -⟩ := cells9C HX.out; have hx0 := blkLtC HX.out))
      go_ret
      exact ⟨rfl, HB.out⟩
    have hi2 : inB wi vs.length = true := hi
    have hi3 : 0 ≤ wi ∧ wi < vs.length := by simpa using hi
    rw [hi2, Bool.true_and]
    have hi := Lib.hid hi
    have hi3 := Lib.hid hi3
    clear hi2
    by_cases hm : pa = -1
    · subst hm
      rw [show decide ((-1 : Int) = -1) = true from rfl, Bool.true_or, Bool.true_and]
      have HD := Lib.hid (fun wx hb => HD0.out wx hb hi3.out (.inl rfl))
      clear HD0 hi3
      go_enter Tryz.func14, Tryz.ntmps14
      go_upto_region 7 with (first
        | (go_at_call 21; refine HC.out.mono ?_; rintro e w2 ⟨rfl, hb2⟩; have HX := Lib.hid ((hb2.block _ hx0).trans HX.out); have HB := Lib.hid (bCallC HB.out hb2); clear p0 p1 p2 p3 p4 p5 p6 p7 p8 hx0 hb2; obtain ⟨⟨p0, p1, p2, p3, p4, p5, p6, p7, p8⟩, -⟩ := cells9C HX.out; have hx0 := blkLtC HX.out)
        | (go_at_call_of 22 (Value.int .i64 wi); refine (isIndex_any _ _ _).mono ?_; rintro e w3 ⟨he, hb3⟩; rw [hi.out] at he; subst he; have HX := Lib.hid ((hb3.block _ hx0).trans HX.out); have HB := Lib.hid (bCallC HB.out hb3); clear p0 p1 p2 p3 p4 p5 p6 p7 p8 hx0 hb3; obtain ⟨⟨p0, p1, p2, p3, p4, p5, p6, p7, p8⟩, -⟩ := cells9C HX.out; have hx0 := blkLtC HX.out)
        | (go_at_call 24; refine (HD.out _ HB.out).mono ?_; rintro e w4 ⟨⟨A4, c4, rfl, hk4⟩, hb4⟩; have HB := Lib.hid (bCallC HB.out hb4))
        | (go_at_call 23; refine (HBd.out _ HB.out A4 c4 hk4).mono ?_; rintro e w5 ⟨⟨v, G, k, cc, rfl, hkd⟩, hb5⟩; have HB := Lib.hid (bCallC HB.out hb5)))
      have hkd := Lib.hid hkd
      by_cases k0 : k = 0
      · subst k0
        obtain rfl : db = true := hkd.out.symm
        go_wp2
        go_ret
        exact ⟨rfl, HB.out⟩
      · have kf : ((k : Int) == 0) = false := by simp; omega
        obtain rfl : db = false := by rw [← hkd.out]; simp [k0]
        go_wp2
        go_ret
        exact ⟨rfl, HB.out⟩
    · have hmd : decide (pa = -1) = false := by simp [hm]
      have hmb : (pa != -1) = true := by simp [hm]
      rw [hmd, Bool.false_or]
      rcases hj : (decide (0 ≤ pa) && decide (pa < (vs.length : Int))) with _ | _
      · have hj2 : inB pa vs.length = false := hj
        rw [hj2, Bool.false_and]
        have hj := Lib.hid hj
        clear hj2 HD0 HBd hi3
        go_enter Tryz.func14, Tryz.ntmps14
        go_wp2_with (first
          | (go_at_call 21; refine HC.out.mono ?_; rintro e w2 ⟨rfl, hb2⟩; have HX := Lib.hid ((hb2.block _ hx0).trans HX.out); have HB := Lib.hid (bCallC HB.out hb2); clear p0 p1 p2 p3 p4 p5 p6 p7 p8 hx0 hb2; obtain ⟨⟨p0, p1, p2, p3, p4, p5, p6, p7, p8⟩, -⟩ := cells9C HX.out; have hx0 := blkLtC HX.out)
          | (go_at_call_of 22 (Value.int .i64 pa); refine (isIndex_any _ _ _).mono ?_; rintro e w3 ⟨he, hb3⟩; rw [hj.out] at he; subst he; have HX := Lib.hid ((hb3.block _ hx0).trans HX.out); have HB := Lib.hid (bCallC HB.out hb3); clear p0 p1 p2 p3 p4 p5 p6 p7 p8 hx0 hb3; obtain ⟨⟨p0, p1, p2, p3, p4, p5, p6, p7, p8⟩, -⟩ := cells9C HX.out; have hx0 := blkLtC HX.out)
          | (go_at_call_of 22 (Value.int .i64 wi); refine (isIndex_any _ _ _).mono ?_; rintro e w3 ⟨he, hb3⟩; rw [hi.out] at he; subst he; have HX := Lib.hid ((hb3.block _ hx0).trans HX.out); have HB := Lib.hid (bCallC HB.out hb3); clear p0 p1 p2 p3 p4 p5 p6 p7 p8 hx0 hb3; obtain ⟨⟨p0, p1, p2, p3, p4, p5, p6, p7, p8⟩, -⟩ := cells9C HX.out; have hx0 := blkLtC HX.out))
        go_ret
        exact ⟨rfl, HB.out⟩
      · have hj2 : inB pa vs.length = true := hj
        have hj3 : 0 ≤ pa ∧ pa < vs.length := by simpa using hj
        rw [hj2, Bool.true_and]
        have hj := Lib.hid hj
        have HD := Lib.hid (fun wx hb => HD0.out wx hb hi3.out (.inr hj3))
        clear hj2 HD0 hi3 hj3
        go_enter Tryz.func14, Tryz.ntmps14
        go_upto_region 7 with (first
          | (go_at_call 21; refine HC.out.mono ?_; rintro e w2 ⟨rfl, hb2⟩; have HX := Lib.hid ((hb2.block _ hx0).trans HX.out); have HB := Lib.hid (bCallC HB.out hb2); clear p0 p1 p2 p3 p4 p5 p6 p7 p8 hx0 hb2; obtain ⟨⟨p0, p1, p2, p3, p4, p5, p6, p7, p8⟩, -⟩ := cells9C HX.out; have hx0 := blkLtC HX.out)
          | (go_at_call_of 22 (Value.int .i64 pa); refine (isIndex_any _ _ _).mono ?_; rintro e w3 ⟨he, hb3⟩; rw [hj.out] at he; subst he; have HX := Lib.hid ((hb3.block _ hx0).trans HX.out); have HB := Lib.hid (bCallC HB.out hb3); clear p0 p1 p2 p3 p4 p5 p6 p7 p8 hx0 hb3; obtain ⟨⟨p0, p1, p2, p3, p4, p5, p6, p7, p8⟩, -⟩ := cells9C HX.out; have hx0 := blkLtC HX.out)
          | (go_at_call_of 22 (Value.int .i64 wi); refine (isIndex_any _ _ _).mono ?_; rintro e w3 ⟨he, hb3⟩; rw [hi.out] at he; subst he; have HX := Lib.hid ((hb3.block _ hx0).trans HX.out); have HB := Lib.hid (bCallC HB.out hb3); clear p0 p1 p2 p3 p4 p5 p6 p7 p8 hx0 hb3; obtain ⟨⟨p0, p1, p2, p3, p4, p5, p6, p7, p8⟩, -⟩ := cells9C HX.out; have hx0 := blkLtC HX.out)
          | (go_at_call 24; refine (HD.out _ HB.out).mono ?_; rintro e w4 ⟨⟨A4, c4, rfl, hk4⟩, hb4⟩; have HB := Lib.hid (bCallC HB.out hb4))
          | (go_at_call 23; refine (HBd.out _ HB.out A4 c4 hk4).mono ?_; rintro e w5 ⟨⟨v, G, k, cc, rfl, hkd⟩, hb5⟩; have HB := Lib.hid (bCallC HB.out hb5)))
        have hkd := Lib.hid hkd
        by_cases k0 : k = 0
        · subst k0
          obtain rfl : db = true := hkd.out.symm
          go_wp2
          go_ret
          exact ⟨rfl, HB.out⟩
        · have kf : ((k : Int) == 0) = false := by simp; omega
          obtain rfl : db = false := by rw [← hkd.out]; simp [k0]
          go_wp2
          go_ret
          exact ⟨rfl, HB.out⟩
end C
end Go.Proofs.YtdgompdbhlhofaaGreatDoor

namespace Go.Proofs.YtdgompdbhlhofaaGreatDoor
open Go.RowKit
set_option linter.unusedVariables false
set_option linter.unusedSimpArgs false
namespace R
open I
theorem run_min2 (p q r : Int) (h : r = min p q) (ts : Array TypeId) (t : TypeId) (w : World) : (Builtin.min_ ts t #[.int .i64 p, .int .i64 q]).run Tryz.prog w = .ok (.int .i64 r) w := by
  have e : (if q < p then q else p) = r := by omega
  simp [Builtin.min_, Builtin.min2, e, go_sem]
theorem run_max2 (p q r : Int) (h : r = max p q) (ts : Array TypeId) (t : TypeId) (w : World) : (Builtin.max_ ts t #[.int .i64 p, .int .i64 q]).run Tryz.prog w = .ok (.int .i64 r) w := by
  have e : (if p < q then q else p) = r := by omega
  simp [Builtin.max_, Builtin.max2, e, go_sem]
abbrev epanic (er : Int) : Ending := .panicked [{ v := .iface 23 (.int .i64 er), recovered := false }]
end R
end Go.Proofs.YtdgompdbhlhofaaGreatDoor

namespace Go.Proofs.YtdgompdbhlhofaaGreatDoor
open Go.RowKit
set_option linter.unusedVariables false
set_option linter.unusedSimpArgs false
namespace M
open I
open U (Ex St)
def opE (op a b : Int) : Except Int Int :=
  if op = 4 then .ok (a + b) else if op = 5 then .ok (a - b) else if op = 6 then (if vN (a * b) = true then .ok (a * b) else .error 3)
  else if op = 7 then (if b = 0 then .error 14 else .ok (divF a b)) else if op = 8 then (if b = 0 then .error 14 else .ok (-(divF (-a) b)))
  else if op = 9 then .ok (min a b) else if op = 10 then .ok (max a b) else .error 1
def leafE (st ins : List Int) (op n : Int) : Except Int Int :=
  if op = 1 then .ok n else if op = 2 ∧ 0 ≤ n ∧ n < st.length then .ok ((st[n.toNat]?).getD 0) else if op = 3 ∧ 0 ≤ n ∧ n < 4 then .ok ((ins[n.toNat]?).getD 0) else .error 1
def chkE : Except Int Int → Except Int Int
  | .ok n => if vN n = true then .ok n else .error 3
  | .error e => .error e
def nodE (st ins : List Int) (op n : Int) : List Int → Except Int Int
  | [] => chkE (leafE st ins op n)
  | [a, b] => chkE (opE op a b)
  | _ => .error 1
mutual
def mvE (st ins : List Int) : Ex → Except Int Int
  | .mk op n u ks => match mvK st ins ks with
    | .error e => .error e
    | .ok ss => nodE st ins op n ss
def mvK (st ins : List Int) : List Ex → Except Int (List Int)
  | [] => .ok []
  | t :: ts => match mvE st ins t with
    | .error e => .error e
    | .ok s => match mvK st ins ts with
      | .error e => .error e
      | .ok ss => .ok (s :: ss)
end
def rlB (a r b : Int) : Bool :=
  if r = 1 then decide (a < b) else if r = 2 then decide (a ≤ b) else if r = 3 then decide (b < a) else if r = 4 then decide (b ≤ a) else if r = 5 then decide (a = b) else !decide (a = b)
mutual
def rnS (ins : List Int) (lim : List Sp) (st : List Int) : St → Except Int (List Int)
  | .mk k v r a b th el =>
    if k = 1 then (match mvE st ins a with
      | .error e => .error e
      | .ok n => if ((lim[v.toNat]?).getD ⟨0, 0⟩).lo ≤ n ∧ n ≤ ((lim[v.toNat]?).getD ⟨0, 0⟩).hi then .ok (st.set v.toNat n) else .error 15)
    else match mvE st ins a with
      | .error e => .error e
      | .ok x => match mvE st ins b with
        | .error e => .error e
        | .ok y => if rlB x r y = true then rnL ins lim st th else rnL ins lim st el
def rnL (ins : List Int) (lim : List Sp) (st : List Int) : List St → Except Int (List Int)
  | [] => .ok st
  | x :: xs => match rnS ins lim st x with
    | .error e => .error e
    | .ok v => rnL ins lim v xs
end
theorem vN_abs {n : Int} : vN n = true ↔ absF n ≤ 1000000000000 := by rw [vN_iff]; unfold absF; omega
theorem absF_mul (a b : Int) : absF (a * b) = absF a * absF b := by
  have h : ∀ n : Int, absF n = n.natAbs := fun n => by unfold absF; omega
  rw [h, h, h, Int.natAbs_mul]
  simp
theorem prod_test {a b : Int} (h : a ≠ 0) : (absF b ≤ 1000000000000 / absF a) ↔ vN (a * b) = true := by
  have hp : 0 < absF a := by unfold absF; omega
  rw [vN_abs, absF_mul, Int.le_ediv_iff_mul_le hp, Int.mul_comm]
theorem mv_v {st ins : List Int} : ∀ (t : Ex) {n : Int}, mvE st ins t = .ok n → vN n = true
  | .mk op m u ks, n, h => by
    rw [mvE] at h
    have key : ∀ r, chkE r = .ok n → vN n = true := by
      intro r hr
      unfold chkE at hr
      rcases r with e | k
      · cases hr
      · simp only at hr
        split at hr
        · rename_i g; cases hr; exact g
        · cases hr
    rcases hk : mvK st ins ks with e | ss
    · rw [hk] at h; cases h
    · rw [hk] at h
      simp only at h
      match ss, h with
      | [], h => exact key _ h
      | [a, b], h => exact key _ h
      | [a], h => cases h
      | a :: b :: c :: l, h => cases h
theorem absF_fdiv (x y : Int) (h : y ≠ 0) : - (absF x + 1) ≤ divF x y ∧ divF x y ≤ absF x + 1 := by
  have e := floor_eq x y h
  have hb := tdiv_bd x y
  unfold divF
  rw [e]
  split <;> omega
end M
end Go.Proofs.YtdgompdbhlhofaaGreatDoor

namespace Go.Proofs.YtdgompdbhlhofaaGreatDoor
open Go.RowKit
set_option linter.unusedVariables false
set_option linter.unusedSimpArgs false
namespace M
open I
open U (Ex St btw)
open R (epanic)
theorem need_any (b : Bool) (er : Int) (w : World) : Calls Tryz.prog 39 #[.bool b, .int .i64 er] w (fun e w' => (if b then e = .returned (.tuple #[]) else e = epanic er) ∧ w' = w) := by
  cases b
  · go_enter Tryz.func39, Tryz.ntmps39
    go_wp2
    exact ⟨rfl, rfl, rfl⟩
  · go_enter Tryz.func39, Tryz.ntmps39
    go_wp2
    exact ⟨rfl, .tuple #[], by simp [results, Tryz.results39, go_sem], rfl, rfl⟩
theorem between_any (n lo hi : Int) (w : World) : Calls Tryz.prog 40 #[.int .i64 n, .int .i64 lo, .int .i64 hi] w (SS (.bool (btw n lo hi)) w) := by
  go_enter Tryz.func40, Tryz.ntmps40
  go_wp2
  all_goals
    go_ret
    refine ⟨?_, rfl⟩
    simp [btw, *]
  all_goals omega
theorem isIndex_any (n len : Int) (h : 0 ≤ len ∧ len ≤ 1000000000000000) (w : World) : Calls Tryz.prog 47 #[.int .i64 n, .int .i64 len] w (SS (.bool (btw n 0 (len - 1))) w) := by
  have q0 : IntKind.i64.wrap (len - 1) = len - 1 := IntWalk.i64_in _ (by omega)
  go_enter Tryz.func47, Tryz.ntmps47
  go_wp2_with (go_at_call 40; refine (between_any _ _ _ _).mono ?_; rintro e w1 ⟨rfl, rfl⟩)
  go_ret
  exact ⟨rfl, rfl⟩
def IntP (r : Except Int Int) (w : World) (e : Ending) (w' : World) : Prop :=
  (match r with
    | .ok n => e = .returned (.int .i64 n)
    | .error er => e = epanic er) ∧ Below w.heap.size w w'
theorem IntP.err {r : Except Int Int} {er : Int} {w w' : World} {e : Ending} (hr : .error er = r) (he : e = epanic er) (hb : Below w.heap.size w w') : IntP r w e w' := by subst hr; exact ⟨he, hb⟩
theorem IntP.ok {r : Except Int Int} {n : Int} {w w' : World} {e : Ending} (hr : .ok n = r) (he : e = .returned (.int .i64 n)) (hb : Below w.heap.size w w') : IntP r w e w' := by subst hr; exact ⟨he, hb⟩
set_option maxHeartbeats 400000 in
theorem areRelated_any (a r b : Int) (w : World) : Calls Tryz.prog 60 #[.int .i64 a, .int .i64 r, .int .i64 b] w (SS (.bool (rlB a r b)) w) := by
  unfold rlB
  by_cases h1 : r = 1
  · subst h1
    rw [if_pos rfl]
    go_enter Tryz.func60, Tryz.ntmps60
    go_wp2
    all_goals
      go_ret
      exact ⟨ret_bool (by first | rfl | simp_all), rfl⟩
  by_cases h2 : r = 2
  · subst h2
    rw [if_neg (by decide), if_pos rfl]
    go_enter Tryz.func60, Tryz.ntmps60
    go_wp2
    all_goals
      go_ret
      exact ⟨ret_bool (by first | rfl | simp_all), rfl⟩
  by_cases h3 : r = 3
  · subst h3
    rw [if_neg (by decide), if_neg (by decide), if_pos rfl]
    go_enter Tryz.func60, Tryz.ntmps60
    go_wp2
    all_goals
      go_ret
      exact ⟨ret_bool (by first | rfl | simp_all), rfl⟩
  by_cases h4 : r = 4
  · subst h4
    rw [if_neg (by decide), if_neg (by decide), if_neg (by decide), if_pos rfl]
    go_enter Tryz.func60, Tryz.ntmps60
    go_wp2
    all_goals
      go_ret
      exact ⟨ret_bool (by first | rfl | simp_all), rfl⟩
  by_cases h5 : r = 5
  · subst h5
    rw [if_neg (by decide), if_neg (by decide), if_neg (by decide), if_neg (by decide), if_pos rfl]
    go_enter Tryz.func60, Tryz.ntmps60
    go_wp2
    all_goals
      go_ret
      exact ⟨ret_bool (by first | rfl | simp_all), rfl⟩
  rw [if_neg h1, if_neg h2, if_neg h3, if_neg h4, if_neg h5]
  have g1 : (r == 1) = false := by simp [h1]
  have g2 : (r == 2) = false := by simp [h2]
  have g3 : (r == 3) = false := by simp [h3]
  have g4 : (r == 4) = false := by simp [h4]
  have g5 : (r == 5) = false := by simp [h5]
  clear h1 h2 h3 h4 h5
  go_enter Tryz.func60, Tryz.ntmps60
  go_wp2
  all_goals
    go_ret
    exact ⟨ret_bool (by first | rfl | simp | simp_all), rfl⟩
set_option maxHeartbeats 400000 in
set_option maxRecDepth 100000 in
theorem product_any (x y : Int) (hx : vN x = true) (hy : vN y = true) (w : World) : Calls Tryz.prog 33 #[.int .i64 x, .int .i64 y] w (IntP (if vN (x * y) = true then .ok (x * y) else .error 3) w) := by
  have q : vN (x * y) = true → IntKind.i64.wrap (x * y) = x * y := fun h => IntWalk.i64_in _ (by rw [vN_iff] at h; omega)
  by_cases h0 : x = 0
  · subst h0
    have q : IntKind.i64.wrap (0 * y) = 0 := by rw [Int.zero_mul]; rfl
    rw [Int.zero_mul, if_pos (by rfl)]
    clear hx hy
    go_enter Tryz.func33, Tryz.ntmps33
    go_wp2_with (go_at_call 39; refine (need_any true _ _).mono ?_; rintro e w5 ⟨he, rfl⟩; simp only [if_pos] at he; subst he)
    go_ret
    exact ⟨rfl, Below.refl _ _⟩
  · have ha := absF_pos h0
    rw [vN_iff] at hx hy
    have hal : absF x ≤ 1000000000000 := by unfold absF; omega
    have hyl : absF y ≤ 1000000000000 := by unfold absF; omega
    have hyn := absF_nonneg y
    have qx : IntKind.i64.wrap (-x) = -x := IntWalk.i64_in _ (by omega)
    have qy : IntKind.i64.wrap (-y) = -y := IntWalk.i64_in _ (by omega)
    have gx : (x == 0) = false := by simp [h0]
    have ht := prod_test (b := y) h0
    have mx := R.run_max2 x (-x) (absF x) (by rfl)
    have my := R.run_max2 y (-y) (absF y) (by rfl)
    clear hx hy
    by_cases hlt : absF y ≤ 1000000000000 / absF x
    · have hv := ht.1 hlt
      rw [if_pos hv]
      have q := q hv
      have hd : decide (absF y ≤ 1000000000000 / absF x) = true := by simp [hlt]
      clear ht hv h0
      generalize absF x = ax at *
      generalize absF y = ay at *
      go_enter Tryz.func33, Tryz.ntmps33
      go_wp2_with (go_at_call 39; refine (need_any true _ _).mono ?_; rintro e w5 ⟨he, rfl⟩; simp only [if_pos] at he; subst he)
      go_ret
      exact ⟨rfl, Below.refl _ _⟩
    · rw [if_neg (fun h => hlt (ht.2 h))]
      have hd : decide (absF y ≤ 1000000000000 / absF x) = false := by simp; omega
      clear ht q h0
      generalize absF x = ax at *
      generalize absF y = ay at *
      go_enter Tryz.func33, Tryz.ntmps33
      go_wp2_with (go_at_call 39; refine (need_any false _ _).mono ?_; rintro e w5 ⟨he, rfl⟩; simp only [Bool.false_eq_true, if_neg, not_false_eq_true] at he; subst he)
      exact ⟨rfl, rfl, Below.refl _ _⟩
set_option maxHeartbeats 400000 in
set_option maxRecDepth 100000 in
theorem down_any (x y : Int) (hx : Fit x) (hy : Fit y) (w : World) : Calls Tryz.prog 34 #[.int .i64 x, .int .i64 y] w (IntP (if y = 0 then .error 14 else .ok (divF x y)) w) := by
  by_cases h0 : y = 0
  · subst h0
    rw [if_pos rfl]
    clear hx hy
    go_enter Tryz.func34, Tryz.ntmps34
    go_wp2_with (go_at_call 39; refine (need_any false _ _).mono ?_; rintro e w5 ⟨he, rfl⟩; simp only [Bool.false_eq_true, if_neg, not_false_eq_true] at he; subst he)
    exact ⟨rfl, rfl, Below.refl _ _⟩
  · rw [if_neg h0]
    unfold Fit at hx hy
    have e := floor_eq x y h0
    have hb := tdiv_bd x y
    unfold absF at hb
    have q1 : IntKind.i64.wrap (x.tdiv y) = x.tdiv y := IntWalk.i64_in _ (by omega)
    have q2 : IntKind.i64.wrap (x.tdiv y - 1) = x.tdiv y - 1 := IntWalk.i64_in _ (by omega)
    have gy : (y != 0) = true := by simp [h0]
    have E := Lib.hid e
    clear e hb
    go_enter Tryz.func34, Tryz.ntmps34
    go_wp2_with (go_at_call 39; refine (need_any true _ _).mono ?_; rintro e w5 ⟨he, rfl⟩; simp only [if_pos] at he; subst he)
    all_goals
      go_ret
      exact ⟨ret_int (by unfold divF; rw [E.out]; split <;> simp_all), Below.refl _ _⟩
set_option maxHeartbeats 400000 in
set_option maxRecDepth 100000 in
theorem cAdd_any (x y : Int) (hx : vN x = true) (hy : vN y = true) (w : World) : Calls Tryz.prog 31 #[.int .i64 x, .int .i64 y] w (IntP (opE 4 x y) w) := by
  rw [vN_iff] at hx hy
  have q : IntKind.i64.wrap (x + y) = x + y := IntWalk.i64_in _ (by omega)
  go_enter Tryz.func31, Tryz.ntmps31
  go_wp2
  go_ret
  exact ⟨rfl, Below.refl _ _⟩
set_option maxHeartbeats 400000 in
set_option maxRecDepth 100000 in
theorem cSub_any (x y : Int) (hx : vN x = true) (hy : vN y = true) (w : World) : Calls Tryz.prog 32 #[.int .i64 x, .int .i64 y] w (IntP (opE 5 x y) w) := by
  rw [vN_iff] at hx hy
  have q : IntKind.i64.wrap (x - y) = x - y := IntWalk.i64_in _ (by omega)
  go_enter Tryz.func32, Tryz.ntmps32
  go_wp2
  go_ret
  exact ⟨rfl, Below.refl _ _⟩
set_option maxHeartbeats 400000 in
set_option maxRecDepth 100000 in
theorem cUp_any (x y : Int) (hx : vN x = true) (hy : vN y = true) (w : World) : Calls Tryz.prog 35 #[.int .i64 x, .int .i64 y] w (IntP (opE 8 x y) w) := by
  rw [vN_iff] at hx hy
  have qx : IntKind.i64.wrap (-x) = -x := IntWalk.i64_in _ (by omega)
  have HD := Lib.hid (fun wx => down_any (-x) y (by unfold Fit; omega) (by unfold Fit; omega) wx)
  have e8 : opE 8 x y = if y = 0 then .error 14 else .ok (-(divF (-x) y)) := rfl
  rw [e8]
  by_cases h0 : y = 0
  · rw [if_pos h0]
    simp only [if_pos h0] at HD
    clear h0 e8
    go_enter Tryz.func35, Tryz.ntmps35
    go_wp2_with (go_at_call 34; refine (HD.out _).mono ?_; rintro e w5 ⟨he, hb5⟩; simp only at he; subst he)
    exact ⟨rfl, rfl, hb5⟩
  · rw [if_neg h0]
    simp only [if_neg h0] at HD
    have hb := absF_fdiv (-x) y h0
    unfold absF at hb
    have q : IntKind.i64.wrap (-(divF (-x) y)) = -(divF (-x) y) := IntWalk.i64_in _ (by omega)
    clear h0 e8 hb
    generalize divF (-x) y = d at *
    go_enter Tryz.func35, Tryz.ntmps35
    go_wp2_with (go_at_call 34; refine (HD.out _).mono ?_; rintro e w5 ⟨he, hb5⟩; simp only at he; subst he)
    go_ret
    exact ⟨rfl, hb5⟩
set_option maxHeartbeats 400000 in
set_option maxRecDepth 100000 in
theorem cMin_any (x y : Int) (hx : vN x = true) (hy : vN y = true) (w : World) : Calls Tryz.prog 36 #[.int .i64 x, .int .i64 y] w (IntP (opE 9 x y) w) := by
  rw [vN_iff] at hx hy
  have m := R.run_min2 x y _ rfl
  show Calls _ _ _ _ (IntP (.ok (min x y)) w)
  generalize min x y = d at *
  go_enter Tryz.func36, Tryz.ntmps36
  go_wp2
  go_ret
  exact ⟨rfl, Below.refl _ _⟩
set_option maxHeartbeats 400000 in
set_option maxRecDepth 100000 in
theorem cMax_any (x y : Int) (hx : vN x = true) (hy : vN y = true) (w : World) : Calls Tryz.prog 37 #[.int .i64 x, .int .i64 y] w (IntP (opE 10 x y) w) := by
  rw [vN_iff] at hx hy
  have m := R.run_max2 x y _ rfl
  show Calls _ _ _ _ (IntP (.ok (max x y)) w)
  generalize max x y = d at *
  go_enter Tryz.func37, Tryz.ntmps37
  go_wp2
  go_ret
  exact ⟨rfl, Below.refl _ _⟩
end M
end Go.Proofs.YtdgompdbhlhofaaGreatDoor

namespace Go.Proofs.YtdgompdbhlhofaaGreatDoor
open Go.RowKit
set_option linter.unusedVariables false
set_option linter.unusedSimpArgs false
namespace R
open I
def SpsR (w : World) (l : List Sp) (A : Option Addr) : Prop := l = [] ∨ ∃ g o, A = some ⟨g, o, none⟩ ∧ ∀ (i : Nat) (s : Sp), l[i]? = some s → w.cell? ⟨g, o + i * 2, none⟩ = some (.int .i64 s.lo) ∧ w.cell? ⟨g, o + i * 2 + 1, none⟩ = some (.int .i64 s.hi)
theorem SpsR.gr {w w' : World} {l : List Sp} {A : Option Addr} (h : SpsR w l A) (hg : Gr w w') : SpsR w' l A := by
  rcases h with h | ⟨g, o, hA, h⟩
  · exact .inl h
  · exact .inr ⟨g, o, hA, fun i s hs => ⟨grCell hg (h i s hs).1, grCell hg (h i s hs).2⟩⟩
theorem SpsR.addr {w : World} {l : List Sp} {A : Option Addr} (h : SpsR w l A) (hl : l ≠ []) : ∃ g o, A = some ⟨g, o, none⟩ ∧ ∀ (i : Nat) (s : Sp), l[i]? = some s → w.cell? ⟨g, o + i * 2, none⟩ = some (.int .i64 s.lo) ∧ w.cell? ⟨g, o + i * 2 + 1, none⟩ = some (.int .i64 s.hi) := by
  rcases h with h | h
  · exact absurd h hl
  · exact h
end R
end Go.Proofs.YtdgompdbhlhofaaGreatDoor

namespace Go.Proofs.YtdgompdbhlhofaaGreatDoor
open Go.RowKit
set_option linter.unusedVariables false
set_option linter.unusedSimpArgs false
namespace R
open I
open U (Ex St arrE aggE eArr ev KidsE szK szK_len szK_mem owns_below new_cells gbRefl gbAlloc gbTrans gbBelow Ex.size Ex.size_pos)
def spCells (s : Sp) : List Value := [.int .i64 s.lo, .int .i64 s.hi]
def spsCells (l : List Sp) : List Value := l.flatMap spCells
theorem spsCells_at : ∀ (l : List Sp) (i : Nat) (p : Sp), l[i]? = some p → (spsCells l)[i * 2]? = some (.int .i64 p.lo) ∧ (spsCells l)[i * 2 + 1]? = some (.int .i64 p.hi)
  | [], i, p, h => by simp at h
  | q :: l, 0, p, h => by
    simp at h
    subst h
    exact ⟨rfl, rfl⟩
  | q :: l, i + 1, p, h => by
    have h1 := spsCells_at l i p (by simpa using h)
    have e : ∀ j, (spsCells (q :: l))[j + 2]? = (spsCells l)[j]? := fun j => by
      show (spCells q ++ spsCells l)[j + 2]? = _
      rw [List.getElem?_append_right (by simp [spCells])]
      simp [spCells]
    rw [show (i + 1) * 2 = i * 2 + 2 by omega, show i * 2 + 2 + 1 = i * 2 + 1 + 2 by omega, e, e]
    exact h1
theorem bAllocX {w X : World} {o : Obj} (h : Below w.heap.size w X) : Below w.heap.size w (X.alloc o) := h.alloc h.size o
def SpP (r : Except Int Sp) (w : World) (e : Ending) (w' : World) : Prop :=
  (match r with
    | .ok s => e = .returned (sv s)
    | .error er => e = epanic er) ∧ Below w.heap.size w w'
theorem SpP.err {r : Except Int Sp} {er : Int} {w w' : World} {e : Ending} (hr : .error er = r) (he : e = epanic er) (hb : Below w.heap.size w w') : SpP r w e w' := by subst hr; exact ⟨he, hb⟩
theorem SpP.ok {r : Except Int Sp} {s : Sp} {w w' : World} {e : Ending} (hr : .ok s = r) (he : e = .returned (sv s)) (hb : Below w.heap.size w w') : SpP r w e w' := by subst hr; exact ⟨he, hb⟩
end R
end Go.Proofs.YtdgompdbhlhofaaGreatDoor
