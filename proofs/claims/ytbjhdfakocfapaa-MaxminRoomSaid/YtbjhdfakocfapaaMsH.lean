/- Package maxmin: the stops as a function that is ranged over. -/
import Derived.Test.YtbjhdfakocfapaaMsG
namespace Go.Proofs.Ytbjhdfakocfapaa
open Go.RowKit
set_option linter.unusedVariables false
set_option linter.unusedSimpArgs false
attribute [local go_sem] Oper.semAt_some
set_option maxHeartbeats 8000000 in
set_option maxRecDepth 100000 in
theorem stops_iter (W0 : World) (F R X : Nat) (n : Net) (a : NetA) (xs : List Q) (fx : List Bool) (bf : Nat) (hN : n.f.length ≤ 1000000) (hC : n.c.length ≤ 1000000) (hNL : n.l.length = n.f.length) (hrow : ∀ r ∈ n.f, r.length ≤ 1000000) :
    Iter Try.prog 77 #[ptr bf] (stopsL n fx) (fun s => #[spV F s]) (fun _ W => W.heap[bf]? = some (filP F) ∧ FilR W0 F R X n a xs fx W) := by
  intro l J Jx W hJ hJx hRd hY h0
  have HRd := Lib.hid hRd
  have HY := Lib.hid hY
  have HJ := Lib.hid hJ
  have HJx := Lib.hid hJx
  obtain ⟨hb, hf⟩ := HRd.out 0 W (Nat.zero_le _) h0
  have b0 := (cells1 hb).1
  obtain ⟨f0, f1, f2, -⟩ := cells5 hf.fil
  clear hRd hY hJ hJx hb hf
  refine (callsIn_wide (n := 0)).1 ?_
  refine callsIn_of_wp Try.func77 rfl trivial ?_ rfl
  simp only [Try.ntmps77, List.size_toArray, List.length_cons, List.length_nil, Nat.reduceAdd, Nat.reduceSub, Array.replicate_succ, Array.replicate_zero, List.push_toArray, List.append_toArray, List.nil_append, List.cons_append]
  gi_wp2
  gi_loopw [14] (fun i wr => ∃ p : Nat, p ≤ n.c.length ∧ i = .int .i64 p ∧ Hid (J (rk (hasLink n fx) p) wr) ∧ W.heap.size ≤ wr.heap.size) (fun i _ => n.c.length - (intOf i).toNat)
  case atStart => exact ⟨0, Nat.zero_le _, rfl, h0, Nat.le_refl _⟩
  case round =>
    obtain ⟨p, hp, rfl, hj, hsz⟩ := hrel
    clear b0 f0 f1 f2
    obtain ⟨g0, hf⟩ := HRd.out _ wr (st_le1 n fx hp) hj.out
    have b0 := (cells1 g0).1
    obtain ⟨f0, f1, f2, -⟩ := cells5 hf.fil
    by_cases hlt : p < n.c.length
    · have G2 : Gr wr (wr.alloc (lnkB F p)) := grAlloc _ _
      have S2 : (wr.alloc (lnkB F p)).heap[wr.heap.size]? = some (lnkB F p) := newBlk _ _ _ rfl
      have G3 : Gr (wr.alloc (lnkB F p)) ((wr.alloc (lnkB F p)).alloc (lnkB F p)) := grAlloc _ _
      have B3 : ((wr.alloc (lnkB F p)).alloc (lnkB F p)).heap[wr.heap.size + 1]? = some (lnkB F p) := newBlk _ _ _ (by simp)
      have S3 := grBlk G3 S2
      have hf3 := hf.up (G2.tr G3)
      obtain ⟨⟨s0, s1⟩, -⟩ := cells2 S2
      obtain ⟨⟨t0, t1⟩, -⟩ := cells2 S3
      have HA := Lib.hid (anyLink W0 F R X n a xs fx p (wr.heap.size + 1) hN hrow _ B3 hf3)
      have HJ3 := Lib.hid (HJ.out _ _ _ hj.out (Below.mono (G2.tr G3) hsz))
      have HZ := Lib.hid (Nat.le_trans hsz (G2.tr G3).size)
      clear g0 hf hf3 B3 S2 S3 G2 G3
      rcases hP : hasLink n fx p with _ | _
      · rw [hP] at HA
        have e1 := Lib.hid (rk_f hP)
        clear hP
        gi_wp2_with (first | (refine ⟨trivial, rfl, ?_⟩; gi_at_call 79; refine (callsIn_wide.2 (lstopped_any F p _)).mono ?_; rintro e w1 ⟨rfl, hw⟩; rw [hw]; clear hw) | (refine ⟨trivial, rfl, ?_⟩; gi_at_call 78; refine (callsIn_wide.2 HA.out).mono ?_; rintro e w4 ⟨rfl, hb4⟩; have HJ4 := Lib.hid (HJ.out _ _ _ HJ3.out (hb4.mono HZ.out)); have HZ4 := Lib.hid (Nat.le_trans HZ.out hb4.size); have t0 := grCell hb4 t0; have t1 := grCell hb4 t1; clear hb4))
        refine ⟨fun _ _ => trivial, ?_⟩
        gi_wp2
        go_roundw
        case rel => exact ⟨p + 1, by omega, by simp, by rw [e1.out]; exact HJ4, HZ4.out⟩
        case measure => simp [intOf]; omega
      · rw [hP] at HA
        have e1 := Lib.hid (rk_t hP)
        obtain ⟨hk, hg⟩ := st_get1 hlt hP
        clear hP
        gi_wp2_with (first | (refine ⟨trivial, rfl, ?_⟩; gi_at_call 79; refine (callsIn_wide.2 (lstopped_any F p _)).mono ?_; rintro e w1 ⟨rfl, hw⟩; rw [hw]; clear hw) | (refine ⟨trivial, rfl, ?_⟩; gi_at_call 78; refine (callsIn_wide.2 HA.out).mono ?_; rintro e w4 ⟨rfl, hb4⟩; have HJ4 := Lib.hid (HJ.out _ _ _ HJ3.out (hb4.mono HZ.out)); have HZ4 := Lib.hid (Nat.le_trans HZ.out hb4.size); have t0 := grCell hb4 t0; have t1 := grCell hb4 t1; clear hb4; obtain ⟨fn, tmps, assign, body, hy, hR⟩ := HY.out _ hk w4 HJ4.out HZ4.out; rw [hg] at hy; have hy : (Instr.yield l #[.iface 109 (.agg #[.pointer (some ⟨F, 0, none⟩), .int .i64 (p : Int)])]).run Try.prog w4 = .ok (.round l fn tmps assign body) w4 := hy))
        first | refine hR.mono ?_ | refine ⟨rfl, hR.mono ?_⟩ | refine ⟨trivial, rfl, hR.mono ?_⟩
        rintro e W5 ⟨hup, (⟨rfl, hJ5⟩ | ⟨rfl, hJx5⟩)⟩
        · gi_wp2
          go_roundw
          case rel => exact ⟨p + 1, by omega, by simp, by rw [e1.out]; exact hJ5, Nat.le_trans HZ4.out hup.size⟩
          case measure => simp [intOf]; omega
        · gi_wp2
          refine bodyPost_ret (results_none rfl _ _ _) rfl ?_
          exact ⟨⟨_, rfl⟩, Nat.le_trans HZ4.out hup.size, .inr hJx5⟩
    · obtain rfl : p = n.c.length := by omega
      have hjb := hj.out
      have eb : rk (hasLink n fx) n.c.length = base n fx := rfl
      rw [eb] at hjb
      have HJb := Lib.hid hjb
      clear hj hjb eb hf g0
      gi_wp2
      gi_loopw [37] (fun i wr => ∃ p : Nat, p ≤ n.l.length ∧ i = .int .i64 p ∧ Hid (J (base n fx + rk (hasLim n fx) p) wr) ∧ W.heap.size ≤ wr.heap.size) (fun i _ => n.l.length - (intOf i).toNat)
      case atStart => exact ⟨0, Nat.zero_le _, rfl, HJb.out, hsz⟩
      case round =>
        obtain ⟨p, hp, rfl, hj, hsz⟩ := hrel
        clear b0 f0 f1 f2
        obtain ⟨g0, hf⟩ := HRd.out _ wr (st_le2 n fx hp) hj.out
        have b0 := (cells1 g0).1
        obtain ⟨f0, f1, f2, -⟩ := cells5 hf.fil
        by_cases hlt : p < n.l.length
        · have G2 : Gr wr (wr.alloc (limB F p)) := grAlloc _ _
          have S2 : (wr.alloc (limB F p)).heap[wr.heap.size]? = some (limB F p) := newBlk _ _ _ rfl
          have G3 : Gr (wr.alloc (limB F p)) ((wr.alloc (limB F p)).alloc (limB F p)) := grAlloc _ _
          have B3 : ((wr.alloc (limB F p)).alloc (limB F p)).heap[wr.heap.size + 1]? = some (limB F p) := newBlk _ _ _ (by simp)
          have S3 := grBlk G3 S2
          have hf3 := hf.up (G2.tr G3)
          obtain ⟨⟨s0, s1⟩, -⟩ := cells2 S2
          obtain ⟨⟨t0, t1⟩, -⟩ := cells2 S3
          obtain ⟨gl, ol, hA, hcs⟩ := hf.netw.2.2.addr (by omega)
          have c0 := hcs p _ (num_get hlt)
          rw [hA] at f2 ⊢
          have HA := Lib.hid (anyLim W0 F R X n a xs fx p (wr.heap.size + 1) (by rw [← hNL]; exact hlt) _ B3 hf3)
          have hPd : hasLim n fx p = (decide (0 < num n.l p) && !fxd fx p) := rfl
          clear hcs hA
          have HJ3 := Lib.hid (HJ.out _ _ _ hj.out (Below.mono (G2.tr G3) hsz))
          have HZ := Lib.hid (Nat.le_trans hsz (G2.tr G3).size)
          clear g0 hf hf3 B3 S2 S3 G2 G3
          by_cases hpos : 0 < num n.l p
          · have td : decide (0 < num n.l p) = true := decide_eq_true hpos
            rw [td] at hPd
            generalize num n.l p = lm at *
            rcases hP : fxd fx p with _ | _
            · rw [hP] at HA hPd
              have hPd : hasLim n fx p = true := hPd
              have e1 := Lib.hid (rk_t hPd)
              obtain ⟨hk, hg⟩ := st_get2 hlt hPd
              clear hP hPd
              gi_wp2_with (first | (refine ⟨trivial, rfl, ?_⟩; gi_at_call 80; refine (callsIn_wide.2 (mstopped_any F p _)).mono ?_; rintro e w1 ⟨rfl, hw⟩; rw [hw]; clear hw) | (refine ⟨trivial, rfl, ?_⟩; gi_at_call 78; refine (callsIn_wide.2 HA.out).mono ?_; rintro e w4 ⟨rfl, hb4⟩; have HJ4 := Lib.hid (HJ.out _ _ _ HJ3.out (hb4.mono HZ.out)); have HZ4 := Lib.hid (Nat.le_trans HZ.out hb4.size); have t0 := grCell hb4 t0; have t1 := grCell hb4 t1; clear hb4; obtain ⟨fn, tmps, assign, body, hy, hR⟩ := HY.out _ hk w4 HJ4.out HZ4.out; rw [hg] at hy; have hy : (Instr.yield l #[.iface 112 (.agg #[.pointer (some ⟨F, 0, none⟩), .int .i64 (p : Int)])]).run Try.prog w4 = .ok (.round l fn tmps assign body) w4 := hy))
              first | refine hR.mono ?_ | refine ⟨rfl, hR.mono ?_⟩ | refine ⟨trivial, rfl, hR.mono ?_⟩
              rintro e W5 ⟨hup, (⟨rfl, hJ5⟩ | ⟨rfl, hJx5⟩)⟩
              · gi_wp2
                go_roundw
                case rel => exact ⟨p + 1, by omega, by simp, by rw [e1.out]; exact hJ5, Nat.le_trans HZ4.out hup.size⟩
                case measure => simp [intOf]; omega
              · gi_wp2
                refine bodyPost_ret (results_none rfl _ _ _) rfl ?_
                exact ⟨⟨_, rfl⟩, Nat.le_trans HZ4.out hup.size, .inr hJx5⟩
            · rw [hP] at HA hPd
              have hPd : hasLim n fx p = false := hPd
              have e1 := Lib.hid (rk_f hPd)
              clear hP hPd
              gi_wp2_with (first | (refine ⟨trivial, rfl, ?_⟩; gi_at_call 80; refine (callsIn_wide.2 (mstopped_any F p _)).mono ?_; rintro e w1 ⟨rfl, hw⟩; rw [hw]; clear hw) | (refine ⟨trivial, rfl, ?_⟩; gi_at_call 78; refine (callsIn_wide.2 HA.out).mono ?_; rintro e w4 ⟨rfl, hb4⟩; have HJ4 := Lib.hid (HJ.out _ _ _ HJ3.out (hb4.mono HZ.out)); have HZ4 := Lib.hid (Nat.le_trans HZ.out hb4.size); have t0 := grCell hb4 t0; have t1 := grCell hb4 t1; clear hb4))
              refine ⟨fun _ _ => trivial, ?_⟩
              gi_wp2
              go_roundw
              case rel => exact ⟨p + 1, by omega, by simp, by rw [e1.out]; exact HJ4, HZ4.out⟩
              case measure => simp [intOf]; omega
          · have td : decide (0 < num n.l p) = false := decide_eq_false hpos
            rw [td] at hPd
            have hPd : hasLim n fx p = false := hPd
            have e1 := Lib.hid (rk_f hPd)
            generalize num n.l p = lm at *
            clear hPd
            have HJ2 := Lib.hid (HJ.out _ _ _ hj.out (Below.mono (grAlloc wr (limB F p)) hsz))
            have HZ2 := Lib.hid (Nat.le_trans hsz (grAlloc wr (limB F p)).size)
            gi_wp2
            refine ⟨trivial, ?_⟩
            gi_wp2
            refine ⟨trivial, ?_⟩
            gi_wp2
            refine ⟨fun _ _ => trivial, ?_⟩
            gi_wp2
            go_roundw
            case rel => exact ⟨p + 1, by omega, by simp, by rw [e1.out]; exact HJ2, HZ2.out⟩
            case measure => simp [intOf]; omega
        · obtain rfl : p = n.l.length := by omega
          gi_wp2
          go_end0
          exact ⟨⟨_, rfl⟩, hsz, .inl (by rw [st_len]; exact hj.out)⟩
end Go.Proofs.Ytbjhdfakocfapaa
