/- Texts of one proof: VxB. -/
import Derived.Test.YtljknappbnoikaaGreatDoorYc
import Derived.Test.YtljknappbnoikaaGreatDoorZe
set_option linter.unusedVariables false
set_option linter.unusedSimpArgs false
set_option maxRecDepth 100000
set_option maxHeartbeats 8000000
namespace Go.Proofs.YtljknappbnoikaaGreatDoor
open Go.RowKit
theorem In_any (w : World) (g c : Nat) (ws : List ByteArray) (x : ByteArray) (h : StrS w g ws) (hn : ws.length ≤ 1000) :
  Calls Tryz.prog 47 #[.slice (some ⟨g, 0, none⟩) ws.length c, .string x] w fun e w' => e = .returned (.int .i64 (idx ws x)) ∧ w = w' := by
 have H := Lib.hid h
 clear h
 go_enter Tryz.func47, Tryz.ntmps47
 go_wp2
 go_loopg [5] (ws.length) (fun gk i wr => ∃ k : Nat, k + gk = ws.length ∧ i = .int .i64 k ∧ Hid (idxF x (ws.drop k) k = idx ws x) ∧ wr = w)
 case atStart => exact ⟨0, by omega, rfl, Lib.hid rfl, rfl⟩
 case round =>
  obtain ⟨k, hk, rfl, hI, rfl⟩ := hrel
  by_cases hlt : k < ws.length
  ·obtain ⟨gq, rfl⟩ : ∃ g, gk = g + 1 := ⟨gk - 1, by omega⟩
   have hc := H.out k _ (List.getElem?_eq_getElem hlt)
   have h1 := Lib.hid (idxF_drop_hit x ws k k hlt)
   have h2 := Lib.hid (idxF_drop_miss x ws k k hlt)
   generalize ws[k] = y at *
   by_cases hxy : x = y
   ·subst hxy
    have h3 := Lib.hid ((h1.out rfl).symm.trans hI.out)
    clear h1 h2
    go_wp2
    go_ret
    exact ⟨ret_i h3.out, rfl⟩
   ·have h3 := Lib.hid ((h2.out hxy).symm.trans hI.out)
    have hne := bne_of y x (fun e => hxy e.symm)
    clear hxy h1 h2
    go_wp2
    go_roundg gq
    case measure => omega
    case rel => exact ⟨k + 1, by omega, by go_num, h3, rfl⟩
  ·have h3 := Lib.hid ((idxF_drop_end x ws k k (by omega)).symm.trans hI.out)
   go_wp2
   go_ret
   exact ⟨ret_i h3.out, rfl⟩
def WdP (ws : List ByteArray) (w : World) (e : Ending) (w' : World) : Prop := ∃ g c, e = .returned (.slice (some ⟨g, 0, none⟩) ws.length c) ∧ StrS w' g ws ∧ Below w.heap.size w w'
theorem Units_any (w : World) : Calls Tryz.prog 48 #[] w (WdP refU w) := by
 have hb0 := (Below.refl w.heap.size w).alloc (Nat.le_refl _) (.cells (refU.map Value.string).toArray 9)
 have hs := Lib.hid (new_strs w (refU.map Value.string).toArray 9 refU rfl)
 have hB := Lib.hid hb0
 clear hb0
 go_enter Tryz.func48, Tryz.ntmps48
 go_wp2
 go_ret
 exact ⟨_, _, rfl, hs.out, hB.out⟩
theorem Events_any (w : World) : Calls Tryz.prog 49 #[] w (WdP refE w) := by
 have hb0 := (Below.refl w.heap.size w).alloc (Nat.le_refl _) (.cells (refE.map Value.string).toArray 9)
 have hs := Lib.hid (new_strs w (refE.map Value.string).toArray 9 refE rfl)
 have hB := Lib.hid hb0
 clear hb0
 go_enter Tryz.func49, Tryz.ntmps49
 go_wp2
 go_ret
 exact ⟨_, _, rfl, hs.out, hB.out⟩
theorem Policies_any (w : World) : Calls Tryz.prog 50 #[] w (WdP refP w) := by
 have hb0 := (Below.refl w.heap.size w).alloc (Nat.le_refl _) (.cells (refP.map Value.string).toArray 9)
 have hs := Lib.hid (new_strs w (refP.map Value.string).toArray 9 refP rfl)
 have hB := Lib.hid hb0
 clear hb0
 go_enter Tryz.func50, Tryz.ntmps50
 go_wp2
 go_ret
 exact ⟨_, _, rfl, hs.out, hB.out⟩
theorem Inputs_any (w : World) : Calls Tryz.prog 51 #[] w (WdP refI w) := by
 have hb0 := (Below.refl w.heap.size w).alloc (Nat.le_refl _) (.cells (refI.map Value.string).toArray 9)
 have hs := Lib.hid (new_strs w (refI.map Value.string).toArray 9 refI rfl)
 have hB := Lib.hid hb0
 clear hb0
 go_enter Tryz.func51, Tryz.ntmps51
 go_wp2
 go_ret
 exact ⟨_, _, rfl, hs.out, hB.out⟩
theorem Others_any (w : World) : Calls Tryz.prog 52 #[] w (WdP refO w) := by
 have hb0 := (Below.refl w.heap.size w).alloc (Nat.le_refl _) (.cells (refO.map Value.string).toArray 9)
 have hs := Lib.hid (new_strs w (refO.map Value.string).toArray 9 refO rfl)
 have hB := Lib.hid hb0
 clear hb0
 go_enter Tryz.func52, Tryz.ntmps52
 go_wp2
 go_ret
 exact ⟨_, _, rfl, hs.out, hB.out⟩
def nmK (l : List UInt8) (k : Nat) : Bool := if k = 0 then nmBytes l else (l.drop k).all tailB
theorem nmK_zero {l : List UInt8} (h : 0 < l.length) : nmK l 0 = (lowB l[0] && nmK l 1) := by
 cases l with
 | nil => simp at h
 | cons b r => simp [nmK, nmBytes]
theorem nmK_succ {l : List UInt8} {k : Nat} (h0 : 0 < k) (h : k < l.length) : nmK l k = (tailB l[k] && nmK l (k + 1)) := by
 unfold nmK
 rw [if_neg (by omega), if_neg (by omega), List.drop_eq_getElem_cons h, List.all_cons]
theorem nmK_end {l : List UInt8} {k : Nat} (h : l.length ≤ k) : nmK l k = true := by
 unfold nmK
 split
 ·rename_i h0
  subst h0
  obtain rfl : l = [] := List.length_eq_zero_iff.1 (by omega)
  rfl
 ·rw [List.drop_eq_nil_of_le h]; rfl
theorem tailB_of {b : UInt8} (h : lowB b = true) : tailB b = true := by unfold tailB; rw [h]; rfl
theorem tailB_no {b : UInt8} (h : lowB b = false) : tailB b = ((decide (48 ≤ b.toNat) && decide (b.toNat ≤ 57)) || decide (b.toNat = 95)) := by unfold tailB; rw [h]; rfl
theorem RName_any (x : ByteArray) (w : World) (hx : x.size ≤ maxLen) : Calls Tryz.prog 25 #[.string x] w (C.V1 (.bool (nm5 x)) w) := by
 obtain ⟨r, hr⟩ : ∃ r, nm5 x = r := ⟨_, rfl⟩
 rw [hr]
 have HR : Hid ((nmK x.data.toList 0 && (decide (1 ≤ x.size) && (decide (x.size ≤ 12) && !key5 x))) = r) := Lib.hid hr
 have hxl : (x.size : Int) < 9223372036854775808 := by unfold maxLen at hx; omega
 clear hr hx
 go_enter Tryz.func25, Tryz.ntmps25
 go_wp2
 go_loopg [3] (x.size) (fun gk i wr => ∃ k : Nat, k + gk = x.size ∧ i = .int .i64 k ∧ Hid ((nmK x.data.toList k && (decide (1 ≤ x.size) && (decide (x.size ≤ 12) && !key5 x))) = r) ∧ wr = w)
 case atStart => exact ⟨0, by omega, rfl, HR, rfl⟩
 case round =>
  obtain ⟨k, hk, rfl, hI, rfl⟩ := hrel
  clear HR
  by_cases hlt : k < x.size
  ·obtain ⟨gq, rfl⟩ : ∃ g, gk = g + 1 := ⟨gk - 1, by omega⟩
   have hl : k < x.data.toList.length := by simpa using hlt
   have hb := byte_lt (x[k]'hlt)
   have he : x.data.toList[k] = x[k]'hlt := by simp [ByteArray.getElem_eq_getElem_data]
   have hF : Hid (∀ b : Bool, (if k = 0 then lowB (x[k]'hlt) else tailB (x[k]'hlt)) = b → ((b && nmK x.data.toList (k + 1)) && (decide (1 ≤ x.size) && (decide (x.size ≤ 12) && !key5 x))) = r) := Lib.hid (by
    intro b hb
    have h1 := hI.out
    by_cases h0 : k = 0
    ·subst h0
     rw [nmK_zero hl, he] at h1
     rw [if_pos rfl] at hb
     rw [← hb]; exact h1
    ·rw [nmK_succ (by omega) hl, he] at h1
     rw [if_neg h0] at hb
     rw [← hb]; exact h1)
   clear hI he hl
   by_cases h1 : ((x[k]'hlt).toNat : Int) < 97
   ·rcases Nat.eq_zero_or_pos k with h0 | h0
    ·by_cases h3 : ((x[k]'hlt).toNat : Int) < 48
     ·subst h0
      have t1 : decide (((x[0]'hlt).toNat : Int) < 97) = true := by simp; omega
      have t2 : decide (((x[0]'hlt).toNat : Int) > 122) = false := by simp; omega
      have t3 : decide (((x[0]'hlt).toNat : Int) < 48) = true := by simp; omega
      have t4 : decide (((x[0]'hlt).toNat : Int) > 57) = false := by simp; omega
      have t5 : (((x[0]'hlt).toNat : Int) != 95) = true := by simp; omega
      have hlb : lowB (x[0]'hlt) = false := by unfold lowB; simp; omega
      have hG := hF.out false (by rw [if_pos rfl]; exact hlb)
      clear hlb hF
      obtain rfl : false = r := by simpa using hG
      clear hG
      go_wp2
      go_ret
      exact ⟨rfl, Below.refl _ _⟩
     ·by_cases h4 : 57 < ((x[k]'hlt).toNat : Int)
      ·by_cases h5 : ((x[k]'hlt).toNat : Int) = 95
       ·subst h0
        have t1 : decide (((x[0]'hlt).toNat : Int) < 97) = true := by simp; omega
        have t2 : decide (((x[0]'hlt).toNat : Int) > 122) = false := by simp; omega
        have t3 : decide (((x[0]'hlt).toNat : Int) < 48) = false := by simp; omega
        have t4 : decide (((x[0]'hlt).toNat : Int) > 57) = true := by simp; omega
        have t5 : (((x[0]'hlt).toNat : Int) != 95) = false := by simp; omega
        have hlb : lowB (x[0]'hlt) = false := by unfold lowB; simp; omega
        have hG := hF.out false (by rw [if_pos rfl]; exact hlb)
        clear hlb hF
        obtain rfl : false = r := by simpa using hG
        clear hG
        go_wp2
        go_ret
        exact ⟨rfl, Below.refl _ _⟩
       ·subst h0
        have t1 : decide (((x[0]'hlt).toNat : Int) < 97) = true := by simp; omega
        have t2 : decide (((x[0]'hlt).toNat : Int) > 122) = false := by simp; omega
        have t3 : decide (((x[0]'hlt).toNat : Int) < 48) = false := by simp; omega
        have t4 : decide (((x[0]'hlt).toNat : Int) > 57) = true := by simp; omega
        have t5 : (((x[0]'hlt).toNat : Int) != 95) = true := by simp; omega
        have hlb : lowB (x[0]'hlt) = false := by unfold lowB; simp; omega
        have hG := hF.out false (by rw [if_pos rfl]; exact hlb)
        clear hlb hF
        obtain rfl : false = r := by simpa using hG
        clear hG
        go_wp2
        go_ret
        exact ⟨rfl, Below.refl _ _⟩
      ·subst h0
       have t1 : decide (((x[0]'hlt).toNat : Int) < 97) = true := by simp; omega
       have t2 : decide (((x[0]'hlt).toNat : Int) > 122) = false := by simp; omega
       have t3 : decide (((x[0]'hlt).toNat : Int) < 48) = false := by simp; omega
       have t4 : decide (((x[0]'hlt).toNat : Int) > 57) = false := by simp; omega
       have t5 : (((x[0]'hlt).toNat : Int) != 95) = true := by simp; omega
       have hlb : lowB (x[0]'hlt) = false := by unfold lowB; simp; omega
       have hG := hF.out false (by rw [if_pos rfl]; exact hlb)
       clear hlb hF
       obtain rfl : false = r := by simpa using hG
       clear hG
       go_wp2
       go_ret
       exact ⟨rfl, Below.refl _ _⟩
    ·by_cases h3 : ((x[k]'hlt).toNat : Int) < 48
     ·have t1 : decide (((x[k]'hlt).toNat : Int) < 97) = true := by simp; omega
      have t2 : decide (((x[k]'hlt).toNat : Int) > 122) = false := by simp; omega
      have t3 : decide (((x[k]'hlt).toNat : Int) < 48) = true := by simp; omega
      have t4 : decide (((x[k]'hlt).toNat : Int) > 57) = false := by simp; omega
      have t5 : (((x[k]'hlt).toNat : Int) != 95) = true := by simp; omega
      have t0 : ((k : Int) == 0) = false := by simp; omega
      have hlb : lowB (x[k]'hlt) = false := by unfold lowB; simp; omega
      have hG := hF.out false (by rw [if_neg (by omega)]; rw [tailB_no hlb]; simp; omega)
      clear hlb hF
      obtain rfl : false = r := by simpa using hG
      clear hG
      go_wp2
      go_ret
      exact ⟨rfl, Below.refl _ _⟩
     ·by_cases h4 : 57 < ((x[k]'hlt).toNat : Int)
      ·by_cases h5 : ((x[k]'hlt).toNat : Int) = 95
       ·have t1 : decide (((x[k]'hlt).toNat : Int) < 97) = true := by simp; omega
        have t2 : decide (((x[k]'hlt).toNat : Int) > 122) = false := by simp; omega
        have t3 : decide (((x[k]'hlt).toNat : Int) < 48) = false := by simp; omega
        have t4 : decide (((x[k]'hlt).toNat : Int) > 57) = true := by simp; omega
        have t5 : (((x[k]'hlt).toNat : Int) != 95) = false := by simp; omega
        have t0 : ((k : Int) == 0) = false := by simp; omega
        have hlb : lowB (x[k]'hlt) = false := by unfold lowB; simp; omega
        have hG := hF.out true (by rw [if_neg (by omega)]; rw [tailB_no hlb]; simp; omega)
        clear hlb hF
        have hG := Lib.hid (by rw [Bool.true_and] at hG; exact hG)
        clear h1
        go_wp2
        go_roundg gq
        case measure => omega
        case rel => exact ⟨k + 1, by omega, by go_num, hG, rfl⟩
       ·have t1 : decide (((x[k]'hlt).toNat : Int) < 97) = true := by simp; omega
        have t2 : decide (((x[k]'hlt).toNat : Int) > 122) = false := by simp; omega
        have t3 : decide (((x[k]'hlt).toNat : Int) < 48) = false := by simp; omega
        have t4 : decide (((x[k]'hlt).toNat : Int) > 57) = true := by simp; omega
        have t5 : (((x[k]'hlt).toNat : Int) != 95) = true := by simp; omega
        have t0 : ((k : Int) == 0) = false := by simp; omega
        have hlb : lowB (x[k]'hlt) = false := by unfold lowB; simp; omega
        have hG := hF.out false (by rw [if_neg (by omega)]; rw [tailB_no hlb]; simp; omega)
        clear hlb hF
        obtain rfl : false = r := by simpa using hG
        clear hG
        go_wp2
        go_ret
        exact ⟨rfl, Below.refl _ _⟩
      ·have t1 : decide (((x[k]'hlt).toNat : Int) < 97) = true := by simp; omega
       have t2 : decide (((x[k]'hlt).toNat : Int) > 122) = false := by simp; omega
       have t3 : decide (((x[k]'hlt).toNat : Int) < 48) = false := by simp; omega
       have t4 : decide (((x[k]'hlt).toNat : Int) > 57) = false := by simp; omega
       have t5 : (((x[k]'hlt).toNat : Int) != 95) = true := by simp; omega
       have t0 : ((k : Int) == 0) = false := by simp; omega
       have hlb : lowB (x[k]'hlt) = false := by unfold lowB; simp; omega
       have hG := hF.out true (by rw [if_neg (by omega)]; rw [tailB_no hlb]; simp; omega)
       clear hlb hF
       have hG := Lib.hid (by rw [Bool.true_and] at hG; exact hG)
       clear h1
       go_wp2
       go_roundg gq
       case measure => omega
       case rel => exact ⟨k + 1, by omega, by go_num, hG, rfl⟩
   ·by_cases h2 : 122 < ((x[k]'hlt).toNat : Int)
    ·rcases Nat.eq_zero_or_pos k with h0 | h0
     ·subst h0
      have t1 : decide (((x[0]'hlt).toNat : Int) < 97) = false := by simp; omega
      have t2 : decide (((x[0]'hlt).toNat : Int) > 122) = true := by simp; omega
      have t3 : decide (((x[0]'hlt).toNat : Int) < 48) = false := by simp; omega
      have t4 : decide (((x[0]'hlt).toNat : Int) > 57) = true := by simp; omega
      have t5 : (((x[0]'hlt).toNat : Int) != 95) = true := by simp; omega
      have hlb : lowB (x[0]'hlt) = false := by unfold lowB; simp; omega
      have hG := hF.out false (by rw [if_pos rfl]; exact hlb)
      clear hlb hF
      obtain rfl : false = r := by simpa using hG
      clear hG
      go_wp2
      go_ret
      exact ⟨rfl, Below.refl _ _⟩
     ·have t1 : decide (((x[k]'hlt).toNat : Int) < 97) = false := by simp; omega
      have t2 : decide (((x[k]'hlt).toNat : Int) > 122) = true := by simp; omega
      have t3 : decide (((x[k]'hlt).toNat : Int) < 48) = false := by simp; omega
      have t4 : decide (((x[k]'hlt).toNat : Int) > 57) = true := by simp; omega
      have t5 : (((x[k]'hlt).toNat : Int) != 95) = true := by simp; omega
      have t0 : ((k : Int) == 0) = false := by simp; omega
      have hlb : lowB (x[k]'hlt) = false := by unfold lowB; simp; omega
      have hG := hF.out false (by rw [if_neg (by omega)]; rw [tailB_no hlb]; simp; omega)
      clear hlb hF
      obtain rfl : false = r := by simpa using hG
      clear hG
      go_wp2
      go_ret
      exact ⟨rfl, Below.refl _ _⟩
    ·rcases Nat.eq_zero_or_pos k with h0 | h0
     ·subst h0
      have t1 : decide (((x[0]'hlt).toNat : Int) < 97) = false := by simp; omega
      have t2 : decide (((x[0]'hlt).toNat : Int) > 122) = false := by simp; omega
      have t3 : decide (((x[0]'hlt).toNat : Int) < 48) = false := by simp; omega
      have t4 : decide (((x[0]'hlt).toNat : Int) > 57) = true := by simp; omega
      have t5 : (((x[0]'hlt).toNat : Int) != 95) = true := by simp; omega
      have hlb : lowB (x[0]'hlt) = true := by unfold lowB; simp; omega
      have hG := hF.out true (by rw [if_pos rfl]; exact hlb)
      clear hlb hF
      have hG := Lib.hid (by rw [Bool.true_and] at hG; exact hG)
      clear h1
      go_wp2
      go_roundg gq
      case measure => omega
      case rel => exact ⟨1, by omega, by go_num, hG, rfl⟩
     ·have t1 : decide (((x[k]'hlt).toNat : Int) < 97) = false := by simp; omega
      have t2 : decide (((x[k]'hlt).toNat : Int) > 122) = false := by simp; omega
      have t3 : decide (((x[k]'hlt).toNat : Int) < 48) = false := by simp; omega
      have t4 : decide (((x[k]'hlt).toNat : Int) > 57) = true := by simp; omega
      have t5 : (((x[k]'hlt).toNat : Int) != 95) = true := by simp; omega
      have t0 : ((k : Int) == 0) = false := by simp; omega
      have hlb : lowB (x[k]'hlt) = true := by unfold lowB; simp; omega
      have hG := hF.out true (by rw [if_neg (by omega)]; exact tailB_of hlb)
      clear hlb hF
      have hG := Lib.hid (by rw [Bool.true_and] at hG; exact hG)
      clear h1
      go_wp2
      go_roundg gq
      case measure => omega
      case rel => exact ⟨k + 1, by omega, by go_num, hG, rfl⟩
  ·have hE : Hid ((decide (1 ≤ x.size) && (decide (x.size ≤ 12) && !key5 x)) = r) := Lib.hid (by
    have h1 := hI.out
    rw [nmK_end (by simp; omega), Bool.true_and] at h1
    exact h1)
   clear hI
   have HB := Lib.hid (Below.refl wr.heap.size wr)
   by_cases q0 : 0 ≤ idx refU x
   ·have k0 : decide (idx refU x ≥ 0) = true := by simpa using q0
    have hk : key5 x = true := by unfold key5; rw [decide_eq_true q0]; rfl
    rw [hk] at hE
    clear hk q0
    go_upto_region 8 with (first
     | (go_at_call 48; refine (Units_any _).mono ?_; rintro e u0 ⟨g0, c0, rfl, hs0, hb0⟩; have HB := Lib.hid (Gr.tr HB.out hb0); have hs0 := Lib.hid hs0; clear hb0)
     | (go_at_call_of 47 (Value.slice (some ⟨g0, 0, none⟩) refU.length c0); refine (In_any _ g0 c0 refU x hs0.out (by decide)).mono ?_; rintro e v0 ⟨rfl, hv0⟩; subst hv0))
    by_cases s1 : 1 ≤ x.size
    ·by_cases s2 : x.size ≤ 12
     ·obtain rfl : false = r := by have h := hE.out; simpa [s1, s2] using h
      have z1 : decide ((x.size : Int) ≥ 1) = true := by simp; omega
      have z2 : decide ((x.size : Int) ≤ 12) = true := by simp; omega
      go_wp2
      go_ret
      exact ⟨rfl, HB.out⟩
     ·obtain rfl : false = r := by have h := hE.out; simpa [s1, s2] using h
      have z1 : decide ((x.size : Int) ≥ 1) = true := by simp; omega
      have z2 : decide ((x.size : Int) ≤ 12) = false := by simp; omega
      go_wp2
      go_ret
      exact ⟨rfl, HB.out⟩
    ·have s2 : x.size ≤ 12 := by omega
     obtain rfl : false = r := by have h := hE.out; simpa [s1, s2] using h
     have z1 : decide ((x.size : Int) ≥ 1) = false := by simp; omega
     have z2 : decide ((x.size : Int) ≤ 12) = true := by simp; omega
     go_wp2
     go_ret
     exact ⟨rfl, HB.out⟩
   ·by_cases q1 : 0 ≤ idx refE x
    ·have k0 : decide (idx refU x ≥ 0) = false := by simpa using q0
     have k1 : decide (idx refE x ≥ 0) = true := by simpa using q1
     have hk : key5 x = true := by unfold key5; rw [decide_eq_false q0];  rw [decide_eq_true q1]; rfl
     rw [hk] at hE
     clear hk q0 q1
     go_upto_region 8 with (first
      | (go_at_call 48; refine (Units_any _).mono ?_; rintro e u0 ⟨g0, c0, rfl, hs0, hb0⟩; have HB := Lib.hid (Gr.tr HB.out hb0); have hs0 := Lib.hid hs0; clear hb0)
      | (go_at_call_of 47 (Value.slice (some ⟨g0, 0, none⟩) refU.length c0); refine (In_any _ g0 c0 refU x hs0.out (by decide)).mono ?_; rintro e v0 ⟨rfl, hv0⟩; subst hv0)
      | (go_at_call 49; refine (Events_any _).mono ?_; rintro e u1 ⟨g1, c1, rfl, hs1, hb1⟩; have HB := Lib.hid (Gr.tr HB.out hb1); have hs1 := Lib.hid hs1; clear hb1)
      | (go_at_call_of 47 (Value.slice (some ⟨g1, 0, none⟩) refE.length c1); refine (In_any _ g1 c1 refE x hs1.out (by decide)).mono ?_; rintro e v1 ⟨rfl, hv1⟩; subst hv1))
     by_cases s1 : 1 ≤ x.size
     ·by_cases s2 : x.size ≤ 12
      ·obtain rfl : false = r := by have h := hE.out; simpa [s1, s2] using h
       have z1 : decide ((x.size : Int) ≥ 1) = true := by simp; omega
       have z2 : decide ((x.size : Int) ≤ 12) = true := by simp; omega
       go_wp2
       go_ret
       exact ⟨rfl, HB.out⟩
      ·obtain rfl : false = r := by have h := hE.out; simpa [s1, s2] using h
       have z1 : decide ((x.size : Int) ≥ 1) = true := by simp; omega
       have z2 : decide ((x.size : Int) ≤ 12) = false := by simp; omega
       go_wp2
       go_ret
       exact ⟨rfl, HB.out⟩
     ·have s2 : x.size ≤ 12 := by omega
      obtain rfl : false = r := by have h := hE.out; simpa [s1, s2] using h
      have z1 : decide ((x.size : Int) ≥ 1) = false := by simp; omega
      have z2 : decide ((x.size : Int) ≤ 12) = true := by simp; omega
      go_wp2
      go_ret
      exact ⟨rfl, HB.out⟩
    ·by_cases q2 : 0 ≤ idx refP x
     ·have k0 : decide (idx refU x ≥ 0) = false := by simpa using q0
      have k1 : decide (idx refE x ≥ 0) = false := by simpa using q1
      have k2 : decide (idx refP x ≥ 0) = true := by simpa using q2
      have hk : key5 x = true := by unfold key5; rw [decide_eq_false q0];  rw [decide_eq_false q1];  rw [decide_eq_true q2]; rfl
      rw [hk] at hE
      clear hk q0 q1 q2
      go_upto_region 8 with (first
       | (go_at_call 48; refine (Units_any _).mono ?_; rintro e u0 ⟨g0, c0, rfl, hs0, hb0⟩; have HB := Lib.hid (Gr.tr HB.out hb0); have hs0 := Lib.hid hs0; clear hb0)
       | (go_at_call_of 47 (Value.slice (some ⟨g0, 0, none⟩) refU.length c0); refine (In_any _ g0 c0 refU x hs0.out (by decide)).mono ?_; rintro e v0 ⟨rfl, hv0⟩; subst hv0)
       | (go_at_call 49; refine (Events_any _).mono ?_; rintro e u1 ⟨g1, c1, rfl, hs1, hb1⟩; have HB := Lib.hid (Gr.tr HB.out hb1); have hs1 := Lib.hid hs1; clear hb1)
       | (go_at_call_of 47 (Value.slice (some ⟨g1, 0, none⟩) refE.length c1); refine (In_any _ g1 c1 refE x hs1.out (by decide)).mono ?_; rintro e v1 ⟨rfl, hv1⟩; subst hv1)
       | (go_at_call 50; refine (Policies_any _).mono ?_; rintro e u2 ⟨g2, c2, rfl, hs2, hb2⟩; have HB := Lib.hid (Gr.tr HB.out hb2); have hs2 := Lib.hid hs2; clear hb2)
       | (go_at_call_of 47 (Value.slice (some ⟨g2, 0, none⟩) refP.length c2); refine (In_any _ g2 c2 refP x hs2.out (by decide)).mono ?_; rintro e v2 ⟨rfl, hv2⟩; subst hv2))
      by_cases s1 : 1 ≤ x.size
      ·by_cases s2 : x.size ≤ 12
       ·obtain rfl : false = r := by have h := hE.out; simpa [s1, s2] using h
        have z1 : decide ((x.size : Int) ≥ 1) = true := by simp; omega
        have z2 : decide ((x.size : Int) ≤ 12) = true := by simp; omega
        go_wp2
        go_ret
        exact ⟨rfl, HB.out⟩
       ·obtain rfl : false = r := by have h := hE.out; simpa [s1, s2] using h
        have z1 : decide ((x.size : Int) ≥ 1) = true := by simp; omega
        have z2 : decide ((x.size : Int) ≤ 12) = false := by simp; omega
        go_wp2
        go_ret
        exact ⟨rfl, HB.out⟩
      ·have s2 : x.size ≤ 12 := by omega
       obtain rfl : false = r := by have h := hE.out; simpa [s1, s2] using h
       have z1 : decide ((x.size : Int) ≥ 1) = false := by simp; omega
       have z2 : decide ((x.size : Int) ≤ 12) = true := by simp; omega
       go_wp2
       go_ret
       exact ⟨rfl, HB.out⟩
     ·by_cases q3 : 0 ≤ idx refI x
      ·have k0 : decide (idx refU x ≥ 0) = false := by simpa using q0
       have k1 : decide (idx refE x ≥ 0) = false := by simpa using q1
       have k2 : decide (idx refP x ≥ 0) = false := by simpa using q2
       have k3 : decide (idx refI x ≥ 0) = true := by simpa using q3
       have hk : key5 x = true := by unfold key5; rw [decide_eq_false q0];  rw [decide_eq_false q1];  rw [decide_eq_false q2];  rw [decide_eq_true q3]; rfl
       rw [hk] at hE
       clear hk q0 q1 q2 q3
       go_upto_region 8 with (first
        | (go_at_call 48; refine (Units_any _).mono ?_; rintro e u0 ⟨g0, c0, rfl, hs0, hb0⟩; have HB := Lib.hid (Gr.tr HB.out hb0); have hs0 := Lib.hid hs0; clear hb0)
        | (go_at_call_of 47 (Value.slice (some ⟨g0, 0, none⟩) refU.length c0); refine (In_any _ g0 c0 refU x hs0.out (by decide)).mono ?_; rintro e v0 ⟨rfl, hv0⟩; subst hv0)
        | (go_at_call 49; refine (Events_any _).mono ?_; rintro e u1 ⟨g1, c1, rfl, hs1, hb1⟩; have HB := Lib.hid (Gr.tr HB.out hb1); have hs1 := Lib.hid hs1; clear hb1)
        | (go_at_call_of 47 (Value.slice (some ⟨g1, 0, none⟩) refE.length c1); refine (In_any _ g1 c1 refE x hs1.out (by decide)).mono ?_; rintro e v1 ⟨rfl, hv1⟩; subst hv1)
        | (go_at_call 50; refine (Policies_any _).mono ?_; rintro e u2 ⟨g2, c2, rfl, hs2, hb2⟩; have HB := Lib.hid (Gr.tr HB.out hb2); have hs2 := Lib.hid hs2; clear hb2)
        | (go_at_call_of 47 (Value.slice (some ⟨g2, 0, none⟩) refP.length c2); refine (In_any _ g2 c2 refP x hs2.out (by decide)).mono ?_; rintro e v2 ⟨rfl, hv2⟩; subst hv2)
        | (go_at_call 51; refine (Inputs_any _).mono ?_; rintro e u3 ⟨g3, c3, rfl, hs3, hb3⟩; have HB := Lib.hid (Gr.tr HB.out hb3); have hs3 := Lib.hid hs3; clear hb3)
        | (go_at_call_of 47 (Value.slice (some ⟨g3, 0, none⟩) refI.length c3); refine (In_any _ g3 c3 refI x hs3.out (by decide)).mono ?_; rintro e v3 ⟨rfl, hv3⟩; subst hv3))
       by_cases s1 : 1 ≤ x.size
       ·by_cases s2 : x.size ≤ 12
        ·obtain rfl : false = r := by have h := hE.out; simpa [s1, s2] using h
         have z1 : decide ((x.size : Int) ≥ 1) = true := by simp; omega
         have z2 : decide ((x.size : Int) ≤ 12) = true := by simp; omega
         go_wp2
         go_ret
         exact ⟨rfl, HB.out⟩
        ·obtain rfl : false = r := by have h := hE.out; simpa [s1, s2] using h
         have z1 : decide ((x.size : Int) ≥ 1) = true := by simp; omega
         have z2 : decide ((x.size : Int) ≤ 12) = false := by simp; omega
         go_wp2
         go_ret
         exact ⟨rfl, HB.out⟩
       ·have s2 : x.size ≤ 12 := by omega
        obtain rfl : false = r := by have h := hE.out; simpa [s1, s2] using h
        have z1 : decide ((x.size : Int) ≥ 1) = false := by simp; omega
        have z2 : decide ((x.size : Int) ≤ 12) = true := by simp; omega
        go_wp2
        go_ret
        exact ⟨rfl, HB.out⟩
      ·by_cases q4 : 0 ≤ idx refO x
       ·have k0 : decide (idx refU x ≥ 0) = false := by simpa using q0
        have k1 : decide (idx refE x ≥ 0) = false := by simpa using q1
        have k2 : decide (idx refP x ≥ 0) = false := by simpa using q2
        have k3 : decide (idx refI x ≥ 0) = false := by simpa using q3
        have k4 : decide (idx refO x ≥ 0) = true := by simpa using q4
        have hk : key5 x = true := by unfold key5; rw [decide_eq_false q0];  rw [decide_eq_false q1];  rw [decide_eq_false q2];  rw [decide_eq_false q3];  rw [decide_eq_true q4]; rfl
        rw [hk] at hE
        clear hk q0 q1 q2 q3 q4
        go_upto_region 8 with (first
         | (go_at_call 48; refine (Units_any _).mono ?_; rintro e u0 ⟨g0, c0, rfl, hs0, hb0⟩; have HB := Lib.hid (Gr.tr HB.out hb0); have hs0 := Lib.hid hs0; clear hb0)
         | (go_at_call_of 47 (Value.slice (some ⟨g0, 0, none⟩) refU.length c0); refine (In_any _ g0 c0 refU x hs0.out (by decide)).mono ?_; rintro e v0 ⟨rfl, hv0⟩; subst hv0)
         | (go_at_call 49; refine (Events_any _).mono ?_; rintro e u1 ⟨g1, c1, rfl, hs1, hb1⟩; have HB := Lib.hid (Gr.tr HB.out hb1); have hs1 := Lib.hid hs1; clear hb1)
         | (go_at_call_of 47 (Value.slice (some ⟨g1, 0, none⟩) refE.length c1); refine (In_any _ g1 c1 refE x hs1.out (by decide)).mono ?_; rintro e v1 ⟨rfl, hv1⟩; subst hv1)
         | (go_at_call 50; refine (Policies_any _).mono ?_; rintro e u2 ⟨g2, c2, rfl, hs2, hb2⟩; have HB := Lib.hid (Gr.tr HB.out hb2); have hs2 := Lib.hid hs2; clear hb2)
         | (go_at_call_of 47 (Value.slice (some ⟨g2, 0, none⟩) refP.length c2); refine (In_any _ g2 c2 refP x hs2.out (by decide)).mono ?_; rintro e v2 ⟨rfl, hv2⟩; subst hv2)
         | (go_at_call 51; refine (Inputs_any _).mono ?_; rintro e u3 ⟨g3, c3, rfl, hs3, hb3⟩; have HB := Lib.hid (Gr.tr HB.out hb3); have hs3 := Lib.hid hs3; clear hb3)
         | (go_at_call_of 47 (Value.slice (some ⟨g3, 0, none⟩) refI.length c3); refine (In_any _ g3 c3 refI x hs3.out (by decide)).mono ?_; rintro e v3 ⟨rfl, hv3⟩; subst hv3)
         | (go_at_call 52; refine (Others_any _).mono ?_; rintro e u4 ⟨g4, c4, rfl, hs4, hb4⟩; have HB := Lib.hid (Gr.tr HB.out hb4); have hs4 := Lib.hid hs4; clear hb4)
         | (go_at_call_of 47 (Value.slice (some ⟨g4, 0, none⟩) refO.length c4); refine (In_any _ g4 c4 refO x hs4.out (by decide)).mono ?_; rintro e v4 ⟨rfl, hv4⟩; subst hv4))
        by_cases s1 : 1 ≤ x.size
        ·by_cases s2 : x.size ≤ 12
         ·obtain rfl : false = r := by have h := hE.out; simpa [s1, s2] using h
          have z1 : decide ((x.size : Int) ≥ 1) = true := by simp; omega
          have z2 : decide ((x.size : Int) ≤ 12) = true := by simp; omega
          go_wp2
          go_ret
          exact ⟨rfl, HB.out⟩
         ·obtain rfl : false = r := by have h := hE.out; simpa [s1, s2] using h
          have z1 : decide ((x.size : Int) ≥ 1) = true := by simp; omega
          have z2 : decide ((x.size : Int) ≤ 12) = false := by simp; omega
          go_wp2
          go_ret
          exact ⟨rfl, HB.out⟩
        ·have s2 : x.size ≤ 12 := by omega
         obtain rfl : false = r := by have h := hE.out; simpa [s1, s2] using h
         have z1 : decide ((x.size : Int) ≥ 1) = false := by simp; omega
         have z2 : decide ((x.size : Int) ≤ 12) = true := by simp; omega
         go_wp2
         go_ret
         exact ⟨rfl, HB.out⟩
       ·have k0 : decide (idx refU x ≥ 0) = false := by simpa using q0
        have k1 : decide (idx refE x ≥ 0) = false := by simpa using q1
        have k2 : decide (idx refP x ≥ 0) = false := by simpa using q2
        have k3 : decide (idx refI x ≥ 0) = false := by simpa using q3
        have k4 : decide (idx refO x ≥ 0) = false := by simpa using q4
        have hk : key5 x = false := by unfold key5; rw [decide_eq_false q0];  rw [decide_eq_false q1];  rw [decide_eq_false q2];  rw [decide_eq_false q3];  rw [decide_eq_false q4]; rfl
        rw [hk] at hE
        clear hk q0 q1 q2 q3 q4
        go_upto_region 8 with (first
         | (go_at_call 48; refine (Units_any _).mono ?_; rintro e u0 ⟨g0, c0, rfl, hs0, hb0⟩; have HB := Lib.hid (Gr.tr HB.out hb0); have hs0 := Lib.hid hs0; clear hb0)
         | (go_at_call_of 47 (Value.slice (some ⟨g0, 0, none⟩) refU.length c0); refine (In_any _ g0 c0 refU x hs0.out (by decide)).mono ?_; rintro e v0 ⟨rfl, hv0⟩; subst hv0)
         | (go_at_call 49; refine (Events_any _).mono ?_; rintro e u1 ⟨g1, c1, rfl, hs1, hb1⟩; have HB := Lib.hid (Gr.tr HB.out hb1); have hs1 := Lib.hid hs1; clear hb1)
         | (go_at_call_of 47 (Value.slice (some ⟨g1, 0, none⟩) refE.length c1); refine (In_any _ g1 c1 refE x hs1.out (by decide)).mono ?_; rintro e v1 ⟨rfl, hv1⟩; subst hv1)
         | (go_at_call 50; refine (Policies_any _).mono ?_; rintro e u2 ⟨g2, c2, rfl, hs2, hb2⟩; have HB := Lib.hid (Gr.tr HB.out hb2); have hs2 := Lib.hid hs2; clear hb2)
         | (go_at_call_of 47 (Value.slice (some ⟨g2, 0, none⟩) refP.length c2); refine (In_any _ g2 c2 refP x hs2.out (by decide)).mono ?_; rintro e v2 ⟨rfl, hv2⟩; subst hv2)
         | (go_at_call 51; refine (Inputs_any _).mono ?_; rintro e u3 ⟨g3, c3, rfl, hs3, hb3⟩; have HB := Lib.hid (Gr.tr HB.out hb3); have hs3 := Lib.hid hs3; clear hb3)
         | (go_at_call_of 47 (Value.slice (some ⟨g3, 0, none⟩) refI.length c3); refine (In_any _ g3 c3 refI x hs3.out (by decide)).mono ?_; rintro e v3 ⟨rfl, hv3⟩; subst hv3)
         | (go_at_call 52; refine (Others_any _).mono ?_; rintro e u4 ⟨g4, c4, rfl, hs4, hb4⟩; have HB := Lib.hid (Gr.tr HB.out hb4); have hs4 := Lib.hid hs4; clear hb4)
         | (go_at_call_of 47 (Value.slice (some ⟨g4, 0, none⟩) refO.length c4); refine (In_any _ g4 c4 refO x hs4.out (by decide)).mono ?_; rintro e v4 ⟨rfl, hv4⟩; subst hv4))
        by_cases s1 : 1 ≤ x.size
        ·by_cases s2 : x.size ≤ 12
         ·obtain rfl : true = r := by have h := hE.out; simpa [s1, s2] using h
          have z1 : decide ((x.size : Int) ≥ 1) = true := by simp; omega
          have z2 : decide ((x.size : Int) ≤ 12) = true := by simp; omega
          go_wp2
          go_ret
          exact ⟨rfl, HB.out⟩
         ·obtain rfl : false = r := by have h := hE.out; simpa [s1, s2] using h
          have z1 : decide ((x.size : Int) ≥ 1) = true := by simp; omega
          have z2 : decide ((x.size : Int) ≤ 12) = false := by simp; omega
          go_wp2
          go_ret
          exact ⟨rfl, HB.out⟩
        ·have s2 : x.size ≤ 12 := by omega
         obtain rfl : false = r := by have h := hE.out; simpa [s1, s2] using h
         have z1 : decide ((x.size : Int) ≥ 1) = false := by simp; omega
         have z2 : decide ((x.size : Int) ≤ 12) = true := by simp; omega
         go_wp2
         go_ret
         exact ⟨rfl, HB.out⟩
end Go.Proofs.YtljknappbnoikaaGreatDoor
