/- A region that draws its order, by the kernel: one take a row. No condition. -/
import Derived.Test.YtphjkkkjkfclgaaDgA
namespace Go.Proofs.Ytphjkkkjkfclgaa
open Go.RowKit
set_option linter.unusedVariables false
set_option linter.unusedSimpArgs false
section
variable {P : Program} {ops : Array Oper} {Q : Exit → Act → World → Prop} {md : Region.Mode} {S : World → Prop}
theorem wpAnyG_takeQ (hSG : Hid (∀ w w', S w → Gr w w' → S w')) (i : Nat) (d : Option Tmp) (v : Value) {fuel : Nat} {listed : Array Bool} {a : Act} {W : World} (h0 : takeOk md ops listed i d = true)
    (hQ : Hid (∀ c (a a' : Act) w, a.defers = a'.defers → Q (.panic c) a w → Q (.panic c) a' w)) (hy : Gives P ops S (ops.getD i default) v a) (hS : Hid (S W))
    (h : wpAnyG P md ops Q S fuel (listed.setIfInBounds i true) (a.put d v) W) : wpAnyG P md ops Q S (fuel + 1) listed a W :=
  wpAnyG_takeK hSG i d v h0 (fun c a w h => hQ.out c _ _ w (put_defs _ _ _) h) hy hS h
theorem wp_region_GK {id : Nat} {a : Act} {w : World} (hm : P.follows .mixedOrders = true) (hS : S w.drew) (hQ : ∀ c (a a' : Act) w, a.defers = a'.defers → Q (.panic c) a w → Q (.panic c) a' w)
    (h : Hid (∀ c (a a' : Act) w, a.defers = a'.defers → Q (.panic c) a w → Q (.panic c) a' w) → Hid (S w.drew) → wpAnyG P .any ops Q S ops.size (Array.replicate ops.size false) a w.drew) : (Code.region id ops true).wp P Q a w :=
  wp_region_any hm (wpAny_of_G _ _ _ _ (h hQ hS))
end
end Go.Proofs.Ytphjkkkjkfclgaa
