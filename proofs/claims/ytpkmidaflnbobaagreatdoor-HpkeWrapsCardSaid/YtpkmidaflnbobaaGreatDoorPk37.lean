/-
  Texts of this claim in one file: Law13g.
-/
import Derived.Test.YtpkmidaflnbobaaGreatDoorPk34
import Derived.Test.YtpkmidaflnbobaaGreatDoorPk32
section
namespace Go.Proofs.YtpkmidaflnbobaaGreatDoor
open Go Go.RowKit
set_option linter.unusedVariables false
set_option linter.unusedSimpArgs false
theorem pairs13_law (A0 : Option Addr) (x0 : List UInt8) (c0 : Nat) (w : World) (h0 : Sq w w.heap.size A0 c0 (bvs x0)) (hG : Glob w) :
    Calls Tryz.prog 3 #[.slice A0 x0.length c0] w fun e w' => e = .returned (.bool true) ∧ Below w.heap.size w w' :=
  hpkePairs_any pair_ok open_ok13 A0 x0 c0 w hG h0
theorem wraps13_law (A0 : Option Addr) (x0 : List UInt8) (c0 : Nat) (A1 : Option Addr) (x1 : List UInt8) (c1 : Nat) (w : World) (h0 : Sq w w.heap.size A0 c0 (bvs x0)) (h1 : Sq w w.heap.size A1 c1 (bvs x1)) (hG : Glob w) :
    Calls Tryz.prog 4 #[.slice A0 x0.length c0, .slice A1 x1.length c1] w fun e w' => e = .returned (.bool true) ∧ Below w.heap.size w w' :=
  hpkeWraps_any pair_ok open_ok13 wrap_ok13 A0 x0 c0 A1 x1 c1 w hG h0 h1
end Go.Proofs.YtpkmidaflnbobaaGreatDoor
end
