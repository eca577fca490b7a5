/-
  Texts of this claim in one file: Law13g.
-/
import Derived.Test.YtpkmidaflnbobaaGreatDoorPk32
import Derived.Test.YtpkmidaflnbobaaGreatDoorPk30
section
namespace Go.Proofs.YtpkmidaflnbobaaGreatDoor
open Go Go.RowKit
set_option linter.unusedVariables false
set_option linter.unusedSimpArgs false
theorem labels13_law (A0 : Option Addr) (x0 : List UInt8) (c0 : Nat) (A1 : Option Addr) (x1 : List UInt8) (c1 : Nat) (s : ByteArray) (A3 : Option Addr) (x3 : List UInt8) (c3 : Nat) (A4 : Option Addr) (x4 : List UInt8) (c4 : Nat) (w : World) (h0 : Sq w w.heap.size A0 c0 (bvs x0)) (h1 : Sq w w.heap.size A1 c1 (bvs x1)) (h3 : Sq w w.heap.size A3 c3 (bvs x3)) (h4 : Sq w w.heap.size A4 c4 (bvs x4)) (hG : Glob w) :
    Calls Tryz.prog 7 #[.slice A0 x0.length c0, .slice A1 x1.length c1, .string s, .slice A3 x3.length c3, .slice A4 x4.length c4] w fun e w' => e = .returned (.bool true) ∧ Below w.heap.size w w' :=
  hpkeLabels_any pair_ok open_ok13 seal_ok13 seallabel_ok openlabel_ok A0 x0 c0 A1 x1 c1 A3 x3 c3 A4 x4 c4 s w hG h0 h1 h3 h4
theorem back13_law (A0 : Option Addr) (x0 : List UInt8) (c0 : Nat) (A1 : Option Addr) (x1 : List UInt8) (c1 : Nat) (s : ByteArray) (A3 : Option Addr) (x3 : List UInt8) (c3 : Nat) (A4 : Option Addr) (x4 : List UInt8) (c4 : Nat) (w : World) (h0 : Sq w w.heap.size A0 c0 (bvs x0)) (h1 : Sq w w.heap.size A1 c1 (bvs x1)) (h3 : Sq w w.heap.size A3 c3 (bvs x3)) (h4 : Sq w w.heap.size A4 c4 (bvs x4)) (hG : Glob w) :
    Calls Tryz.prog 8 #[.slice A0 x0.length c0, .slice A1 x1.length c1, .string s, .slice A3 x3.length c3, .slice A4 x4.length c4] w fun e w' => e = .returned (.bool true) ∧ Below w.heap.size w w' :=
  hpkeBack_any pair_ok open_ok13 wrap_ok13 unwrap_ok13 seallabel_ok openlabel_ok A0 x0 c0 A1 x1 c1 A3 x3 c3 A4 x4 c4 s w hG h0 h1 h3 h4
end Go.Proofs.YtpkmidaflnbobaaGreatDoor
end
