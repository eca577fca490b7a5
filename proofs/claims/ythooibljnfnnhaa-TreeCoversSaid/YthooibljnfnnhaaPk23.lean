/-
  Texts of this claim in one file: Law17g.
-/
import Derived.Test.YthooibljnfnnhaaPk0
import Derived.Test.YthooibljnfnnhaaPk22
section
namespace Go.Proofs.Ythooibljnfnnhaa
open Go Go.RowKit
set_option linter.unusedVariables false
set_option linter.unusedSimpArgs false
theorem treeCovers_law (A : Option Addr) (t : List Nd) (ad : List NA) (c : Nat) (z : Int) (w : World) (hA : TrQ w w.heap.size A c t ad) (hr : Rng t) (h1 : -9223372036854775808 ≤ z) (h2 : z ≤ 9223372036854775807) :
    Calls Try.prog 6 #[.slice A t.length c, .int .i64 z] w fun e w' => e = .returned (.bool true) ∧ Below w.heap.size w w' :=
  treeCovers_any A t ad c z w hA hr
end Go.Proofs.Ythooibljnfnnhaa
end
