/-
  Texts of this claim in one file: Law17i.
-/
import Derived.Test.YthooibljnfnnhaaPk0
import Derived.Test.YthooibljnfnnhaaPk22
import Derived.Test.YthooibljnfnnhaaPk23
section
namespace Go.Proofs.Ythooibljnfnnhaa
open Go Go.RowKit
set_option linter.unusedVariables false
set_option linter.unusedSimpArgs false
theorem treeRight_law (A : Option Addr) (t : List Nd) (ad : List NA) (c : Nat) (z : Int) (w : World) (hA : TrQ w w.heap.size A c t ad) (hr : Rng t) (h1 : -9223372036854775808 ≤ z) (h2 : z ≤ 9223372036854775807) :
    Calls Try.prog 3 #[.slice A t.length c, .int .i64 z] w fun e w' => e = .returned (.bool true) ∧ Below w.heap.size w w' :=
  treeRight_any (fun A t ad c w h m => Right17_any A t ad c w h m) A t ad c z w hA hr
end Go.Proofs.Ythooibljnfnnhaa
end
