/-
  Texts of this claim in one file: Law17g.
-/
import Derived.Test.YthooibljnfnnhaaPk0
import Derived.Test.YthooibljnfnnhaaPk21
section
namespace Go.Proofs.Ythooibljnfnnhaa
open Go Go.RowKit
set_option linter.unusedVariables false
set_option linter.unusedSimpArgs false
theorem treeKeeps_law (A : Option Addr) (t : List Nd) (ad : List NA) (c : Nat) (l : Lf) (la : LA) (z : Int) (w : World) (hA : TrQ w w.heap.size A c t ad) (hr : Rng t) (hx : LfIn w l la) (hs : l.src < 256) (h1 : -9223372036854775808 ≤ z) (h2 : z ≤ 9223372036854775807) :
    Calls Try.prog 5 #[.slice A t.length c, .agg (lfV l la), .int .i64 z] w fun e w' => e = .returned (.bool true) ∧ Below w.heap.size w w' :=
  treeKeeps_any A t ad c l la z w hA hr hx hs
end Go.Proofs.Ythooibljnfnnhaa
end
