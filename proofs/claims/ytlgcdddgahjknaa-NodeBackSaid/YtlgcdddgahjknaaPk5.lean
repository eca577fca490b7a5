/-
  Texts of this claim in one file: Law14a.
-/
import Derived.Test.YtlgcdddgahjknaaPk3
import Derived.Test.YtlgcdddgahjknaaPk4
section
namespace Go.Proofs.Ytlgcdddgahjknaa
open Go Go.RowKit
set_option linter.unusedVariables false
set_option linter.unusedSimpArgs false
def ht (n : Int) : Nat := n.toNat.log2
def RetB (W : World) (b : Bool) (e : Ending) (w' : World) : Prop := e = .returned (.bool b) ∧ Below W.heap.size W w'
end Go.Proofs.Ytlgcdddgahjknaa
end
