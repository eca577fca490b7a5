/-
  Texts of this claim in one file: WkP.
-/
import Derived.Test.YtlgcdddgahjknaaPk21
section
namespace Go.Proofs.Ytlgcdddgahjknaa
open Go Go.RowKit
set_option linter.unusedVariables false
set_option linter.unusedSimpArgs false
/-- How many ones a number has from its lowest digit on. -/
def lv (x : Nat) : Nat := if h : x % 2 = 1 then lv (x / 2) + 1 else 0
termination_by x
decreasing_by omega
/-- The q-th node of level l. -/
def nd (q l : Nat) : Nat := q * 2 ^ (l + 1) + (2 ^ l - 1)
/-- The first and the last number beneath. -/
def loN (q l : Nat) : Nat := q * 2 ^ (l + 1)
def hiN (q l : Nat) : Nat := q * 2 ^ (l + 1) + (2 ^ (l + 1) - 2)
end Go.Proofs.Ytlgcdddgahjknaa
end
