/-
  Texts of this claim in one file: Loops.
-/
import Derived.Test.YtojlmlmjmlbjmaaPk22
section
namespace Go.Proofs.Ytojlmlmjmlbjmaa
open Go.RowKit
set_option linter.unusedVariables false
/-- The loops of a text, the outer ones first. -/
def loopsOf : Code → List Code
  | .loop c => c :: loopsOf c
  | .seq a b => loopsOf a ++ loopsOf b
  | .block _ c => loopsOf c
  | .scope c => loopsOf c
  | .cond _ a b => loopsOf a ++ loopsOf b
  | _ => []
/-- The body of a function's loop i. -/
noncomputable def loopN (f : Func) (i : Nat) : Code := ((f.body.map loopsOf).getD []).getD i .skip
end Go.Proofs.Ytojlmlmjmlbjmaa
end
