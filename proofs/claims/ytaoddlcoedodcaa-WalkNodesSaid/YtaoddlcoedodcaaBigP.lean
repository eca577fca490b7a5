/-
  Digits of base 2^15, plain: the digits of a number, and what they come to.
-/
namespace Go.Proofs.Ytaoddlcoedodcaa
set_option linter.unusedVariables false
set_option linter.unusedSimpArgs false
/-- All are digits. -/
def Dgs (ds : List Nat) : Prop := ∀ x ∈ ds, x < 32768
theorem Dgs.take {xs : List Nat} (h : Dgs xs) (k : Nat) : Dgs (xs.take k) := fun x hx => h x (List.mem_of_mem_take hx)
end Go.Proofs.Ytaoddlcoedodcaa
