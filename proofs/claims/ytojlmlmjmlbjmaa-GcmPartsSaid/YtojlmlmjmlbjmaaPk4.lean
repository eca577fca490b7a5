/-
  Texts of this claim in one file: BigP.
-/
section
namespace Go.Proofs.Ytojlmlmjmlbjmaa
set_option linter.unusedVariables false
set_option linter.unusedSimpArgs false
/-- All are digits. -/
def Dgs (ds : List Nat) : Prop := ∀ x ∈ ds, x < 32768
theorem Dgs.snoc {xs : List Nat} {y : Nat} (h : Dgs xs) (hy : y < 32768) : Dgs (xs ++ [y]) := by
  intro x hx
  rcases List.mem_append.1 hx with hx | hx
  · exact h x hx
  · simp at hx; omega
theorem Dgs.take {xs : List Nat} (h : Dgs xs) (k : Nat) : Dgs (xs.take k) := fun x hx => h x (List.mem_of_mem_take hx)
end Go.Proofs.Ytojlmlmjmlbjmaa
end
