/-
  Scalars as a ring: more of package scalar's calls over it.
-/
import Derived.Test.YtacikkhhacladaaScF
import Derived.Test.YtacikkhhacladaaScJ
namespace Go.Proofs.Ytacikkhhacladaa
open Go.RowKit
set_option linter.unusedVariables false
set_option linter.unusedSimpArgs false

theorem scSame (a b : SF) : Hid (∀ W : World, Calls Try.prog 22 #[.agg (sF a), .agg (sF b)] W fun e w' => e = .returned (.bool (decide (a = b))) ∧ Below W.heap.size W w') := hid fun W => by
  have h := ScSame_e a.val b.val W (SF_lt a) (SF_lt b)
  rw [show decide (a = b) = decide (a.val = b.val) from by simp only [Fin.ext_iff]]
  exact h
theorem scSameT {a b : SF} (h : a = b) : Hid (∀ W : World, Calls Try.prog 22 #[.agg (sF a), .agg (sF b)] W fun e w' => e = .returned (.bool true) ∧ Below W.heap.size W w') := by
  have := scSame a b
  rwa [decide_eq_true h] at this
theorem scBytes (a : SF) : Hid (∀ W : World, Calls Try.prog 28 #[.agg (sF a)] W fun e w' => ∃ v, e = .returned v ∧ OwnB w' W.heap.size v (leB 32 a.val) ∧ Below W.heap.size W w') := hid fun W => ScBytes_e a.val W (SF_lt a)
end Go.Proofs.Ytacikkhhacladaa
