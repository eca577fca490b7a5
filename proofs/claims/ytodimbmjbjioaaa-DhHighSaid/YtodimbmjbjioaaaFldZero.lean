/-
  Which number is 0.
-/
import Derived.Test.YtodimbmjbjioaaaFld5
namespace Go.Proofs.Ytodimbmjbjioaaa
open Go.RowKit
set_option linter.unusedVariables false
set_option linter.unusedSimpArgs false

theorem Zero_e (x : Nat) (w : World) (hx : x < pp) :
    Calls Try.prog 17 #[.agg (eA x)] w fun e w' => e = .returned (.bool (decide (x = 0))) ∧ Below w.heap.size w w' := by
  obtain ⟨a, b, c, d, ha, hb, hc, hd, hxv, ex⟩ := words x (pp_lt hx)
  rw [ex]
  clear hx
  go_enter Try.func17, Try.ntmps17
  go_wp2
  all_goals go_ret
  all_goals refine ⟨?_, (Below.refl _ _).alloc (Nat.le_refl _) _⟩
  all_goals first
    | (rw [decide_eq_true (by omega)]; rfl)
    | (rw [decide_eq_false (by omega)]; rfl)
end Go.Proofs.Ytodimbmjbjioaaa
