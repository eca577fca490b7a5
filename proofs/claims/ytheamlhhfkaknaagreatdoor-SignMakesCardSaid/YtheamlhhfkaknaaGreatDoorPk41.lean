/-
  Texts of this claim in one file: ScJ.
-/
import Derived.Test.YtheamlhhfkaknaaGreatDoorPk39
import Derived.Test.YtheamlhhfkaknaaGreatDoorPk40
import Derived.Test.YtheamlhhfkaknaaGreatDoorPk28
import Derived.Shelf.Bytes.SlEqualAll
section
namespace Go.Proofs.YtheamlhhfkaknaaGreatDoor
open Go Go.RowKit
set_option linter.unusedVariables false
set_option linter.unusedSimpArgs false
theorem Same_s (x y : Nat) (w : World) (hx : x < ordL) (hy : y < ordL) :
    Calls Tryz.prog 9 #[.agg (sA x), .agg (sA y)] w fun e w' => e = .returned (.bool (decide (x = y))) ∧ Below w.heap.size w w' := by
  have hp := ordL_big
  obtain ⟨a, b, c, d, ha, hb, hc, hd, hxv, ex⟩ := words x (by omega)
  obtain ⟨a', b', c', d', ha', hb', hc', hd', hyv, ey⟩ := words y (by omega)
  unfold sA
  rw [ex, ey]
  clear hx hy hp
  go_enter Tryz.func9, Tryz.ntmps9
  go_wp2
  all_goals go_ret
  all_goals refine ⟨?_, ((Below.refl _ _).alloc (Nat.le_refl _) _).alloc (by simp) _⟩
  all_goals first
    | (rw [decide_eq_true (by omega)]; rfl)
    | (rw [decide_eq_false (by omega)]; rfl)
section
variable (n m : Nat) (w : World) (hn : n < ordL) (hm : m < ordL)
include hn
theorem ScBytes_e : Calls Tryz.prog 22 #[.agg (sA n)] w fun e w' => ∃ v, e = .returned v ∧ OwnB w' w.heap.size v (leB 32 n) ∧ Below w.heap.size w w' := Bytes_s n w (by have := ordL_big; omega)
include hm
end
end Go.Proofs.YtheamlhhfkaknaaGreatDoor
end
