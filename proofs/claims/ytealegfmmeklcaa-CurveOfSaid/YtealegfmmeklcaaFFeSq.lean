/-
  Package field's squares, over the field FF.
-/
import Derived.Test.YtealegfmmeklcaaFFe
import Derived.Test.YtealegfmmeklcaaFldSq
namespace Go.Proofs.Ytealegfmmeklcaa
open Go.RowKit

theorem sqE {a r : FF} (hr : r = a * a) : Hid (∀ W : World, Calls Try.prog 55 #[.agg (eF a)] W fun e w' => e = .returned (.agg (eF r)) ∧ Below W.heap.size W w') := hid fun W => by
  have e : r.val = a.val * a.val % pp := by rw [hr, Fin.val_mul]; rfl
  unfold eF
  rw [e]
  exact Square_e a.val W a.isLt
end Go.Proofs.Ytealegfmmeklcaa
