/-
  What curve.P's Mul answers.
-/
import Derived.Test.YtealegfmmeklcaaCvI
import Derived.Test.YtealegfmmeklcaaCuM
namespace Go.Proofs.Ytealegfmmeklcaa
open Go Go.RowKit
theorem CvMul {v : Array Value} {p : Pt} (hv : PtV v p) (n : SF) : PtC 32 #[.agg v, .agg (sF n)] (Pt.times n.val p) := by
  obtain ⟨hp, rfl⟩ := hv
  exact ⟨_, ⟨Pt.times_on hp _, rfl⟩, hid fun W => mulC hp rfl rfl n W⟩
end Go.Proofs.Ytealegfmmeklcaa
