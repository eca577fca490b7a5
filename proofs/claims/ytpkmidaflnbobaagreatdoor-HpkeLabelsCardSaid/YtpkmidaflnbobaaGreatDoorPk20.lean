/-
  Texts of this claim in one file: CvI.
-/
import Derived.Test.YtpkmidaflnbobaaGreatDoorPk19
import Derived.Test.YtpkmidaflnbobaaGreatDoorPk11
section
namespace Go.Proofs.YtpkmidaflnbobaaGreatDoor
open Go Go.RowKit
set_option linter.unusedVariables false
set_option linter.unusedSimpArgs false
/-- A row of cells tells a point, as the code holds it: its x, and how much its y is above 1. -/
structure PtV (v : Array Value) (p : Pt) : Prop where
  on : p.on
  is : v = cP p.x (p.y - 1)
theorem PtV.all {v : Array Value} {p : Pt} (h : PtV v p) : v.extract 0 (0 + v.size) = v := by simp
/-- A zero P. -/
def zP : Array Value := cP 0 0
theorem PtV.size {v : Array Value} {p : Pt} (h : PtV v p) : zP.size = v.size := by rw [h.is]; exact (cP_size _ _).trans (cP_size _ _).symm
end Go.Proofs.YtpkmidaflnbobaaGreatDoor
end
