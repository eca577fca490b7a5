/-
  Texts of this claim in one file: ScL.
-/
import Derived.Test.YtpkmidaflnbobaaGreatDoorPk44
import Derived.Test.YtpkmidaflnbobaaGreatDoorPk39
import Derived.Test.YtpkmidaflnbobaaGreatDoorPk45
import Derived.Test.YtpkmidaflnbobaaGreatDoorPk42
import Derived.Test.YtpkmidaflnbobaaGreatDoorPk43
section
namespace Go.Proofs.YtpkmidaflnbobaaGreatDoor
open Go Go.RowKit
set_option linter.unusedVariables false
set_option linter.unusedSimpArgs false
/-- Memory only grew. -/
theorem Cl.below {w w1 w2 : World} {l : List (Nat × Array Value × TypeId)} (h : Cl w1 l) (hb : Below w1.heap.size w1 w2) : Cl w2 l := h.on hb
end Go.Proofs.YtpkmidaflnbobaaGreatDoor
end
