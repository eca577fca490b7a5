/-
  Texts of this claim in one file: ScP.
-/
import Derived.Test.YtheamlhhfkaknaaGreatDoorPk32
section
namespace Go.Proofs.YtheamlhhfkaknaaGreatDoor
set_option exponentiation.threshold 600
/-- The order. -/
def ordL : Nat := 7237005577332262213973186563042994240857116359379907606001950938285454250989
theorem ordL_def : ordL = 2 ^ 252 + 27742317777372353535851937790883648493 := by decide +kernel
/-- What the document's Of tells. -/
def ofL (xs : List UInt8) : Nat := leN (xs.take 64) % ordL
theorem ofL_lt (xs : List UInt8) : ofL xs < ordL := Nat.mod_lt _ (by decide +kernel)
end Go.Proofs.YtheamlhhfkaknaaGreatDoor
end
