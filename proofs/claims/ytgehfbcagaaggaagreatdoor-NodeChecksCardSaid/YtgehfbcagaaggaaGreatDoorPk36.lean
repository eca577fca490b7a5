/-
  Texts of this claim in one file: ScP.
-/
import Derived.Test.YtgehfbcagaaggaaGreatDoorPk35
section
namespace Go.Proofs.YtgehfbcagaaggaaGreatDoor
set_option exponentiation.threshold 600
/-- The order. -/
def ordL : Nat := 7237005577332262213973186563042994240857116359379907606001950938285454250989
/-- What the document's Of tells. -/
def ofL (xs : List UInt8) : Nat := leN (xs.take 64) % ordL
theorem ofL_lt (xs : List UInt8) : ofL xs < ordL := Nat.mod_lt _ (by decide +kernel)
end Go.Proofs.YtgehfbcagaaggaaGreatDoor
end
