/-
  Texts of this claim in one file: MacP.
-/
import Derived.Test.YtheamlhhfkaknaaGreatDoorPk4
section
namespace Go.Proofs.YtheamlhhfkaknaaGreatDoor
set_option linter.unusedVariables false
set_option linter.unusedSimpArgs false
/-- The key as it is taken: its digest, where it is longer than a block. -/
def padK (key : List UInt8) : List UInt8 := if 64 < key.length then shaB key else key
/-- A block: each byte of the key, 0 behind its end, held against x. -/
def padX (x : UInt8) (k : List UInt8) : List UInt8 := (List.range 64).map fun i => k.getD i 0 ^^^ x
@[simp] theorem padX_length (x : UInt8) (k : List UInt8) : (padX x k).length = 64 := by simp [padX]
/-- The tag. -/
def macB (key text : List UInt8) : List UInt8 := shaB (padX 92 (padK key) ++ shaB (padX 54 (padK key) ++ text))
end Go.Proofs.YtheamlhhfkaknaaGreatDoor
end
