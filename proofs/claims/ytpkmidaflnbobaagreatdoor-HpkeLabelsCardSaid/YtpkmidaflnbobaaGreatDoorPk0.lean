/-
  Texts of this claim in one file: Uv.
-/
import Derived.Test.YtpkmidaflnbobaaGreatDoorPk37
section
namespace Go.Proofs.YtpkmidaflnbobaaGreatDoor
open Go.RowKit
set_option linter.unusedVariables false
set_option linter.unusedSimpArgs false
/-- Words of 64 bits as cells. -/
def uvs (xs : List Nat) : List Value := xs.map fun x => Value.int .u64 ((x : Nat) : Int)
@[simp] theorem uvs_length (xs : List Nat) : (uvs xs).length = xs.length := by simp [uvs]
end Go.Proofs.YtpkmidaflnbobaaGreatDoor
end
