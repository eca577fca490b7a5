/-
  Texts of this claim in one file: Ref10.
-/
import Derived.Test.YtpdgedeghjfaaaaGreatDoorPk11
import Derived.Test.YtpdgedeghjfaaaaGreatDoorPk14
import Derived.Test.YtpdgedeghjfaaaaGreatDoorPk0
section
namespace Go.Proofs.YtpdgedeghjfaaaaGreatDoor
open Go Go.RowKit
set_option linter.unusedVariables false
set_option linter.unusedSimpArgs false
/-- The secret's bytes, out of a digest: 32 of them, clamped. -/
def clampS (ps : List UInt8) : List UInt8 := (((ps.set 0 (UInt8.ofNat ((ps.getD 0 0).toNat / 8 * 8))).set 31 (UInt8.ofNat ((ps.getD 31 0).toNat % 64 + 64)))).take 32
theorem longB_64 (xs : List UInt8) : (longB xs).length = 64 := longB_length xs
end Go.Proofs.YtpdgedeghjfaaaaGreatDoor
end
