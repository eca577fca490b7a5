/-
  Texts of this claim in one file: Row4.
-/
import Derived.Test.YthooibljnfnnhaaPk25
import Derived.Deep.WholeRow
import Derived.Deep.MidRow
section
namespace Go.Proofs.Ythooibljnfnnhaa
open Go.RowKit
set_option linter.unusedVariables false
set_option linter.unusedSimpArgs false
/-- Four words. -/
abbrev e4 (a b c d : Nat) : Array Value := #[.int .u64 (a : Int), .int .u64 (b : Int), .int .u64 (c : Int), .int .u64 (d : Int)]
theorem belowRow {B : Nat} {a w : World} (h : Below B a w) {g : Nat} (hg : B ≤ g) (cs : Array Value) : Below B a (w.setRow g cs) :=
  ⟨h.os, h.tape, h.output, by rw [size_setRow]; exact h.size, fun k hk => (setRow_other w g k cs (by omega)).trans (h.block k hk)⟩
abbrev z4 : Array Value := #[.int .u64 0, .int .u64 0, .int .u64 0, .int .u64 0]
end Go.Proofs.Ythooibljnfnnhaa
end
