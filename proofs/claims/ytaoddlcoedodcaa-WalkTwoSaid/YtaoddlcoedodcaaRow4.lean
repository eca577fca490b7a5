/-
  Four words: a number of 256 bits in a row of memory.
-/
import Derived.Test.YtaoddlcoedodcaaBase
import Derived.Deep.WholeRow
import Derived.Deep.MidRow
namespace Go.Proofs.Ytaoddlcoedodcaa
open Go.RowKit
set_option linter.unusedVariables false
set_option linter.unusedSimpArgs false
abbrev z4 : Array Value := #[.int .u64 0, .int .u64 0, .int .u64 0, .int .u64 0]
end Go.Proofs.Ytaoddlcoedodcaa
