/-
  The six statements of layer 14, for any input.
-/
import Derived.Test.YtaoddlcoedodcaaWlC
import Derived.Test.YtaoddlcoedodcaaLaw14c
import Derived.Test.YtaoddlcoedodcaaLaw14d
import Derived.Test.YtaoddlcoedodcaaLaw14h
namespace Go.Proofs.Ytaoddlcoedodcaa
open Go Go.RowKit
set_option linter.unusedVariables false
set_option linter.unusedSimpArgs false
theorem nodes14_law (x : Int) (w : World) (hx : -9223372036854775808 ≤ x) (kx : x ≤ 9223372036854775807) :
    Calls Try.prog 3 #[.int .i64 x] w fun e w' => e = .returned (.bool true) ∧ Below w.heap.size w w' :=
  walkNodes_any (alive14_any path_ok copath_ok common_ok) span_ok level_ok left_ok right_ok fits_ok root_ok x w ⟨hx, kx⟩
theorem tree14_law (x : Int) (n : Int) (w : World) (hx : -9223372036854775808 ≤ x) (kx : x ≤ 9223372036854775807) (hn : -9223372036854775808 ≤ n) (kn : n ≤ 9223372036854775807) :
    Calls Try.prog 4 #[.int .i64 x, .int .i64 n] w fun e w' => e = .returned (.bool true) ∧ Below w.heap.size w w' :=
  walkTree_any (alive14_any path_ok copath_ok common_ok) parent_ok sibling_ok path_ok copath_ok x n w ⟨hx, kx⟩ ⟨hn, kn⟩
theorem two14_law (x : Int) (y : Int) (n : Int) (w : World) (hx : -9223372036854775808 ≤ x) (kx : x ≤ 9223372036854775807) (hy : -9223372036854775808 ≤ y) (ky : y ≤ 9223372036854775807) (hn : -9223372036854775808 ≤ n) (kn : n ≤ 9223372036854775807) :
    Calls Try.prog 5 #[.int .i64 x, .int .i64 y, .int .i64 n] w fun e w' => e = .returned (.bool true) ∧ Below w.heap.size w w' :=
  walkTwo_any (alive14_any path_ok copath_ok common_ok) common_ok under_ok x y n w ⟨hx, kx⟩ ⟨hy, ky⟩ ⟨hn, kn⟩
theorem cover14_law (x : Int) (n : Int) (w : World) (hx : -9223372036854775808 ≤ x) (kx : x ≤ 9223372036854775807) (hn : -9223372036854775808 ≤ n) (kn : n ≤ 9223372036854775807) :
    Calls Try.prog 6 #[.int .i64 x, .int .i64 n] w fun e w' => e = .returned (.bool true) ∧ Below w.heap.size w w' :=
  walkCover_any (alive14_any path_ok copath_ok common_ok) fits_ok copath_ok span_ok x n w ⟨hx, kx⟩ ⟨hn, kn⟩
theorem back14_law (x : Int) (n : Int) (w : World) (hx : -9223372036854775808 ≤ x) (kx : x ≤ 9223372036854775807) (hn : -9223372036854775808 ≤ n) (kn : n ≤ 9223372036854775807) :
    Calls Try.prog 7 #[.int .i64 x, .int .i64 n] w fun e w' => e = .returned (.bool true) ∧ Below w.heap.size w w' :=
  walkBack_any (alive14_any path_ok copath_ok common_ok) fits_ok path_ok copath_ok parent_ok sibling_ok level_ok left_ok right_ok under_ok root_ok x n w ⟨hx, kx⟩ ⟨hn, kn⟩
theorem grows14_law (x : Int) (n : Int) (w : World) (hx : -9223372036854775808 ≤ x) (kx : x ≤ 9223372036854775807) (hn : -9223372036854775808 ≤ n) (kn : n ≤ 9223372036854775807) :
    Calls Try.prog 8 #[.int .i64 x, .int .i64 n] w fun e w' => e = .returned (.bool true) ∧ Below w.heap.size w w' :=
  walkGrows_any (alive14_any path_ok copath_ok common_ok) fits_ok path_ok copath_ok x n w ⟨hx, kx⟩ ⟨hn, kn⟩
end Go.Proofs.Ytaoddlcoedodcaa
