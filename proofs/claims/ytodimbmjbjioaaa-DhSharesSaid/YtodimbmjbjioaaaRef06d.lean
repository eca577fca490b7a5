/-
  The document's numbers modulo the prime: of bytes.
-/
import Derived.Test.YtodimbmjbjioaaaRef06c
import Derived.Test.YtodimbmjbjioaaaRef06o
namespace Go.Proofs.Ytodimbmjbjioaaa
open Go.RowKit
set_option linter.unusedVariables false
set_option linter.unusedSimpArgs false

theorem leN_dig (xs : List UInt8) (k : Nat) (h : xs.length ≤ 60) : leN (xs.drop k) < 32768 ^ 40 := by
  have h1 := leN_lt (xs.drop k)
  have h2 : 256 ^ (xs.drop k).length ≤ 256 ^ 60 := Nat.pow_le_pow_right (by omega) (by rw [List.length_drop]; omega)
  exact Nat.lt_of_lt_of_le (Nat.lt_of_lt_of_le h1 h2) (by decide +kernel)
theorem dgl40 (N : Nat) (h : N < 32768 ^ 40) : (dg N).length ≤ 1073741824 := Nat.le_trans ((dg_length_le N 40).2 h) (by omega)
end Go.Proofs.Ytodimbmjbjioaaa
