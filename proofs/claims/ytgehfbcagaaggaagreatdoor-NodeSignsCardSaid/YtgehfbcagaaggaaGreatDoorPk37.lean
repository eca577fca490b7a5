/-
  Texts of this claim in one file: B64.
-/
import Derived.Test.YtgehfbcagaaggaaGreatDoorPk30
import Derived.Shelf.Spec.BitsCarry
import Derived.Laws.Externs
import Derived.Laws.BitsAllLaws
section
namespace Go.Proofs.YtgehfbcagaaggaaGreatDoor
open Go.RowKit
set_option linter.unusedVariables false
set_option linter.unusedSimpArgs false
/-- A sum of two words and what was carried. -/
theorem Add64_c (x y c : Nat) (hc : c ≤ 1) (w : World) :
    (callFunc 101 #[.int .u64 (x : Int), .int .u64 (y : Int), .int .u64 (c : Int)]).run Tryz.prog w =
      .ok (.value (.tuple #[.int .u64 (((x + y + c) % 18446744073709551616 : Nat) : Int), .int .u64 (((x + y + c) / 18446744073709551616 : Nat) : Int)])) w := by
  rw [run_callFunc_extern Tryz.func101 (by kernel_rfl) (by kernel_rfl) (by kernel_rfl) (e := add64Entry) (by kernel_rfl), run_add64 x y c (by omega) (by omega) (by omega) (by omega)]
  simp only [Result.andThen]
  congr 5 <;> omega
theorem Add64_run (x y : Nat) (w : World) :
    (callFunc 101 #[.int .u64 (x : Int), .int .u64 (y : Int), .int .u64 0]).run Tryz.prog w =
      .ok (.value (.tuple #[.int .u64 (((x + y) % 18446744073709551616 : Nat) : Int), .int .u64 (((x + y) / 18446744073709551616 : Nat) : Int)])) w := Add64_c x y 0 (by omega) w
/-- A difference of two words and what was borrowed. -/
theorem Sub64_c (x y b : Nat) (hb : b ≤ 1) (w : World) :
    (callFunc 124 #[.int .u64 (x : Int), .int .u64 (y : Int), .int .u64 (b : Int)]).run Tryz.prog w =
      .ok (.value (.tuple #[.int .u64 (((x + 18446744073709551616 - y - b) % 18446744073709551616 : Nat) : Int), .int .u64 ((if x < y + b then 1 else 0 : Nat) : Int)])) w := by
  rw [run_callFunc_extern Tryz.func124 (by kernel_rfl) (by kernel_rfl) (by kernel_rfl) (e := sub64Entry) (by kernel_rfl), run_sub64 x y b hb]
  rfl
theorem and_ones (a : Nat) (h : a < 18446744073709551616) : bits .and .u64 (a : Int) 18446744073709551615 = (a : Int) := by
  have h1 := u64_and_nat a 18446744073709551615 h (by omega)
  rw [show ((18446744073709551615 : Nat) : Int) = 18446744073709551615 from rfl] at h1
  rw [h1, show 18446744073709551615 = 2 ^ 64 - 1 by rfl, Nat.and_two_pow_sub_one_eq_mod, Nat.mod_eq_of_lt (by omega)]
theorem and_nought (a : Nat) (h : a < 18446744073709551616) : bits .and .u64 (a : Int) 0 = 0 := by
  have h1 := u64_and_nat a 0 h (by omega)
  rw [show ((0 : Nat) : Int) = 0 from rfl] at h1
  rw [h1, Nat.and_zero]; rfl
theorem and_top (a : Nat) (h : a < 18446744073709551616) : bits .and .u64 (a : Int) 9223372036854775807 = ((a % 9223372036854775808 : Nat) : Int) := by
  have h1 := u64_and_nat a 9223372036854775807 h (by omega)
  rw [show ((9223372036854775807 : Nat) : Int) = 9223372036854775807 from rfl] at h1
  rw [h1, show 9223372036854775807 = 2 ^ 63 - 1 by rfl, Nat.and_two_pow_sub_one_eq_mod]
theorem and_one (a : Nat) (h : a < 18446744073709551616) : bits .and .u64 (a : Int) 1 = ((a % 2 : Nat) : Int) := by
  have h1 := u64_and_nat a 1 h (by omega)
  rw [show ((1 : Nat) : Int) = 1 from rfl] at h1
  rw [h1, Nat.and_one_is_mod]
theorem andNot_ones (a : Nat) (h : a < 18446744073709551616) : bits .andNot .u64 (a : Int) 18446744073709551615 = 0 := by
  have h1 := u64_andNot_nat a 18446744073709551615 h (by omega)
  rw [show ((18446744073709551615 : Nat) : Int) = 18446744073709551615 from rfl] at h1
  rw [h1, Nat.sub_self, Nat.and_zero]; rfl
theorem andNot_nought (a : Nat) (h : a < 18446744073709551616) : bits .andNot .u64 (a : Int) 0 = (a : Int) := by
  have h1 := u64_andNot_nat a 0 h (by omega)
  rw [show ((0 : Nat) : Int) = 0 from rfl] at h1
  rw [h1, Nat.sub_zero, show 18446744073709551615 = 2 ^ 64 - 1 by rfl, Nat.and_two_pow_sub_one_eq_mod, Nat.mod_eq_of_lt (by omega)]
theorem or_nought (a : Nat) (h : a < 18446744073709551616) : bits .or .u64 (a : Int) 0 = (a : Int) := by
  have h1 := u64_or_nat a 0 h (by omega)
  rw [show ((0 : Nat) : Int) = 0 from rfl] at h1
  rw [h1, Nat.or_zero]
theorem nought_or (a : Nat) (h : a < 18446744073709551616) : bits .or .u64 0 (a : Int) = (a : Int) := by
  have h1 := u64_or_nat 0 a (by omega) h
  rw [show ((0 : Nat) : Int) = 0 from rfl] at h1
  rw [h1, Nat.zero_or]
end Go.Proofs.YtgehfbcagaaggaaGreatDoor
end
