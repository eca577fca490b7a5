/-
  Bytes as a number, the lowest first, and a number as bytes: plain.
-/
import Derived.Test.YtodimbmjbjioaaaBase
namespace Go.Proofs.Ytodimbmjbjioaaa
open Go.RowKit
set_option linter.unusedVariables false
set_option linter.unusedSimpArgs false

/-- The number of bytes, the lowest first. -/
def leN : List UInt8 → Nat
  | [] => 0
  | x :: l => x.toNat + 256 * leN l
theorem leN_append (xs ys : List UInt8) : leN (xs ++ ys) = leN xs + 256 ^ xs.length * leN ys := by
  induction xs with
  | nil => simp [leN]
  | cons x l ih => rw [List.cons_append, leN, ih, leN, List.length_cons, Nat.pow_succ, Nat.mul_add, Nat.mul_comm (256 ^ l.length) 256, Nat.mul_assoc, Nat.add_assoc]
theorem leN_snoc (xs : List UInt8) (y : UInt8) : leN (xs ++ [y]) = leN xs + 256 ^ xs.length * y.toNat := by rw [leN_append]; simp [leN]
theorem leN_lt (xs : List UInt8) : leN xs < 256 ^ xs.length := by
  induction xs with
  | nil => simp [leN]
  | cons x l ih =>
    have := x.toNat_lt
    rw [leN, List.length_cons, Nat.pow_succ]
    omega
/-- The lowest k bytes of n, the lowest first. -/
def leB : Nat → Nat → List UInt8
  | 0, _ => []
  | k + 1, n => UInt8.ofNat n :: leB k (n / 256)
@[simp] theorem leB_length (k n : Nat) : (leB k n).length = k := by
  induction k generalizing n with
  | zero => rfl
  | succ k ih => simp [leB, ih]
theorem leB_snoc (k n : Nat) : leB (k + 1) n = leB k n ++ [UInt8.ofNat (n / 256 ^ k)] := by
  induction k generalizing n with
  | zero => simp [leB]
  | succ k ih =>
    rw [leB, ih, leB, List.cons_append, Nat.pow_succ, Nat.mul_comm, ← Nat.div_div_eq_div_mul]
theorem leN_leB (k n : Nat) : leN (leB k n) = n % 256 ^ k := by
  induction k generalizing n with
  | zero => simp [leB, leN, Nat.mod_one]
  | succ k ih =>
    have h : (UInt8.ofNat n).toNat = n % 256 := by simp [UInt8.toNat_ofNat']
    rw [leB, leN, ih, h, Nat.pow_succ, Nat.mul_comm (256 ^ k), Nat.mod_mul]
theorem leB_leN (xs : List UInt8) : leB xs.length (leN xs) = xs := by
  induction xs with
  | nil => rfl
  | cons x l ih =>
    have := x.toNat_lt
    have h1 : (x.toNat + 256 * leN l) / 256 = leN l := by omega
    have h2 : UInt8.ofNat (x.toNat + 256 * leN l) = x := by
      apply UInt8.toNat_inj.1
      simp [UInt8.toNat_ofNat']
    rw [List.length_cons, leN, leB, h1, ih, h2]
end Go.Proofs.Ytodimbmjbjioaaa
