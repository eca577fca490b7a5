/-
  Texts of this claim in one file: LeN.
-/
import Derived.Test.YtgehfbcagaaggaaGreatDoorPk30
section
namespace Go.Proofs.YtgehfbcagaaggaaGreatDoor
open Go.RowKit
set_option linter.unusedVariables false
set_option linter.unusedSimpArgs false
/-- The number of bytes, the lowest first. -/
def leN : List UInt8 → Nat
  | [] => 0
  | x :: l => x.toNat + 256 * leN l
theorem leN_append (xs ys : List UInt8) : leN (xs ++ ys) = leN xs + 256 ^ xs.length * leN ys := by
  induction xs with
  | nil => simp [leN]
  | cons x l ih => rw [List.cons_append, leN, ih, leN, List.length_cons, Nat.pow_succ, Nat.mul_add, Nat.mul_comm (256 ^ l.length) 256, Nat.mul_assoc, Nat.add_assoc]
theorem leN_snoc (xs : List UInt8) (y : UInt8) : leN (xs ++ [y]) = leN xs + 256 ^ xs.length * y.toNat := by rw [leN_append]; simp [leN]
theorem leN_lt (xs : List UInt8) : leN xs < 256 ^ xs.length := by
  induction xs with
  | nil => simp [leN]
  | cons x l ih =>
    have := x.toNat_lt
    rw [leN, List.length_cons, Nat.pow_succ]
    omega
/-- The lowest k bytes of n, the lowest first. -/
def leB : Nat → Nat → List UInt8
  | 0, _ => []
  | k + 1, n => UInt8.ofNat n :: leB k (n / 256)
@[simp] theorem leB_length (k n : Nat) : (leB k n).length = k := by
  induction k generalizing n with
  | zero => rfl
  | succ k ih => simp [leB, ih]
theorem leB_snoc (k n : Nat) : leB (k + 1) n = leB k n ++ [UInt8.ofNat (n / 256 ^ k)] := by
  induction k generalizing n with
  | zero => simp [leB]
  | succ k ih =>
    rw [leB, ih, leB, List.cons_append, Nat.pow_succ, Nat.mul_comm, ← Nat.div_div_eq_div_mul]
theorem leN_leB (k n : Nat) : leN (leB k n) = n % 256 ^ k := by
  induction k generalizing n with
  | zero => simp [leB, leN, Nat.mod_one]
  | succ k ih =>
    have h : (UInt8.ofNat n).toNat = n % 256 := by simp [UInt8.toNat_ofNat']
    rw [leB, leN, ih, h, Nat.pow_succ, Nat.mul_comm (256 ^ k), Nat.mod_mul]
theorem leB_leN (xs : List UInt8) : leB xs.length (leN xs) = xs := by
  induction xs with
  | nil => rfl
  | cons x l ih =>
    have := x.toNat_lt
    have h1 : (x.toNat + 256 * leN l) / 256 = leN l := by omega
    have h2 : UInt8.ofNat (x.toNat + 256 * leN l) = x := by
      apply UInt8.toNat_inj.1
      simp [UInt8.toNat_ofNat']
    rw [List.length_cons, leN, leB, h1, ih, h2]
/-- A byte of a number's bytes. -/
theorem leN_get (xs : List UInt8) (j : Nat) (h : j < xs.length) : xs[j].toNat = leN xs / 256 ^ j % 256 := by
  have e : leN xs = leN (xs.take j) + 256 ^ j * (xs[j].toNat + 256 * leN (xs.drop (j + 1))) := by
    conv => lhs; rw [← List.take_append_drop j xs]
    rw [leN_append, List.length_take, Nat.min_eq_left (by omega), List.drop_eq_getElem_cons h, leN]
  have hl := leN_lt (xs.take j)
  rw [List.length_take, Nat.min_eq_left (by omega)] at hl
  have hx := xs[j].toNat_lt
  rw [e, Nat.add_mul_div_left _ _ (Nat.pow_pos (by omega)), Nat.div_eq_of_lt hl, Nat.zero_add]
  omega
/-- A bit of a number's bytes. -/
theorem leN_bit (xs : List UInt8) (m : Nat) (h : m / 8 < xs.length) : xs[m / 8].toNat / 2 ^ (m % 8) % 2 = leN xs / 2 ^ m % 2 := by
  rw [leN_get xs (m / 8) h]
  have e : (2 : Nat) ^ m = 256 ^ (m / 8) * 2 ^ (m % 8) := by
    rw [show (256 : Nat) = 2 ^ 8 by decide, ← Nat.pow_mul, ← Nat.pow_add]
    congr 1; omega
  rw [e, ← Nat.div_div_eq_div_mul]
  generalize leN xs / 256 ^ (m / 8) = y
  have hr : m % 8 < 8 := Nat.mod_lt _ (by omega)
  generalize m % 8 = r at *
  have h8 : (256 : Nat) = 2 ^ r * (2 * 2 ^ (7 - r)) := by
    rw [← Nat.pow_succ', ← Nat.pow_add, show r + (7 - r).succ = 8 by omega]
  rw [h8, Nat.mod_mul_right_div_self, Nat.mod_mul_right_mod]
theorem half_step (E m : Nat) : E / 2 ^ m = 2 * (E / 2 ^ (m + 1)) + E / 2 ^ m % 2 := by
  rw [Nat.pow_succ, ← Nat.div_div_eq_div_mul]; omega
end Go.Proofs.YtgehfbcagaaggaaGreatDoor
end
