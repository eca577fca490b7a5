/-
  Numbers of 256 bits in four words, plain: products word by word, roots bit by bit.
-/
import Derived.Test.YtokggppfobbblaaDoorBigP
namespace Go.Proofs.YtokggppfobbblaaDoor
set_option linter.unusedVariables false
set_option linter.unusedSimpArgs false

abbrev B64 : Nat := 18446744073709551616
/-- The i-th word. -/
def wd (n i : Nat) : Nat := n / 18446744073709551616 ^ i % 18446744073709551616
theorem wd_lt (n i : Nat) : wd n i < 18446744073709551616 := Nat.mod_lt _ (by omega)
theorem wd_mod (n i k : Nat) (h : i < k) : wd (n % 18446744073709551616 ^ k) i = wd n i := by
  obtain ⟨d, rfl⟩ : ∃ d, k = i + 1 + d := ⟨k - i - 1, by omega⟩
  unfold wd
  rw [Nat.pow_add, Nat.pow_succ, Nat.mul_assoc, Nat.mod_mul_right_div_self, Nat.mod_mul_right_mod]
theorem wmod_next (a k : Nat) : a % 18446744073709551616 ^ (k + 1) = a % 18446744073709551616 ^ k + 18446744073709551616 ^ k * wd a k := by
  rw [Nat.pow_succ, Nat.mod_mul]; rfl
/-- What the words below i + j come to, in row i behind j steps. -/
def lowP (x y i j : Nat) : Nat := ((x % 18446744073709551616 ^ i) * y) % 18446744073709551616 ^ (i + j) + wd x i * 18446744073709551616 ^ i * (y % 18446744073709551616 ^ j)
/-- What is carried to the next word. -/
def carP (x y i j : Nat) : Nat := lowP x y i j / 18446744073709551616 ^ (i + j)
/-- The words. -/
def rowP (x y i j k : Nat) : Nat := if k < i + j then wd (lowP x y i j) k else wd ((x % 18446744073709551616 ^ i) * y) k
theorem lowP_next (x y i j : Nat) : lowP x y i (j + 1) = lowP x y i j + 18446744073709551616 ^ (i + j) * (wd ((x % 18446744073709551616 ^ i) * y) (i + j) + wd x i * wd y j) := by
  unfold lowP
  rw [← Nat.add_assoc i j 1, wmod_next _ (i + j), wmod_next y j]
  rw [Nat.mul_add (wd x i * 18446744073709551616 ^ i), Nat.mul_add, Nat.pow_add 18446744073709551616 i j]
  have e : wd x i * 18446744073709551616 ^ i * (18446744073709551616 ^ j * wd y j) = 18446744073709551616 ^ i * 18446744073709551616 ^ j * (wd x i * wd y j) := by
    rw [Nat.mul_comm (wd x i), Nat.mul_assoc, Nat.mul_left_comm (wd x i), ← Nat.mul_assoc, ← Nat.mul_assoc]
  rw [e]
  omega
/-- One step's sum: it is the word and what is carried. -/
theorem stepP (x y i j : Nat) : wd ((x % 18446744073709551616 ^ i) * y) (i + j) + wd x i * wd y j + carP x y i j = wd (lowP x y i (j + 1)) (i + j) + 18446744073709551616 * carP x y i (j + 1) ∧ carP x y i (j + 1) < 18446744073709551616 := by
  have hP : 0 < 18446744073709551616 ^ (i + j) := Nat.pow_pos (by omega)
  have h1 : lowP x y i (j + 1) / 18446744073709551616 ^ (i + j) = carP x y i j + (wd ((x % 18446744073709551616 ^ i) * y) (i + j) + wd x i * wd y j) := by
    rw [lowP_next, Nat.add_mul_div_left _ _ hP]; rfl
  have h2 : carP x y i (j + 1) = lowP x y i (j + 1) / 18446744073709551616 ^ (i + j) / 18446744073709551616 := by
    unfold carP
    rw [← Nat.add_assoc, Nat.pow_succ, Nat.div_div_eq_div_mul]
  refine ⟨?_, ?_⟩
  · rw [h2, show wd (lowP x y i (j + 1)) (i + j) = lowP x y i (j + 1) / 18446744073709551616 ^ (i + j) % 18446744073709551616 from rfl, h1]
    generalize wd ((x % 18446744073709551616 ^ i) * y) (i + j) = a
    generalize wd x i * wd y j = b
    generalize carP x y i j = c
    omega
  · unfold carP
    rw [Nat.div_lt_iff_lt_mul (Nat.pow_pos (by omega)), lowP]
    have a1 : ((x % 18446744073709551616 ^ i) * y) % 18446744073709551616 ^ (i + (j + 1)) < 18446744073709551616 ^ (i + (j + 1)) := Nat.mod_lt _ (Nat.pow_pos (by omega))
    have a2 := wd_lt x i
    have a3 : y % 18446744073709551616 ^ (j + 1) < 18446744073709551616 ^ (j + 1) := Nat.mod_lt _ (Nat.pow_pos (by omega))
    have a4 : wd x i * 18446744073709551616 ^ i * (y % 18446744073709551616 ^ (j + 1)) ≤ 18446744073709551615 * 18446744073709551616 ^ i * 18446744073709551616 ^ (j + 1) :=
      Nat.mul_le_mul (Nat.mul_le_mul_right _ (by omega)) (Nat.le_of_lt a3)
    rw [Nat.mul_assoc 18446744073709551615, ← Nat.pow_add] at a4
    generalize 18446744073709551616 ^ (i + (j + 1)) = Q at *
    omega
theorem carP_zero (x y i : Nat) : carP x y i 0 = 0 := by
  unfold carP lowP
  rw [Nat.pow_zero, Nat.mod_one, Nat.mul_zero, Nat.add_zero, Nat.add_zero]
  exact Nat.div_eq_of_lt (Nat.mod_lt _ (Nat.pow_pos (by omega)))
theorem rowP_zero (x y i k : Nat) : rowP x y i 0 k = wd ((x % 18446744073709551616 ^ i) * y) k := by
  unfold rowP lowP
  rw [Nat.pow_zero, Nat.mod_one, Nat.mul_zero, Nat.add_zero, Nat.add_zero]
  split
  · rename_i h; exact wd_mod _ _ _ h
  · rfl
theorem rowP_next (x y i j k : Nat) : rowP x y i (j + 1) k = if k = i + j then wd (lowP x y i (j + 1)) (i + j) else rowP x y i j k := by
  unfold rowP
  by_cases hk : k = i + j
  · subst hk
    rw [if_pos rfl, if_pos (by omega)]
  · rw [if_neg hk]
    by_cases h2 : k < i + j
    · rw [if_pos h2, if_pos (by omega), ← wd_mod (lowP x y i (j + 1)) k (i + j) h2, lowP_next, Nat.add_mul_mod_self_left, wd_mod _ _ _ h2]
    · rw [if_neg h2, if_neg (by omega)]
/-- At a row's end. -/
theorem rowP_end (x y i j k : Nat) (h : i + j = 4) (hk : k < 4) : rowP x y i j k = rowP x y (i + 1) 0 k := by
  rw [rowP_zero, rowP, if_pos (by omega)]
  have e : lowP x y i j % 18446744073709551616 ^ 4 = ((x % 18446744073709551616 ^ (i + 1)) * y) % 18446744073709551616 ^ 4 := by
    unfold lowP
    rw [h, wmod_next x i, Nat.add_mul]
    have h4 : (18446744073709551616 : Nat) ^ 4 = 18446744073709551616 ^ i * 18446744073709551616 ^ j := by rw [← Nat.pow_add, h]
    rw [Nat.mod_add_mod, h4]
    have e2 : wd x i * 18446744073709551616 ^ i * (y % 18446744073709551616 ^ j) % (18446744073709551616 ^ i * 18446744073709551616 ^ j) = 18446744073709551616 ^ i * wd x i * y % (18446744073709551616 ^ i * 18446744073709551616 ^ j) := by
      rw [Nat.mul_comm (wd x i), Nat.mul_assoc, Nat.mul_assoc, Nat.mul_mod_mul_left, Nat.mul_mod_mul_left, Nat.mul_mod_mod]
    rw [Nat.add_mod, e2, ← Nat.add_mod]
  rw [← wd_mod (lowP x y i j) k 4 hk, e, wd_mod _ _ _ hk]
theorem rowP_done (x y k : Nat) (hx : x < 18446744073709551616 ^ 4) : rowP x y 4 0 k = wd (x * y) k := by
  rw [rowP_zero, Nat.mod_eq_of_lt hx]
theorem wd_ge (x i : Nat) (h : x < 18446744073709551616 ^ i) : wd x i = 0 := by
  unfold wd; rw [Nat.div_eq_of_lt h]

/-- A root bit by bit, from the bit ahead of i down. -/
def rbits (T k : Nat) : Nat → Nat → Nat
  | x, 0 => x
  | x, i + 1 => rbits T k (if (x + 2 ^ i) ^ k ≤ T then x + 2 ^ i else x) i
theorem rbits_spec (T k : Nat) (x i : Nat) (h1 : x ^ k ≤ T) (h2 : T < (x + 2 ^ i) ^ k) : (rbits T k x i) ^ k ≤ T ∧ T < (rbits T k x i + 1) ^ k := by
  induction i generalizing x with
  | zero => exact ⟨h1, h2⟩
  | succ i ih =>
    rw [rbits]
    split
    · rename_i h
      refine ih _ h ?_
      rw [Nat.add_assoc, ← Nat.two_mul, Nat.mul_comm, ← Nat.pow_succ]
      exact h2
    · rename_i h
      exact ih _ h1 (by omega)
theorem rbits_lt (T k : Nat) (x i : Nat) : rbits T k x i < x + 2 ^ i := by
  induction i generalizing x with
  | zero => simp [rbits]
  | succ i ih =>
    rw [rbits]
    have hp : 2 ^ (i + 1) = 2 ^ i + 2 ^ i := by rw [Nat.pow_succ]; omega
    have h0 := Nat.two_pow_pos i
    split
    · have h := ih (x + 2 ^ i); omega
    · have h := ih x; omega
/-- The root is told by what it is. -/
theorem root_only (T k a b : Nat) (hk : k ≠ 0) (h1 : a ^ k ≤ T) (h2 : T < (a + 1) ^ k) (h3 : b ^ k ≤ T) (h4 : T < (b + 1) ^ k) : a = b := by
  have h5 : a < b + 1 := (Nat.pow_lt_pow_iff_left hk).1 (Nat.lt_of_le_of_lt h1 h4)
  have h6 : b < a + 1 := (Nat.pow_lt_pow_iff_left hk).1 (Nat.lt_of_le_of_lt h3 h2)
  omega
end Go.Proofs.YtokggppfobbblaaDoor
