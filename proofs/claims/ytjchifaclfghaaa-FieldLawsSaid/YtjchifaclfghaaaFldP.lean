/-
  The field of 2^255 - 19, plain: sums, products, what makes 1, roots.
-/
import Derived.Test.YtjchifaclfghaaaPrm
namespace Go.Proofs.Ytjchifaclfghaaa
set_option linter.unusedVariables false
set_option linter.unusedSimpArgs false
set_option exponentiation.threshold 600

/-- The prime. -/
def pp : Nat := 57896044618658097711785492504343953926634992332820282019728792003956564819949
theorem pp_def : pp = 57896044618658097711785492504343953926634992332820282019728792003956564819949 := rfl
theorem pp_pr : Pr pp := pr_p
theorem pp_pos : 0 < pp := by decide +kernel
theorem pp_two : 2 ≤ pp := by decide +kernel
/-- A root of -1. -/
def ii : Nat := 19681161376707505956807079304988542015446066515923890162744021073123829784752
theorem ii_sq : ii * ii % pp = pp - 1 := by decide +kernel
theorem ii_lt : ii < pp := by decide +kernel

theorem pp_not_dvd {x : Nat} (h : x < pp) (h0 : x ≠ 0) : ¬ pp ∣ x := fun hd => by
  have := Nat.le_of_dvd (by omega) hd
  omega
/-- What makes 1. -/
theorem inv_one {x : Nat} (h : x < pp) (h0 : x ≠ 0) : x * (x ^ (pp - 2) % pp) % pp = 1 := by
  have h1 := pp_pr.fermat' (pp_not_dvd h h0)
  rw [Nat.mul_mod_mod, Nat.mul_comm, ← Nat.pow_succ]
  rw [show (pp - 2).succ = pp - 1 by decide +kernel]
  exact h1
theorem mod_of_lt {x : Nat} (h : x < pp) : x % pp = x := Nat.mod_eq_of_lt h
/-- A number and what is missing. -/
theorem neg_sq {x : Nat} (h : x < pp) : ((pp - x) % pp) * ((pp - x) % pp) % pp = x * x % pp := by
  rw [Nat.mod_mul_mod, Nat.mul_mod_mod]
  have e : (pp - x) * (pp - x) + 2 * x * pp = x * x + pp * pp := by
    obtain ⟨y, hy⟩ : ∃ y, pp = x + y := ⟨pp - x, by omega⟩
    rw [show pp - x = y by omega, hy]
    grind
  have h1 : ((pp - x) * (pp - x) + 2 * x * pp) % pp = (x * x + pp * pp) % pp := by rw [e]
  rw [Nat.add_mul_mod_self_right, Nat.add_mul_mod_self_right] at h1
  exact h1
/-- Two numbers of one square. -/
theorem sq_two {x y : Nat} (hx : x < pp) (hy : y < pp) (h : x * x % pp = y * y % pp) : x = y ∨ x = (pp - y) % pp := by
  have key : pp ∣ (x + (pp - y)) * (x + y) := by
    apply Nat.dvd_of_mod_eq_zero
    have e : (x + (pp - y)) * (x + y) + y * y = x * x + pp * (x + y) := by
      obtain ⟨z, hz⟩ : ∃ z, pp = y + z := ⟨pp - y, by omega⟩
      rw [show pp - y = z by omega, hz]
      grind
    have h1 : ((x + (pp - y)) * (x + y) + y * y) % pp = x * x % pp := by rw [e, Nat.add_mul_mod_self_left]
    rw [h] at h1
    have h2 : y * y % pp = (0 + y * y) % pp := by rw [Nat.zero_add]
    rw [h2] at h1
    have h3 := (mod_dvd (p := pp) (Nat.le_add_left (0 + y * y) ((x + (pp - y)) * (x + y)))).1 (by rw [← h1]; congr 1; omega)
    have h4 : (x + (pp - y)) * (x + y) + (0 + y * y) - (0 + y * y) = (x + (pp - y)) * (x + y) := by omega
    rw [h4] at h3
    exact Nat.mod_eq_zero_of_dvd h3
  rcases pp_pr.euclid key with hd | hd
  · left
    obtain ⟨c, hc⟩ := hd
    have hc2 : c < 2 := Nat.lt_of_mul_lt_mul_left (a := pp) (by omega)
    have hc1 : c = 0 ∨ c = 1 := by omega
    rcases hc1 with rfl | rfl <;> omega
  · right
    obtain ⟨c, hc⟩ := hd
    have hc2 : c < 2 := Nat.lt_of_mul_lt_mul_left (a := pp) (by omega)
    have hc1 : c = 0 ∨ c = 1 := by omega
    rcases hc1 with rfl | rfl
    · obtain ⟨rfl, rfl⟩ : x = 0 ∧ y = 0 := by omega
      simp
    · have : y ≠ 0 := fun e => by subst e; omega
      rw [Nat.mod_eq_of_lt (by omega)]
      omega
theorem zero_pw (x n : Nat) (hx : x = 0) (h : 0 < n) : x ^ n % pp = 0 := by
  subst hx
  rw [Nat.zero_pow h, Nat.zero_mod]
/-- The power that tells whether a number is a square. -/
def half (x : Nat) : Nat := x ^ ((pp - 1) / 2) % pp
theorem half_zero {x : Nat} (hx : x = 0) : half x = 0 := zero_pw x _ hx (by decide +kernel)
theorem half_sq {r x : Nat} (hr : r < pp) (h : r * r % pp = x) : half x = 0 ∨ half x = 1 := by
  by_cases h0 : r = 0
  · subst h0
    have : x = 0 := by rw [← h]; exact Nat.zero_mod _
    exact .inl (half_zero this)
  · right
    unfold half
    rw [← h, ← Nat.pow_mod, ← Nat.pow_two, ← Nat.pow_mul, show 2 * ((pp - 1) / 2) = pp - 1 by decide +kernel]
    exact pp_pr.fermat' (pp_not_dvd hr h0)
/-- The root as it is looked for. -/
def rt1 (x : Nat) : Nat := x ^ ((pp + 3) / 8) % pp
def rt2 (x : Nat) : Nat := if rt1 x * rt1 x % pp = x then rt1 x else rt1 x * ii % pp
def rt3 (x : Nat) : Nat := if rt2 x % 2 = 1 then (pp - rt2 x) % pp else rt2 x
theorem rt1_lt (x : Nat) : rt1 x < pp := Nat.mod_lt _ pp_pos
theorem rt2_lt (x : Nat) : rt2 x < pp := by
  unfold rt2; split
  · exact rt1_lt x
  · exact Nat.mod_lt _ pp_pos
theorem rt3_lt (x : Nat) : rt3 x < pp := by
  unfold rt3; split
  · exact Nat.mod_lt _ pp_pos
  · exact rt2_lt x
theorem pp_odd : pp % 2 = 1 := by decide +kernel
theorem rt3_even (x : Nat) : rt3 x % 2 = 0 := by
  unfold rt3; split
  · next h =>
    have h1 := rt2_lt x
    have h2 : (pp - rt2 x) % pp = pp - rt2 x := Nat.mod_eq_of_lt (by omega)
    have h3 := pp_odd
    rw [h2]
    omega
  · omega
theorem rt3_sq {x : Nat} (h : rt2 x * rt2 x % pp = x) : rt3 x * rt3 x % pp = x := by
  unfold rt3; split
  · rw [neg_sq (rt2_lt x)]; exact h
  · exact h
/-- Where the power is 1, it is found. -/
theorem rt_found {x : Nat} (hx : x < pp) (h : half x = 0 ∨ half x = 1) : rt2 x * rt2 x % pp = x := by
  by_cases h0 : x = 0
  · have h1 : rt1 x = 0 := zero_pw x _ h0 (by decide +kernel)
    have h2 : rt2 x = 0 := by
      unfold rt2
      rw [h1, Nat.zero_mul, Nat.zero_mod, if_pos h0.symm]
    rw [h2, Nat.zero_mul, Nat.zero_mod, h0]
  · have h1 : half x = 1 := by
      rcases h with h | h
      · exfalso
        have h2 : pp ∣ x ^ ((pp - 1) / 2) := Nat.dvd_of_mod_eq_zero h
        have h3 : ∀ n, pp ∣ x ^ n → pp ∣ x := fun n => by
          induction n with
          | zero => intro hd; rw [Nat.pow_zero] at hd; have := Nat.le_of_dvd (by omega) hd; have := pp_two; omega
          | succ n ih =>
            intro hd
            rw [Nat.pow_succ] at hd
            rcases pp_pr.euclid hd with hd | hd
            · exact ih hd
            · exact hd
        exact pp_not_dvd hx h0 (h3 _ h2)
      · exact h
    have hrr : (rt1 x * rt1 x % pp) * (rt1 x * rt1 x % pp) % pp = x * x % pp := by
      have e1 : rt1 x * rt1 x % pp = x ^ ((pp + 3) / 8 * 2) % pp := by
        unfold rt1
        rw [Nat.mod_mul_mod, Nat.mul_mod_mod, ← Nat.pow_two, ← Nat.pow_mul]
      rw [e1, Nat.mod_mul_mod, Nat.mul_mod_mod, ← Nat.pow_two, ← Nat.pow_mul, show (pp + 3) / 8 * 2 * 2 = (pp - 1) / 2 + 2 by decide +kernel, Nat.pow_add, ← Nat.mod_mul_mod]
      have h2 : x ^ ((pp - 1) / 2) % pp = 1 := h1
      rw [h2, Nat.one_mul, Nat.pow_two]
    rcases sq_two (Nat.mod_lt _ pp_pos) hx hrr with h2 | h2
    · unfold rt2
      rw [if_pos h2]
      exact h2
    · by_cases h3 : rt1 x * rt1 x % pp = x
      · unfold rt2
        rw [if_pos h3]
        exact h3
      · unfold rt2
        rw [if_neg h3, Nat.mod_mul_mod, Nat.mul_mod_mod]
        have e : rt1 x * ii * (rt1 x * ii) = (rt1 x * rt1 x) * (ii * ii) := by grind
        rw [e, Nat.mul_mod, h2, ii_sq, Nat.mod_mul_mod]
        have e2 : (pp - x) * (pp - 1) + pp = x + pp * (pp - x) := by
          obtain ⟨y, hy⟩ : ∃ y, pp = y + 1 := ⟨pp - 1, by have := pp_two; omega⟩
          have : pp - 1 = y := by omega
          rw [this, show pp - x = y + 1 - x by omega, hy]
          obtain ⟨z, hz⟩ : ∃ z, y + 1 = x + z := ⟨y + 1 - x, by omega⟩
          rw [show y + 1 - x = z by omega]
          have : y = x + z - 1 := by omega
          grind
        have h4 : ((pp - x) * (pp - 1) + pp) % pp = (x + pp * (pp - x)) % pp := by rw [e2]
        rw [Nat.add_mod_right, Nat.add_mul_mod_self_left, Nat.mod_eq_of_lt hx] at h4
        exact h4
/-- What the root of a square is. -/
theorem rt_of_sq {x : Nat} (hx : x < pp) : rt2 (x * x % pp) * rt2 (x * x % pp) % pp = x * x % pp ∧ (rt3 (x * x % pp) = x ∨ rt3 (x * x % pp) = (pp - x) % pp) := by
  have h1 : rt2 (x * x % pp) * rt2 (x * x % pp) % pp = x * x % pp := rt_found (Nat.mod_lt _ pp_pos) (half_sq hx rfl)
  exact ⟨h1, sq_two (rt3_lt _) hx (rt3_sq h1)⟩
/-- Where it is found, the power is 0 or 1. -/
theorem rt_iff {x : Nat} (hx : x < pp) : rt2 x * rt2 x % pp = x ↔ half x = 0 ∨ half x = 1 := ⟨fun h => half_sq (rt2_lt x) h, rt_found hx⟩

/-- Sums that are taken back. -/
theorem back_sum {x y z : Nat} (hx : x < pp) (hy : y < pp) (hz : z < pp) : ((((x + y) % pp + (pp - z)) % pp + z) % pp + (pp - y)) % pp = x := by
  simp only [Nat.mod_add_mod]
  rw [show x + y + (pp - z) + z + (pp - y) = x + pp * 2 by omega, Nat.add_mul_mod_self_left, Nat.mod_eq_of_lt hx]
theorem dist_sum (x y z : Nat) : x * ((y + z) % pp) % pp = (x * y % pp + x * z % pp) % pp := by
  rw [Nat.mul_mod_mod, Nat.mul_add, ← Nat.add_mod]
theorem assoc_mul (x y z : Nat) : x * y % pp * z % pp = x * (y * z % pp) % pp := by
  rw [Nat.mod_mul_mod, Nat.mul_mod_mod, Nat.mul_assoc]
theorem neg_sum {x : Nat} (hx : x < pp) : (x + (pp - x) % pp) % pp = 0 := by
  rw [Nat.add_mod_mod, Nat.add_sub_cancel' (Nat.le_of_lt hx), Nat.mod_self]
theorem sub_self' {x : Nat} (hx : x < pp) : (x + (pp - x)) % pp = 0 := by
  rw [Nat.add_sub_cancel' (Nat.le_of_lt hx), Nat.mod_self]
end Go.Proofs.Ytjchifaclfghaaa
