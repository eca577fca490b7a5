/-
  Texts of this claim in one file: GcQ, GcW, GcA, GcB, GcF, GcG, GcC, GcD, GcE.
-/
import Derived.Test.YtpkmidaflnbobaaGreatDoorPk26
import Derived.Test.YtpkmidaflnbobaaGreatDoorPk28
import Derived.Test.YtpkmidaflnbobaaGreatDoorPk25
import Derived.Test.YtpkmidaflnbobaaGreatDoorPk41
import Derived.Test.YtpkmidaflnbobaaGreatDoorPk4
import Derived.Test.YtpkmidaflnbobaaGreatDoorPk38
import Derived.Lib.AppendZeros
import Derived.Test.YtpkmidaflnbobaaGreatDoorPk19
import Derived.Test.YtpkmidaflnbobaaGreatDoorPk47
import Derived.Test.YtpkmidaflnbobaaGreatDoorPk33
section
namespace Go.Proofs.YtpkmidaflnbobaaGreatDoor
open Go.RowKit
set_option linter.unusedVariables false
set_option linter.unusedSimpArgs false
theorem ub_step (p k j : Nat) : ub p (k + 1) j = ub p k j + (if k / 8 = j ∧ p.testBit k = true then 2 ^ (7 - k % 8) else 0) := rfl
theorem ub_low (p j : Nat) : ∀ k, k ≤ 8 * j → ub p k j = 0
  | 0, _ => rfl
  | k + 1, h => by rw [ub_step, ub_low p j k (by omega), if_neg (fun hc => by have := hc.1; omega)]
theorem ub_high (p j : Nat) : ∀ d, ub p (8 * j + 8 + d) j = ub p (8 * j + 8) j
  | 0 => rfl
  | d + 1 => by
    rw [show 8 * j + 8 + (d + 1) = (8 * j + 8 + d) + 1 from rfl, ub_step, ub_high p j d, if_neg (fun hc => by have := hc.1; omega), Nat.add_zero]
theorem ub_at (p j r : Nat) (hr : r < 8) : (if (8 * j + r) / 8 = j ∧ p.testBit (8 * j + r) = true then 2 ^ (7 - (8 * j + r) % 8) else 0) = 2 ^ (7 - r) * pf p (8 * j + r) := by
  have h1 : (8 * j + r) / 8 = j := by omega
  have h2 : (8 * j + r) % 8 = r := by omega
  rw [h2]
  unfold pf
  by_cases h : p.testBit (8 * j + r) = true
  · rw [if_pos ⟨h1, h⟩, if_pos h, Nat.mul_one]
  · rw [if_neg (fun hc => h hc.2), if_neg h, Nat.mul_zero]
theorem ub_next (p j r : Nat) (hr : r < 8) : ub p (8 * j + r + 1) j = ub p (8 * j + r) j + 2 ^ (7 - r) * pf p (8 * j + r) := by rw [ub_step, ub_at p j r hr]
theorem ub_sum (p j : Nat) : ub p (8 * j + 8) j = 128 * pf p (8 * j + 0) + 64 * pf p (8 * j + 1) + 32 * pf p (8 * j + 2) + 16 * pf p (8 * j + 3) + 8 * pf p (8 * j + 4) + 4 * pf p (8 * j + 5) + 2 * pf p (8 * j + 6) + pf p (8 * j + 7) := by
  have h0 : ub p (8 * j + 1) j = ub p (8 * j) j + 128 * pf p (8 * j + 0) := ub_next p j 0 (by omega)
  have h1 : ub p (8 * j + 2) j = ub p (8 * j + 1) j + 64 * pf p (8 * j + 1) := ub_next p j 1 (by omega)
  have h2 : ub p (8 * j + 3) j = ub p (8 * j + 2) j + 32 * pf p (8 * j + 2) := ub_next p j 2 (by omega)
  have h3 : ub p (8 * j + 4) j = ub p (8 * j + 3) j + 16 * pf p (8 * j + 3) := ub_next p j 3 (by omega)
  have h4 : ub p (8 * j + 5) j = ub p (8 * j + 4) j + 8 * pf p (8 * j + 4) := ub_next p j 4 (by omega)
  have h5 : ub p (8 * j + 6) j = ub p (8 * j + 5) j + 4 * pf p (8 * j + 5) := ub_next p j 5 (by omega)
  have h6 : ub p (8 * j + 7) j = ub p (8 * j + 6) j + 2 * pf p (8 * j + 6) := ub_next p j 6 (by omega)
  have h7 : ub p (8 * j + 8) j = ub p (8 * j + 7) j + 1 * pf p (8 * j + 7) := ub_next p j 7 (by omega)
  rw [h7, h6, h5, h4, h3, h2, h1, h0, ub_low p j _ (Nat.le_refl _)]
  omega
theorem ub_all (p j : Nat) (hj : j < 16) : ub p 128 j = ub p (8 * j + 8) j := by
  have h := ub_high p j (128 - (8 * j + 8))
  rwa [show 8 * j + 8 + (128 - (8 * j + 8)) = 128 by omega] at h
theorem gbit_ub (p i : Nat) (hi : i < 128) : gbit (ub p 128) i = pf p i := by
  obtain ⟨j, hj⟩ : ∃ j, j = i / 8 := ⟨_, rfl⟩
  obtain ⟨r, hr⟩ : ∃ r, r = i % 8 := ⟨_, rfl⟩
  have he : i = 8 * j + r := by omega
  have hr8 : r < 8 := by omega
  unfold gbit
  rw [← hj, ← hr, he, ub_all p j (by omega), ub_sum]
  clear he hr hj hi
  have h0 := pf_le p (8 * j + 0); have h1 := pf_le p (8 * j + 1); have h2 := pf_le p (8 * j + 2); have h3 := pf_le p (8 * j + 3)
  have h4 := pf_le p (8 * j + 4); have h5 := pf_le p (8 * j + 5); have h6 := pf_le p (8 * j + 6); have h7 := pf_le p (8 * j + 7)
  generalize hb0 : pf p (8 * j + 0) = b0 at *; generalize hb1 : pf p (8 * j + 1) = b1 at *; generalize hb2 : pf p (8 * j + 2) = b2 at *; generalize hb3 : pf p (8 * j + 3) = b3 at *
  generalize hb4 : pf p (8 * j + 4) = b4 at *; generalize hb5 : pf p (8 * j + 5) = b5 at *; generalize hb6 : pf p (8 * j + 6) = b6 at *; generalize hb7 : pf p (8 * j + 7) = b7 at *
  have hc : r = 0 ∨ r = 1 ∨ r = 2 ∨ r = 3 ∨ r = 4 ∨ r = 5 ∨ r = 6 ∨ r = 7 := by omega
  rcases hc with rfl | rfl | rfl | rfl | rfl | rfl | rfl | rfl
  · rw [hb0]; simp only [Nat.reducePow, Nat.reduceSub]; omega
  · rw [hb1]; simp only [Nat.reducePow, Nat.reduceSub]; omega
  · rw [hb2]; simp only [Nat.reducePow, Nat.reduceSub]; omega
  · rw [hb3]; simp only [Nat.reducePow, Nat.reduceSub]; omega
  · rw [hb4]; simp only [Nat.reducePow, Nat.reduceSub]; omega
  · rw [hb5]; simp only [Nat.reducePow, Nat.reduceSub]; omega
  · rw [hb6]; simp only [Nat.reducePow, Nat.reduceSub]; omega
  · rw [hb7]; simp only [Nat.reducePow, Nat.reduceSub]; omega
theorem bf_blkL (S : Nat → Nat) (hS : ∀ i, S i < 256) (i : Nat) (h : i < 16) : bf (blkL S) i = S i := by
  rw [bf_at _ _ (by rw [blkL_length]; exact h), blkL_at S i h, UInt8.toNat_ofNat']
  exact Nat.mod_eq_of_lt (hS i)
theorem gbit_congr {f g : Nat → Nat} (i : Nat) (h : f (i / 8) = g (i / 8)) : gbit f i = gbit g i := by unfold gbit; rw [h]
/-- A number's block is that number. -/
theorem pol_unL {p : Nat} (hp : p < 2 ^ 128) : pol (bf (unL p)) = p := Nat.eq_of_testBit_eq fun i => by
  by_cases hi : i < 128
  · rw [pol_bit _ i hi, gbit_congr i (show bf (unL p) (i / 8) = ub p 128 (i / 8) from bf_blkL _ (fun j => ub_lt p 128 j) _ (by omega)), gbit_ub p i hi]
    unfold pf
    cases p.testBit i <;> simp
  · rw [Nat.testBit_lt_two_pow (Nat.lt_of_lt_of_le (pol_lt _) (Nat.pow_le_pow_right (by omega) (by omega))), Nat.testBit_lt_two_pow (Nat.lt_of_lt_of_le hp (Nat.pow_le_pow_right (by omega) (by omega)))]
theorem timesL_pol (xs ys : List UInt8) : pol (bf (timesL xs ys)) = gm (pol (bf xs)) (pol (bf ys)) := pol_unL (gm_lt (pol_lt _) _)
theorem bf_xorL (xs ys : List UInt8) (k : Nat) (h : k < xs.length) (h' : xs.length ≤ ys.length) : bf (xorL xs ys) k = bf xs k ^^^ bf ys k := by
  have hl := xorL_length xs ys h'
  have e := xorL_at xs ys k h (by omega)
  rw [List.getElem?_eq_getElem (by omega)] at e
  rw [bf_at _ _ (by omega), Option.some.inj e, bf_at _ _ h, bf_at _ _ (by omega), UInt8.toNat_ofNat']
  exact Nat.mod_eq_of_lt (Nat.xor_lt_two_pow (n := 8) (UInt8.toNat_lt _) (UInt8.toNat_lt _))
theorem gbit_bit (f : Nat → Nat) (i : Nat) : decide (gbit f i = 1) = (f (i / 8)).testBit (7 - i % 8) := by
  unfold gbit
  rw [Nat.testBit_eq_decide_div_mod_eq]
theorem pol_xor (f g : Nat → Nat) : pol (fun j => f j ^^^ g j) = pol f ^^^ pol g := Nat.eq_of_testBit_eq fun i => by
  by_cases hi : i < 128
  · rw [Nat.testBit_xor, pol_bit _ i hi, pol_bit _ i hi, pol_bit _ i hi, gbit_bit, gbit_bit, gbit_bit, Nat.testBit_xor]
  · have h : ∀ f, (pol f).testBit i = false := fun f => Nat.testBit_lt_two_pow (Nat.lt_of_lt_of_le (pol_lt _) (Nat.pow_le_pow_right (by omega) (by omega)))
    rw [Nat.testBit_xor, h, h, h]; rfl
theorem pol_congr {f g : Nat → Nat} (h : ∀ j, j < 16 → f j = g j) : pol f = pol g := Nat.eq_of_testBit_eq fun i => by
  by_cases hi : i < 128
  · rw [pol_bit _ i hi, pol_bit _ i hi, gbit_congr i (h _ (by omega))]
  · have h : ∀ f, (pol f).testBit i = false := fun f => Nat.testBit_lt_two_pow (Nat.lt_of_lt_of_le (pol_lt _) (Nat.pow_le_pow_right (by omega) (by omega)))
    rw [h, h]
theorem pol_xorL (xs ys : List UInt8) (hx : xs.length = 16) (hy : ys.length = 16) : pol (bf (xorL xs ys)) = pol (bf xs) ^^^ pol (bf ys) := by
  rw [← pol_xor]
  exact pol_congr fun j hj => bf_xorL xs ys j (by omega) (by omega)
/-- A block's number's bytes are that block. -/
theorem unL_pol (xs : List UInt8) (hx : xs.length = 16) : unL (pol (bf xs)) = xs := bf_ext (unL_length _) hx fun i hi => by
  have h := bf_lt xs i
  have e : ∀ r, r < 8 → pf (pol (bf xs)) (8 * i + r) = bf xs i / 2 ^ (7 - r) % 2 := fun r hr => by
    have h1 : (8 * i + r) / 8 = i := by omega
    have h2 : (8 * i + r) % 8 = r := by omega
    unfold pf
    rw [pol_bit _ _ (by omega)]
    have hg : gbit (bf xs) (8 * i + r) = bf xs i / 2 ^ (7 - r) % 2 := by unfold gbit; rw [h1, h2]
    rw [hg]
    have := Nat.mod_lt (bf xs i / 2 ^ (7 - r)) (show 0 < 2 by omega)
    by_cases hc : bf xs i / 2 ^ (7 - r) % 2 = 1
    · rw [if_pos (by rw [decide_eq_true hc]), hc]
    · rw [if_neg (by simpa using hc)]; omega
  unfold unL
  rw [bf_blkL _ (fun j => ub_lt _ 128 j) _ hi, ub_all _ _ hi, ub_sum, e 0 (by omega), e 1 (by omega), e 2 (by omega), e 3 (by omega), e 4 (by omega), e 5 (by omega), e 6 (by omega), e 7 (by omega)]
  generalize bf xs i = x at *
  clear e
  simp only [Nat.reducePow, Nat.reduceSub]
  omega
theorem unL_xor {p q : Nat} (hp : p < 2 ^ 128) (hq : q < 2 ^ 128) : unL (p ^^^ q) = xorL (unL p) (unL q) := by
  have hl : (xorL (unL p) (unL q)).length = 16 := by rw [xorL_length _ _ (by rw [unL_length, unL_length]; omega), unL_length]
  rw [← unL_pol _ hl, pol_xorL _ _ (unL_length _) (unL_length _), pol_unL hp, pol_unL hq]
end Go.Proofs.YtpkmidaflnbobaaGreatDoor
end
section
namespace Go.Proofs.YtpkmidaflnbobaaGreatDoor
open Go.RowKit
set_option linter.unusedVariables false
set_option linter.unusedSimpArgs false
/-- The number of n bits. -/
def nb (f : Nat → Bool) : Nat → Nat
  | 0 => 0
  | n + 1 => nb f n ^^^ (if f n then 2 ^ n else 0)
theorem nb_bit (f : Nat → Bool) : ∀ n i, (nb f n).testBit i = (decide (i < n) && f i)
  | 0, i => by simp [nb]
  | n + 1, i => by
    show (nb f n ^^^ (if f n then 2 ^ n else 0)).testBit i = _
    rw [Nat.testBit_xor, nb_bit f n i]
    by_cases h : i = n
    · subst h
      cases h1 : f i <;> simp
    · have h2 : (if f n = true then 2 ^ n else 0 : Nat).testBit i = false := by
        split
        · rw [Nat.testBit_two_pow]; simp; omega
        · simp
      rw [h2]
      by_cases h3 : i < n
      · rw [show decide (i < n) = true by simp [h3], show decide (i < n + 1) = true by simp; omega]; simp
      · rw [show decide (i < n) = false by simp; omega, show decide (i < n + 1) = false by simp; omega]; rfl
theorem nb_lt (f : Nat → Bool) (n : Nat) : nb f n < 2 ^ n := Nat.lt_pow_two_of_testBit _ fun i hi => by rw [nb_bit, show decide (i < n) = false by simp; omega]; rfl
/-- The two words. -/
def wA (p : Nat) : Nat := nb (fun j => p.testBit (63 - j)) 64
def wB (p : Nat) : Nat := nb (fun j => p.testBit (127 - j)) 64
theorem wA_bit (p j : Nat) : (wA p).testBit j = (decide (j < 64) && p.testBit (63 - j)) := nb_bit _ _ _
theorem wB_bit (p j : Nat) : (wB p).testBit j = (decide (j < 64) && p.testBit (127 - j)) := nb_bit _ _ _
theorem wA_lt (p : Nat) : wA p < 18446744073709551616 := nb_lt _ 64
theorem wB_lt (p : Nat) : wB p < 18446744073709551616 := nb_lt _ 64
theorem wA_xor (p q : Nat) : wA (p ^^^ q) = wA p ^^^ wA q := Nat.eq_of_testBit_eq fun j => by
  rw [Nat.testBit_xor, wA_bit, wA_bit, wA_bit, Nat.testBit_xor]; cases decide (j < 64) <;> simp
theorem wB_xor (p q : Nat) : wB (p ^^^ q) = wB p ^^^ wB q := Nat.eq_of_testBit_eq fun j => by
  rw [Nat.testBit_xor, wB_bit, wB_bit, wB_bit, Nat.testBit_xor]; cases decide (j < 64) <;> simp
theorem wA_zero : wA 0 = 0 := by decide +kernel
theorem wB_zero : wB 0 = 0 := by decide +kernel
theorem low_bits (x n : Nat) (h : x < 2 ^ n) (j : Nat) (hj : n ≤ j) : x.testBit j = false := Nat.testBit_lt_two_pow (Nat.lt_of_lt_of_le h (Nat.pow_le_pow_right (by omega) hj))
theorem bit_le (x n : Nat) (h : x < 2 ^ (n + 1)) : x / 2 ^ n = if x.testBit n then 1 else 0 := by
  have h1 : x / 2 ^ n < 2 := by
    rw [Nat.div_lt_iff_lt_mul (Nat.two_pow_pos n)]
    rw [Nat.pow_succ] at h; omega
  have h2 := Nat.testBit_eq_decide_div_mod_eq (x := x) (i := n)
  rw [h2, Nat.mod_eq_of_lt h1]
  clear h2 h
  generalize x / 2 ^ n = q at *
  by_cases h3 : q = 1
  · simp [h3]
  · have : q = 0 := by omega
    simp [this]
/-- The factor of 1. -/
theorem wA_top (p : Nat) : wA p / 9223372036854775808 = pf p 0 := by
  have h := bit_le (wA p) 63 (wA_lt p)
  rw [wA_bit] at h
  exact h
/-- The factor of x^127. -/
theorem wB_one (p : Nat) : wB p &&& 1 = pf p 127 := by
  rw [Nat.and_one_is_mod]
  have h := wB_bit p 0
  rw [Nat.testBit_zero] at h
  unfold pf
  have e : (decide (0 < 64) && p.testBit (127 - 0)) = p.testBit 127 := by simp
  rw [e] at h
  have hm := Nat.mod_lt (wB p) (show 0 < 2 by omega)
  cases hp : p.testBit 127
  · rw [hp] at h; simp at h; simp [h]
  · rw [hp] at h; simp at h; simp [h]
theorem shl_bit (x n j : Nat) (hn : n ≤ 64) : ((x * 2 ^ n) % 18446744073709551616).testBit j = (decide (j < 64) && decide (n ≤ j) && x.testBit (j - n)) := by
  rw [show (18446744073709551616 : Nat) = 2 ^ 64 from rfl, Nat.testBit_mod_two_pow, Nat.mul_comm, Nat.testBit_two_pow_mul, Bool.and_assoc]
theorem shr_bit (x n j : Nat) : (x / 2 ^ n).testBit j = x.testBit (n + j) := by rw [← Nat.shiftRight_eq_div_pow, Nat.testBit_shiftRight]
/-- All factors one power lower. -/
theorem wA_down (p : Nat) : wA (p >>> 1) = (wA p * 2) % 18446744073709551616 ||| wB p / 9223372036854775808 := Nat.eq_of_testBit_eq fun j => by
  rw [Nat.testBit_or, wA_bit, Nat.testBit_shiftRight]
  have h1 := shl_bit (wA p) 1 j (by omega)
  have h2 := shr_bit (wB p) 63 j
  rw [show (2 : Nat) ^ 1 = 2 from rfl] at h1
  rw [show (2 : Nat) ^ 63 = 9223372036854775808 from rfl] at h2
  rw [h1, h2, wA_bit, wB_bit]
  by_cases hj : j < 64
  · by_cases h0 : j = 0
    · subst h0; simp
    · rw [show decide (j < 64) = true by simp [hj], show decide (1 ≤ j) = true by simp; omega, show decide (j - 1 < 64) = true by simp; omega, show decide (63 + j < 64) = false by simp; omega]
      simp only [Bool.true_and, Bool.false_and, Bool.or_false]
      rw [show 63 - (j - 1) = 1 + (63 - j) by omega]
  · rw [show decide (j < 64) = false by simp; omega, show decide (63 + j < 64) = false by simp; omega]; rfl
theorem wB_down (p : Nat) (hp : p < 2 ^ 128) : wB (p >>> 1) = (wB p * 2) % 18446744073709551616 := Nat.eq_of_testBit_eq fun j => by
  rw [wB_bit, Nat.testBit_shiftRight]
  have h1 := shl_bit (wB p) 1 j (by omega)
  rw [show (2 : Nat) ^ 1 = 2 from rfl] at h1
  rw [h1, wB_bit]
  by_cases hj : j < 64
  · by_cases h0 : j = 0
    · subst h0
      rw [show 1 + (127 - 0) = 128 from rfl, low_bits p 128 hp 128 (Nat.le_refl _)]; rfl
    · rw [show decide (j < 64) = true by simp [hj], show decide (1 ≤ j) = true by simp; omega, show decide (j - 1 < 64) = true by simp; omega]
      simp only [Bool.true_and]
      rw [show 127 - (j - 1) = 1 + (127 - j) by omega]
  · rw [show decide (j < 64) = false by simp; omega]; rfl
/-- All factors one power higher. -/
theorem wA_shl (p : Nat) : wA (p <<< 1) = wA p / 2 := Nat.eq_of_testBit_eq fun j => by
  have h2 := shr_bit (wA p) 1 j
  rw [show (2 : Nat) ^ 1 = 2 from rfl] at h2
  rw [h2, wA_bit, wA_bit, Nat.testBit_shiftLeft]
  by_cases hj : j < 63
  · rw [show decide (j < 64) = true by simp; omega, show decide (1 + j < 64) = true by simp; omega, show decide (63 - j ≥ 1) = true by simp; omega]
    simp only [Bool.true_and]
    rw [show 63 - j - 1 = 63 - (1 + j) by omega]
  · rw [show decide (1 + j < 64) = false by simp; omega, show decide (63 - j ≥ 1) = false by simp; omega]; simp
theorem wB_shl (p : Nat) : wB (p <<< 1) = wB p / 2 ||| (wA p * 9223372036854775808) % 18446744073709551616 := Nat.eq_of_testBit_eq fun j => by
  have h2 := shr_bit (wB p) 1 j
  rw [show (2 : Nat) ^ 1 = 2 from rfl] at h2
  have h1 := shl_bit (wA p) 63 j (by omega)
  rw [show (2 : Nat) ^ 63 = 9223372036854775808 from rfl] at h1
  rw [Nat.testBit_or, h1, h2, wB_bit, wB_bit, wA_bit, Nat.testBit_shiftLeft]
  by_cases hj : j < 63
  · rw [show decide (j < 64) = true by simp; omega, show decide (1 + j < 64) = true by simp; omega, show decide (127 - j ≥ 1) = true by simp; omega, show decide (63 ≤ j) = false by simp; omega]
    simp only [Bool.true_and, Bool.false_and, Bool.or_false, Bool.and_false]
    rw [show 127 - j - 1 = 127 - (1 + j) by omega]
  · by_cases h3 : j = 63
    · subst h3; simp
    · rw [show decide (1 + j < 64) = false by simp; omega, show decide (j < 64) = false by simp; omega]; simp
theorem wA_fold : wA (2 ^ 128 + 135) = 16212958658533785600 := by decide +kernel
theorem wB_fold : wB (2 ^ 128 + 135) = 0 := by decide +kernel
theorem wA_mulx (p : Nat) : wA (mulx p) = wA p / 2 ^^^ (if p.testBit 127 then 16212958658533785600 else 0) := by
  unfold mulx
  split
  · rw [wA_xor, wA_shl, wA_fold]
  · rw [wA_shl, Nat.xor_zero]
theorem wB_mulx (p : Nat) : wB (mulx p) = wB p / 2 ||| (wA p * 9223372036854775808) % 18446744073709551616 := by
  unfold mulx
  split
  · rw [wB_xor, wB_shl, wB_fold, Nat.xor_zero]
  · rw [wB_shl]
/-- A number's bytes, the highest first. -/
def be (f : Nat → Nat) (o : Nat) : Nat → Nat
  | 0 => 0
  | k + 1 => be f o k * 256 + f (o + k)
theorem be_lt (f : Nat → Nat) (hf : ∀ i, f i < 256) (o : Nat) : ∀ k, be f o k < 256 ^ k
  | 0 => by show 0 < 1; decide
  | k + 1 => by
    have h1 := be_lt f hf o k
    have h2 := hf (o + k)
    show be f o k * 256 + f (o + k) < 256 ^ k * 256
    omega
theorem be_bit (f : Nat → Nat) (hf : ∀ i, f i < 256) (o : Nat) : ∀ k j, (be f o k).testBit j = (decide (j < 8 * k) && (f (o + (k - 1 - j / 8))).testBit (j % 8))
  | 0, j => by simp [be]
  | k + 1, j => by
    show (be f o k * 256 + f (o + k)).testBit j = _
    rw [Nat.mul_comm, show (256 : Nat) = 2 ^ 8 from rfl, Nat.testBit_two_pow_mul_add _ (hf (o + k))]
    by_cases h : j < 8
    · rw [if_pos h, show j / 8 = 0 by omega, show j % 8 = j by omega, show decide (j < 8 * (k + 1)) = true by simp; omega]
      simp
    · rw [if_neg h, be_bit f hf o k (j - 8), show (j - 8) % 8 = j % 8 by omega, show k + 1 - 1 - j / 8 = k - 1 - (j - 8) / 8 by omega]
      congr 1
      simp; omega
theorem pol_at (f : Nat → Nat) (i : Nat) (hi : i < 128) : (pol f).testBit i = (f (i / 8)).testBit (7 - i % 8) := by rw [pol_bit _ i hi, gbit_bit]
theorem wA_pol (f : Nat → Nat) (hf : ∀ i, f i < 256) : wA (pol f) = be f 0 8 := Nat.eq_of_testBit_eq fun j => by
  rw [wA_bit, be_bit f hf]
  by_cases h : j < 64
  · rw [pol_at _ _ (by omega), show (63 - j) / 8 = 0 + (8 - 1 - j / 8) by omega, show 7 - (63 - j) % 8 = j % 8 by omega]
  · rw [show decide (j < 64) = false by simp; omega]; rfl
theorem wB_pol (f : Nat → Nat) (hf : ∀ i, f i < 256) : wB (pol f) = be f 8 8 := Nat.eq_of_testBit_eq fun j => by
  rw [wB_bit, be_bit f hf]
  by_cases h : j < 64
  · rw [pol_at _ _ (by omega), show (127 - j) / 8 = 8 + (8 - 1 - j / 8) by omega, show 7 - (127 - j) % 8 = j % 8 by omega]
  · rw [show decide (j < 64) = false by simp; omega]; rfl
theorem ub_bit (p j r : Nat) (hj : j < 16) (hr : r < 8) : (ub p 128 j).testBit r = p.testBit (8 * j + 7 - r) := by
  have h := gbit_bit (ub p 128) (8 * j + 7 - r)
  rw [gbit_ub p _ (by omega), show (8 * j + 7 - r) / 8 = j by omega, show 7 - (8 * j + 7 - r) % 8 = r by omega] at h
  rw [← h]
  unfold pf
  cases p.testBit (8 * j + 7 - r) <;> simp
theorem wA_byte (p i : Nat) (hi : i < 8) : wA p / 2 ^ (56 - 8 * i) % 256 = ub p 128 i := Nat.eq_of_testBit_eq fun r => by
  rw [show (256 : Nat) = 2 ^ 8 from rfl, Nat.testBit_mod_two_pow, shr_bit, wA_bit]
  by_cases h : r < 8
  · rw [ub_bit p i r (by omega) h, show decide (r < 8) = true by simp [h], show decide (56 - 8 * i + r < 64) = true by simp; omega, show 63 - (56 - 8 * i + r) = 8 * i + 7 - r by omega]; rfl
  · rw [show decide (r < 8) = false by simp; omega, low_bits _ 8 (ub_lt p 128 i) r (by omega)]; rfl
theorem wB_byte (p i : Nat) (hi : i < 8) : wB p / 2 ^ (56 - 8 * i) % 256 = ub p 128 (8 + i) := Nat.eq_of_testBit_eq fun r => by
  rw [show (256 : Nat) = 2 ^ 8 from rfl, Nat.testBit_mod_two_pow, shr_bit, wB_bit]
  by_cases h : r < 8
  · rw [ub_bit p (8 + i) r (by omega) h, show decide (r < 8) = true by simp [h], show decide (56 - 8 * i + r < 64) = true by simp; omega, show 127 - (56 - 8 * i + r) = 8 * (8 + i) + 7 - r by omega]; rfl
  · rw [show decide (r < 8) = false by simp; omega, low_bits _ 8 (ub_lt p 128 _) r (by omega)]; rfl
/-- After k blocks, by a function from places to bytes. -/
def wf (H : Nat) (f : Nat → Nat) (p : Nat) : Nat → Nat
  | 0 => p
  | k + 1 => gm (wf H f p k ^^^ pol (fun j => f (16 * k + j))) H
theorem wf_lt {H p : Nat} (f : Nat → Nat) (hp : p < 2 ^ 128) : ∀ k, wf H f p k < 2 ^ 128
  | 0 => hp
  | k + 1 => gm_lt (Nat.xor_lt_two_pow (wf_lt f hp k) (pol_lt _)) _
theorem wf_congr (H p : Nat) {f g : Nat → Nat} : ∀ k, (∀ j, j < 16 * k → f j = g j) → wf H f p k = wf H g p k
  | 0, _ => rfl
  | k + 1, h => by
    show gm (wf H f p k ^^^ _) H = gm (wf H g p k ^^^ _) H
    rw [wf_congr H p k (fun j hj => h j (by omega)), pol_congr (f := fun j => f (16 * k + j)) (g := fun j => g (16 * k + j)) (fun j hj => h _ (by omega))]
theorem wf_add (H p : Nat) (f : Nat → Nat) (a : Nat) : ∀ b, wf H (fun j => f (16 * a + j)) (wf H f p a) b = wf H f p (a + b)
  | 0 => rfl
  | b + 1 => by
    show gm (wf H _ (wf H f p a) b ^^^ _) H = gm (wf H f p (a + b) ^^^ _) H
    rw [wf_add H p f a b, pol_congr (f := fun j => f (16 * a + (16 * b + j))) (g := fun j => f (16 * (a + b) + j)) fun j hj => by rw [show 16 * a + (16 * b + j) = 16 * (a + b) + j by omega]]
    rfl
theorem bf_out (xs : List UInt8) (i : Nat) (h : xs.length ≤ i) : bf xs i = 0 := by unfold bf; simp [List.getD, h]
theorem bf_append (xs ys : List UInt8) (i : Nat) : bf (xs ++ ys) i = if i < xs.length then bf xs i else bf ys (i - xs.length) := by
  unfold bf
  rw [List.getD_eq_getElem?_getD, List.getD_eq_getElem?_getD, List.getD_eq_getElem?_getD]
  by_cases h : i < xs.length
  · rw [if_pos h, List.getElem?_append_left h]
  · rw [if_neg h, List.getElem?_append_right (by omega)]
theorem bf_zeros (n i : Nat) : bf (List.replicate n 0) i = 0 := by
  unfold bf
  by_cases h : i < n <;> simp [List.getD, h]
theorem bf_fill (xs : List UInt8) (i : Nat) : bf (fillL xs) i = bf xs i := by
  unfold fillL
  rw [bf_append]
  split
  · rfl
  · rw [bf_zeros, bf_out _ _ (by omega)]
theorem bf_part (xs : List UInt8) (o n i : Nat) (h : i < n) : bf ((xs.drop o).take n) i = bf xs (o + i) := by
  unfold bf
  simp [List.getD, List.getElem?_take, h, List.getElem?_drop]
theorem tagY_wf (h all : List UInt8) : ∀ k, 16 * k ≤ all.length → pol (bf (tagY h all k)) = wf (pol (bf h)) (bf all) 0 k
  | 0, _ => by
    show pol (bf (blkL fun _ => 0)) = 0
    decide +kernel
  | k + 1, hk => by
    show pol (bf (timesL (xorL (tagY h all k) ((all.drop (16 * k)).take 16)) h)) = _
    rw [timesL_pol, pol_xorL _ _ (tagY_length _ _ _) (by rw [List.length_take, List.length_drop]; omega), tagY_wf h all k (by omega)]
    show gm (_ ^^^ pol (bf ((all.drop (16 * k)).take 16))) _ = gm (_ ^^^ pol (fun j => bf all (16 * k + j))) _
    rw [pol_congr (f := bf ((all.drop (16 * k)).take 16)) (g := fun j => bf all (16 * k + j)) fun j hj => bf_part all (16 * k) 16 j hj]
theorem be_len (N : Nat) (hN : N < 18446744073709551616) : ∀ k, k ≤ 8 → be (lenB N) 0 k = N / 256 ^ (8 - k)
  | 0, _ => by
    show 0 = N / 256 ^ 8
    rw [Nat.div_eq_of_lt (show N < 256 ^ 8 from hN)]
  | k + 1, h => by
    show be (lenB N) 0 k * 256 + lenB N (0 + k) = _
    rw [be_len N hN k (by omega), Nat.zero_add]
    unfold lenB
    rw [show 8 - k = (7 - k) + 1 by omega, Nat.pow_succ, ← Nat.div_div_eq_div_mul, show 8 - (k + 1) = 7 - k by omega]
    omega
theorem be_congr {f g : Nat → Nat} (o o' : Nat) : ∀ k, (∀ i, i < k → f (o + i) = g (o' + i)) → be f o k = be g o' k
  | 0, _ => rfl
  | k + 1, h => by
    show be f o k * 256 + f (o + k) = be g o' k * 256 + g (o' + k)
    rw [be_congr o o' k (fun i hi => h i (by omega)), h k (by omega)]
theorem bf_eight (S : Nat → Nat) (hS : ∀ i, S i < 256) (i : Nat) (h : i < 8) : bf (eightL S) i = S i := by
  rw [bf_at _ _ (by rw [eightL_length]; exact h), eightL_at S i h, UInt8.toNat_ofNat']
  exact Nat.mod_eq_of_lt (hS i)
/-- The block of two lengths. -/
def lenP (a b : Nat) : Nat := pol (bf (eightL (lenB a) ++ eightL (lenB b)))
theorem lenP_lt (a b : Nat) : lenP a b < 2 ^ 128 := pol_lt _
theorem wA_len (a b : Nat) (ha : a < 18446744073709551616) : wA (lenP a b) = a := by
  unfold lenP
  rw [wA_pol _ (fun i => bf_lt _ i), be_congr (g := lenB a) 0 0 8 (fun i hi => by rw [bf_append, eightL_length, if_pos (by omega), bf_eight _ (fun i => lenB_lt _ i) _ (by omega)]), be_len a ha 8 (by omega)]
  simp
theorem wB_len (a b : Nat) (hb : b < 18446744073709551616) : wB (lenP a b) = b := by
  unfold lenP
  rw [wB_pol _ (fun i => bf_lt _ i), be_congr (g := lenB b) 8 0 8 (fun i hi => by rw [bf_append, eightL_length, if_neg (by omega), show 8 + i - 8 = i by omega, bf_eight _ (fun i => lenB_lt _ i) _ (by omega), Nat.zero_add]), be_len b hb 8 (by omega)]
  simp
/-- The tag, by numbers. -/
def hN (key : List UInt8) : Nat := pol (bf (hashH key))
def sumG (key sealed more : List UInt8) : Nat :=
  gm (wf (hN key) (bf sealed) (wf (hN key) (bf more) 0 ((more.length + 15) / 16)) ((sealed.length + 15) / 16) ^^^ lenP (8 * more.length) (8 * sealed.length)) (hN key)
theorem sumN_lt (key sealed more : List UInt8) : sumG key sealed more < 2 ^ 128 :=
  gm_lt (Nat.xor_lt_two_pow (wf_lt _ (wf_lt _ (by decide) _) _) (lenP_lt _ _)) _
theorem held_more (more sealed : List UInt8) (j : Nat) (h : j < 16 * ((more.length + 15) / 16)) : bf (heldL more sealed) j = bf more j := by
  unfold heldL
  rw [bf_append, if_pos (by simp only [List.length_append, fillL_length, eightL_length]; omega), bf_append, if_pos (by simp only [List.length_append, fillL_length]; omega), bf_append, if_pos (by rw [fillL_length]; omega), bf_fill]
theorem held_sealed (more sealed : List UInt8) (j : Nat) (h : j < 16 * ((sealed.length + 15) / 16)) : bf (heldL more sealed) (16 * ((more.length + 15) / 16) + j) = bf sealed j := by
  unfold heldL
  rw [bf_append, if_pos (by simp only [List.length_append, fillL_length, eightL_length]; omega), bf_append, if_pos (by simp only [List.length_append, fillL_length]; omega), bf_append, if_neg (by rw [fillL_length]; omega), fillL_length, show 16 * ((more.length + 15) / 16) + j - (more.length + 15) / 16 * 16 = j by omega, bf_fill]
theorem held_len (more sealed : List UInt8) (j : Nat) (h : j < 16) : bf (heldL more sealed) (16 * ((more.length + 15) / 16 + (sealed.length + 15) / 16) + j) = bf (eightL (lenB (8 * more.length)) ++ eightL (lenB (8 * sealed.length))) j := by
  unfold heldL
  rw [List.append_assoc, bf_append, if_neg (by simp only [List.length_append, fillL_length]; omega)]
  congr 1
  simp only [List.length_append, fillL_length]; omega
theorem tagY_sum (key sealed more : List UInt8) : pol (bf (tagY (hashH key) (heldL more sealed) (heldK more sealed))) = sumG key sealed more := by
  rw [tagY_wf _ _ _ (by rw [heldL_length]; exact Nat.le_refl _)]
  unfold heldK sumG
  show gm (wf _ _ 0 _ ^^^ _) _ = gm (_ ^^^ _) _
  rw [← wf_add, wf_congr _ _ (f := fun j => bf (heldL more sealed) (16 * ((more.length + 15) / 16) + j)) (g := bf sealed) _ (fun j hj => held_sealed more sealed j hj), wf_congr _ 0 (f := bf (heldL more sealed)) (g := bf more) _ (fun j hj => held_more more sealed j hj),
    pol_congr (f := fun j => bf (heldL more sealed) (16 * ((more.length + 15) / 16 + (sealed.length + 15) / 16) + j)) (g := bf (eightL (lenB (8 * more.length)) ++ eightL (lenB (8 * sealed.length)))) fun j hj => held_len more sealed j hj]
  rfl
theorem tag_is (key nonce sealed more : List UInt8) : unL (sumG key sealed more ^^^ pol (bf (maskL key nonce 1))) = tagL key nonce sealed more := by
  rw [unL_xor (sumN_lt _ _ _) (pol_lt _), unL_pol _ (maskL_length _ _ _), ← tagY_sum, unL_pol _ (tagY_length _ _ _)]
  rfl
end Go.Proofs.YtpkmidaflnbobaaGreatDoor
end
section
namespace Go.Proofs.YtpkmidaflnbobaaGreatDoor
open Go.RowKit
set_option linter.unusedVariables false
set_option linter.unusedSimpArgs false
abbrev PTg : TypeId := 72
/-- Two words as a block's cells. -/
abbrev p2 (a b : Nat) : Array Value := #[.int .u64 (a : Int), .int .u64 (b : Int)]
theorem infoP : (Tryz.prog.info? PTg).map (·.size) = some 2 := by kernel_rfl
theorem plus_w (a b c d : Nat) (w : World) (ha : a < 18446744073709551616) (hb : b < 18446744073709551616) (hc : c < 18446744073709551616) (hd : d < 18446744073709551616) :
    Calls Tryz.prog 60 #[.agg (p2 a b), .agg (p2 c d)] w fun e w' => e = .returned (.agg (p2 (a ^^^ c) (b ^^^ d))) ∧ Below w.heap.size w w' := by
  have e1 := u64_xor_nat a c ha hc
  have e2 := u64_xor_nat b d hb hd
  clear ha hb hc hd
  go_enter Tryz.func60, Tryz.ntmps60
  go_wp2
  refine bodyPost_ret (v := .agg (p2 (a ^^^ c) (b ^^^ d))) (results_cell_row rfl _ _ (w.heap.size + 1 + 1) PTg _ (0, 0) _ rfl ?h Tryz.underlying72 rfl infoP) rfl ⟨rfl, ?b⟩
  case h => exact blkN (by simp) _ _
  case b => exact (((Below.refl _ w).alloc (Nat.le_refl _) _).alloc (by simp) _).alloc (by simp; omega) _
theorem only_w (a b t u v : Nat) (w : World) (ha : a < 18446744073709551616) (hb : b < 18446744073709551616) (ht : t ≤ 1) (hu : u = t * a) (hv : v = t * b) :
    Calls Tryz.prog 87 #[.agg (p2 a b), .int .u64 (t : Int)] w fun e w' => e = .returned (.agg (p2 u v)) ∧ Below w.heap.size w w' := by
  obtain ⟨m, hm⟩ : ∃ m, m = t * 18446744073709551615 := ⟨_, rfl⟩
  have hneg : IntKind.u64.wrap (-(t : Int)) = (m : Int) := by rw [IntKind.wrap_u64]; omega
  have hand : ∀ x : Nat, x < 18446744073709551616 → bits .and .u64 (x : Int) (m : Int) = ((t * x : Nat) : Int) := fun x hx => by
    rw [u64_and_nat x m hx (by omega), hm]
    congr 1
    have : t = 0 ∨ t = 1 := by omega
    rcases this with rfl | rfl
    · simp
    · rw [Nat.one_mul, Nat.one_mul, show 18446744073709551615 = 2 ^ 64 - 1 from rfl, Nat.and_two_pow_sub_one_eq_mod]
      exact Nat.mod_eq_of_lt hx
  have e1 := hand a ha
  have e2 := hand b hb
  rw [← hu] at e1
  rw [← hv] at e2
  clear hm ha hb ht hand hu hv
  go_enter Tryz.func87, Tryz.ntmps87
  go_wp2
  refine bodyPost_ret (v := .agg (p2 u v)) (results_cell_row rfl _ _ (w.heap.size + 1) PTg _ (0, 0) _ rfl ?h Tryz.underlying72 rfl infoP) rfl ⟨rfl, ?b⟩
  case h => exact blkN (by simp) _ _
  case b => exact ((Below.refl _ w).alloc (Nat.le_refl _) _).alloc (by simp) _
theorem next_w (a b t x y : Nat) (w : World) (ha : a < 18446744073709551616) (hb : b < 18446744073709551616) (ht : t = b &&& 1) (hx : x = a / 2 ^^^ t * 16212958658533785600) (hy : y = b / 2 ||| (a * 9223372036854775808) % 18446744073709551616) :
    Calls Tryz.prog 88 #[.agg (p2 a b)] w fun e w' => e = .returned (.agg (p2 x y)) ∧ Below w.heap.size w w' := by
  have ht1 : t ≤ 1 := by rw [ht, Nat.and_one_is_mod]; omega
  have e0 : bits .and .u64 (b : Int) 1 = (t : Int) := by rw [ht]; exact u64_and_nat b 1 hb (by omega)
  obtain ⟨m, hm⟩ : ∃ m, m = t * 18446744073709551615 := ⟨_, rfl⟩
  have hneg : IntKind.u64.wrap (-(t : Int)) = (m : Int) := by rw [IntKind.wrap_u64]; omega
  obtain ⟨z, hz⟩ : ∃ z, z = t * 16212958658533785600 := ⟨_, rfl⟩
  have e1 : bits .and .u64 16212958658533785600 (m : Int) = (z : Int) := by
    have h := u64_and_nat 16212958658533785600 m (by omega) (by omega)
    have h2 : 16212958658533785600 &&& m = z := by
      have : t = 0 ∨ t = 1 := by omega
      rcases this with rfl | rfl
      · rw [hm, hz]; rfl
      · rw [hm, hz]; decide +kernel
    rw [h2] at h
    exact h
  obtain ⟨a1, ha1⟩ : ∃ a1, a1 = a / 2 := ⟨_, rfl⟩
  have s1 : (a : Int) / 2 = (a1 : Int) := by omega
  obtain ⟨b1, hb1⟩ : ∃ b1, b1 = b / 2 := ⟨_, rfl⟩
  have s2 : (b : Int) / 2 = (b1 : Int) := by omega
  obtain ⟨a2, ha2⟩ : ∃ a2, a2 = (a * 9223372036854775808) % 18446744073709551616 := ⟨_, rfl⟩
  have s3 : (a : Int) * 9223372036854775808 % 18446744073709551616 = (a2 : Int) := by omega
  have s4 : IntKind.u64.wrap ((a : Int) * 9223372036854775808) = (a2 : Int) := by rw [IntKind.wrap_u64]; exact s3
  rw [← ha1, ← hz] at hx
  rw [← hb1, ← ha2] at hy
  have e2 := u64_xor_nat a1 z (by omega) (by omega)
  have e3 := u64_or_nat b1 a2 (by omega) (by omega)
  rw [← hx] at e2
  rw [← hy] at e3
  clear hx hy hz hm ha1 hb1 ha2 ha hb ht ht1
  go_enter Tryz.func88, Tryz.ntmps88
  go_wp2
  refine bodyPost_ret (v := .agg (p2 x y)) (results_cell_row rfl _ _ (w.heap.size + 1) PTg _ (0, 0) _ rfl ?h Tryz.underlying72 rfl infoP) rfl ⟨rfl, ?b⟩
  case h => exact blkN (by simp) _ _
  case b => exact ((Below.refl _ w).alloc (Nat.le_refl _) _).alloc (by simp) _
/-- A block. -/
def pV (p : Nat) : Array Value := p2 (wA p) (wB p)
theorem pV_one (p : Nat) : (pV p).all (·.oneCell') = true := by simp [pV, Value.oneCell']
theorem infoV (p : Nat) : (Tryz.prog.info? PTg).map (·.size) = some (pV p).size := infoP
theorem pV_zero : pV 0 = #[Value.int .u64 0, .int .u64 0] := by rw [pV, wA_zero, wB_zero]; rfl
theorem plus_e (p q : Nat) (w : World) : Calls Tryz.prog 60 #[.agg (pV p), .agg (pV q)] w fun e w' => e = .returned (.agg (pV (p ^^^ q))) ∧ Below w.heap.size w w' := by
  have h := plus_w (wA p) (wB p) (wA q) (wB q) w (wA_lt _) (wB_lt _) (wA_lt _) (wB_lt _)
  rw [← wA_xor, ← wB_xor] at h
  exact h
theorem only_e (p t : Nat) (w : World) (ht : t ≤ 1) : Calls Tryz.prog 87 #[.agg (pV p), .int .u64 (t : Int)] w fun e w' => e = .returned (.agg (pV (t * p))) ∧ Below w.heap.size w w' := by
  have h : t = 0 ∨ t = 1 := by omega
  rcases h with rfl | rfl
  · exact only_w (wA p) (wB p) 0 _ _ w (wA_lt _) (wB_lt _) (by omega) (by rw [Nat.zero_mul, Nat.zero_mul, wA_zero]) (by rw [Nat.zero_mul, Nat.zero_mul, wB_zero])
  · exact only_w (wA p) (wB p) 1 _ _ w (wA_lt _) (wB_lt _) (by omega) (by rw [Nat.one_mul, Nat.one_mul]) (by rw [Nat.one_mul, Nat.one_mul])
theorem next_e (p : Nat) (w : World) : Calls Tryz.prog 88 #[.agg (pV p)] w fun e w' => e = .returned (.agg (pV (mulx p))) ∧ Below w.heap.size w w' := by
  refine next_w (wA p) (wB p) (pf p 127) _ _ w (wA_lt _) (wB_lt _) (wB_one p).symm ?_ (wB_mulx p)
  rw [wA_mulx]
  unfold pf
  cases p.testBit 127 <;> simp
set_option maxHeartbeats 1000000 in
theorem word_e (A : Option Addr) (xs : List UInt8) (n c : Nat) (w : World) (hA : Lie w w.heap.size A (bvs xs)) (hn : xs.length = n) (h8 : n ≤ 8) :
    Calls Tryz.prog 86 #[.slice A n c] w fun e w' => e = .returned (.int .u64 ((be (bf xs) 0 n : Nat) : Int)) ∧ w = w' := by
  have HA := hid hA; have HN := hid hn
  clear hA hn
  go_enter Tryz.func86, Tryz.ntmps86
  go_wp2
  go_loopg [3, 8] n (fun r a i wr => ∃ k : Nat, k + r = n ∧ i = .int .i64 (k : Int) ∧ a = .int .u64 ((be (bf xs) 0 k : Nat) : Int) ∧ w = wr)
  case atStart => exact ⟨0, by omega, rfl, rfl, rfl⟩
  case round =>
    obtain ⟨k, hk, rfl, rfl, rfl⟩ := hrel
    have HK := hid hk
    clear hk
    by_cases hlt : k < n
    · obtain ⟨b, o, rfl, hbb, hcell⟩ := HA.out.byte (k := k) (by rw [HN.out]; exact hlt)
      have hx : (k : Int) < (n : Int) := by omega
      have hk0 : (0 : Int) ≤ (k : Int) := by omega
      have hyb := bf_at xs k (by rw [HN.out]; omega)
      obtain ⟨y, hy⟩ : ∃ y, y = bf xs k := ⟨_, rfl⟩
      rw [← hyb, ← hy] at hcell
      have hyl : y < 256 := by rw [hy]; exact bf_lt _ _
      obtain ⟨T, hT⟩ : ∃ T, T = be (bf xs) 0 k := ⟨_, rfl⟩
      have hTl : T * 256 + 256 ≤ 18446744073709551616 := by
        have h1 := be_lt (bf xs) (fun i => bf_lt xs i) 0 k
        have h2 : 256 ^ k ≤ 256 ^ 7 := Nat.pow_le_pow_right (by omega) (by omega)
        rw [← hT] at h1
        have h3 : (256 : Nat) ^ 7 = 72057594037927936 := by decide
        omega
      obtain ⟨U, hU⟩ : ∃ U, U = be (bf xs) 0 (k + 1) := ⟨_, rfl⟩
      have hUT : T * 256 + y = U := by rw [hU, hT, hy]; show _ = be (bf xs) 0 k * 256 + bf xs (0 + k); rw [Nat.zero_add]
      have e1 := wrap_byte T hTl
      have e2 := or_byte T y hyl hTl
      rw [hUT] at e2
      have e3 : IntKind.u64.wrap (y : Int) = (y : Int) := by rw [wrapN, Nat.mod_eq_of_lt (by omega)]
      rw [← hT]
      have HU := hid hU
      clear hT hTl hU hUT hy hyl hyb
      go_wp2
      have hk := HK.out
      go_roundg (n - k - 1)
      case measure => omega
      case rel => exact ⟨k + 1, by omega, by go_num, by rw [HU.out], rfl⟩
    · obtain rfl : k = n := by have := HK.out; omega
      have hx : ¬ ((k : Int) < (k : Int)) := by omega
      go_wp2
      go_ret
      exact ⟨rfl, rfl⟩
end Go.Proofs.YtpkmidaflnbobaaGreatDoor
end
section
namespace Go.Proofs.YtpkmidaflnbobaaGreatDoor
open Go.RowKit
set_option linter.unusedVariables false
set_option linter.unusedSimpArgs false
theorem below_drQ {B : Nat} {a w : World} (h : Below B a w) (n : Nat) : Below B a (w.drewN n) := ⟨h.os, h.tape, h.output, h.size, h.block⟩
def z16g : List UInt8 := [0, 0, 0, 0, 0, 0, 0, 0, 0, 0, 0, 0, 0, 0, 0, 0]
/-- The bytes with 0 behind them, 16 in all. -/
def pad16 (xs : List UInt8) : List UInt8 := blkL (bf xs)
theorem pad16_length (xs : List UInt8) : (pad16 xs).length = 16 := blkL_length _
theorem splice_z16 (xs : List UInt8) : splice (bvs z16g) 0 (bvs (xs.take 16)) = bvs (pad16 xs) := by
  have e : pad16 xs = xs.take 16 ++ z16g.drop (xs.take 16).length := by
    refine List.ext_getElem (by simp [pad16, blkL_length, z16g]; omega) fun i h1 h2 => ?_
    have hi : i < 16 := by simpa [pad16, blkL_length] using h1
    refine (blkL_at (bf xs) i hi).trans ?_
    by_cases h : i < xs.length
    · rw [List.getElem_append_left (by simp; omega), bf_at xs i h]; simp
    · rw [List.getElem_append_right (by simp; omega), bf_out xs i (by omega)]
      have hz : ∀ (j : Nat) (hj : j < z16g.length), z16g[j] = 0 := by decide
      rw [List.getElem_drop, hz]; rfl
  rw [e]
  simp [splice, bvs, List.map_drop]
theorem sizeU8p : (Tryz.prog.info? 5).map (·.size) = some 1 := by kernel_rfl
theorem bf_pad (xs : List UInt8) (i : Nat) (h : i < 16) : bf (pad16 xs) i = bf xs i := bf_blkL _ (fun i => bf_lt _ i) i h
set_option maxHeartbeats 1000000 in
theorem polyOf_e (A : Option Addr) (xs : List UInt8) (n c : Nat) (w : World) (hS : Sq w w.heap.size A c (bvs xs)) (hn : xs.length = n) (hl : n ≤ 1000) :
    Calls Tryz.prog 58 #[.slice A n c] w fun e w' => e = .returned (.agg (pV (pol (bf xs)))) ∧ Below w.heap.size w w' := by
  obtain ⟨w1, hw1⟩ : ∃ w1, (w.alloc (.cells #[.int .u64 0, .int .u64 0] PTg)).alloc (.cells #[.int .u8 0, .int .u8 0, .int .u8 0, .int .u8 0, .int .u8 0, .int .u8 0, .int .u8 0, .int .u8 0, .int .u8 0, .int .u8 0, .int .u8 0, .int .u8 0, .int .u8 0, .int .u8 0, .int .u8 0, .int .u8 0] 100) = w1 := ⟨_, rfl⟩
  have hB0 : Below w.heap.size w w1 := by rw [← hw1]; exact ((Below.refl _ _).alloc (Nat.le_refl _) _).alloc (by simp) _
  have hres : w1.heap[w.heap.size]? = some (.cells (pV 0) PTg (0, 0)) := by rw [← hw1, pV_zero]; exact blkA (blkN rfl _ _) _
  have hrow : w1.heap[w.heap.size + 1]? = some (.cells (bvs z16g).toArray 100 (0, 0)) := by rw [← hw1]; exact blkN (by simp) _ _
  have hL : Lie w1 w1.heap.size A (bvs xs) := (hS.lie.below hB0).more hB0.size
  have HB0 := hid hB0; have HRES := hid hres; have HROW := hid hrow; have HL := hid hL
  obtain ⟨kv, hkv⟩ : ∃ kv, kv = bvs (xs.take 16) := ⟨_, rfl⟩
  have hkl : kv.length = Nat.min n 16 := by rw [hkv, bvs_length, List.length_take, hn]; exact Nat.min_comm _ _
  have HKV := hid hkv; have HKL := hid hkl; have HN := hid hn
  have hw1s : w1.heap.size = w.heap.size + 1 + 1 := by rw [← hw1]; simp
  have HW1S := hid hw1s
  clear hL hrow hres hS hkv hkl hn hB0 hw1s
  go_enter Tryz.func58, Tryz.ntmps58
  go_wp2_with (refine wpList_copy_grown rfl (.tmp 4) (.tmp 5) _ _ rfl 5 Tryz.underlying22 sizeU8p _ _ _ _ _ _ rfl rfl (w.heap.size + 1) 0 (bvs z16g) 100 HROW.out kv ?e2 ?e3 ?e4 ?e5 w1 (World.grownBy.refl _ _) ?_)
  case e2 => exact HKL.out
  case e3 =>
    intro hp
    obtain ⟨ad, rfl, hc⟩ := HL.out.src (by rw [bvs_length]; rw [HKL.out] at hp; have : n.min 16 ≤ n := Nat.min_le_left _ _; have := HN.out; omega)
    refine ⟨ad, rfl, fun j v hv => hc j v ?_⟩
    rw [HKV.out, bvs, List.map_take, List.getElem?_take] at hv
    split at hv
    · exact hv
    · cases hv
  case e4 => rw [HKL.out, bvs_length]; have : n.min 16 ≤ 16 := Nat.min_le_right _ _; simp [z16g]; omega
  case e5 => rw [HKV.out]; exact bvs_one _
  intro w2 HW hg2
  have hw2 := HW.out
  rw [HKV.out, splice_z16] at hw2
  have hb2 : Below w.heap.size w w2 := HB0.out.grown hg2 HB0.out.size (fun q h => by injection h with h; omega)
  have hres2 : w2.heap[w.heap.size]? = some (.cells (pV 0) PTg (0, 0)) := (hg2.block _ (by rw [HW1S.out]; omega) (by simp)).trans HRES.out
  have hs2 : w.heap.size + 1 < w2.heap.size := block_lt hw2
  have HW2 := hid hw2; have HB2 := hid hb2; have HR2 := hid hres2; have HS2 := hid hs2
  clear hw2 hb2 hres2 hs2 hg2 HW HB0 HRES HROW HL HW1S hw1
  have hlie : Lie w2 w2.heap.size (some ⟨w.heap.size + 1, 0, none⟩) (bvs (pad16 xs)) := fun _ => ⟨_, 0, rfl, HS2.out, fun j v hv => by rw [Nat.zero_add]; exact cell_of HW2.out j v (by simpa using hv)⟩
  have l1 : Lie w2 w2.heap.size (some ⟨w.heap.size + 1, 0, none⟩) (bvs (((pad16 xs).drop 0).take 8)) := by
    have h := hlie.take 8
    simpa [bvs, List.map_take] using h
  have l2 : Lie w2 w2.heap.size (some ⟨w.heap.size + 1, 8, none⟩) (bvs (((pad16 xs).drop 8).take 8)) := by
    have h := (hlie.drop 8).take 8
    simpa [bvs, List.map_take, List.map_drop] using h
  obtain ⟨ya, hya⟩ : ∃ y, y = wA (pol (bf xs)) := ⟨_, rfl⟩
  obtain ⟨yb, hyb⟩ : ∃ y, y = wB (pol (bf xs)) := ⟨_, rfl⟩
  have ea : be (bf (((pad16 xs).drop 0).take 8)) 0 8 = ya := by
    rw [hya, wA_pol _ (fun i => bf_lt _ i)]
    exact be_congr 0 0 8 fun i hi => by rw [bf_part _ 0 8 (0 + i) (by omega), bf_pad _ _ (by omega), Nat.zero_add]
  have eb : be (bf (((pad16 xs).drop 8).take 8)) 0 8 = yb := by
    rw [hyb, wB_pol _ (fun i => bf_lt _ i)]
    exact be_congr 0 8 8 fun i hi => by rw [bf_part _ 8 8 (0 + i) (by omega), bf_pad _ _ (by omega), Nat.zero_add]
  have K1 : Hid (∀ n, Calls Tryz.prog 86 #[.slice (some ⟨w.heap.size + 1, 0, none⟩) 8 16] (w2.drewN n) fun e w' => e = .returned (.int .u64 (ya : Int)) ∧ ∃ m, w' = w2.drewN m) := hid fun n => by
    have h := word_e (some ⟨w.heap.size + 1, 0, none⟩) _ 8 16 (w2.drewN n) (l1.drewN n) (by simp [pad16_length]) (by omega)
    rw [ea] at h
    exact h.mono fun e w' h => ⟨h.1, n, h.2.symm⟩
  have K2 : Hid (∀ n, Calls Tryz.prog 86 #[.slice (some ⟨w.heap.size + 1, 8, none⟩) 8 8] (w2.drewN n) fun e w' => e = .returned (.int .u64 (yb : Int)) ∧ ∃ m, w' = w2.drewN m) := hid fun n => by
    have h := word_e (some ⟨w.heap.size + 1, 8, none⟩) _ 8 8 (w2.drewN n) (l2.drewN n) (by simp [pad16_length]) (by omega)
    rw [eb] at h
    exact h.mono fun e w' h => ⟨h.1, n, h.2.symm⟩
  have HYA := hid hya; have HYB := hid hyb
  clear hlie l1 l2 ea eb hya hyb
  go_wp2
  refine wp_region_quiet_tail 5 (by kernel_rfl) (by kernel_rfl) ?_
  simp only [List.take_succ_cons, List.take_zero, List.drop_succ_cons, List.drop_zero]
  repeat (quiet_step ((go_at_call 86; first | with_reducible exact K1.out _ | with_reducible exact K2.out _)))
  refine wpQuiet_nil ?_
  rintro _ ⟨nq, rfl⟩
  have HR3 : Hid ((w2.drewN nq).heap[w.heap.size]? = some (.cells (pV 0) PTg (0, 0))) := hid HR2.out
  have HB3 : Hid (Below w.heap.size w (w2.drewN nq)) := hid (below_drQ HB2.out nq)
  generalize w2.drewN nq = w3 at *
  have hpv : pV (pol (bf xs)) = p2 ya yb := by rw [pV, HYA.out, HYB.out]
  have hI := infoP
  have hsz : (pV 0).size = (p2 ya yb).size := rfl
  have hone : (p2 ya yb).all (·.oneCell') = true := by simp [Value.oneCell']
  refine wpList_store_row rfl PTg (.tmp 2) _ rfl w.heap.size (p2 ya yb) rfl rfl PTg (pV 0) HR3.out hI hsz hone ?_
  clear hI hsz hone
  go_wp2
  refine bodyPost_ret (v := .agg (p2 ya yb)) (results_cell_row rfl _ _ w.heap.size PTg (p2 ya yb) (0, 0) _ rfl (setRow_heap _ _ _ _ _ _ HR3.out) Tryz.underlying72 rfl infoP) rfl ⟨by rw [hpv], ?_⟩
  exact belowRow HB3.out (Nat.le_refl _) _
end Go.Proofs.YtpkmidaflnbobaaGreatDoor
end
section
namespace Go.Proofs.YtpkmidaflnbobaaGreatDoor
open Go Go.RowKit
set_option linter.unusedVariables false
set_option linter.unusedSimpArgs false
set_option maxHeartbeats 1000000 in
theorem growB_e (n : Nat) (w : World) (h0 : 0 < n) (hn : n ≤ 1000) : Calls Tryz.prog 69 #[.slice none 0 0, .int .i64 (n : Int)] w fun e w' => ∃ v, e = .returned v ∧ OwnB w' w.heap.size v [] ∧ Below w.heap.size w w' := by
  obtain ⟨i, hi, hz, hsize, hby⟩ := info_parts infoU8
  have hrz : ∀ ty, (Builtin.append_ #[22, 3] ty #[.slice none 0 0, .int .i64 (n : Int)]).run Tryz.prog w =
      .ok (.slice (some ⟨w.heap.size, 0, none⟩) n (grownCap w n 0 5)) (w.drew.alloc (.cells (Builtin.zeroCells (Value.int .u8 0).cells n ++ Builtin.zeroCells (Value.int .u8 0).cells (grownCap w n 0 5 - n)) 5)) := fun ty =>
    Lib.run_append_nil_zeros w 22 3 ty 5 i _ .i64 .i64 Tryz.underlying22 Tryz.underlying3 hi hz n h0 (by omega) (by omega) (by rw [hby]; omega)
  have hGn : n ≤ grownCap w n 0 5 := grownCap_ge w _ _ _
  have hGm : grownCap w n 0 5 ≤ maxLen := grownCap_le_maxLen w n 0 5 (by unfold maxLen; omega)
  obtain ⟨G, hG⟩ : ∃ G, G = grownCap w n 0 5 := ⟨_, rfl⟩
  rw [← hG] at hrz hGn hGm
  have hG63 : G ≤ 9223372036854775807 := by unfold maxLen at hGm; omega
  have h1 : ¬ ((n : Int) < 0) := by omega
  have h2 : wrap64 ((n : Int) - 0) = (n : Int) := by unfold wrap64; omega
  have h3 : (n : Int) > 0 := by omega
  have h4 : wrap64 (n : Int) = (n : Int) := by unfold wrap64; omega
  have HG := hid hGm
  clear hi hz hsize hby hG hGm
  go_enter Tryz.func69, Tryz.ntmps69
  go_wp2_with (at_builtin; refine Lib.wpList_append_run _ rfl _ _ _ _ rfl _ _ rfl rfl _ _ (hrz _) ?_)
  go_ret
  refine ⟨_, rfl, ⟨rfl, .inr ⟨w.heap.size, G, _, rfl, Nat.le_refl _, heap_alloc_new _ _, Nat.zero_le _, HG.out, ?_, rfl⟩⟩, (Below.refl _ _).drew.alloc (Nat.le_refl _) _⟩
  rw [Array.size_append, size_zeroCells, size_zeroCells]
  show n * 1 + (G - n) * 1 = G * 1
  omega
theorem wrap64_atB {x : Int} (h : 0 ≤ x) (h2 : x ≤ 1000000) : wrap64 x = x := by unfold wrap64; omega
theorem wrap64_sumB {n m q : Nat} (h : q = n + m) (hq : q ≤ 1000) : wrap64 ((n : Int) + (m : Int)) = (q : Int) := by rw [wrap64_atB (by omega) (by omega)]; omega
theorem flat_takeB {α : Type} (gs : List (List α)) (k : Nat) (h : k < gs.length) : (gs.take (k + 1)).flatten = (gs.take k).flatten ++ gs[k] := by
  rw [List.take_succ_eq_append_getElem h, List.flatten_append]; simp
theorem flat_leB {α : Type} (gs : List (List α)) (k : Nat) : (gs.take k).flatten.length ≤ gs.flatten.length := by
  have h : gs.flatten = (gs.take k).flatten ++ (gs.drop k).flatten := by rw [← List.flatten_append, List.take_append_drop]
  rw [h, List.length_append]; omega
set_option maxRecDepth 100000 in
set_option maxHeartbeats 1000000 in
theorem concatB_e (A : Option Addr) (gs : List (List UInt8)) (g c : Nat) (w : World) (hA : Rows2 w w.heap.size A gs) (hl : gs.flatten.length ≤ 1000) (h0 : 0 < gs.flatten.length) (hg : gs.length = g) (hg2 : g ≤ 1000) :
    Calls Tryz.prog 48 #[.slice A g c] w fun e w' => ∃ v, e = .returned v ∧ OwnB w' w.heap.size v gs.flatten ∧ Below w.heap.size w w' := by
  subst hg
  have HA := hid hA; have HL := hid hl; have H0 := hid h0
  clear hA hl h0
  go_enter Tryz.func48, Tryz.ntmps48
  go_wp2
  go_loopg [3, 11] gs.length (fun r s i wr => ∃ k : Nat, k + r = gs.length ∧ i = .int .i64 (k : Int) ∧ s = .int .i64 ((gs.take k).flatten.length : Int) ∧ w = wr)
  case atStart => exact ⟨0, by omega, rfl, by simp, rfl⟩
  case round =>
    obtain ⟨k, hk, rfl, rfl, rfl⟩ := hrel
    have HK := hid hk
    clear hk
    by_cases hlt : k < gs.length
    · obtain ⟨b, o, A1, c1, rfl, hb1, hc, hS⟩ := HA.out.at_ hlt
      have hx : (k : Int) < (gs.length : Int) := by omega
      have hk0 : (0 : Int) ≤ (k : Int) := by omega
      obtain ⟨m, hm⟩ : ∃ m, m = gs[k].length := ⟨_, rfl⟩
      obtain ⟨n, hn⟩ : ∃ n, n = (gs.take k).flatten.length := ⟨_, rfl⟩
      obtain ⟨q, hq⟩ : ∃ q, q = (gs.take (k + 1)).flatten.length := ⟨_, rfl⟩
      have hs : q = n + m := by rw [hq, flat_takeB gs k hlt, List.length_append, hn, hm]
      have hql : q ≤ 1000 := by have := flat_leB gs (k + 1); have := HL.out; omega
      have hwr : wrap64 ((n : Int) + (m : Int)) = (q : Int) := wrap64_sumB hs hql
      have hq0 : ¬ ((q : Int) < 0) := Int.not_lt.2 (Int.natCast_nonneg q)
      rw [← hm] at hc
      rw [← hn]
      have HQ := hid hq
      clear hs hm hn hq hql hS
      go_wp2
      have hk := HK.out
      go_roundg (gs.length - k - 1)
      case measure => omega
      case rel => exact ⟨k + 1, by omega, by go_num, by rw [HQ.out], rfl⟩
    · obtain rfl : k = gs.length := by have := HK.out; omega
      rw [List.take_length]
      obtain ⟨n, hn⟩ : ∃ n, n = gs.flatten.length := ⟨_, rfl⟩
      have HC := hid (growB_e n w (by rw [hn]; exact H0.out) (by rw [hn]; exact HL.out))
      rw [← hn]
      have HN := hid hn
      clear hn
      go_wp2_with fail
      refine HC.out.mono ?_
      rintro e w2 ⟨v, rfl, ho, hb⟩
      have HO : Hid (OwnB w2 w.heap.size v []) := hid ho
      have HB := hid hb
      clear ho hb HC
      go_wp2
      go_loopg [6, 27] gs.length (fun r u i wr => ∃ k : Nat, k + r = gs.length ∧ i = .int .i64 (k : Int) ∧ OwnB wr w.heap.size u (gs.take k).flatten ∧ Below w.heap.size w wr)
      case atStart => exact ⟨0, by omega, rfl, HO.out, HB.out⟩
      case round =>
        clear HO HB
        obtain ⟨k, hk, rfl, hR, hB⟩ := hrel
        have HK2 := hid hk
        by_cases hlt : k < gs.length
        · obtain ⟨b, o, A1, c1, rfl, hb1, hc, hS⟩ := HA.out.at_ hlt
          have hc' : wr.cell? ⟨b, o + k, none⟩ = some (.slice A1 gs[k].length c1) := by rw [← hc]; exact hB.cell (p := ⟨b, o + k, none⟩) hb1
          have hx : (k : Int) < (gs.length : Int) := by omega
          have hk0 : (0 : Int) ≤ (k : Int) := by omega
          have hft := flat_takeB gs k hlt
          have hle := flat_leB gs (k + 1)
          rw [hft, List.length_append] at hle
          obtain ⟨x, hxd⟩ : ∃ x, x = gs[k] := ⟨_, rfl⟩
          rw [← hxd] at hc' hS hft hle
          have HFT := hid hft; have HB := hid hB
          have hsum : (gs.take k).flatten.length + x.length ≤ 1000 := by have := HL.out; omega
          have hlie := hid (hS.below hB)
          have HO := hid hR
          have hsz := hB.size
          obtain ⟨ys, hys⟩ : ∃ ys, ys = (gs.take k).flatten := ⟨_, rfl⟩
          rw [← hys] at HO hsum HFT
          obtain ⟨m, hm⟩ : ∃ m, m = x.length := ⟨_, rfl⟩
          rw [← hm] at hc' hsum
          have HM := hid hm
          clear hc hk hft hxd hle hB hR hys hm hS
          go_wp2_with (at_builtin; refine wpList_append_lie rfl _ _ 22 rfl w.heap.size 5 (.int .u8 0) 1 Tryz.underlying22 infoU8 rfl rfl HO.out (by rw [bvs_length]; exact HM.out.symm) rfl hlie.out (bvs_one x) ?d1 ?d2 hsz ?_)
          case d1 => unfold maxLen; omega
          case d2 => omega
          intro v4 w4 hown4 hg4 hat4
          have hB4 := hid (HB.out.grown hg4 hsz (own_lt HO.out))
          have hR4 : Hid (OwnB w4 w.heap.size v4 (gs.take (k + 1)).flatten) := hid (by
            rw [HFT.out]
            unfold OwnB
            rw [List.length_append, bvs_append, ← HM.out]
            exact hown4)
          clear hown4 hg4 hat4
          go_wp2
          have hk := HK2.out
          go_roundg (gs.length - k - 1)
          case measure => omega
          case rel => exact ⟨k + 1, by omega, by go_num, hR4.out, hB4.out⟩
        · obtain rfl : k = gs.length := by have := HK2.out; omega
          rw [List.take_length] at hR
          obtain ⟨A, c, rfl, hr⟩ := own_sl hR
          have HR := hid hR; have HB := hid hB
          clear hr hB hR
          go_wp2
          go_ret
          exact ⟨_, rfl, HR.out, HB.out⟩
end Go.Proofs.YtpkmidaflnbobaaGreatDoor
end
section
namespace Go.Proofs.YtpkmidaflnbobaaGreatDoor
open Go Go.RowKit
set_option linter.unusedVariables false
set_option linter.unusedSimpArgs false
set_option maxHeartbeats 1000000 in
theorem mask_e (A A' : Option Addr) (key nonce : List UInt8) (m m' n c c' : Nat) (w : World) (hA : Sq w w.heap.size A c (bvs key)) (hA' : Sq w w.heap.size A' c' (bvs nonce)) (hkey : key.length = 16) (hnonce : nonce.length = 12) (hm : m = 16) (hm' : m' = 12) (hn : n < 65536) :
    Calls Tryz.prog 63 #[.slice A m c, .slice A' m' c', .int .u32 (n : Int)] w fun e w' => ∃ v, e = .returned v ∧ OwnB w' w.heap.size v (maskL key nonce n) ∧ Below w.heap.size w w' := by
  subst hm; subst hm'
  obtain ⟨h, hh⟩ : ∃ h, h = n / 256 := ⟨_, rfl⟩
  obtain ⟨l, hl⟩ : ∃ l, l = n % 256 := ⟨_, rfl⟩
  have d1 : (n : Int) / 16777216 = 0 := by omega
  have d2 : (n : Int) / 65536 = 0 := by omega
  have d3 : (n : Int) / 256 = (h : Int) := by omega
  have d4 : IntKind.u8.wrap (h : Int) = (h : Int) := by rw [IntKind.wrap_u8]; omega
  have d5 : IntKind.u8.wrap (n : Int) = (l : Int) := by rw [IntKind.wrap_u8]; omega
  have HV : Hid ([Value.int .u8 0, .int .u8 0, .int .u8 (h : Int), .int .u8 (l : Int)] = bvs [0, 0, UInt8.ofNat (n / 256), UInt8.ofNat (n % 256)]) := hid (by
    unfold bvs
    simp only [List.map_cons, List.map_nil]
    rw [ofNat_b (by omega), ofNat_b (by omega), hh, hl]; rfl)
  obtain ⟨w2, hw2⟩ : ∃ w2, (w.alloc (.cells #[.int .u8 0, .int .u8 0, .int .u8 (h : Int), .int .u8 (l : Int)] 5)).alloc (.cells #[.slice A' (12 : Nat) c', .slice (some ⟨w.heap.size, 0, none⟩) (4 : Nat) (4 : Nat)] 22) = w2 := ⟨_, rfl⟩
  have hb2 : Below w.heap.size w w2 := by rw [← hw2]; exact ((Below.refl _ w).alloc (Nat.le_refl _) _).alloc (by simp) _
  have hs2 : w2.heap.size = w.heap.size + 1 + 1 := by rw [← hw2]; simp
  have g0 : w2.heap[w.heap.size]? = some (.cells #[.int .u8 0, .int .u8 0, .int .u8 (h : Int), .int .u8 (l : Int)] 5 (0, 0)) := by rw [← hw2]; exact blkA (blkN rfl _ _) _
  have g1 : w2.heap[w.heap.size + 1]? = some (.cells #[.slice A' (12 : Nat) c', .slice (some ⟨w.heap.size, 0, none⟩) (4 : Nat) (4 : Nat)] 22 (0, 0)) := by rw [← hw2]; exact blkN (by simp) _ _
  have hr : Rows2 w2 w2.heap.size (some ⟨w.heap.size + 1, 0, none⟩) [nonce, [0, 0, UInt8.ofNat (n / 256), UInt8.ofNat (n % 256)]] := by
    refine ⟨[.slice A' (12 : Nat) c', .slice (some ⟨w.heap.size, 0, none⟩) (4 : Nat) (4 : Nat)], rfl, fun _ => ⟨_, 0, rfl, by omega, fun j v hv => by rw [Nat.zero_add]; exact cell_of g1 j v (by simpa using hv)⟩, fun j x hx => ?_⟩
    match j, hx with
    | 0, hx => simp only [List.getElem?_cons_zero, Option.some.injEq] at hx; subst hx; exact ⟨A', c', by rw [hnonce]; rfl, (hA'.lie.below hb2).more hb2.size⟩
    | 1, hx =>
      simp only [List.getElem?_cons_succ, List.getElem?_cons_zero, Option.some.injEq] at hx; subst hx
      refine ⟨some ⟨w.heap.size, 0, none⟩, 4, rfl, ?_⟩
      rw [← HV.out]
      exact fun _ => ⟨_, 0, rfl, by omega, fun j v hv => by rw [Nat.zero_add]; exact cell_of g0 j v (by simpa using hv)⟩
    | j + 2, hx => simp at hx
  have KC : Hid (Calls Tryz.prog 48 #[.slice (some ⟨w.heap.size + 1, 0, none⟩) (2 : Nat) (2 : Nat)] w2 fun e w' => ∃ v, e = .returned v ∧ OwnB w' w2.heap.size v (nonceL nonce n) ∧ Below w2.heap.size w2 w') := hid (by
    have h := concatB_e (some ⟨w.heap.size + 1, 0, none⟩) _ 2 2 w2 hr (by simp [hnonce]) (by simp) rfl (by omega)
    have e : [nonce, [0, 0, UInt8.ofNat (n / 256), UInt8.ofNat (n % 256)]].flatten = nonceL nonce n := by simp [nonceL]
    rwa [e] at h)
  have HA := hid hA; have HK := hid hkey; have HNL := hid hnonce; have HB2 := hid hb2
  clear hA hA' hkey hnonce hr hs2 g0 g1 hh hl hn
  go_enter Tryz.func63, Tryz.ntmps63
  go_wp2_with fail
  refine KC.out.mono ?_
  rintro e w3 ⟨v3, rfl, ho3, hb3⟩
  obtain ⟨A3, c3, rfl, hS3⟩ := own_n ho3 (n := 16) (by rw [nonceL_length, HNL.out])
  have hb3' : Below w.heap.size w w3 := HB2.out.trans (hb3.mono HB2.out.size)
  have HB3 := hid hb3'
  have KD : Hid (Calls Tryz.prog 57 #[.slice A (16 : Nat) c, .slice A3 (16 : Nat) c3] w3 fun e w' => ∃ v, e = .returned (.tuple #[v, .bool true]) ∧ OwnB w' w3.heap.size v (maskL key nonce n) ∧ Below w3.heap.size w3 w') := hid (by
    have h := Block_any A A3 key (nonceL nonce n) 16 16 c c3 w3 ((HA.out.below hb3').more hb3'.size) hS3.sq HK.out (by rw [nonceL_length, HNL.out])
    exact h)
  clear ho3 hb3 hb3' hS3 KC HV
  go_wp2_with fail
  refine KD.out.mono ?_
  rintro e w4 ⟨v4, rfl, ho4, hb4⟩
  have HO4 : Hid (OwnB w4 w.heap.size v4 (maskL key nonce n)) := hid (own_base ho4 HB3.out.size)
  have HB4 : Hid (Below w.heap.size w w4) := hid (HB3.out.trans (hb4.mono HB3.out.size))
  clear ho4 hb4
  go_wp2
  go_ret
  exact ⟨_, rfl, HO4.out, HB4.out⟩
theorem canBe_e (A A' : Option Addr) (m m' c c' : Nat) (w : World) (h1 : m ≤ 1000) (h2 : m' ≤ 1000) :
    Calls Tryz.prog 40 #[.slice A m c, .slice A' m' c'] w fun e w' => e = .returned (.bool (decide (m = 16 ∧ m' = 12))) ∧ w = w' := by
  by_cases e1 : m = 16
  · subst e1
    by_cases e2 : m' = 12
    · subst e2
      go_enter Tryz.func40, Tryz.ntmps40
      go_wp2
      go_ret
      exact ⟨rfl, rfl⟩
    · have f2 : ((m' : Int) == 12) = false := by simp; omega
      rw [show decide (16 = 16 ∧ m' = 12) = false by simp [e2]]
      go_enter Tryz.func40, Tryz.ntmps40
      go_wp2
      go_ret
      exact ⟨rfl, rfl⟩
  · have f1 : ((m : Int) == 16) = false := by simp; omega
    rw [show decide (m = 16 ∧ m' = 12) = false by simp [e1]]
    go_enter Tryz.func40, Tryz.ntmps40
    go_wp2
    go_ret
    exact ⟨rfl, rfl⟩
theorem bitsOf_e (A : Option Addr) (n k c : Nat) (w : World) (hn : n ≤ 1000) (hk : k = 8 * n) :
    Calls Tryz.prog 61 #[.slice A n c] w fun e w' => e = .returned (.int .u64 (k : Int)) ∧ w = w' := by
  have e1 : IntKind.u64.wrap (n : Int) = (n : Int) := by rw [IntKind.wrap_u64]; omega
  have e2 : IntKind.u64.wrap ((n : Int) * 8) = (k : Int) := by rw [IntKind.wrap_u64]; omega
  clear hk
  go_enter Tryz.func61, Tryz.ntmps61
  go_wp2
  go_ret
  exact ⟨rfl, rfl⟩
set_option maxHeartbeats 1000000 in
theorem same_e (A A' : Option Addr) (xs ys : List UInt8) (n n' c c' : Nat) (w : World) (hA : Lie w w.heap.size A (bvs xs)) (hA' : Lie w w.heap.size A' (bvs ys)) (hx : xs.length = 16) (hy : ys.length = 16) (hn : n = 16) (hn' : n' = 16) :
    Calls Tryz.prog 41 #[.slice A n c, .slice A' n' c'] w fun e w' => e = .returned (.bool (decide (xs = ys))) ∧ ∃ d, w' = w.drewN d := by
  subst hn; subst hn'
  obtain ⟨t, ht⟩ : ∃ t : Bool, t = decide (xs = ys) := ⟨_, rfl⟩
  rw [← ht]
  have HA := hid hA; have HA' := hid hA'; have HX := hid hx; have HY := hid hy; have HT := hid ht
  clear hA hA' hx hy ht
  go_enter Tryz.func41, Tryz.ntmps41
  go_wp2
  go_loopg [5, 9] 16 (fun r u i wr => ∃ k d : Nat, k + r = 16 ∧ i = .int .i64 (k : Int) ∧ u = .int .u8 (d : Int) ∧ d < 256 ∧ (d = 0 ↔ ∀ j, j < k → bf xs j = bf ys j) ∧ ∃ q, wr = w.drewN q)
  case atStart => exact ⟨0, 0, by omega, rfl, rfl, by omega, ⟨fun _ j hj => absurd hj (by omega), fun _ => rfl⟩, 0, rfl⟩
  case round =>
    obtain ⟨k, d, hk, rfl, rfl, hd, hdk, hq⟩ := hrel
    have HK := hid hk; have HD := hid hdk; have HQ := hid hq
    have hL1 : Lie wr w.heap.size A (bvs xs) := by obtain ⟨q, rfl⟩ := hq; exact HA.out.drewN q
    have hL2 : Lie wr w.heap.size A' (bvs ys) := by obtain ⟨q, rfl⟩ := hq; exact HA'.out.drewN q
    clear hk hdk hq
    by_cases hlt : k < 16
    · obtain ⟨b, o, rfl, hbb, hc1⟩ := hL1.byte (k := k) (by rw [HX.out]; exact hlt)
      obtain ⟨b', o', rfl, hbb', hc2⟩ := hL2.byte (k := k) (by rw [HY.out]; exact hlt)
      have hxi : (k : Int) < 16 := by omega
      have hk0 : (0 : Int) ≤ (k : Int) := by omega
      have hyb := bf_at xs k (by rw [HX.out]; omega)
      have hyb' := bf_at ys k (by rw [HY.out]; omega)
      obtain ⟨x, hx⟩ : ∃ x, x = bf xs k := ⟨_, rfl⟩
      obtain ⟨y, hy⟩ : ∃ y, y = bf ys k := ⟨_, rfl⟩
      rw [← hyb, ← hx] at hc1
      rw [← hyb', ← hy] at hc2
      have hxl : x < 256 := by rw [hx]; exact bf_lt _ _
      have hyl : y < 256 := by rw [hy]; exact bf_lt _ _
      obtain ⟨e, he⟩ : ∃ e, e = x ^^^ y := ⟨_, rfl⟩
      obtain ⟨d', hd'⟩ : ∃ d', d' = d ||| e := ⟨_, rfl⟩
      have q1 : bits .xor .u8 (x : Int) (y : Int) = (e : Int) := by rw [he]; exact u8_xor_nat x y hxl hyl
      have hel : e < 256 := by rw [he]; exact Nat.xor_lt_two_pow (n := 8) hxl hyl
      have q2 : bits .or .u8 (d : Int) (e : Int) = (d' : Int) := by rw [hd']; exact u8_or_nat d e hd hel
      have hdl' : d' < 256 := by rw [hd']; exact Nat.or_lt_two_pow (n := 8) hd hel
      have HD' : Hid (d' = 0 ↔ ∀ j, j < k + 1 → bf xs j = bf ys j) := hid (by
        rw [hd', Nat.or_eq_zero_iff, HD.out, he]
        constructor
        · rintro ⟨h1, h2⟩ j hj
          by_cases hjk : j = k
          · subst hjk; rw [← hx, ← hy]; exact xor_eq_zero_iff' h2
          · exact h1 j (by omega)
        · intro h
          refine ⟨fun j hj => h j (by omega), ?_⟩
          rw [hx, hy, h k (by omega), Nat.xor_self])
      have hwi : IntKind.i64.wrap ((k : Int) + 1) = ((k + 1 : Nat) : Int) := (IntWalk.i64_in _ (by omega)).trans (by omega)
      clear hyb hyb' hx hy he hd' hel hxl hyl hd hL1 hL2
      go_wp2
      go_quiet (fail)
      go_wp2
      have hk := HK.out
      go_roundg (16 - k - 1)
      case measure => omega
      case rel => exact ⟨k + 1, d', by omega, rfl, rfl, hdl', HD'.out, by obtain ⟨q, h⟩ := HQ.out; exact ⟨q + nq, by rw [h]; simp⟩⟩
    · obtain rfl : k = 16 := by have := HK.out; omega
      have hiff : xs = ys ↔ d = 0 := by
        rw [HD.out]
        exact ⟨fun h j _ => by rw [h], fun h => bf_ext HX.out HY.out h⟩
      by_cases h0 : d = 0
      · subst h0
        have HE : Hid (t = true) := hid (by rw [HT.out]; exact decide_eq_true (hiff.2 rfl))
        clear hiff
        go_wp2
        go_ret
        exact ⟨by rw [HE.out]; rfl, HQ.out⟩
      · have HE : Hid (t = false) := hid (by rw [HT.out]; exact decide_eq_false (fun h => h0 (hiff.1 h)))
        have h1 : ((d : Int) == 0) = false := by simp; omega
        clear hiff
        go_wp2
        go_ret
        exact ⟨by rw [HE.out]; rfl, HQ.out⟩
end Go.Proofs.YtpkmidaflnbobaaGreatDoor
end
section
namespace Go.Proofs.YtpkmidaflnbobaaGreatDoor
open Go.RowKit
set_option linter.unusedVariables false
set_option linter.unusedSimpArgs false
/-- k bytes of each half. -/
def cutM (S : Nat → Nat) (k i : Nat) : Nat := if i % 8 < k then S i else 0
theorem cutM_lt {S : Nat → Nat} (hS : ∀ i, S i < 256) (k i : Nat) : cutM S k i < 256 := by
  unfold cutM; split
  · exact hS i
  · omega
set_option maxHeartbeats 1000000 in
theorem bytes_e (p : Nat) (w : World) :
    Calls Tryz.prog 64 #[.agg (pV p)] w fun e w' => ∃ v, e = .returned v ∧ OwnB w' w.heap.size v (unL p) ∧ Below w.heap.size w w' := by
  obtain ⟨S, hSd⟩ : ∃ S, S = ub p 128 := ⟨_, rfl⟩
  have hu : unL p = blkL S := by rw [hSd]; rfl
  have HS : Hid (∀ i, S i < 256) := hid fun i => by rw [hSd]; exact ub_lt p 128 i
  obtain ⟨a, ha⟩ : ∃ a, a = wA p := ⟨_, rfl⟩
  obtain ⟨b, hb0⟩ : ∃ b, b = wB p := ⟨_, rfl⟩
  have HA : Hid (∀ i, i < 8 → a / 2 ^ (56 - 8 * i) % 256 = S i) := hid fun i hi => by rw [ha, hSd]; exact wA_byte p i hi
  have HBB : Hid (∀ i, i < 8 → b / 2 ^ (56 - 8 * i) % 256 = S (8 + i)) := hid fun i hi => by rw [hb0, hSd]; exact wB_byte p i hi
  have hpv : pV p = p2 a b := by rw [ha, hb0]; rfl
  rw [hpv, hu]
  clear hpv hu ha hb0 hSd
  have hmk := mk16
  go_enter Tryz.func64, Tryz.ntmps64
  go_wp2
  clear hmk
  have h0 : ((w.alloc (.cells (p2 a b) PTg)).alloc (.cells (bR fun _ => 0) 5)).heap[w.heap.size]? = some (.cells (p2 a b) PTg (0, 0)) := blkA (blkN rfl _ _) _
  have h1 : ((w.alloc (.cells (p2 a b) PTg)).alloc (.cells (bR fun _ => 0) 5)).heap[w.heap.size + 1]? = some (.cells (bR (cutM S 0)) 5 (0, 0)) := (blkN (by simp) _ _).trans (by
    have e : bR (fun _ => 0) = bR (cutM S 0) := bR_congr fun i _ => by simp [cutM]
    rw [e])
  have hb : Below w.heap.size w ((w.alloc (.cells (p2 a b) PTg)).alloc (.cells (bR fun _ => 0) 5)) :=
    ((Below.refl _ _).alloc (Nat.le_refl _) _).alloc (by simp) _
  have H0 := hid h0; have H1 := hid h1; have HB := hid hb
  clear h0 h1 hb
  generalize (w.alloc (.cells (p2 a b) PTg)).alloc (.cells (bR fun _ => 0) 5) = w0 at *
  go_loopg [7] 8 (fun g i wr => ∃ k : Nat, k + g = 8 ∧ i = .int .i64 (k : Int) ∧ wr.heap[w.heap.size]? = some (.cells (p2 a b) PTg (0, 0)) ∧ wr.heap[w.heap.size + 1]? = some (.cells (bR (cutM S k)) 5 (0, 0)) ∧ Below w.heap.size w wr)
  case atStart => exact ⟨0, by omega, rfl, H0.out, H1.out, HB.out⟩
  case round =>
    clear H0 H1 HB
    obtain ⟨k, hk, rfl, h0, h1, hb⟩ := hrel
    have HK := hid hk; have HB := hid hb; have H0 := hid h0; have H1 := hid h1
    have hkn : k ≤ 8 := by omega
    clear hk hb h0 h1
    by_cases hlt : k < 8
    · have hx : (k : Int) < 8 := by omega
      have hk0 : (0 : Int) ≤ (k : Int) := by omega
      obtain ⟨j, hj⟩ : ∃ j, j = k + 1 := ⟨_, rfl⟩
      obtain ⟨m, hm⟩ : ∃ m, m = 8 * j := ⟨_, rfl⟩
      obtain ⟨s, hs⟩ : ∃ s, s = 64 - m := ⟨_, rfl⟩
      obtain ⟨q, hq⟩ : ∃ q, q = k + 8 := ⟨_, rfl⟩
      have w1 : IntKind.i64.wrap ((k : Int) + 1) = (j : Int) := (IntWalk.i64_in _ (by omega)).trans (by omega)
      have w2 : IntKind.i64.wrap (8 * (j : Int)) = (m : Int) := (IntWalk.i64_in _ (by omega)).trans (by omega)
      have w3 : IntKind.i64.wrap (64 - (m : Int)) = (s : Int) := (IntWalk.i64_in _ (by omega)).trans (by omega)
      have w4 : IntKind.i64.wrap ((k : Int) + 8) = (q : Int) := (IntWalk.i64_in _ (by omega)).trans (by omega)
      have hs0 : (0 : Int) ≤ (s : Int) := by omega
      have hmin : min s 64 = s := by omega
      have hq0 : (0 : Int) ≤ (q : Int) := by omega
      have hq16 : (q : Int) < 16 := by omega
      have hk16 : (k : Int) < 16 := by omega
      have hA := HA.out k hlt
      have hB := HBB.out k hlt
      rw [show 56 - 8 * k = s by omega] at hA hB
      obtain ⟨y, hy⟩ : ∃ y, y = S k := ⟨_, rfl⟩
      obtain ⟨z, hz⟩ : ∃ z, z = S (8 + k) := ⟨_, rfl⟩
      have hyl : y < 256 := by rw [hy]; exact HS.out k
      have hzl : z < 256 := by rw [hz]; exact HS.out _
      rw [← hy] at hA
      rw [← hz] at hB
      obtain ⟨d, hd⟩ : ∃ d, d = a / 2 ^ s := ⟨_, rfl⟩
      obtain ⟨f, hf⟩ : ∃ f, f = b / 2 ^ s := ⟨_, rfl⟩
      rw [← hd] at hA
      rw [← hf] at hB
      have hdv : (a : Int) / 2 ^ s = (d : Int) := by rw [hd]; simp
      have hfv : (b : Int) / 2 ^ s = (f : Int) := by rw [hf]; simp
      have hdm : (d : Int) % 256 = (y : Int) := by omega
      have hfm : (f : Int) % 256 = (z : Int) := by omega
      have hdw : IntKind.u8.wrap (d : Int) = (y : Int) := by rw [IntKind.wrap_u8]; exact hdm
      have hfw : IntKind.u8.wrap (f : Int) = (z : Int) := by rw [IntKind.wrap_u8]; exact hfm
      have c0 : wr.cell? ⟨w.heap.size, 0, none⟩ = some (.int .u64 (a : Int)) := cell_of H0.out 0 _ rfl
      have c1 : wr.cell? ⟨w.heap.size, 1, none⟩ = some (.int .u64 (b : Int)) := cell_of H0.out 1 _ rfl
      have ck : wr.cell? ⟨w.heap.size + 1, k, none⟩ = some (.int .u8 ((cutM S k k : Nat) : Int)) := cell_of H1.out k _ (bR_get _ (cutM_lt HS.out k) k (by omega))
      have cq : wr.cell? ⟨w.heap.size + 1, q, none⟩ = some (.int .u8 ((cutM S k q : Nat) : Int)) := cell_of H1.out q _ (bR_get _ (cutM_lt HS.out k) q (by omega))
      have fk : wr.frozen? ⟨w.heap.size + 1, k, none⟩ = false := frozen_of_row _ _ _ _ _ H1.out
      have fq : wr.frozen? ⟨w.heap.size + 1, q, none⟩ = false := frozen_of_row _ _ _ _ _ H1.out
      have hne : k ≠ q := by omega
      have HW : Hid (((wr.setCell ⟨w.heap.size + 1, k, none⟩ (.int .u8 (y : Int))).setCell ⟨w.heap.size + 1, q, none⟩ (.int .u8 (z : Int))).heap[w.heap.size + 1]? = some (.cells (bR (cutM S (k + 1))) 5 (0, 0))) := hid ((block_set (block_set H1.out k _) q _).trans (by
        rw [bR_set _ _ _ hyl, bR_set _ _ _ hzl]
        have e : bR (fun i => if i = q then z else if i = k then y else cutM S k i) = bR (cutM S (k + 1)) := bR_congr fun i hi => by
          unfold cutM
          by_cases h : i = q
          · rw [if_pos h, if_pos (by omega), hz, h, hq, Nat.add_comm]
          · rw [if_neg h]
            by_cases h1 : i = k
            · rw [if_pos h1, if_pos (by omega), hy, h1]
            · rw [if_neg h1]
              by_cases h2 : i % 8 < k
              · rw [if_pos h2, if_pos (by omega)]
              · rw [if_neg h2, if_neg (by omega)]
        rw [e]))
      have HJ := hid hj
      clear hj hm hs hq hA hB hy hz hd hf hyl hzl
      go_wp2
      have hk := HK.out
      go_roundg (8 - k - 1)
      case measure => omega
      case rel => exact ⟨k + 1, by omega, by rw [HJ.out], (heap_setCell_other _ _ _ _ (by simp)).trans ((heap_setCell_other _ _ _ _ (by simp)).trans H0.out), HW.out, (HB.out.setCell (by simp) _).setCell (by simp) _⟩
    · have hk8 : k = 8 := by omega
      have H1' : Hid (wr.heap[w.heap.size + 1]? = some (.cells (bR S) 5 (0, 0))) := hid (H1.out.trans (by
        have e : bR (cutM S k) = bR S := bR_congr fun i hi => if_pos (by omega)
        rw [e]))
      have hxi : ¬ (k : Int) < 8 := by omega
      clear hk8 H1
      go_wp2
      go_ret
      refine ⟨_, rfl, ⟨by rw [bvs_length, blkL_length], .inr ⟨w.heap.size + 1, 16, bR S, ?_, by omega, H1'.out, by rw [blkL_length]; omega, by unfold maxLen; omega, ?_, ?_⟩⟩, HB.out⟩
      · rw [blkL_length]; rfl
      · simp [bR, blkL_length]
      · unfold bR; rw [List.take_of_length_le (by simp [blkL_length])]
end Go.Proofs.YtpkmidaflnbobaaGreatDoor
end
section
namespace Go.Proofs.YtpkmidaflnbobaaGreatDoor
open Go Go.RowKit
set_option linter.unusedVariables false
set_option linter.unusedSimpArgs false
theorem pV_all (p : Nat) : (pV p).extract 0 (0 + (pV p).size) = pV p := by simp
theorem zeroV : (Tryz.prog.info? PTg).map (fun i => (i.zero, i.size)) = some (some (.agg (pV 0)), 2) := by rw [pV_zero]; kernel_rfl
theorem St.cellG {w w1 : World} {L : List (Nat × Array Value × TypeId)} (h : St w w1 L []) (i j : Nat) (u : Value) {p : Nat} {old : Array Value} {t : TypeId} (hi : L[i]? = some (p, old, t)) : St w (w1.setCell ⟨p, j, none⟩ u) (L.set i (p, old.setIfInBounds j u, t)) [] := by
  have hr := h.put0 i hi (X := old.setIfInBounds j u)
  have hm : (p, old, t) ∈ L := List.mem_of_getElem? hi
  have hc : w1.heap[p]? = some (.cells old t (0, 0)) := by
    clear hr
    have h2 := h.cl
    clear h
    induction L generalizing i with
    | nil => cases hm
    | cons q L ih =>
      rcases List.mem_cons.1 hm with rfl | hm
      · exact h2.1
      · cases i with
        | zero => simp only [List.getElem?_cons_zero, Option.some.injEq] at hi; subst hi; exact h2.1
        | succ i => exact ih i (by simpa using hi) hm h2.2
  rw [setCell_eq_setRow w1 p j old t (0, 0) u hc]
  exact hr
set_option maxRecDepth 100000 in
set_option maxHeartbeats 4000000 in
theorem times_e (p q : Nat) (w : World) (hp : p < 2 ^ 128) (hq : q < 2 ^ 128) :
    Calls Tryz.prog 62 #[.agg (pV p), .agg (pV q)] w fun e w' => e = .returned (.agg (pV (gm p q))) ∧ Below w.heap.size w w' := by
  have HG : Hid (gmk q p 128 = gm p q) := hid (gm_comm hq hp)
  have HP : Hid (p < 2 ^ 128) := hid hp
  clear hp hq
  go_enter Tryz.func62, Tryz.ntmps62
  have S0 : Hid (St w w [] []) := hid (St.start w)
  go_upto_region 0 with fail
  refine wpLA_start ?_
  refine wpLA_box (pV p) (by rfl) rfl rfl ?_
  intro p1 w1 hp hz hb
  have S1 : Hid (St w w1 [(p1, pV p, PTg)] []) := hid (S0.out.alloc hb hp hz)
  clear hp hz hb S0
  (try simp only [Act.put, List.getElem_toArray, List.getElem_cons_succ, List.getElem_cons_zero, List.setIfInBounds_toArray, List.set_cons_zero, List.set_cons_succ])
  refine wpLA_box (pV q) (by rfl) rfl rfl ?_
  intro p2 w2 hp hz hb
  have S2 : Hid (St w w2 [(p2, pV q, PTg), (p1, pV p, PTg)] []) := hid (S1.out.alloc hb hp hz)
  clear hp hz hb S1
  (try simp only [Act.put, List.getElem_toArray, List.getElem_cons_succ, List.getElem_cons_zero, List.setIfInBounds_toArray, List.set_cons_zero, List.set_cons_succ])
  refine wpLA_alloc (by rfl) rfl zeroV ?_
  intro p3 w3 hp hz hb
  have S3 : Hid (St w w3 [(p3, pV 0, PTg), (p2, pV q, PTg), (p1, pV p, PTg)] []) := hid (S2.out.alloc hb hp hz)
  clear hp hz hb S2
  (try simp only [Act.put, List.getElem_toArray, List.getElem_cons_succ, List.getElem_cons_zero, List.setIfInBounds_toArray, List.set_cons_zero, List.set_cons_succ])
  refine wpLA_end ?_
  intro w4 hb
  have S4 := hid (S3.out.on hb)
  clear hb S3
  go_wp2_with fail
  refine wp_scope_at' 0 (fun a' w' => ∃ (k m b2 b3 b4 b5 : Nat) (u7 u8 u9 u10 u11 u12 u13 u14 u15 u16 u17 u18 u19 u20 u21 u22 u23 u24 u25 u26 u27 u28 u29 u30 u31 u32 : Value), a' = { tmps := (.agg (pV p) :: .agg (pV q) :: .pointer (some ⟨b2, 0, none⟩) :: .pointer (some ⟨b3, 0, none⟩) :: .pointer (some ⟨b4, 0, none⟩) :: .pointer (some ⟨b5, 0, none⟩) :: .int .i64 ((m : Nat) : Int) :: u7 :: u8 :: u9 :: u10 :: u11 :: u12 :: u13 :: u14 :: u15 :: u16 :: u17 :: u18 :: u19 :: u20 :: u21 :: u22 :: u23 :: u24 :: u25 :: u26 :: u27 :: u28 :: u29 :: u30 :: u31 :: u32 :: []).toArray, defers := [] } ∧ k + m = 128 ∧ 0 < m ∧ St w w' [(b5, pV (gmk q p k), PTg), (b4, pV 0, PTg), (b3, pV (xk q k), PTg), (b2, pV (p >>> k), PTg)] []) (fun a' _ => (intOf (a'.tmps.getD 6 undef)).toNat) rfl ?_ ?_
  · intro Qj hQr hQp hJ
    go_upto_region 1 with fail
    refine wpLA_start ?_
    refine wpLA_alloc (by rfl) rfl zeroV ?_
    intro p5 w5 hp hz hb
    have S5 : Hid (St w w5 [(p5, pV 0, PTg), (p3, pV 0, PTg), (p2, pV q, PTg), (p1, pV p, PTg)] []) := hid (S4.out.alloc hb hp hz)
    clear hp hz hb S4
    (try simp only [Act.put, List.getElem_toArray, List.getElem_cons_succ, List.getElem_cons_zero, List.setIfInBounds_toArray, List.set_cons_zero, List.set_cons_succ])
    refine wpLA_end ?_
    intro w6 hb
    have S6 := hid (S5.out.on hb)
    clear hb S5
    go_upto_region 2 with fail
    refine wpLA_start ?_
    refine wpLA_take (.int .i64 128) (yG_val _ (by rfl) (fun w' _ => by (go_simp; try rfl))) ?_
    (try simp only [Act.put, List.getElem_toArray, List.getElem_cons_succ, List.getElem_cons_zero, List.setIfInBounds_toArray, List.set_cons_zero, List.set_cons_succ])
    refine wpLA_end ?_
    intro w7 hb
    have S7 := hid (S6.out.on hb)
    clear hb S6
    go_wp2_with fail
    refine wp_label ?_
    rename_i K hK
    refine hK _ _ (hJ _ _ ⟨0, 128, p1, p2, p3, p5, _, _, _, _, _, _, _, _, _, _, _, _, _, _, _, _, _, _, _, _, _, _, _, _, _, _, rfl, rfl, by omega, S7.out⟩)
  · rintro a' w' ⟨k, m, b2, b3, b4, b5, u7, u8, u9, u10, u11, u12, u13, u14, u15, u16, u17, u18, u19, u20, u21, u22, u23, u24, u25, u26, u27, u28, u29, u30, u31, u32, rfl, hk, hm, hS⟩
    have HS := hid hS
    clear hS
    obtain ⟨G, hG⟩ : ∃ G, G = gmk q p k := ⟨_, rfl⟩
    obtain ⟨X, hX⟩ : ∃ X, X = xk q k := ⟨_, rfl⟩
    obtain ⟨P, hP⟩ : ∃ P, P = p >>> k := ⟨_, rfl⟩
    rw [← hG, ← hX, ← hP] at HS
    obtain ⟨a, ha⟩ : ∃ a, a = wA P := ⟨_, rfl⟩
    obtain ⟨b, hb0⟩ : ∃ b, b = wB P := ⟨_, rfl⟩
    obtain ⟨t, htd⟩ : ∃ t, t = pf P 0 := ⟨_, rfl⟩
    have ht1 : t ≤ 1 := by rw [htd]; exact pf_le _ _
    have ht : Hid ((a : Int) / 9223372036854775808 = (t : Int)) := hid (by have h := wA_top P; rw [← ha, ← htd] at h; omega)
    have C0 : Hid ((pV P)[0]? = some (.int .u64 (a : Int))) := hid (by rw [ha]; rfl)
    have C1 : Hid ((pV P)[1]? = some (.int .u64 (b : Int))) := hid (by rw [hb0]; rfl)
    have KO : Hid (∀ W, _) := hid fun W => only_e X t W ht1
    have KP : Hid (∀ W, _) := hid fun W => plus_e G (t * X) W
    have KN : Hid (∀ W, _) := hid fun W => next_e X W
    obtain ⟨n, hn⟩ : ∃ n, n = m - 1 := ⟨_, rfl⟩
    have HN : Hid (IntKind.i64.wrap ((m : Int) - 1) = (n : Int)) := hid ((IntWalk.i64_in _ (by omega)).trans (by omega))
    have HKN : Hid (k + 1 + n = 128 ∧ n + 1 = m) := hid (by omega)
    have hPl : P < 2 ^ 128 := by rw [hP, Nat.shiftRight_eq_div_pow]; exact Nat.lt_of_le_of_lt (Nat.div_le_self _ _) HP.out
    have hP1 : p >>> (k + 1) = P >>> 1 := by rw [hP, Nat.shiftRight_add]
    have hG1 : gmk q p (k + 1) = G ^^^ t * X := by
      show gmk q p k ^^^ (if p.testBit k then xk q k else 0) = _
      rw [← hG, ← hX, htd, hP]
      unfold pf
      rw [Nat.testBit_shiftRight, Nat.add_zero]
      cases p.testBit k <;> simp
    have HNext : Hid (gmk q p (k + 1) = G ^^^ t * X ∧ xk q (k + 1) = mulx X ∧ p >>> (k + 1) = P >>> 1) := hid ⟨hG1, by rw [hX]; rfl, hP1⟩
    have HLast : Hid (n = 0 → G ^^^ t * X = gm p q) := hid fun h => by rw [← hG1, show k + 1 = 128 by omega]; exact HG.out
    obtain ⟨c, hc⟩ : ∃ c, c = b / 9223372036854775808 := ⟨_, rfl⟩
    obtain ⟨x1, hx1⟩ : ∃ x1, x1 = (a * 2) % 18446744073709551616 := ⟨_, rfl⟩
    obtain ⟨x, hx⟩ : ∃ x, x = x1 ||| c := ⟨_, rfl⟩
    obtain ⟨y, hy⟩ : ∃ y, y = (b * 2) % 18446744073709551616 := ⟨_, rfl⟩
    have hal : a < 18446744073709551616 := by rw [ha]; exact wA_lt _
    have hbl : b < 18446744073709551616 := by rw [hb0]; exact wB_lt _
    have hxw : wA (P >>> 1) = x := by rw [wA_down, ← ha, ← hb0, hx, hx1, hc]
    have hyw : wB (P >>> 1) = y := by rw [wB_down _ hPl, ← hb0, hy]
    have q1 : (a : Int) * 2 % 18446744073709551616 = (x1 : Int) := by omega
    have q2 : (b : Int) / 9223372036854775808 = (c : Int) := by omega
    have q4 : (b : Int) * 2 % 18446744073709551616 = (y : Int) := by omega
    have q3 : bits .or .u64 (x1 : Int) (c : Int) = (x : Int) := by rw [hx]; exact u64_or_nat _ _ (by omega) (by omega)
    have HE : Hid (IntKind.u64.wrap ((a : Int) * 2) = (x1 : Int) ∧ (a : Int) * 2 % 18446744073709551616 = (x1 : Int) ∧ (b : Int) / 9223372036854775808 = (c : Int) ∧ bits .or .u64 (x1 : Int) (c : Int) = (x : Int) ∧ IntKind.u64.wrap ((b : Int) * 2) = (y : Int) ∧ (b : Int) * 2 % 18446744073709551616 = (y : Int)) :=
      hid ⟨by rw [IntKind.wrap_u64]; exact q1, q1, q2, q3, by rw [IntKind.wrap_u64]; exact q4, q4⟩
    have HV : Hid (((pV P).setIfInBounds 0 (.int .u64 (x : Int))).setIfInBounds 1 (.int .u64 (y : Int)) = pV (P >>> 1)) := hid (by
      unfold pV; rw [hxw, hyw]; rfl)
    clear hn hPl hP1 hG1 hc hx1 hx hy hal hbl hxw hyw q1 q2 q3 q4
    have HGX := hid hG; have HXX := hid hX; have HPX := hid hP; have HAX := hid ha; have HBX := hid hb0; have HTX := hid htd; have HK := hid hk; have HM := hid hm
    clear hG hX hP ha hb0 htd ht1 hk hm
    go_upto_region 3 with fail
    refine wp_region_grA 7 (by kernel_rfl) (by decide) ?_
    refine wpGrA_take (i := 0) (.agg (pV G)) rfl (by kernel_rfl) (by kernel_rfl) (fun _ _ _ h => h) (yG_part (by rfl) PTg (.tmp 5) rfl b5 0 rfl PTg (pV G) (pV G) (0, 0) _ HS.out.cl.1 (pV_all _) Tryz.underlying72 rfl (infoV _)) ?_
    (try simp only [Act.put, List.getElem_toArray, List.getElem_cons_succ, List.getElem_cons_zero, List.setIfInBounds_toArray, List.set_cons_zero, List.set_cons_succ])
    refine wpGrA_take (i := 1) (.agg (pV X)) rfl (by kernel_rfl) (by kernel_rfl) (fun _ _ _ h => h) (yG_part (by rfl) PTg (.tmp 3) rfl b3 0 rfl PTg (pV X) (pV X) (0, 0) _ HS.out.cl.2.2.1 (pV_all _) Tryz.underlying72 rfl (infoV _)) ?_
    (try simp only [Act.put, List.getElem_toArray, List.getElem_cons_succ, List.getElem_cons_zero, List.setIfInBounds_toArray, List.set_cons_zero, List.set_cons_succ])
    refine wpGrA_take (i := 2) (.pointer (some ⟨b2, 0, none⟩)) rfl (by kernel_rfl) (by kernel_rfl) (fun _ _ _ h => h) (yG_val _ (by rfl) (fun w' _ => by (go_simp; try rfl))) ?_
    (try simp only [Act.put, List.getElem_toArray, List.getElem_cons_succ, List.getElem_cons_zero, List.setIfInBounds_toArray, List.set_cons_zero, List.set_cons_succ])
    have c3 : Hid (∀ v', Below w'.heap.size w' v' → v'.cell? ⟨b2, 0, none⟩ = some (.int .u64 (a : Int))) := hid fun v' hb => cell_of (HS.out.on hb).cl.2.2.2.1 0 _ C0.out
    refine wpGrA_take (i := 3) (.int .u64 ((a : Int))) rfl (by kernel_rfl) (by kernel_rfl) (fun _ _ _ h => h) (yG_val _ (by rfl) (fun w' hb => by (have h := c3.out w' hb; go_simp; try rfl))) ?_
    (try simp only [Act.put, List.getElem_toArray, List.getElem_cons_succ, List.getElem_cons_zero, List.setIfInBounds_toArray, List.set_cons_zero, List.set_cons_succ])
    refine wpGrA_take (i := 4) (.int .u64 ((t : Int))) rfl (by kernel_rfl) (by kernel_rfl) (fun _ _ _ h => h) (yG_val _ (by rfl) (fun w' _ => by (have h := ht.out; go_simp; try rfl))) ?_
    (try simp only [Act.put, List.getElem_toArray, List.getElem_cons_succ, List.getElem_cons_zero, List.setIfInBounds_toArray, List.set_cons_zero, List.set_cons_succ])
    refine wpGrA_take (i := 5) (.agg (pV (t * X))) rfl (by kernel_rfl) (by kernel_rfl) (fun _ _ _ h => h) (yG_call (by rfl) (fun w' => by go_simp) (fun w' hb => KO.out w')) ?_
    (try simp only [Act.put, List.getElem_toArray, List.getElem_cons_succ, List.getElem_cons_zero, List.setIfInBounds_toArray, List.set_cons_zero, List.set_cons_succ])
    refine wpGrA_take (i := 6) (.agg (pV (G ^^^ t * X))) rfl (by kernel_rfl) (by kernel_rfl) (fun _ _ _ h => h) (yG_call (by rfl) (fun w' => by go_simp) (fun w' hb => KP.out w')) ?_
    (try simp only [Act.put, List.getElem_toArray, List.getElem_cons_succ, List.getElem_cons_zero, List.setIfInBounds_toArray, List.set_cons_zero, List.set_cons_succ])
    refine wpGrA_end (by kernel_rfl) ?_
    intro w101 hb
    have S101 := hid (HS.out.on hb)
    clear hb HS
    refine wpLA_here ?_
    refine wpLA_store rfl PTg (.tmp 5) (.tmp 13) rfl b5 (pV (G ^^^ t * X)) rfl rfl PTg (pV G) S101.out.cl.1 (infoV _) rfl (pV_one _) ?_
    intro wx hb
    have S102 : Hid (St w (wx.setRow b5 (pV (G ^^^ t * X))) [(b5, pV (G ^^^ t * X), PTg), (b4, pV 0, PTg), (b3, pV X, PTg), (b2, pV P, PTg)] []) := hid ((S101.out.on hb).put0 0 rfl)
    clear hb S101
    generalize wx.setRow b5 (pV (G ^^^ t * X)) = w102 at S102 ⊢
    (try simp only [Act.put, List.getElem_toArray, List.getElem_cons_succ, List.getElem_cons_zero, List.setIfInBounds_toArray, List.set_cons_zero, List.set_cons_succ])
    refine wpLA_end ?_
    intro w103 hb
    have S103 := hid (S102.out.on hb)
    clear hb S102
    have hb2 : w103.heap[b2]? = some (.cells (pV P) PTg (0, 0)) := S103.out.cl.2.2.2.1
    have k0 := cell_of hb2 0 _ C0.out
    have k1 := cell_of hb2 1 _ C1.out
    have f0 : w103.frozen? ⟨b2, 0, none⟩ = false := frozen_of_row _ _ _ _ _ hb2
    have f1 : w103.frozen? ⟨b2, 1, none⟩ = false := frozen_of_row _ _ _ _ _ hb2
    obtain ⟨e1, e1m, e2, e3, e4, e4m⟩ := HE.out
    clear hb2
    go_upto_region 5 with fail
    have S104 : Hid (St w ((w103.setCell ⟨b2, 0, none⟩ (.int .u64 (x : Int))).setCell ⟨b2, 1, none⟩ (.int .u64 (y : Int))) [(b5, pV (G ^^^ t * X), PTg), (b4, pV 0, PTg), (b3, pV X, PTg), (b2, pV (P >>> 1), PTg)] []) := hid (by
      have h : St w ((w103.setCell ⟨b2, 0, none⟩ (.int .u64 (x : Int))).setCell ⟨b2, 1, none⟩ (.int .u64 (y : Int))) [(b5, pV (G ^^^ t * X), PTg), (b4, pV 0, PTg), (b3, pV X, PTg), (b2, ((pV P).setIfInBounds 0 (.int .u64 (x : Int))).setIfInBounds 1 (.int .u64 (y : Int)), PTg)] [] := (S103.out.cellG 3 0 _ rfl).cellG 3 1 _ rfl
      rwa [HV.out] at h)
    generalize (w103.setCell ⟨b2, 0, none⟩ (.int .u64 (x : Int))).setCell ⟨b2, 1, none⟩ (.int .u64 (y : Int)) = w104 at S104 ⊢
    clear k0 k1 f0 f1 e1 e1m e2 e3 e4 e4m S103
    refine wpLA_start ?_
    refine wpLA_take (.agg (pV X)) (yG_part (by rfl) PTg (.tmp 3) rfl b3 0 rfl PTg (pV X) (pV X) (0, 0) _ S104.out.cl.2.2.1 (pV_all _) Tryz.underlying72 rfl (infoV _)) ?_
    (try simp only [Act.put, List.getElem_toArray, List.getElem_cons_succ, List.getElem_cons_zero, List.setIfInBounds_toArray, List.set_cons_zero, List.set_cons_succ])
    refine wpLA_take (.agg (pV (mulx X))) (yG_call (by rfl) (fun w' => by go_simp) (fun w' hb => KN.out w')) ?_
    (try simp only [Act.put, List.getElem_toArray, List.getElem_cons_succ, List.getElem_cons_zero, List.setIfInBounds_toArray, List.set_cons_zero, List.set_cons_succ])
    refine wpLA_store rfl PTg (.tmp 3) (.tmp 27) rfl b3 (pV (mulx X)) rfl rfl PTg (pV X) S104.out.cl.2.2.1 (infoV _) rfl (pV_one _) ?_
    intro wx hb
    have S105 : Hid (St w (wx.setRow b3 (pV (mulx X))) [(b5, pV (G ^^^ t * X), PTg), (b4, pV 0, PTg), (b3, pV (mulx X), PTg), (b2, pV (P >>> 1), PTg)] []) := hid ((S104.out.on hb).put0 2 rfl)
    clear hb S104
    generalize wx.setRow b3 (pV (mulx X)) = w105 at S105 ⊢
    (try simp only [Act.put, List.getElem_toArray, List.getElem_cons_succ, List.getElem_cons_zero, List.setIfInBounds_toArray, List.set_cons_zero, List.set_cons_succ])
    refine wpLA_end ?_
    intro w106 hb
    have S106 := hid (S105.out.on hb)
    clear hb S105
    go_upto_region 6 with fail
    refine wpLA_start ?_
    refine wpLA_take (.int .i64 ((m : Int))) (yG_val _ (by rfl) (fun w' _ => by (go_simp; try rfl))) ?_
    (try simp only [Act.put, List.getElem_toArray, List.getElem_cons_succ, List.getElem_cons_zero, List.setIfInBounds_toArray, List.set_cons_zero, List.set_cons_succ])
    refine wpLA_take (.int .i64 ((n : Int))) (yG_val _ (by rfl) (fun w' _ => by (have h := HN.out; go_simp; try rfl))) ?_
    (try simp only [Act.put, List.getElem_toArray, List.getElem_cons_succ, List.getElem_cons_zero, List.setIfInBounds_toArray, List.set_cons_zero, List.set_cons_succ])
    refine wpLA_take (.int .i64 ((n : Int))) (yG_val _ (by rfl) (fun w' _ => by (go_simp; try rfl))) ?_
    (try simp only [Act.put, List.getElem_toArray, List.getElem_cons_succ, List.getElem_cons_zero, List.setIfInBounds_toArray, List.set_cons_zero, List.set_cons_succ])
    refine wpLA_end ?_
    intro w107 hb
    have S107 := hid (S106.out.on hb)
    clear hb S106
    by_cases hn0 : n = 0
    · have h0 : ¬ ((0 : Int) < (n : Int)) := by omega
      go_upto_region 7 with fail
      refine wpLA_start ?_
      refine wpLA_take (.int .i64 ((n : Int))) (yG_val _ (by rfl) (fun w' _ => by (go_simp; try rfl))) ?_
      (try simp only [Act.put, List.getElem_toArray, List.getElem_cons_succ, List.getElem_cons_zero, List.setIfInBounds_toArray, List.set_cons_zero, List.set_cons_succ])
      refine wpLA_take (.bool false) (yG_val _ (by rfl) (fun w' _ => by (go_simp; try rfl))) ?_
      (try simp only [Act.put, List.getElem_toArray, List.getElem_cons_succ, List.getElem_cons_zero, List.setIfInBounds_toArray, List.set_cons_zero, List.set_cons_succ])
      refine wpLA_end ?_
      intro w108 hb
      have S108 := hid (S107.out.on hb)
      clear hb S107
      go_upto_region 8 with fail
      refine wpLA_start ?_
      refine wpLA_take (.agg (pV (G ^^^ t * X))) (yG_part (by rfl) PTg (.tmp 5) rfl b5 0 rfl PTg (pV (G ^^^ t * X)) (pV (G ^^^ t * X)) (0, 0) _ S108.out.cl.1 (pV_all _) Tryz.underlying72 rfl (infoV _)) ?_
      (try simp only [Act.put, List.getElem_toArray, List.getElem_cons_succ, List.getElem_cons_zero, List.setIfInBounds_toArray, List.set_cons_zero, List.set_cons_succ])
      refine wpLA_store rfl PTg (.tmp 4) (.tmp 32) rfl b4 (pV (G ^^^ t * X)) rfl rfl PTg (pV 0) S108.out.cl.2.1 (infoV _) rfl (pV_one _) ?_
      intro wx hb
      have S109 : Hid (St w (wx.setRow b4 (pV (G ^^^ t * X))) [(b5, pV (G ^^^ t * X), PTg), (b4, pV (G ^^^ t * X), PTg), (b3, pV (mulx X), PTg), (b2, pV (P >>> 1), PTg)] []) := hid ((S108.out.on hb).put0 1 rfl)
      clear hb S108
      generalize wx.setRow b4 (pV (G ^^^ t * X)) = w109 at S109 ⊢
      (try simp only [Act.put, List.getElem_toArray, List.getElem_cons_succ, List.getElem_cons_zero, List.setIfInBounds_toArray, List.set_cons_zero, List.set_cons_succ])
      refine wpLA_end ?_
      intro w110 hb
      have S110 := hid (S109.out.on hb)
      clear hb S109
      go_wp2_with fail
      simp only [Exit.jump]
      exact bodyPost_ret (v := .agg (pV (G ^^^ t * X))) (results_cell_row rfl _ _ b4 PTg _ (0, 0) _ rfl S110.out.cl.2.1 Tryz.underlying72 rfl (infoV _)) rfl ⟨by rw [HLast.out hn0], S110.out.below⟩
    · have h0 : (0 : Int) < (n : Int) := by omega
      go_upto_region 7 with fail
      refine wpLA_start ?_
      refine wpLA_take (.int .i64 ((n : Int))) (yG_val _ (by rfl) (fun w' _ => by (go_simp; try rfl))) ?_
      (try simp only [Act.put, List.getElem_toArray, List.getElem_cons_succ, List.getElem_cons_zero, List.setIfInBounds_toArray, List.set_cons_zero, List.set_cons_succ])
      refine wpLA_take (.bool true) (yG_val _ (by rfl) (fun w' _ => by (go_simp; omega))) ?_
      (try simp only [Act.put, List.getElem_toArray, List.getElem_cons_succ, List.getElem_cons_zero, List.setIfInBounds_toArray, List.set_cons_zero, List.set_cons_succ])
      refine wpLA_end ?_
      intro w108 hb
      have S108 := hid (S107.out.on hb)
      clear hb S107
      go_wp2_with fail
      go_step3
      refine ⟨rfl, ⟨k + 1, n, b2, b3, b4, b5, _, _, _, _, _, _, _, _, _, _, _, _, _, _, _, _, _, _, _, _, _, _, _, _, _, _, rfl, by have := HKN.out; omega, by omega, by rw [HNext.out.1, HNext.out.2.1, HNext.out.2.2]; exact S108.out⟩, by show (intOf (.int .i64 ((n : Nat) : Int))).toNat < (intOf (.int .i64 ((m : Nat) : Int))).toNat; have := HKN.out; simp [intOf]; omega⟩
end Go.Proofs.YtpkmidaflnbobaaGreatDoor
end
section
namespace Go.Proofs.YtpkmidaflnbobaaGreatDoor
open Go Go.RowKit Go.Shelf
set_option linter.unusedVariables false
set_option linter.unusedSimpArgs false
attribute [local go_sem] Oper.semAt_some
/-- The sum behind the parts with these numbers. -/
def wo (H : Nat) (f : Nat → Nat) (p : Nat) (pre : List Nat) : Nat := pre.foldl (fun s k => gm (s ^^^ pol (fun j => f (16 * k + j))) H) p
theorem wo_snoc (H : Nat) (f : Nat → Nat) (p : Nat) (pre : List Nat) (x : Nat) : wo H f p (pre ++ [x]) = gm (wo H f p pre ^^^ pol (fun j => f (16 * x + j))) H := by simp [wo]
theorem wo_range (H : Nat) (f : Nat → Nat) (p : Nat) : ∀ n, wo H f p (List.range n) = wf H f p n
  | 0 => rfl
  | n + 1 => by rw [List.range_succ, wo_snoc, wo_range H f p n]; rfl
theorem wo_lt {H p : Nat} (f : Nat → Nat) (hp : p < 2 ^ 128) (pre : List Nat) : wo H f p pre < 2 ^ 128 := by
  induction pre generalizing p with
  | nil => exact hp
  | cons x xs ih => exact ih (gm_lt (Nat.xor_lt_two_pow hp (pol_lt _)) _)
/-- The part with number x. -/
def part16 (xs : List UInt8) (x : Nat) : List UInt8 := (xs.drop (16 * x)).take 16
theorem part16_length (xs : List UInt8) (n x : Nat) (hn : xs.length = n) : (part16 xs x).length = min 16 (n - 16 * x) := by unfold part16; rw [List.length_take, List.length_drop, hn]
theorem part16_pol (xs : List UInt8) (x : Nat) : pol (bf (part16 xs x)) = pol (fun j => bf xs (16 * x + j)) := pol_congr fun j hj => bf_part xs (16 * x) 16 j hj
theorem part16_sq {w : World} {B c b o : Nat} {A : Option Addr} {xs : List UInt8} (hS : Sq w B A c (bvs xs)) {n : Nat} (hn : xs.length = n) (hl : n ≤ 1000) (hA : 0 < n → A = some ⟨b, o, none⟩) (x : Nat) : Sq w B (some ⟨b, o + 16 * x, none⟩) (min 16 (n - 16 * x)) (bvs (part16 xs x)) := by
  have hpl := part16_length xs n x hn
  by_cases h : 16 * x < n
  · obtain rfl := hA (by omega)
    have hL := (hS.lie.drop (16 * x)).take 16
    have e : ((bvs xs).drop (16 * x)).take 16 = bvs (part16 xs x) := by simp [bvs, part16, List.map_take, List.map_drop]
    rw [e] at hL
    exact hL.sq (by rw [bvs_length, hpl]; exact Nat.le_refl _) (by omega)
  · have e : part16 xs x = [] := List.eq_nil_of_length_eq_zero (by rw [hpl]; omega)
    rw [e]
    exact .inl ⟨rfl, by omega⟩
theorem sq_at {w : World} {B c : Nat} {A : Option Addr} {xs : List UInt8} (hS : Sq w B A c (bvs xs)) {n : Nat} (hn : xs.length = n) : ∃ b o, 0 < n → A = some ⟨b, o, none⟩ := by
  by_cases h : 0 < n
  · obtain ⟨b, o, hA, _⟩ := hS.form (by rw [bvs_length, hn]; exact h)
    exact ⟨b, o, fun _ => hA⟩
  · exact ⟨0, 0, fun h' => absurd h' h⟩
set_option maxRecDepth 100000 in
set_option maxHeartbeats 4000000 in
theorem with_e (p H : Nat) (A : Option Addr) (xs : List UInt8) (n c : Nat) (w : World) (hS : Sq w w.heap.size A c (bvs xs)) (hn : xs.length = n) (hl : n ≤ 1000) (hp : p < 2 ^ 128) (hH : H < 2 ^ 128) :
    Calls Tryz.prog 59 #[.agg (pV p), .slice A n c, .agg (pV H)] w fun e w' => e = .returned (.agg (pV (wf H (bf xs) p ((n + 15) / 16)))) ∧ Below w.heap.size w w' := by
  obtain ⟨b, o, hA⟩ := sq_at hS hn
  have hcap := hS.cap
  rw [bvs_length, hn] at hcap
  obtain ⟨w5, hw5⟩ : ∃ w5, ((((w.alloc (.cells (pV p) PTg)).alloc (.cells (pV H) PTg)).alloc (.cells #[.int .u64 0, .int .u64 0] PTg)).alloc (.cells #[.slice A n c] 22)).alloc (.cells #[.int .i64 16] 3) = w5 := ⟨_, rfl⟩
  have hs5 : w5.heap.size = w.heap.size + 5 := by rw [← hw5]; simp
  have g0 : w5.heap[w.heap.size]? = some (.cells (pV p) PTg (0, 0)) := by rw [← hw5]; exact blkA (blkA (blkA (blkA (blkN rfl _ _) _) _) _) _
  have g1 : w5.heap[w.heap.size + 1]? = some (.cells (pV H) PTg (0, 0)) := by rw [← hw5]; exact blkA (blkA (blkA (blkN (by simp) _ _) _) _) _
  have g2 : w5.heap[w.heap.size + 1 + 1]? = some (.cells (pV 0) PTg (0, 0)) := by rw [← hw5, pV_zero]; exact blkA (blkA (blkN (by simp) _ _) _) _
  have g3 : w5.heap[w.heap.size + 1 + 1 + 1]? = some (.cells #[.slice A n c] 22 (0, 0)) := by rw [← hw5]; exact blkA (blkN (by simp) _ _) _
  have g4 : w5.heap[w.heap.size + 1 + 1 + 1 + 1]? = some (.cells #[.int .i64 16] 3 (0, 0)) := by rw [← hw5]; exact blkN (by simp) _ _
  have hb5 : Below w.heap.size w w5 := by rw [← hw5]; exact (((((Below.refl _ w).alloc (Nat.le_refl _) _).alloc (by simp) _).alloc (by simp; omega) _).alloc (by simp; omega) _).alloc (by simp; omega) _
  refine (callsIn_wide (n := 10)).1 ?_
  refine callsIn_of_wp_marks Tryz.func59 rfl trivial ?_ rfl
  simp only [Tryz.ntmps59, List.size_toArray, List.length_cons, List.length_nil, Nat.reduceAdd, Nat.reduceSub, Array.replicate_succ, Array.replicate_zero, List.push_toArray, List.append_toArray, List.nil_append, List.cons_append]
  have HW5 := hid hw5; have HA := hid hA; have HS := hid hS; have HN := hid hn; have HC := hid hcap; have HS5 := hid hs5; have HB5 := hid hb5
  have G0 := hid g0; have G1 := hid g1; have G2 := hid g2; have G3 := hid g3; have G4 := hid g4
  clear hw5 hA hS hn hcap hs5 hb5 g0 g1 g2 g3 g4
  gi_wp2_with (refine ⟨trivial, ?_⟩; gi_at_call 65; refine (callsIn_wide.2 (chunk_e A n c _)).mono ?_; rintro e w' ⟨rfl, rfl⟩)
  rename_i K2 hK2
  rw [show ((((w.alloc (.cells (pV p) PTg)).alloc (.cells (pV H) PTg)).alloc (.cells #[.int .u64 0, .int .u64 0] PTg)).alloc (.cells #[.slice A n c] 22)).alloc (.cells #[.int .i64 16] 3) = w5 from HW5.out]
  refine wpIn_rangeFunc_ownF rfl (by omega) (gf := 89) (lb := #[.pointer (some ⟨w.heap.size + 1 + 1 + 1, 0, none⟩), .pointer (some ⟨w.heap.size + 1 + 1 + 1 + 1, 0, none⟩)]) rfl trivial (enters_of Tryz.func89 (by kernel_rfl) rfl)
    (chunk_stops (10 - 1) (w.heap.size + 1 + 1 + 1) (w.heap.size + 1 + 1 + 1 + 1) b o n c A HA.out hl HC.out.1 HC.out.2 w5 (by rw [HS5.out]; omega) (by rw [HS5.out]; omega) (cell_of G3.out 0 _ rfl) (cell_of G4.out 0 _ rfl)) kp2_t
    (kp2_b (by rw [HS5.out]; omega) (by rw [HS5.out]; omega)) (Below.refl _ _) (fun _ => rfl)
    (fun pre W => W.heap[w.heap.size]? = some (.cells (pV (wo H (bf xs) p pre)) PTg (0, 0)) ∧ W.heap[w.heap.size + 1]? = some (.cells (pV H) PTg (0, 0)) ∧ W.heap[w.heap.size + 1 + 1]? = some (.cells (pV 0) PTg (0, 0)) ∧ Below w.heap.size w W ∧ w5.heap.size ≤ W.heap.size)
    (fun _ _ _ => False) ?hI (fun _ _ _ _ _ h _ _ => h) ⟨G0.out, G1.out, G2.out, HB5.out, Nat.le_refl _⟩
    (fun x => { tmps := #[.agg (pV p), .slice A n c, .agg (pV H), .pointer (some ⟨w.heap.size, 0, none⟩), undef, .pointer (some ⟨w.heap.size + 1, 0, none⟩), .pointer (some ⟨w.heap.size + 1 + 1, 0, none⟩), ckV b o n x, .slice A n c, .func (.func 89) #[] #[.pointer (some ⟨w.heap.size + 1 + 1 + 1, 0, none⟩), .pointer (some ⟨w.heap.size + 1 + 1 + 1 + 1, 0, none⟩)], ckV b o n x, undef, undef, undef, undef, undef, undef, undef], defers := [] }) ?assign ?body ?done ?stop
  case hI =>
    rintro s W W' row ⟨h0, h1, h2, h3, h5⟩ hg hr
    have hne : ∀ g, g < w5.heap.size → some g ≠ row := fun g hg e => by have := (hr g e.symm).1; omega
    have := HS5.out
    exact ⟨block_grown h0 hg (hne _ (by omega)), block_grown h1 hg (hne _ (by omega)), block_grown h2 hg (hne _ (by omega)), h3.grown hg h3.size (fun k e => by have := (hr k e).1; omega), Nat.le_trans h5 hg.size⟩
  case assign =>
    intro l x W K hK
    gi_wp2
    exact hK
  case body =>
    rintro l pre x W ⟨h0, h1, h2, h3, h5⟩ hlt
    obtain ⟨s, hs⟩ : ∃ s, s = wo H (bf xs) p pre := ⟨_, rfl⟩
    obtain ⟨P, hP⟩ : ∃ P, P = pol (fun j => bf xs (16 * x + j)) := ⟨_, rfl⟩
    have hsl : s < 2 ^ 128 := by rw [hs]; exact wo_lt _ hp _
    have hPl : P < 2 ^ 128 := by rw [hP]; exact pol_lt _
    have hsn : wo H (bf xs) p (pre ++ [x]) = gm (s ^^^ P) H := by rw [wo_snoc, hs, hP]
    rw [← hs] at h0
    have KA : Hid (∀ w', Below W.heap.size W w' → Calls Tryz.prog 58 #[ckV b o n x] w' fun e w'' => e = .returned (.agg (pV P)) ∧ Below w'.heap.size w' w'') := hid fun w' hb => by
      have hq := ((part16_sq HS.out HN.out hl HA.out x).below (h3.trans (hb.mono h3.size))).more (B' := w'.heap.size) (Nat.le_trans h3.size hb.size)
      have h := polyOf_e _ (part16 xs x) _ _ w' hq (part16_length xs n x HN.out) (by omega)
      rw [part16_pol, ← hP] at h
      exact h
    have KB : Hid (∀ w', _) := hid fun w' => plus_e s P w'
    have KC : Hid (∀ w', _) := hid fun w' => times_e (s ^^^ P) H w' (Nat.xor_lt_two_pow hsl hPl) hH
    have H0 := hid h0; have H1 := hid h1; have H2 := hid h2; have H3 := hid h3; have H5 := hid h5; have HSN := hid hsn
    clear h0 h1 h2 h3 h5 hsn hs hP hsl hPl
    refine wpIn_block ?_
    refine wpIn_region_grA 6 (fun a w h => h) (by kernel_rfl) (by kernel_rfl) (by decide) ?_
    refine wpGrA_take (i := 0) (.agg (pV s)) rfl (by kernel_rfl) (by kernel_rfl) (fun _ _ _ h => h) (yG_part (by rfl) PTg (.tmp 3) rfl w.heap.size 0 rfl PTg (pV s) (pV s) (0, 0) _ H0.out (pV_all _) Tryz.underlying72 rfl (infoV _)) ?_
    (try simp only [Act.put, List.getElem_toArray, List.getElem_cons_succ, List.getElem_cons_zero, List.setIfInBounds_toArray, List.set_cons_zero, List.set_cons_succ])
    refine wpGrA_take (i := 1) (ckV b o n x) rfl (by kernel_rfl) (by kernel_rfl) (fun _ _ _ h => h) (yG_val _ (by rfl) (fun w' _ => by (go_simp; try rfl))) ?_
    (try simp only [Act.put, List.getElem_toArray, List.getElem_cons_succ, List.getElem_cons_zero, List.setIfInBounds_toArray, List.set_cons_zero, List.set_cons_succ])
    refine wpGrA_take (i := 2) (.agg (pV P)) rfl (by kernel_rfl) (by kernel_rfl) (fun _ _ _ h => h) (yG_call (by rfl) (fun w' => by go_simp) (fun w' hb => KA.out w' hb)) ?_
    (try simp only [Act.put, List.getElem_toArray, List.getElem_cons_succ, List.getElem_cons_zero, List.setIfInBounds_toArray, List.set_cons_zero, List.set_cons_succ])
    refine wpGrA_take (i := 3) (.agg (pV (s ^^^ P))) rfl (by kernel_rfl) (by kernel_rfl) (fun _ _ _ h => h) (yG_call (by rfl) (fun w' => by go_simp) (fun w' hb => KB.out w')) ?_
    (try simp only [Act.put, List.getElem_toArray, List.getElem_cons_succ, List.getElem_cons_zero, List.setIfInBounds_toArray, List.set_cons_zero, List.set_cons_succ])
    refine wpGrA_take (i := 4) (.agg (pV H)) rfl (by kernel_rfl) (by kernel_rfl) (fun _ _ _ h => h) (yG_part (by rfl) PTg (.tmp 5) rfl (w.heap.size + 1) 0 rfl PTg (pV H) (pV H) (0, 0) _ H1.out (pV_all _) Tryz.underlying72 rfl (infoV _)) ?_
    (try simp only [Act.put, List.getElem_toArray, List.getElem_cons_succ, List.getElem_cons_zero, List.setIfInBounds_toArray, List.set_cons_zero, List.set_cons_succ])
    refine wpGrA_take (i := 5) (.agg (pV (gm (s ^^^ P) H))) rfl (by kernel_rfl) (by kernel_rfl) (fun _ _ _ h => h) (yG_call (by rfl) (fun w' => by go_simp) (fun w' hb => KC.out w')) ?_
    (try simp only [Act.put, List.getElem_toArray, List.getElem_cons_succ, List.getElem_cons_zero, List.setIfInBounds_toArray, List.set_cons_zero, List.set_cons_succ])
    refine wpGrA_end (by kernel_rfl) ?_
    intro w6 hb6
    have hl0 := block_lt H0.out
    have hl1 := block_lt H1.out
    have hl2 := block_lt H2.out
    have k0 : w6.heap[w.heap.size]? = some (.cells (pV s) PTg (0, 0)) := (hb6.block _ hl0).trans H0.out
    refine wpList_store_row rfl PTg (.tmp 3) (.tmp 16) rfl w.heap.size (pV (gm (s ^^^ P) H)) rfl rfl PTg (pV s) k0 (infoV _) rfl (pV_one _) ?_
    have hg : W.grownBy (w6.setRow w.heap.size (pV (gm (s ^^^ P) H))) (some w.heap.size) := grown_setRow (grown_none (grown12 hb6) _) _
    refine ⟨KeepsOthers.of_grownBy hg (fun j o e ho => by cases e; rw [H0.out] at ho; cases ho; rfl), ⟨?_, ?_⟩, ?_, block_grown H1.out hg (by simp), block_grown H2.out hg (by simp; omega), H3.out.grown hg H3.out.size (fun k e => by cases e; exact Nat.le_refl _), Nat.le_trans H5.out hg.size⟩
    · exact World.cell?_of_block (hg.block _ (by have := H5.out; have := HS5.out; show w.heap.size + 1 + 1 + 1 < _; omega) (by simp; omega))
    · exact World.cell?_of_block (hg.block _ (by have := H5.out; have := HS5.out; show w.heap.size + 1 + 1 + 1 + 1 < _; omega) (by simp; omega))
    · rw [HSN.out]; exact setRow_heap _ _ _ _ _ _ k0
  case done =>
    rintro D ys W hD rfl ⟨h0, h1, h2, h3, h5⟩ hK
    rw [wo_range] at h0
    obtain ⟨r, hr⟩ : ∃ r, r = wf H (bf xs) p ((n + 15) / 16) := ⟨_, rfl⟩
    rw [← hr] at h0
    have H0 := hid h0; have H2 := hid h2; have H3 := hid h3; have HK := hid hK; have HR := hid hr
    clear h0 h1 h2 h3 h5 hK hr
    refine hK2 _ _ ?_
    refine wpIn_wide.2 ?_
    go_wp2_with (first
      | (refine wpList_load_row rfl PTg (.tmp 3) rfl w.heap.size rfl PTg (pV r) (0, 0) _ H0.out Tryz.underlying72 rfl (infoV r) ?_)
      | (refine wpList_store_row rfl PTg (.tmp 6) (.tmp 17) rfl (w.heap.size + 1 + 1) (pV r) rfl rfl PTg (pV 0) H2.out (infoV r) rfl (pV_one r) ?_))
    have hDb : D ≠ w.heap.size + 1 + 1 := fun e => by have := HS5.out; omega
    have hK' : (W.setRow (w.heap.size + 1 + 1) (pV r)).heap[D]? = some (.deferred (some [])) := (setRow_other W _ D _ hDb).trans HK.out
    refine ⟨by simp, .inl ⟨_, _, rfl, run_takeDeferred hK', ?_⟩⟩
    have hg := grownBy_putObj' (W.setRow (w.heap.size + 1 + 1) (pV r)) D (.deferred none)
    refine ⟨_, results_cell_row rfl _ _ (w.heap.size + 1 + 1) PTg (pV r) (0, 0) _ rfl (block_grown (setRow_heap _ _ _ _ _ _ H2.out) hg (by simp; omega)) Tryz.underlying72 rfl (infoV r), by rw [← HR.out], ?_⟩
    exact (belowRow H3.out (by omega) _).grown hg (by rw [size_setRow]; exact H3.out.size) (fun k e => by cases e; have := HS5.out; omega)
  case stop =>
    rintro D c pre W _ _ h _
    exact h.elim
end Go.Proofs.YtpkmidaflnbobaaGreatDoor
end
