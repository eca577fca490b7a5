/-
  Texts of this claim in one file: Lan.
-/
import Derived.Test.YtpkmidaflnbobaaGreatDoorPk23
import Derived.Test.YtpkmidaflnbobaaGreatDoorPk21
section
namespace Go.Proofs.YtpkmidaflnbobaaGreatDoor
set_option linter.unusedVariables false
set_option linter.unusedSimpArgs false
/-- n bytes as a number, the lowest first. -/
def ln : (Nat → Nat) → Nat → Nat
  | _, 0 => 0
  | f, n + 1 => f 0 + 256 * ln (fun i => f (i + 1)) n
theorem ln_bit : ∀ (n : Nat) (f : Nat → Nat), (∀ i, f i < 256) → ∀ i, (ln f n).testBit i = (decide (i < 8 * n) && (f (i / 8)).testBit (i % 8))
  | 0, f, _, i => by simp [ln]
  | n + 1, f, h, i => by
    have ih := ln_bit n (fun i => f (i + 1)) (fun i => h (i + 1))
    have h0 := h 0
    show (f 0 + 256 * ln (fun i => f (i + 1)) n).testBit i = _
    rw [Nat.add_comm, show (256 : Nat) = 2 ^ 8 from rfl, Nat.testBit_two_pow_mul_add _ (by omega)]
    by_cases hi : i < 8
    · rw [if_pos hi, show i / 8 = 0 by omega, show i % 8 = i by omega]
      simp; omega
    · rw [if_neg hi, ih, show (i - 8) % 8 = i % 8 by omega, show (i - 8) / 8 + 1 = i / 8 by omega]
      congr 1
      simp; omega
theorem ln_lt (n : Nat) (f : Nat → Nat) (h : ∀ i, f i < 256) : ln f n < 2 ^ (8 * n) := by
  apply Nat.lt_pow_two_of_testBit
  intro i hi
  rw [ln_bit n f h, show decide (i < 8 * n) = false by simp; omega]; rfl
theorem ln_congr : ∀ (n : Nat) {f g : Nat → Nat}, (∀ i, i < n → f i = g i) → ln f n = ln g n
  | 0, _, _, _ => rfl
  | n + 1, f, g, h => by
    show f 0 + 256 * ln (fun i => f (i + 1)) n = g 0 + 256 * ln (fun i => g (i + 1)) n
    rw [h 0 (by omega), ln_congr n (fun i hi => h (i + 1) (by omega))]
theorem ln_ext {n x : Nat} {f : Nat → Nat} (h : ∀ i, f i < 256) (hb : ∀ i, x.testBit i = (decide (i < 8 * n) && (f (i / 8)).testBit (i % 8))) : x = ln f n :=
  Nat.eq_of_testBit_eq fun i => by rw [hb, ln_bit n f h]
theorem xor_b {a b : Nat} (ha : a < 256) (hb : b < 256) : a ^^^ b < 256 := Nat.xor_lt_two_pow (n := 8) ha hb
theorem and_b {a b : Nat} (ha : a < 256) : a &&& b < 256 := Nat.lt_of_le_of_lt Nat.and_le_left ha
theorem and_b' {a b : Nat} (hb : b < 256) : a &&& b < 256 := Nat.lt_of_le_of_lt Nat.and_le_right hb
theorem or_b {a b : Nat} (ha : a < 256) (hb : b < 256) : a ||| b < 256 := Nat.or_lt_two_pow (n := 8) ha hb
theorem ln_xor (n : Nat) {f g : Nat → Nat} (hf : ∀ i, f i < 256) (hg : ∀ i, g i < 256) : ln f n ^^^ ln g n = ln (fun i => f i ^^^ g i) n :=
  ln_ext (fun i => xor_b (hf i) (hg i)) fun i => by rw [Nat.testBit_xor, ln_bit n f hf, ln_bit n g hg, Nat.testBit_xor]; cases decide (i < 8 * n) <;> simp
theorem ln_and (n : Nat) {f g : Nat → Nat} (hf : ∀ i, f i < 256) (hg : ∀ i, g i < 256) : ln f n &&& ln g n = ln (fun i => f i &&& g i) n :=
  ln_ext (fun i => and_b (hf i)) fun i => by rw [Nat.testBit_and, ln_bit n f hf, ln_bit n g hg, Nat.testBit_and]; cases decide (i < 8 * n) <;> simp
theorem ln_or (n : Nat) {f g : Nat → Nat} (hf : ∀ i, f i < 256) (hg : ∀ i, g i < 256) : ln f n ||| ln g n = ln (fun i => f i ||| g i) n :=
  ln_ext (fun i => or_b (hf i) (hg i)) fun i => by rw [Nat.testBit_or, ln_bit n f hf, ln_bit n g hg, Nat.testBit_or]; cases decide (i < 8 * n) <;> simp
theorem ln_mul (c : Nat) : ∀ (n : Nat) (f : Nat → Nat), ln f n * c = ln (fun i => f i * c) n
  | 0, _ => by simp [ln]
  | n + 1, f => by
    show (f 0 + 256 * ln (fun i => f (i + 1)) n) * c = f 0 * c + 256 * ln (fun i => f (i + 1) * c) n
    rw [← ln_mul c n, Nat.add_mul, Nat.mul_assoc]
theorem ln_shr (n k : Nat) {f m : Nat → Nat} (hk : k ≤ 8) (hf : ∀ i, f i < 256) (hm : ∀ i, m i < 2 ^ (8 - k)) : ln f n / 2 ^ k &&& ln m n = ln (fun i => f i / 2 ^ k &&& m i) n := by
  have hm' : ∀ i, m i < 256 := fun i => Nat.lt_of_lt_of_le (hm i) (Nat.pow_le_pow_right (n := 2) (by omega) (by omega : 8 - k ≤ 8))
  refine ln_ext (fun i => and_b' (hm' i)) fun i => ?_
  rw [Nat.testBit_and, Nat.testBit_div_two_pow, ln_bit n f hf, ln_bit n m hm', Nat.testBit_and, Nat.testBit_div_two_pow]
  by_cases h : i % 8 + k < 8
  · rw [show (i + k) / 8 = i / 8 by omega, show (i + k) % 8 = i % 8 + k by omega]
    by_cases hi : i < 8 * n
    · rw [show decide (i < 8 * n) = true by simp [hi], show decide (i + k < 8 * n) = true by simp; omega]; simp
    · rw [show decide (i < 8 * n) = false by simp; omega]; simp
  · rw [Nat.testBit_lt_two_pow (Nat.lt_of_lt_of_le (hm (i / 8)) (Nat.pow_le_pow_right (n := 2) (by omega) (by omega : 8 - k ≤ i % 8)))]
    simp
theorem ln_shl (n j : Nat) {f m : Nat → Nat} (hf : ∀ i, f i < 256) (hm : ∀ i, m i < 256) (hj : ∀ i k, k < j → (m i).testBit k = false) : ln f n * 2 ^ j % 2 ^ (8 * n) &&& ln m n = ln (fun i => f i * 2 ^ j % 256 &&& m i) n := by
  refine ln_ext (fun i => and_b' (hm i)) fun i => ?_
  rw [Nat.testBit_and, Nat.testBit_mod_two_pow, ← Nat.shiftLeft_eq, Nat.testBit_shiftLeft, ln_bit n f hf, ln_bit n m hm, Nat.testBit_and, show (256 : Nat) = 2 ^ 8 from rfl, Nat.testBit_mod_two_pow, ← Nat.shiftLeft_eq, Nat.testBit_shiftLeft]
  by_cases h : i % 8 < j
  · rw [hj _ _ h]; simp
  · by_cases hi : i < 8 * n
    · rw [show (i - j) / 8 = i / 8 by omega, show (i - j) % 8 = i % 8 - j by omega,
        show decide (i < 8 * n) = true by simp [hi], show decide (i - j < 8 * n) = true by simp; omega, show decide (i ≥ j) = true by simp; omega, show decide (i % 8 < 8) = true by simp; omega, show decide (i % 8 ≥ j) = true by simp; omega]
      simp
    · rw [show decide (i < 8 * n) = false by simp; omega]; simp
/-- x times a byte. -/
def dblN (a : Nat) : Nat := (a % 128 * 2) ^^^ (a / 128 * 27)
theorem dblN_lt {a : Nat} (ha : a < 256) : dblN a < 256 := xor_b (by omega) (by omega)
/-- The same, of all bytes of a word. -/
def dblW (x : Nat) : Nat := ((x &&& (18446744073709551615 - 9259542123273814144)) * 2 % 18446744073709551616) ^^^ ((x / 128 &&& 72340172838076673) * 27 % 18446744073709551616)
theorem low7 : ∀ a, a < 256 → a &&& 127 = a % 128 := by decide +kernel
theorem top1 : ∀ a, a < 256 → a / 2 ^ 7 &&& 1 = a / 128 := by decide +kernel
theorem dblW_ln {f : Nat → Nat} (hf : ∀ i, f i < 256) : dblW (ln f 8) = ln (fun i => dblN (f i)) 8 := by
  have h1 : ln f 8 &&& (18446744073709551615 - 9259542123273814144) = ln (fun i => f i % 128) 8 := by
    rw [show 18446744073709551615 - 9259542123273814144 = ln (fun _ => 127) 8 by decide, ln_and 8 hf (fun _ => by omega)]
    exact ln_congr 8 fun i _ => low7 _ (hf i)
  have h2 : ln f 8 / 128 &&& 72340172838076673 = ln (fun i => f i / 128) 8 := by
    rw [show 72340172838076673 = ln (fun _ => 1) 8 by decide]
    refine (ln_shr 8 7 (by omega) hf (fun _ => by decide)).trans (ln_congr 8 fun i _ => top1 _ (hf i))
  have a1 : ∀ i, f i % 128 * 2 < 256 := fun i => by omega
  have a2 : ∀ i, f i / 128 * 27 < 256 := fun i => by have := hf i; omega
  unfold dblW
  rw [h1, h2, ln_mul, ln_mul, Nat.mod_eq_of_lt (ln_lt 8 _ a1), Nat.mod_eq_of_lt (ln_lt 8 _ a2), ln_xor 8 a1 a2]
  rfl
/-- x to the power k times a byte. -/
def dbk (a : Nat) : Nat → Nat
  | 0 => a
  | k + 1 => dblN (dbk a k)
theorem dbk_lt {a : Nat} (ha : a < 256) : ∀ k, dbk a k < 256
  | 0 => ha
  | k + 1 => dblN_lt (dbk_lt ha k)
/-- The product by its first k bits. -/
def mb (a b : Nat) : Nat → Nat
  | 0 => 0
  | k + 1 => mb a b k ^^^ (dbk a k &&& (b / 2 ^ k &&& 1) * 255)
theorem mb_lt {a : Nat} (ha : a < 256) (b : Nat) : ∀ k, mb a b k < 256
  | 0 => by show 0 < 256; omega
  | k + 1 => xor_b (mb_lt ha b k) (and_b (dbk_lt ha k))
/-- One bit of each byte: words. -/
theorem mulW_step {f g : Nat → Nat} (hf : ∀ i, f i < 256) (hg : ∀ i, g i < 256) (k : Nat) (hk : k < 8) :
    ln (fun i => mb (f i) (g i) k) 8 ^^^ (ln (fun i => dbk (f i) k) 8 &&& ((ln g 8 / 2 ^ k &&& 72340172838076673) * 255 % 18446744073709551616)) = ln (fun i => mb (f i) (g i) (k + 1)) 8 := by
  have h1 : ln g 8 / 2 ^ k &&& 72340172838076673 = ln (fun i => g i / 2 ^ k &&& 1) 8 := by
    rw [show 72340172838076673 = ln (fun _ => 1) 8 by decide]
    exact ln_shr 8 k (by omega) hg (fun _ => by
      have : 2 ^ 1 ≤ 2 ^ (8 - k) := Nat.pow_le_pow_right (by omega) (by omega)
      omega)
  have a1 : ∀ i, (g i / 2 ^ k &&& 1) * 255 < 256 := fun i => by
    have : g i / 2 ^ k &&& 1 ≤ 1 := Nat.and_le_right
    omega
  rw [h1, ln_mul, Nat.mod_eq_of_lt (ln_lt 8 _ a1), ln_and 8 (fun i => dbk_lt (hf i) k) a1, ln_xor 8 (fun i => mb_lt (hf i) _ k) (fun i => and_b (dbk_lt (hf i) k))]
  rfl
theorem dblN_tm : ∀ a, a < 256 → dblN a = tmN a 2 := by decide +kernel
theorem two_tm : ∀ k, k < 7 → tmN (2 ^ k) 2 = 2 ^ (k + 1) := by decide +kernel
theorem dbk_tm {a : Nat} (ha : a < 256) : ∀ k, k < 8 → dbk a k = tmN a (2 ^ k)
  | 0, _ => (tm_one a ha).symm
  | k + 1, h => by
    have h2 : 2 ^ k < 256 := Nat.lt_of_le_of_lt (Nat.pow_le_pow_right (by omega) (by omega : k ≤ 7)) (by decide)
    show dblN (dbk a k) = _
    rw [dblN_tm _ (dbk_lt ha k), dbk_tm ha k (by omega), tm_assoc ha h2 (by omega), two_tm k (by omega)]
theorem mask_b : ∀ a, a < 256 → a &&& 255 = a := by decide +kernel
theorem mb_tm {a : Nat} (ha : a < 256) (b : Nat) : ∀ k, k ≤ 8 → mb a b k = tmN a (bitsX b k)
  | 0, _ => (tm_zero_right a).symm
  | k + 1, h => by
    show mb a b k ^^^ (dbk a k &&& (b / 2 ^ k &&& 1) * 255) = tmN a (bitsX b k ^^^ (if b.testBit k then 2 ^ k else 0))
    rw [mb_tm ha b k (by omega), tm_xor_right, dbk_tm ha k (by omega), Nat.and_one_is_mod]
    congr 1
    have hb := bit_is b k
    by_cases h1 : b / 2 ^ k % 2 = 1
    · rw [h1, if_pos (hb.1 h1), Nat.one_mul, mask_b]
      rw [← dbk_tm ha k (by omega)]
      exact dbk_lt ha k
    · rw [show b / 2 ^ k % 2 = 0 by omega, if_neg (fun hc => h1 (hb.2 hc)), Nat.zero_mul, Nat.and_zero, tm_zero_right]
theorem mb8 {a b : Nat} (ha : a < 256) (hb : b < 256) : mb a b 8 = tmN a b := by rw [mb_tm ha b 8 (by omega), bitsX_8 b hb]
/-- The inverse, by powers. -/
def sqk (a : Nat) : Nat → Nat
  | 0 => a
  | k + 1 => tmN (sqk a k) (sqk a k)
def ivk (a : Nat) : Nat → Nat
  | 0 => 1
  | k + 1 => tmN (ivk a k) (sqk a (k + 1))
theorem sqk_lt {a : Nat} (ha : a < 256) : ∀ k, sqk a k < 256
  | 0 => ha
  | k + 1 => tm_lt (sqk_lt ha k) (sqk_lt ha k)
theorem ivk_lt {a : Nat} (ha : a < 256) : ∀ k, ivk a k < 256
  | 0 => by show 1 < 256; omega
  | k + 1 => tm_lt (ivk_lt ha k) (sqk_lt ha (k + 1))
def lowB (b n : Nat) : Nat := (b / 2 ^ n &&& 255 / 2 ^ n) ||| (b * 2 ^ (8 - n) % 256 &&& (255 - 255 / 2 ^ n))
/-- What the box makes of a byte. -/
def boxC (a : Nat) : Nat := ivk a 7 ^^^ lowB (ivk a 7) 4 ^^^ lowB (ivk a 7) 5 ^^^ lowB (ivk a 7) 6 ^^^ lowB (ivk a 7) 7 ^^^ 99
def lowW (x n : Nat) : Nat := (x / 2 ^ n &&& 72340172838076673 * (255 / 2 ^ n)) ||| (x * 2 ^ (8 - n) % 18446744073709551616 &&& (18446744073709551615 - 72340172838076673 * (255 / 2 ^ n)))
theorem lowW_ln {f : Nat → Nat} (hf : ∀ i, f i < 256) (n : Nat) (h1 : 1 ≤ n) (h7 : n ≤ 7) : lowW (ln f 8) n = ln (fun i => lowB (f i) n) 8 := by
  have c1 : ∀ n, 1 ≤ n → n ≤ 7 → 72340172838076673 * (255 / 2 ^ n) = ln (fun _ => 255 / 2 ^ n) 8 ∧ 18446744073709551615 - 72340172838076673 * (255 / 2 ^ n) = ln (fun _ => 255 - 255 / 2 ^ n) 8 ∧ 255 / 2 ^ n < 2 ^ (8 - n) ∧ ∀ k, k < 8 - n → (255 - 255 / 2 ^ n).testBit k = false := by
    intro n h1 h7
    obtain rfl | rfl | rfl | rfl | rfl | rfl | rfl : n = 1 ∨ n = 2 ∨ n = 3 ∨ n = 4 ∨ n = 5 ∨ n = 6 ∨ n = 7 := by omega
    all_goals decide
  obtain ⟨e1, e2, e3, e4⟩ := c1 n h1 h7
  unfold lowW
  rw [e2, e1, ln_shr 8 n (by omega) hf (fun _ => e3), ln_shl 8 (8 - n) hf (fun _ => by omega) (fun _ => e4),
    ln_or 8 (fun i => and_b' (by have : 255 / 2 ^ n ≤ 255 := Nat.div_le_self _ _
                                 omega)) (fun i => and_b' (by omega))]
  rfl
def ivA (a : Nat) : Bool := ivk a 7 == invN a
theorem ivA_all : ∀ a, a < 256 → ivA a = true := by decide +kernel
theorem ivk7 (a : Nat) (ha : a < 256) : ivk a 7 = invN a := by have := ivA_all a ha; unfold ivA at this; exact eq_of_beq this
theorem inv_only {a x : Nat} (ha : a < 256) (hx : x < 256) (h : tmN a x = 1) : x = invN a := by
  have h0 : a ≠ 0 := by
    intro hz; subst hz
    rw [tm_zero_left] at h; exact absurd h (by decide)
  obtain ⟨h1, h2⟩ := inv_is a ha
  have h3 := tm_assoc h1 ha hx
  rw [h, tm_one _ h1, tm_comm h1 ha, h2 h0, tm_comm (by decide) hx, tm_one _ hx] at h3
  exact h3
theorem ivN_found {a : Nat} (ha : a < 256) (h0 : a ≠ 0) : ∀ k, k ≤ 255 → invN a ≤ k → ivN a k = invN a
  | 0, _, hi => by
    exfalso
    obtain ⟨h1, h2⟩ := inv_is a ha
    have h3 := h2 h0
    rw [show invN a = 0 by omega, tm_zero_right] at h3
    exact absurd h3 (by decide)
  | k + 1, hk, hi => by
    show (if tmN a (k + 1) = 1 then k + 1 else ivN a k) = _
    split
    · exact inv_only ha (by omega) (by assumption)
    · rename_i hne
      refine ivN_found ha h0 k (by omega) ?_
      rcases Nat.lt_or_ge k (invN a) with h | h
      · exfalso
        apply hne
        have he : k + 1 = invN a := by omega
        rw [he]
        exact (inv_is a ha).2 h0
      · exact h
theorem ivN_zero : ∀ k, ivN 0 k = 0
  | 0 => rfl
  | k + 1 => by
    show (if tmN 0 (k + 1) = 1 then k + 1 else ivN 0 k) = 0
    rw [tm_zero_left, if_neg (by decide), ivN_zero k]
theorem ivN_is (a : Nat) (ha : a < 256) : ivN a 255 = invN a := by
  by_cases h0 : a = 0
  · subst h0; rw [ivN_zero]; decide +kernel
  · exact ivN_found ha h0 255 (by omega) (by have := (inv_is a ha).1; omega)
def affC (b : Nat) : Nat := b ^^^ lowB b 4 ^^^ lowB b 5 ^^^ lowB b 6 ^^^ lowB b 7 ^^^ 99
theorem aff_is : ∀ b, b < 256 → affC b = bxN b 8 := by decide +kernel
theorem boxC_is (a : Nat) (ha : a < 256) : boxC a = boxN a := by
  have h := (inv_is a ha).1
  show affC (ivk a 7) = bxN (ivN a 255) 8
  rw [ivk7 a ha, ivN_is a ha, aff_is _ h]
theorem boxC_lt (a : Nat) (ha : a < 256) : boxC a < 256 := by
  rw [boxC_is a ha]
  exact bxN_lt _ 8
end Go.Proofs.YtpkmidaflnbobaaGreatDoor
end
