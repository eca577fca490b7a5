/-
  Texts of this claim in one file: GcP.
-/
import Derived.Test.YtpkmidaflnbobaaGreatDoorPk23
section
namespace Go.Proofs.YtpkmidaflnbobaaGreatDoor
set_option linter.unusedVariables false
set_option linter.unusedSimpArgs false
theorem bitsX_bit (a : Nat) : ∀ n i, (bitsX a n).testBit i = (decide (i < n) && a.testBit i)
  | 0, i => by simp [bitsX]
  | n + 1, i => by
    show (bitsX a n ^^^ (if a.testBit n then 2 ^ n else 0)).testBit i = _
    rw [Nat.testBit_xor, bitsX_bit a n i]
    by_cases h : i = n
    · subst h
      cases h1 : a.testBit i <;> simp [h1]
    · have h2 : (if a.testBit n = true then 2 ^ n else 0 : Nat).testBit i = false := by
        split
        · rw [Nat.testBit_two_pow]; simp; omega
        · simp
      rw [h2]
      by_cases h3 : i < n
      · rw [show decide (i < n) = true by simp [h3], show decide (i < n + 1) = true by simp; omega]; simp
      · rw [show decide (i < n) = false by simp; omega, show decide (i < n + 1) = false by simp; omega]; rfl
theorem bitsX_all {a n : Nat} (h : a < 2 ^ n) : bitsX a n = a := Nat.eq_of_testBit_eq fun i => by
  rw [bitsX_bit]
  by_cases hi : i < n
  · simp [hi]
  · rw [Nat.testBit_lt_two_pow (Nat.lt_of_lt_of_le h (Nat.pow_le_pow_right (by omega) (by omega : n ≤ i)))]; simp
/-- What is linear is known by its bits. -/
theorem linN_zero (n : Nat) (f : Nat → Nat) (h0 : f 0 = 0) (hx : ∀ a b, f (a ^^^ b) = f a ^^^ f b) (hb : ∀ i, i < n → f (2 ^ i) = 0) (a : Nat) (ha : a < 2 ^ n) : f a = 0 := by
  have key : ∀ i, i ≤ n → f (bitsX a i) = 0 := fun i => by
    induction i with
    | zero => intro _; exact h0
    | succ i ih =>
      intro hi
      show f (bitsX a i ^^^ (if a.testBit i then 2 ^ i else 0)) = 0
      rw [hx, ih (by omega)]
      split
      · rw [hb i (by omega)]; rfl
      · rw [h0]; rfl
  have := key n (Nat.le_refl _)
  rwa [bitsX_all ha] at this
theorem linN_same (n : Nat) (f g : Nat → Nat) (hf0 : f 0 = 0) (hg0 : g 0 = 0) (hf : ∀ a b, f (a ^^^ b) = f a ^^^ f b) (hg : ∀ a b, g (a ^^^ b) = g a ^^^ g b) (hb : ∀ i, i < n → f (2 ^ i) = g (2 ^ i)) (a : Nat) (ha : a < 2 ^ n) : f a = g a :=
  xor_eq_zero_iff' (linN_zero n (fun a => f a ^^^ g a) (by show f 0 ^^^ g 0 = 0; rw [hf0, hg0]; rfl) (fun a b => by show f (a ^^^ b) ^^^ g (a ^^^ b) = _; rw [hf, hg, xor_mid]) (fun i hi => by show f (2 ^ i) ^^^ g (2 ^ i) = 0; rw [hb i hi, Nat.xor_self]) a ha)
/-- x times a block. -/
def mulx (a : Nat) : Nat := if a.testBit 127 then (a <<< 1) ^^^ (2 ^ 128 + 135) else a <<< 1
theorem mulx_xor (a b : Nat) : mulx (a ^^^ b) = mulx a ^^^ mulx b := by
  unfold mulx
  rw [Nat.testBit_xor, Nat.shiftLeft_xor_distrib]
  generalize a <<< 1 = x; generalize b <<< 1 = y; generalize 2 ^ 128 + 135 = z
  cases a.testBit 127 <;> cases b.testBit 127 <;> simp [Nat.xor_assoc] <;> simp [Nat.xor_comm y z, xor_left y z, xor_back]
theorem mulx_lt {a : Nat} (ha : a < 2 ^ 128) : mulx a < 2 ^ 128 := by
  apply Nat.lt_pow_two_of_testBit
  intro i hi
  unfold mulx
  have h2 : ∀ i, 128 ≤ i → a.testBit i = false := fun i h => Nat.testBit_lt_two_pow (Nat.lt_of_lt_of_le ha (Nat.pow_le_pow_right (by omega) h))
  by_cases h : i = 128
  · subst h
    split
    · rename_i h1
      rw [Nat.testBit_xor, Nat.testBit_shiftLeft]
      simp [h1]; decide
    · rename_i h1
      rw [Nat.testBit_shiftLeft]
      simp [h1]
  · have h3 : (a <<< 1).testBit i = false := by rw [Nat.testBit_shiftLeft, h2 (i - 1) (by omega)]; simp
    split
    · rw [Nat.testBit_xor, h3, Nat.testBit_lt_two_pow (Nat.lt_of_lt_of_le (show 2 ^ 128 + 135 < 2 ^ 129 by decide) (Nat.pow_le_pow_right (by omega) (by omega : 129 ≤ i)))]; rfl
    · exact h3
/-- x to the power k times a block. -/
def xk (a : Nat) : Nat → Nat
  | 0 => a
  | k + 1 => mulx (xk a k)
theorem xk_xor (a b : Nat) : ∀ k, xk (a ^^^ b) k = xk a k ^^^ xk b k
  | 0 => rfl
  | k + 1 => by show mulx (xk (a ^^^ b) k) = mulx (xk a k) ^^^ mulx (xk b k); rw [xk_xor a b k, mulx_xor]
theorem xk_lt {a : Nat} (ha : a < 2 ^ 128) : ∀ k, xk a k < 2 ^ 128
  | 0 => ha
  | k + 1 => mulx_lt (xk_lt ha k)
theorem xk_add (a j : Nat) : ∀ k, xk (xk a j) k = xk a (j + k)
  | 0 => rfl
  | k + 1 => by show mulx (xk (xk a j) k) = mulx (xk a (j + k)); rw [xk_add a j k]
theorem xk_one : ∀ i, i < 128 → xk 1 i = 2 ^ i := by decide +kernel
/-- The product. -/
def gmk (a b : Nat) : Nat → Nat
  | 0 => 0
  | i + 1 => gmk a b i ^^^ (if b.testBit i then xk a i else 0)
def gm (a b : Nat) : Nat := gmk a b 128
theorem gmk_lt {a : Nat} (ha : a < 2 ^ 128) (b : Nat) : ∀ i, gmk a b i < 2 ^ 128
  | 0 => by show 0 < _; decide
  | i + 1 => Nat.xor_lt_two_pow (gmk_lt ha b i) (by
      split
      · exact xk_lt ha i
      · decide)
theorem gm_lt {a : Nat} (ha : a < 2 ^ 128) (b : Nat) : gm a b < 2 ^ 128 := gmk_lt ha b 128
theorem gmk_left (a a' b : Nat) : ∀ i, gmk (a ^^^ a') b i = gmk a b i ^^^ gmk a' b i
  | 0 => by simp [gmk]
  | i + 1 => by
    show gmk (a ^^^ a') b i ^^^ _ = (gmk a b i ^^^ _) ^^^ (gmk a' b i ^^^ _)
    rw [gmk_left a a' b i, xor_mid]
    congr 1
    split
    · exact xk_xor a a' i
    · rfl
theorem gmk_right (a b b' : Nat) : ∀ i, gmk a (b ^^^ b') i = gmk a b i ^^^ gmk a b' i
  | 0 => by simp [gmk]
  | i + 1 => by
    show gmk a (b ^^^ b') i ^^^ _ = (gmk a b i ^^^ _) ^^^ (gmk a b' i ^^^ _)
    rw [gmk_right a b b' i, xor_mid, Nat.testBit_xor]
    congr 1
    cases b.testBit i <;> cases b'.testBit i <;> simp
theorem gm_left (a a' b : Nat) : gm (a ^^^ a') b = gm a b ^^^ gm a' b := gmk_left a a' b 128
theorem gm_right (a b b' : Nat) : gm a (b ^^^ b') = gm a b ^^^ gm a b' := gmk_right a b b' 128
theorem gm_zero_left (b : Nat) : gm 0 b = 0 := by have h := gm_left 0 0 b; rw [Nat.xor_self, Nat.xor_self] at h; exact h
theorem gm_zero_right (a : Nat) : gm a 0 = 0 := by have h := gm_right a 0 0; rw [Nat.xor_self, Nat.xor_self] at h; exact h
theorem gmk_bit (a j : Nat) : ∀ i, gmk a (2 ^ j) i = if j < i then xk a j else 0
  | 0 => rfl
  | i + 1 => by
    show gmk a (2 ^ j) i ^^^ (if (2 ^ j).testBit i then xk a i else 0) = _
    rw [gmk_bit a j i, Nat.testBit_two_pow]
    by_cases h : j = i
    · subst h; simp
    · have hd : decide (j = i) = false := by simp [h]
      rw [hd]
      simp only [Bool.false_eq_true, if_false, Nat.xor_zero]
      by_cases h2 : j < i
      · rw [if_pos h2, if_pos (by omega)]
      · rw [if_neg h2, if_neg (by omega)]
theorem gm_bit (a j : Nat) (hj : j < 128) : gm a (2 ^ j) = xk a j := by unfold gm; rw [gmk_bit, if_pos hj]
theorem gm_comm {a b : Nat} (ha : a < 2 ^ 128) (hb : b < 2 ^ 128) : gm a b = gm b a :=
  linN_same 128 (fun a => gm a b) (fun a => gm b a) (gm_zero_left b) (gm_zero_right b) (fun x y => gm_left x y b) (fun x y => gm_right b x y)
    (fun i hi => linN_same 128 (fun b => gm (2 ^ i) b) (fun b => gm b (2 ^ i)) (gm_zero_right _) (gm_zero_left _) (fun x y => gm_right _ x y) (fun x y => gm_left x y _)
      (fun j hj => by show gm (2 ^ i) (2 ^ j) = gm (2 ^ j) (2 ^ i); rw [gm_bit _ _ hj, gm_bit _ _ hi, ← xk_one i hi, ← xk_one j hj, xk_add, xk_add, Nat.add_comm]) b hb) a ha
/-- The document: all products of powers .. -/
def cm (a b : Nat) : Nat → Nat
  | 0 => 0
  | i + 1 => cm a b i ^^^ (if a.testBit i then bitsX b 128 <<< i else 0)
end Go.Proofs.YtpkmidaflnbobaaGreatDoor
end
