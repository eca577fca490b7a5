/-
  Texts of this claim in one file: AesP.
-/
import Derived.Test.YtpkmidaflnbobaaGreatDoorPk21
section
namespace Go.Proofs.YtpkmidaflnbobaaGreatDoor
set_option linter.unusedVariables false
set_option linter.unusedSimpArgs false
theorem bit_is (b i : Nat) : (b / 2 ^ i % 2 = 1) ↔ b.testBit i = true := by
  rw [Nat.testBit_eq_decide_div_mod_eq]; simp
theorem xor_mid (a b c d : Nat) : (a ^^^ b) ^^^ (c ^^^ d) = (a ^^^ c) ^^^ (b ^^^ d) := by
  rw [Nat.xor_assoc, Nat.xor_assoc, ← Nat.xor_assoc b c d, Nat.xor_comm b c, Nat.xor_assoc c b d]
theorem xor_mul_pow (a b i : Nat) : (a ^^^ b) * 2 ^ i = (a * 2 ^ i) ^^^ (b * 2 ^ i) := by
  rw [← Nat.shiftLeft_eq, ← Nat.shiftLeft_eq, ← Nat.shiftLeft_eq, Nat.shiftLeft_xor_distrib]
/-- Linear in the first. -/
theorem xor_left (a b c : Nat) : a ^^^ (b ^^^ c) = b ^^^ (a ^^^ c) := by rw [← Nat.xor_assoc, Nat.xor_comm a b, Nat.xor_assoc]
theorem xor_back (a b : Nat) : a ^^^ (a ^^^ b) = b := by rw [← Nat.xor_assoc, Nat.xor_self, Nat.zero_xor]
theorem tm1_xor_left (a a' b : Nat) : ∀ i, tm1 (a ^^^ a') b i = tm1 a b i ^^^ tm1 a' b i
  | 0 => by simp [tm1]
  | i + 1 => by
    have h := tm1_xor_left a a' b i
    unfold tm1
    by_cases hb : b / 2 ^ i % 2 = 1
    · rw [if_pos hb, if_pos hb, if_pos hb, h, xor_mul_pow, xor_mid]
    · rw [if_neg hb, if_neg hb, if_neg hb, h]
theorem tm1_xor_right (a b b' : Nat) : ∀ i, tm1 a (b ^^^ b') i = tm1 a b i ^^^ tm1 a b' i
  | 0 => by simp [tm1]
  | i + 1 => by
    have h := tm1_xor_right a b b' i
    unfold tm1
    have hx : ((b ^^^ b') / 2 ^ i % 2 = 1) ↔ (b.testBit i ^^ b'.testBit i) = true := by rw [bit_is, Nat.testBit_xor]
    have h1 := bit_is b i
    have h2 := bit_is b' i
    simp only [hx, h1, h2, h]
    generalize tm1 a b i = x; generalize tm1 a b' i = y; generalize a * 2 ^ i = z
    cases b.testBit i <;> cases b'.testBit i <;> simp [Nat.xor_assoc] <;> simp [Nat.xor_comm y z, xor_left y z, xor_back]
theorem tm2_xor (n m : Nat) : ∀ k, tm2 (n ^^^ m) k = tm2 n k ^^^ tm2 m k
  | 0 => rfl
  | k + 1 => by
    have h := tm2_xor n m k
    unfold tm2
    rw [h]
    have hx : ((tm2 n k ^^^ tm2 m k) / 2 ^ (14 - k) % 2 = 1) ↔ ((tm2 n k).testBit (14 - k) ^^ (tm2 m k).testBit (14 - k)) = true := by rw [bit_is, Nat.testBit_xor]
    have h1 := bit_is (tm2 n k) (14 - k)
    have h2 := bit_is (tm2 m k) (14 - k)
    simp only [hx, h1, h2]
    generalize (tm2 n k).testBit (14 - k) = p; generalize (tm2 m k).testBit (14 - k) = q; generalize tm2 n k = x; generalize tm2 m k = y; generalize 283 * 2 ^ (6 - k) = z
    cases p <;> cases q <;> simp [Nat.xor_assoc] <;> simp [Nat.xor_comm y z, xor_left y z, xor_back]
theorem tm_xor_left (a a' b : Nat) : tmN (a ^^^ a') b = tmN a b ^^^ tmN a' b := by unfold tmN; rw [tm1_xor_left, tm2_xor]
theorem tm_xor_right (a b b' : Nat) : tmN a (b ^^^ b') = tmN a b ^^^ tmN a b' := by unfold tmN; rw [tm1_xor_right, tm2_xor]
/-- A byte is the sum of its bits. -/
def bitsX (a : Nat) : Nat → Nat
  | 0 => 0
  | i + 1 => bitsX a i ^^^ (if a.testBit i then 2 ^ i else 0)
theorem bitsX_8 : ∀ a, a < 256 → bitsX a 8 = a := by decide +kernel
/-- What is linear and nothing at each bit is nothing at each byte. -/
theorem lin_zero (f : Nat → Nat) (h0 : f 0 = 0) (hx : ∀ a b, f (a ^^^ b) = f a ^^^ f b) (hb : ∀ i, i < 8 → f (2 ^ i) = 0) : ∀ a, a < 256 → f a = 0 := fun a ha => by
  have key : ∀ i, i ≤ 8 → f (bitsX a i) = 0 := fun i => by
    induction i with
    | zero => intro _; exact h0
    | succ i ih =>
      intro hi
      show f (bitsX a i ^^^ (if a.testBit i then 2 ^ i else 0)) = 0
      rw [hx, ih (by omega)]
      split
      · rw [hb i (by omega)]; rfl
      · rw [h0]; rfl
  have := key 8 (Nat.le_refl _)
  rwa [bitsX_8 a ha] at this
theorem xor_eq_zero_iff' {a b : Nat} (h : a ^^^ b = 0) : a = b := by
  have : a ^^^ (a ^^^ b) = a := by rw [h, Nat.xor_zero]
  rw [← Nat.xor_assoc, Nat.xor_self, Nat.zero_xor] at this
  exact this.symm
/-- Two that are linear are the same if they are at each bit. -/
theorem lin_same (f g : Nat → Nat) (hf0 : f 0 = 0) (hg0 : g 0 = 0) (hf : ∀ a b, f (a ^^^ b) = f a ^^^ f b) (hg : ∀ a b, g (a ^^^ b) = g a ^^^ g b) (hb : ∀ i, i < 8 → f (2 ^ i) = g (2 ^ i)) : ∀ a, a < 256 → f a = g a := fun a ha =>
  xor_eq_zero_iff' (lin_zero (fun a => f a ^^^ g a) (by show f 0 ^^^ g 0 = 0; rw [hf0, hg0]; rfl) (fun a b => by show f (a ^^^ b) ^^^ g (a ^^^ b) = _; rw [hf, hg, xor_mid]) (fun i hi => by show f (2 ^ i) ^^^ g (2 ^ i) = 0; rw [hb i hi, Nat.xor_self]) a ha)
theorem tm_zero_left (b : Nat) : tmN 0 b = 0 := by have := tm_xor_left 0 0 b; rw [Nat.xor_self, Nat.xor_self] at this; exact this
theorem tm_zero_right (a : Nat) : tmN a 0 = 0 := by have := tm_xor_right a 0 0; rw [Nat.xor_self, Nat.xor_self] at this; exact this
theorem tm_bits : ∀ i, i < 8 → ∀ j, j < 8 → tmN (2 ^ i) (2 ^ j) = tmN (2 ^ j) (2 ^ i) := by decide +kernel
theorem tm_comm {a b : Nat} (ha : a < 256) (hb : b < 256) : tmN a b = tmN b a :=
  lin_same (fun a => tmN a b) (fun a => tmN b a) (tm_zero_left b) (tm_zero_right b) (fun x y => tm_xor_left x y b) (fun x y => tm_xor_right b x y)
    (fun i hi => lin_same (fun b => tmN (2 ^ i) b) (fun b => tmN b (2 ^ i)) (tm_zero_right _) (tm_zero_left _) (fun x y => tm_xor_right _ x y) (fun x y => tm_xor_left x y _) (fun j hj => tm_bits i hi j hj) b hb) a ha
theorem tm_bits3 : ∀ i, i < 8 → ∀ j, j < 8 → ∀ k, k < 8 → tmN (tmN (2 ^ i) (2 ^ j)) (2 ^ k) = tmN (2 ^ i) (tmN (2 ^ j) (2 ^ k)) := by decide +kernel
theorem tm_assoc {a b c : Nat} (ha : a < 256) (hb : b < 256) (hc : c < 256) : tmN (tmN a b) c = tmN a (tmN b c) :=
  lin_same (fun a => tmN (tmN a b) c) (fun a => tmN a (tmN b c)) (by show tmN (tmN 0 b) c = 0; rw [tm_zero_left, tm_zero_left]) (tm_zero_left _) (fun x y => by show tmN (tmN (x ^^^ y) b) c = _; rw [tm_xor_left, tm_xor_left]) (fun x y => tm_xor_left x y _)
    (fun i hi => lin_same (fun b => tmN (tmN (2 ^ i) b) c) (fun b => tmN (2 ^ i) (tmN b c)) (by show tmN (tmN _ 0) c = 0; rw [tm_zero_right, tm_zero_left]) (by show tmN _ (tmN 0 c) = 0; rw [tm_zero_left, tm_zero_right]) (fun x y => by show tmN (tmN _ (x ^^^ y)) c = _; rw [tm_xor_right, tm_xor_left]) (fun x y => by show tmN _ (tmN (x ^^^ y) c) = _; rw [tm_xor_left, tm_xor_right])
      (fun j hj => lin_same (fun c => tmN (tmN (2 ^ i) (2 ^ j)) c) (fun c => tmN (2 ^ i) (tmN (2 ^ j) c)) (tm_zero_right _) (by show tmN _ (tmN _ 0) = 0; rw [tm_zero_right, tm_zero_right]) (fun x y => tm_xor_right _ x y) (fun x y => by show tmN _ (tmN _ (x ^^^ y)) = _; rw [tm_xor_right, tm_xor_right])
        (fun k hk => tm_bits3 i hi j hj k hk) c hc) b hb) a ha
theorem tm_one : ∀ a, a < 256 → tmN a 1 = a := by decide +kernel
/-- What is linear and small at each bit is small. -/
theorem lin_lt (f : Nat → Nat) (h0 : f 0 = 0) (hx : ∀ a b, f (a ^^^ b) = f a ^^^ f b) (hb : ∀ i, i < 8 → f (2 ^ i) < 256) : ∀ a, a < 256 → f a < 256 := fun a ha => by
  have key : ∀ i, i ≤ 8 → f (bitsX a i) < 2 ^ 8 := fun i => by
    induction i with
    | zero => intro _; show f 0 < _; rw [h0]; decide
    | succ i ih =>
      intro hi
      show f (bitsX a i ^^^ (if a.testBit i then 2 ^ i else 0)) < _
      rw [hx]
      refine Nat.xor_lt_two_pow (ih (by omega)) ?_
      split
      · exact hb i (by omega)
      · rw [h0]; decide
  have := key 8 (Nat.le_refl _)
  rwa [bitsX_8 a ha] at this
theorem tm_bits_lt : ∀ i, i < 8 → ∀ j, j < 8 → tmN (2 ^ i) (2 ^ j) < 256 := by decide +kernel
theorem tm_lt {a b : Nat} (ha : a < 256) (hb : b < 256) : tmN a b < 256 :=
  lin_lt (fun a => tmN a b) (tm_zero_left b) (fun x y => tm_xor_left x y b) (fun i hi => lin_lt (fun b => tmN (2 ^ i) b) (tm_zero_right _) (fun x y => tm_xor_right _ x y) (fun j hj => tm_bits_lt i hi j hj) b hb) a ha
/-- The inverse of each byte. -/
def invT : Array Nat := #[0, 1, 141, 246, 203, 82, 123, 209, 232, 79, 41, 192, 176, 225, 229, 199, 116, 180, 170, 75, 153, 43, 96, 95, 88, 63, 253, 204, 255, 64, 238, 178, 58, 110, 90, 241, 85, 77, 168, 201, 193, 10, 152, 21, 48, 68, 162, 194, 44, 69, 146, 108, 243, 57, 102, 66, 242, 53, 32, 111, 119, 187, 89, 25, 29, 254, 55, 103, 45, 49, 245, 105, 167, 100, 171, 19, 84, 37, 233, 9, 237, 92, 5, 202, 76, 36, 135, 191, 24, 62, 34, 240, 81, 236, 97, 23, 22, 94, 175, 211, 73, 166, 54, 67, 244, 71, 145, 223, 51, 147, 33, 59, 121, 183, 151, 133, 16, 181, 186, 60, 182, 112, 208, 6, 161, 250, 129, 130, 131, 126, 127, 128, 150, 115, 190, 86, 155, 158, 149, 217, 247, 2, 185, 164, 222, 106, 50, 109, 216, 138, 132, 114, 42, 20, 159, 136, 249, 220, 137, 154, 251, 124, 46, 195, 143, 184, 101, 72, 38, 200, 18, 74, 206, 231, 210, 98, 12, 224, 31, 239, 17, 117, 120, 113, 165, 142, 118, 61, 189, 188, 134, 87, 11, 40, 47, 163, 218, 212, 228, 15, 169, 39, 83, 4, 27, 252, 172, 230, 122, 7, 174, 99, 197, 219, 226, 234, 148, 139, 196, 213, 157, 248, 144, 107, 177, 13, 214, 235, 198, 14, 207, 173, 8, 78, 215, 227, 93, 80, 30, 179, 91, 35, 56, 52, 104, 70, 3, 140, 221, 156, 125, 160, 205, 26, 65, 28]
def invN (a : Nat) : Nat := invT.getD a 0
theorem inv_is : ∀ a, a < 256 → invN a < 256 ∧ (a ≠ 0 → tmN a (invN a) = 1) := by decide +kernel
end Go.Proofs.YtpkmidaflnbobaaGreatDoor
end
