/-
  SHA-512 in numbers, plain: what both the code and the document's own answer come to.
-/
import Derived.Test.YtokggppfobbblaaDoorShaQ
namespace Go.Proofs.YtokggppfobbblaaDoor
set_option linter.unusedVariables false
set_option linter.unusedSimpArgs false

/-- x turned right by n of 32 bits. -/
def rotrL (x n : Nat) : Nat := x / 2 ^ n + x % 2 ^ n * 2 ^ (64 - n)
/-- One bit at a time. -/
def turn1L (x : Nat) : Nat := x / 2 + x % 2 * 9223372036854775808
def turnNL : Nat → Nat → Nat
  | x, 0 => x
  | x, n + 1 => turn1L (turnNL x n)

theorem rotrL_zero (x : Nat) : rotrL x 0 = x := by simp [rotrL, Nat.mod_one]
theorem rotrL_succ (x n : Nat) (hn : n < 64) : rotrL x (n + 1) = turn1L (rotrL x n) := by
  unfold rotrL turn1L
  have h1 : (2 : Nat) ^ (64 - n) = 2 * 2 ^ (64 - (n + 1)) := by
    rw [show 64 - n = (64 - (n + 1)) + 1 by omega, Nat.pow_succ, Nat.mul_comm]
  have hd : x / 2 ^ (n + 1) = x / 2 ^ n / 2 := by rw [Nat.pow_succ, Nat.div_div_eq_div_mul]
  have hm : x % 2 ^ (n + 1) = x % 2 ^ n + 2 ^ n * (x / 2 ^ n % 2) := by
    rw [Nat.pow_succ, Nat.mod_mul]
  have h31 : 2 ^ n * 2 ^ (64 - (n + 1)) = 9223372036854775808 := by
    rw [← Nat.pow_add, show n + (64 - (n + 1)) = 63 by omega]
  rw [hd, hm, h1]
  generalize x / 2 ^ n = q
  generalize x % 2 ^ n = r
  generalize 2 ^ (64 - (n + 1)) = u at *
  generalize 2 ^ n = v at *
  have e1 : r * (2 * u) = 2 * (r * u) := by rw [Nat.mul_left_comm]
  rw [e1, Nat.add_mul, show v * (q % 2) * u = (v * u) * (q % 2) by rw [Nat.mul_right_comm], h31]
  omega
theorem turnNL_eq (x n : Nat) (hn : n ≤ 64) : turnNL x n = rotrL x n := by
  induction n with
  | zero => rw [turnNL, rotrL_zero]
  | succ n ih => rw [turnNL, ih (by omega), rotrL_succ x n (by omega)]
theorem turn1L_lt (x : Nat) (h : x < 18446744073709551616) : turn1L x < 18446744073709551616 := by unfold turn1L; omega
theorem rotrL_lt (x n : Nat) (h : x < 18446744073709551616) (hn : n ≤ 64) : rotrL x n < 18446744073709551616 := by
  rw [← turnNL_eq x n hn]
  clear hn
  induction n with
  | zero => exact h
  | succ n ih => exact turn1L_lt _ ih

def S0L (x : Nat) : Nat := rotrL x 28 ^^^ rotrL x 34 ^^^ rotrL x 39
def S1L (x : Nat) : Nat := rotrL x 14 ^^^ rotrL x 18 ^^^ rotrL x 41
def s0L (x : Nat) : Nat := rotrL x 1 ^^^ rotrL x 8 ^^^ x / 128
def s1L (x : Nat) : Nat := rotrL x 19 ^^^ rotrL x 61 ^^^ x / 64
def chL (e f g : Nat) : Nat := (e &&& f) ^^^ ((18446744073709551615 - e) &&& g)
def majL (a b c : Nat) : Nat := (a &&& b) ^^^ (a &&& c) ^^^ (b &&& c)

theorem xor3L_lt (a b c : Nat) (ha : a < 18446744073709551616) (hb : b < 18446744073709551616) (hc : c < 18446744073709551616) : a ^^^ b ^^^ c < 18446744073709551616 :=
  Nat.xor_lt_two_pow (n := 64) (Nat.xor_lt_two_pow (n := 64) ha hb) hc
theorem S0L_lt (x : Nat) (h : x < 18446744073709551616) : S0L x < 18446744073709551616 := xor3L_lt _ _ _ (rotrL_lt _ _ h (by omega)) (rotrL_lt _ _ h (by omega)) (rotrL_lt _ _ h (by omega))
theorem S1L_lt (x : Nat) (h : x < 18446744073709551616) : S1L x < 18446744073709551616 := xor3L_lt _ _ _ (rotrL_lt _ _ h (by omega)) (rotrL_lt _ _ h (by omega)) (rotrL_lt _ _ h (by omega))
theorem s0L_lt (x : Nat) (h : x < 18446744073709551616) : s0L x < 18446744073709551616 := xor3L_lt _ _ _ (rotrL_lt _ _ h (by omega)) (rotrL_lt _ _ h (by omega)) (by omega)
theorem s1L_lt (x : Nat) (h : x < 18446744073709551616) : s1L x < 18446744073709551616 := xor3L_lt _ _ _ (rotrL_lt _ _ h (by omega)) (rotrL_lt _ _ h (by omega)) (by omega)
theorem chL_lt (e f g : Nat) (he : e < 18446744073709551616) (hf : f < 18446744073709551616) (hg : g < 18446744073709551616) : chL e f g < 18446744073709551616 :=
  Nat.xor_lt_two_pow (n := 64) (Nat.and_lt_two_pow _ hf) (Nat.and_lt_two_pow _ hg)
theorem majL_lt (a b c : Nat) (hb : b < 18446744073709551616) (hc : c < 18446744073709551616) : majL a b c < 18446744073709551616 :=
  xor3L_lt _ _ _ (Nat.and_lt_two_pow (n := 64) _ hb) (Nat.and_lt_two_pow (n := 64) _ hc) (Nat.and_lt_two_pow (n := 64) _ hc)

theorem chL_bit (e f g i : Nat) (he : e < 18446744073709551616) (hi : i < 64) : chL e f g / 2 ^ i % 2 = if e / 2 ^ i % 2 = 1 then f / 2 ^ i % 2 else g / 2 ^ i % 2 := by
  have h2 : (18446744073709551615 - e).testBit i = !e.testBit i := by
    have := Nat.testBit_two_pow_sub_succ (n := 64) he i
    rw [show (2 : Nat) ^ 64 - (e + 1) = 18446744073709551615 - e by omega] at this
    rw [this]; simp [hi]
  rw [bit_of, bit_of, bit_of, bit_of]
  unfold chL
  rw [Nat.testBit_xor, Nat.testBit_and, Nat.testBit_and, h2]
  cases e.testBit i <;> cases f.testBit i <;> cases g.testBit i <;> rfl
theorem majL_bit (a b c i : Nat) : majL a b c / 2 ^ i % 2 = if 2 ≤ a / 2 ^ i % 2 + b / 2 ^ i % 2 + c / 2 ^ i % 2 then 1 else 0 := by
  rw [bit_of, bit_of, bit_of, bit_of]
  unfold majL
  rw [Nat.testBit_xor, Nat.testBit_xor, Nat.testBit_and, Nat.testBit_and, Nat.testBit_and]
  cases a.testBit i <;> cases b.testBit i <;> cases c.testBit i <;> rfl

/-- The code's way to turn. -/
theorem rotrL_or (x n : Nat) (hx : x < 18446744073709551616) (hn : 0 < n) (hn2 : n < 64) : (x * 2 ^ (64 - n) % 18446744073709551616) ||| (x / 2 ^ n) = rotrL x n := by
  have h1 : x * 2 ^ (64 - n) % 18446744073709551616 = 2 ^ (64 - n) * (x % 2 ^ n) := by
    rw [show (18446744073709551616 : Nat) = 2 ^ (64 - n) * 2 ^ n by rw [← Nat.pow_add, show 64 - n + n = 64 by omega], Nat.mul_comm x, Nat.mul_mod_mul_left]
  have h2 : x / 2 ^ n < 2 ^ (64 - n) := by
    rw [Nat.div_lt_iff_lt_mul (Nat.two_pow_pos n), ← Nat.pow_add, show 64 - n + n = 64 by omega]
    exact hx
  rw [h1, ← Nat.two_pow_add_eq_or_of_lt h2, rotrL, Nat.mul_comm, Nat.add_comm]

def St.okL (s : St) : Prop := s.a < 18446744073709551616 ∧ s.b < 18446744073709551616 ∧ s.c < 18446744073709551616 ∧ s.d < 18446744073709551616 ∧ s.e < 18446744073709551616 ∧ s.f < 18446744073709551616 ∧ s.g < 18446744073709551616 ∧ s.h < 18446744073709551616
def t1L (s : St) (k w : Nat) : Nat := s.h + S1L s.e + chL s.e s.f s.g + k + w
def t2L (s : St) : Nat := S0L s.a + majL s.a s.b s.c
def St.stepL (s : St) (k w : Nat) : St := ⟨(t1L s k w + t2L s) % 18446744073709551616, s.a, s.b, s.c, (s.d + t1L s k w) % 18446744073709551616, s.e, s.f, s.g⟩
theorem St.stepL_ok (s : St) (k w : Nat) (h : s.okL) : (s.stepL k w).okL := by
  obtain ⟨h1, h2, h3, h4, h5, h6, h7, h8⟩ := h
  exact ⟨Nat.mod_lt _ (by omega), h1, h2, h3, Nat.mod_lt _ (by omega), h5, h6, h7⟩
def rndL (K W : List Nat) (s : St) : Nat → St
  | 0 => s
  | t + 1 => (rndL K W s t).stepL (K.getD t 0) (W.getD t 0)
theorem rndL_ok (K W : List Nat) (s : St) (h : s.okL) (t : Nat) : (rndL K W s t).okL := by
  induction t with
  | zero => exact h
  | succ t ih => exact St.stepL_ok _ _ _ ih
def St.plusL (s v : St) : St := ⟨(s.a + v.a) % 18446744073709551616, (s.b + v.b) % 18446744073709551616, (s.c + v.c) % 18446744073709551616, (s.d + v.d) % 18446744073709551616, (s.e + v.e) % 18446744073709551616, (s.f + v.f) % 18446744073709551616, (s.g + v.g) % 18446744073709551616, (s.h + v.h) % 18446744073709551616⟩
theorem St.plusL_ok (s v : St) : (s.plusL v).okL := ⟨Nat.mod_lt _ (by omega), Nat.mod_lt _ (by omega), Nat.mod_lt _ (by omega), Nat.mod_lt _ (by omega), Nat.mod_lt _ (by omega), Nat.mod_lt _ (by omega), Nat.mod_lt _ (by omega), Nat.mod_lt _ (by omega)⟩

/-- A word of 8 bytes, the t-th of a block. -/
def word8 (m : List UInt8) (t : Nat) : Nat := beNum 0 ((m.drop (8 * t)).take 8)
theorem word8_lt (m : List UInt8) (t : Nat) : word8 m t < 18446744073709551616 := by
  have h := beNum_lt 0 ((m.drop (8 * t)).take 8)
  have hl : ((m.drop (8 * t)).take 8).length ≤ 8 := List.length_take_le _ _
  have h2 : (256 : Nat) ^ ((m.drop (8 * t)).take 8).length ≤ 256 ^ 8 := Nat.pow_le_pow_right (by omega) hl
  unfold word8
  omega
/-- The first t words of a block, gone on. -/
def wordsToL (m : List UInt8) : Nat → List Nat
  | 0 => []
  | t + 1 => let w := wordsToL m t
    w ++ [if t < 16 then word8 m t else (s1L (w.getD (t - 2) 0) + w.getD (t - 7) 0 + s0L (w.getD (t - 15) 0) + w.getD (t - 16) 0) % 18446744073709551616]
@[simp] theorem wordsToL_length (m : List UInt8) (t : Nat) : (wordsToL m t).length = t := by
  induction t with
  | zero => rfl
  | succ t ih => simp [wordsToL, ih]
theorem wordsToL_lt (m : List UInt8) (t : Nat) : ∀ x ∈ wordsToL m t, x < 18446744073709551616 := by
  induction t with
  | zero => intro x hx; simp [wordsToL] at hx
  | succ t ih =>
    intro x hx
    simp only [wordsToL, List.mem_append, List.mem_singleton] at hx
    rcases hx with hx | rfl
    · exact ih x hx
    · split
      · exact word8_lt _ _
      · exact Nat.mod_lt _ (by omega)
def mixL (K : List Nat) (s : St) (m : List UInt8) : St := s.plusL (rndL K (wordsToL m 80) s 80)
theorem mixL_ok (K : List Nat) (s : St) (m : List UInt8) : (mixL K s m).okL := St.plusL_ok _ _
/-- Through n whole blocks. -/
def blocksL (K : List Nat) : Nat → St → List UInt8 → St
  | 0, s, _ => s
  | n + 1, s, m => blocksL K n (mixL K s (m.take 128)) (m.drop 128)
def St.bytesL (s : St) : List UInt8 := s.list.flatMap (beBytes 8)
/-- The 80 constants. -/
def kTabL : List Nat := [
  0x428a2f98d728ae22, 0x7137449123ef65cd, 0xb5c0fbcfec4d3b2f, 0xe9b5dba58189dbbc,
  0x3956c25bf348b538, 0x59f111f1b605d019, 0x923f82a4af194f9b, 0xab1c5ed5da6d8118,
  0xd807aa98a3030242, 0x12835b0145706fbe, 0x243185be4ee4b28c, 0x550c7dc3d5ffb4e2,
  0x72be5d74f27b896f, 0x80deb1fe3b1696b1, 0x9bdc06a725c71235, 0xc19bf174cf692694,
  0xe49b69c19ef14ad2, 0xefbe4786384f25e3, 0x0fc19dc68b8cd5b5, 0x240ca1cc77ac9c65,
  0x2de92c6f592b0275, 0x4a7484aa6ea6e483, 0x5cb0a9dcbd41fbd4, 0x76f988da831153b5,
  0x983e5152ee66dfab, 0xa831c66d2db43210, 0xb00327c898fb213f, 0xbf597fc7beef0ee4,
  0xc6e00bf33da88fc2, 0xd5a79147930aa725, 0x06ca6351e003826f, 0x142929670a0e6e70,
  0x27b70a8546d22ffc, 0x2e1b21385c26c926, 0x4d2c6dfc5ac42aed, 0x53380d139d95b3df,
  0x650a73548baf63de, 0x766a0abb3c77b2a8, 0x81c2c92e47edaee6, 0x92722c851482353b,
  0xa2bfe8a14cf10364, 0xa81a664bbc423001, 0xc24b8b70d0f89791, 0xc76c51a30654be30,
  0xd192e819d6ef5218, 0xd69906245565a910, 0xf40e35855771202a, 0x106aa07032bbd1b8,
  0x19a4c116b8d2d0c8, 0x1e376c085141ab53, 0x2748774cdf8eeb99, 0x34b0bcb5e19b48a8,
  0x391c0cb3c5c95a63, 0x4ed8aa4ae3418acb, 0x5b9cca4f7763e373, 0x682e6ff3d6b2b8a3,
  0x748f82ee5defb2fc, 0x78a5636f43172f60, 0x84c87814a1f0ab72, 0x8cc702081a6439ec,
  0x90befffa23631e28, 0xa4506cebde82bde9, 0xbef9a3f7b2c67915, 0xc67178f2e372532b,
  0xca273eceea26619c, 0xd186b8c721c0c207, 0xeada7dd6cde0eb1e, 0xf57d4f7fee6ed178,
  0x06f067aa72176fba, 0x0a637dc5a2c898a6, 0x113f9804bef90dae, 0x1b710b35131c471b,
  0x28db77f523047d84, 0x32caab7b40c72493, 0x3c9ebe0a15c9bebc, 0x431d67c49c100d4c,
  0x4cc5d4becb3e42b6, 0x597f299cfc657e2a, 0x5fcb6fab3ad6faec, 0x6c44198c4a475817]
/-- The 8 beginnings. -/
def ivL : St := ⟨0x6a09e667f3bcc908, 0xbb67ae8584caa73b, 0x3c6ef372fe94f82b, 0xa54ff53a5f1d36f1, 0x510e527fade682d1, 0x9b05688c2b3e6c1f, 0x1f83d9abfb41bd6b, 0x5be0cd19137e2179⟩
theorem kTabL_length : kTabL.length = 80 := rfl
theorem kTabL_lt (j : Nat) : kTabL.getD j 0 < 18446744073709551616 := by
  by_cases h : j < kTabL.length
  · rw [List.getD_eq_getElem?_getD, List.getElem?_eq_getElem h]
    have : ∀ x ∈ kTabL, x < 18446744073709551616 := by decide
    exact this _ (List.getElem_mem h)
  · rw [List.getD_eq_getElem?_getD, List.getElem?_eq_none (by omega)]; decide
theorem ivL_ok : ivL.okL := by unfold ivL St.okL; decide
theorem St.list_ltL (s : St) (h : s.okL) : ∀ x ∈ s.list, x < 18446744073709551616 := by
  obtain ⟨h1, h2, h3, h4, h5, h6, h7, h8⟩ := h
  intro x hx
  simp only [St.list, List.mem_cons, List.not_mem_nil, or_false] at hx
  rcases hx with rfl | rfl | rfl | rfl | rfl | rfl | rfl | rfl <;> assumption
end Go.Proofs.YtokggppfobbblaaDoor
