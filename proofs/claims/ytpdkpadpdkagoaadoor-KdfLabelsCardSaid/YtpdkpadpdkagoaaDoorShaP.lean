/-
  SHA-256 in numbers, plain: what both the code and the document's own answer come to.
  SHA-256 in numbers, plain, continued: the digest's bytes, what is put behind the text.
  SHA-256 in numbers, plain: blocks one behind the other; what is written part by part.
-/
import Derived.Test.YtpdkpadpdkagoaaDoorBytes
namespace Go.Proofs.YtpdkpadpdkagoaaDoor
section
set_option linter.unusedVariables false
set_option linter.unusedSimpArgs false

/-- x turned right by n of 32 bits. -/
def rotr (x n : Nat) : Nat := x / 2 ^ n + x % 2 ^ n * 2 ^ (32 - n)
/-- One bit at a time. -/
def turn1 (x : Nat) : Nat := x / 2 + x % 2 * 2147483648
def turnN : Nat → Nat → Nat
  | x, 0 => x
  | x, n + 1 => turn1 (turnN x n)

theorem rotr_zero (x : Nat) : rotr x 0 = x := by simp [rotr, Nat.mod_one]
theorem rotr_succ (x n : Nat) (hn : n < 32) : rotr x (n + 1) = turn1 (rotr x n) := by
  unfold rotr turn1
  have h1 : (2 : Nat) ^ (32 - n) = 2 * 2 ^ (32 - (n + 1)) := by
    rw [show 32 - n = (32 - (n + 1)) + 1 by omega, Nat.pow_succ, Nat.mul_comm]
  have hd : x / 2 ^ (n + 1) = x / 2 ^ n / 2 := by rw [Nat.pow_succ, Nat.div_div_eq_div_mul]
  have hm : x % 2 ^ (n + 1) = x % 2 ^ n + 2 ^ n * (x / 2 ^ n % 2) := by
    rw [Nat.pow_succ, Nat.mod_mul]
  have h31 : 2 ^ n * 2 ^ (32 - (n + 1)) = 2147483648 := by
    rw [← Nat.pow_add, show n + (32 - (n + 1)) = 31 by omega]
  rw [hd, hm, h1]
  generalize x / 2 ^ n = q
  generalize x % 2 ^ n = r
  generalize 2 ^ (32 - (n + 1)) = u at *
  generalize 2 ^ n = v at *
  have e1 : r * (2 * u) = 2 * (r * u) := by rw [Nat.mul_left_comm]
  rw [e1, Nat.add_mul, show v * (q % 2) * u = (v * u) * (q % 2) by rw [Nat.mul_right_comm], h31]
  omega
theorem turnN_eq (x n : Nat) (hn : n ≤ 32) : turnN x n = rotr x n := by
  induction n with
  | zero => rw [turnN, rotr_zero]
  | succ n ih => rw [turnN, ih (by omega), rotr_succ x n (by omega)]
theorem turn1_lt (x : Nat) (h : x < 4294967296) : turn1 x < 4294967296 := by unfold turn1; omega
theorem rotr_lt (x n : Nat) (h : x < 4294967296) (hn : n ≤ 32) : rotr x n < 4294967296 := by
  rw [← turnN_eq x n hn]
  clear hn
  induction n with
  | zero => exact h
  | succ n ih => exact turn1_lt _ ih

def S0 (x : Nat) : Nat := rotr x 2 ^^^ rotr x 13 ^^^ rotr x 22
def S1 (x : Nat) : Nat := rotr x 6 ^^^ rotr x 11 ^^^ rotr x 25
def s0 (x : Nat) : Nat := rotr x 7 ^^^ rotr x 18 ^^^ x / 8
def s1 (x : Nat) : Nat := rotr x 17 ^^^ rotr x 19 ^^^ x / 1024
def chN (e f g : Nat) : Nat := (e &&& f) ^^^ ((4294967295 - e) &&& g)
def majN (a b c : Nat) : Nat := (a &&& b) ^^^ (a &&& c) ^^^ (b &&& c)

theorem xor3_lt (a b c : Nat) (ha : a < 4294967296) (hb : b < 4294967296) (hc : c < 4294967296) : a ^^^ b ^^^ c < 4294967296 :=
  Nat.xor_lt_two_pow (n := 32) (Nat.xor_lt_two_pow (n := 32) ha hb) hc
theorem S0_lt (x : Nat) (h : x < 4294967296) : S0 x < 4294967296 := xor3_lt _ _ _ (rotr_lt _ _ h (by omega)) (rotr_lt _ _ h (by omega)) (rotr_lt _ _ h (by omega))
theorem S1_lt (x : Nat) (h : x < 4294967296) : S1 x < 4294967296 := xor3_lt _ _ _ (rotr_lt _ _ h (by omega)) (rotr_lt _ _ h (by omega)) (rotr_lt _ _ h (by omega))
theorem s0_lt (x : Nat) (h : x < 4294967296) : s0 x < 4294967296 := xor3_lt _ _ _ (rotr_lt _ _ h (by omega)) (rotr_lt _ _ h (by omega)) (by omega)
theorem s1_lt (x : Nat) (h : x < 4294967296) : s1 x < 4294967296 := xor3_lt _ _ _ (rotr_lt _ _ h (by omega)) (rotr_lt _ _ h (by omega)) (by omega)
theorem chN_lt (e f g : Nat) (he : e < 4294967296) (hf : f < 4294967296) (hg : g < 4294967296) : chN e f g < 4294967296 :=
  Nat.xor_lt_two_pow (n := 32) (Nat.and_lt_two_pow _ hf) (Nat.and_lt_two_pow _ hg)
theorem majN_lt (a b c : Nat) (hb : b < 4294967296) (hc : c < 4294967296) : majN a b c < 4294967296 :=
  xor3_lt _ _ _ (Nat.and_lt_two_pow (n := 32) _ hb) (Nat.and_lt_two_pow (n := 32) _ hc) (Nat.and_lt_two_pow (n := 32) _ hc)

/-- The i-th bit of the two. -/
theorem mod_bit (x i : Nat) : x % 2 ^ (i + 1) = x % 2 ^ i + x / 2 ^ i % 2 * 2 ^ i := by
  rw [Nat.pow_succ, Nat.mod_mul, Nat.mul_comm]
theorem bit_of (x i : Nat) : x / 2 ^ i % 2 = (x.testBit i).toNat := (Nat.toNat_testBit x i).symm
theorem ch_bit (e f g i : Nat) (he : e < 4294967296) (hi : i < 32) : chN e f g / 2 ^ i % 2 = if e / 2 ^ i % 2 = 1 then f / 2 ^ i % 2 else g / 2 ^ i % 2 := by
  have h2 : (4294967295 - e).testBit i = !e.testBit i := by
    have := Nat.testBit_two_pow_sub_succ (n := 32) he i
    rw [show (2 : Nat) ^ 32 - (e + 1) = 4294967295 - e by omega] at this
    rw [this]; simp [hi]
  rw [bit_of, bit_of, bit_of, bit_of]
  unfold chN
  rw [Nat.testBit_xor, Nat.testBit_and, Nat.testBit_and, h2]
  cases e.testBit i <;> cases f.testBit i <;> cases g.testBit i <;> rfl
theorem maj_bit (a b c i : Nat) : majN a b c / 2 ^ i % 2 = if 2 ≤ a / 2 ^ i % 2 + b / 2 ^ i % 2 + c / 2 ^ i % 2 then 1 else 0 := by
  rw [bit_of, bit_of, bit_of, bit_of]
  unfold majN
  rw [Nat.testBit_xor, Nat.testBit_xor, Nat.testBit_and, Nat.testBit_and, Nat.testBit_and]
  cases a.testBit i <;> cases b.testBit i <;> cases c.testBit i <;> rfl

/-- The code's way to turn. -/
theorem rotr_or (x n : Nat) (hx : x < 4294967296) (hn : 0 < n) (hn2 : n < 32) : (x * 2 ^ (32 - n) % 4294967296) ||| (x / 2 ^ n) = rotr x n := by
  have h1 : x * 2 ^ (32 - n) % 4294967296 = 2 ^ (32 - n) * (x % 2 ^ n) := by
    rw [show (4294967296 : Nat) = 2 ^ (32 - n) * 2 ^ n by rw [← Nat.pow_add, show 32 - n + n = 32 by omega], Nat.mul_comm x, Nat.mul_mod_mul_left]
  have h2 : x / 2 ^ n < 2 ^ (32 - n) := by
    rw [Nat.div_lt_iff_lt_mul (Nat.two_pow_pos n), ← Nat.pow_add, show 32 - n + n = 32 by omega]
    exact hx
  rw [h1, ← Nat.two_pow_add_eq_or_of_lt h2, rotr, Nat.mul_comm, Nat.add_comm]

structure St where
  a : Nat
  b : Nat
  c : Nat
  d : Nat
  e : Nat
  f : Nat
  g : Nat
  h : Nat
deriving DecidableEq
def St.list (s : St) : List Nat := [s.a, s.b, s.c, s.d, s.e, s.f, s.g, s.h]
def St.ok (s : St) : Prop := s.a < 4294967296 ∧ s.b < 4294967296 ∧ s.c < 4294967296 ∧ s.d < 4294967296 ∧ s.e < 4294967296 ∧ s.f < 4294967296 ∧ s.g < 4294967296 ∧ s.h < 4294967296
def t1N (s : St) (k w : Nat) : Nat := s.h + S1 s.e + chN s.e s.f s.g + k + w
def t2N (s : St) : Nat := S0 s.a + majN s.a s.b s.c
def St.step (s : St) (k w : Nat) : St := ⟨(t1N s k w + t2N s) % 4294967296, s.a, s.b, s.c, (s.d + t1N s k w) % 4294967296, s.e, s.f, s.g⟩
theorem St.step_ok (s : St) (k w : Nat) (h : s.ok) : (s.step k w).ok := by
  obtain ⟨h1, h2, h3, h4, h5, h6, h7, h8⟩ := h
  exact ⟨Nat.mod_lt _ (by omega), h1, h2, h3, Nat.mod_lt _ (by omega), h5, h6, h7⟩
def rnd (K W : List Nat) (s : St) : Nat → St
  | 0 => s
  | t + 1 => (rnd K W s t).step (K.getD t 0) (W.getD t 0)
theorem rnd_ok (K W : List Nat) (s : St) (h : s.ok) (t : Nat) : (rnd K W s t).ok := by
  induction t with
  | zero => exact h
  | succ t ih => exact St.step_ok _ _ _ ih
def St.plus (s v : St) : St := ⟨(s.a + v.a) % 4294967296, (s.b + v.b) % 4294967296, (s.c + v.c) % 4294967296, (s.d + v.d) % 4294967296, (s.e + v.e) % 4294967296, (s.f + v.f) % 4294967296, (s.g + v.g) % 4294967296, (s.h + v.h) % 4294967296⟩
theorem St.plus_ok (s v : St) : (s.plus v).ok := ⟨Nat.mod_lt _ (by omega), Nat.mod_lt _ (by omega), Nat.mod_lt _ (by omega), Nat.mod_lt _ (by omega), Nat.mod_lt _ (by omega), Nat.mod_lt _ (by omega), Nat.mod_lt _ (by omega), Nat.mod_lt _ (by omega)⟩

/-- A word of 4 bytes, the t-th of a block. -/
def word4 (m : List UInt8) (t : Nat) : Nat := (((m.getD (4 * t) 0).toNat * 256 + (m.getD (4 * t + 1) 0).toNat) * 256 + (m.getD (4 * t + 2) 0).toNat) * 256 + (m.getD (4 * t + 3) 0).toNat
theorem word4_lt (m : List UInt8) (t : Nat) : word4 m t < 4294967296 := by
  have h1 := (m.getD (4 * t) 0).toNat_lt
  have h2 := (m.getD (4 * t + 1) 0).toNat_lt
  have h3 := (m.getD (4 * t + 2) 0).toNat_lt
  have h4 := (m.getD (4 * t + 3) 0).toNat_lt
  unfold word4; omega
/-- The first t words of a block, gone on. -/
def wordsTo (m : List UInt8) : Nat → List Nat
  | 0 => []
  | t + 1 => let w := wordsTo m t
    w ++ [if t < 16 then word4 m t else (s1 (w.getD (t - 2) 0) + w.getD (t - 7) 0 + s0 (w.getD (t - 15) 0) + w.getD (t - 16) 0) % 4294967296]
@[simp] theorem wordsTo_length (m : List UInt8) (t : Nat) : (wordsTo m t).length = t := by
  induction t with
  | zero => rfl
  | succ t ih => simp [wordsTo, ih]
theorem wordsTo_lt (m : List UInt8) (t : Nat) : ∀ x ∈ wordsTo m t, x < 4294967296 := by
  induction t with
  | zero => intro x hx; simp [wordsTo] at hx
  | succ t ih =>
    intro x hx
    simp only [wordsTo, List.mem_append, List.mem_singleton] at hx
    rcases hx with hx | rfl
    · exact ih x hx
    · split
      · exact word4_lt _ _
      · exact Nat.mod_lt _ (by omega)
def mixN (K : List Nat) (s : St) (m : List UInt8) : St := s.plus (rnd K (wordsTo m 64) s 64)
theorem mixN_ok (K : List Nat) (s : St) (m : List UInt8) : (mixN K s m).ok := St.plus_ok _ _
/-- Through n whole blocks. -/
def blocksN (K : List Nat) : Nat → St → List UInt8 → St
  | 0, s, _ => s
  | n + 1, s, m => blocksN K n (mixN K s (m.take 64)) (m.drop 64)
def word32 (x : Nat) : List UInt8 := [UInt8.ofNat (x / 16777216), UInt8.ofNat (x / 65536), UInt8.ofNat (x / 256), UInt8.ofNat x]
def St.bytes (s : St) : List UInt8 := s.list.flatMap word32
/-- The 64 constants. -/
def kTab : List Nat := [
  0x428a2f98, 0x71374491, 0xb5c0fbcf, 0xe9b5dba5, 0x3956c25b, 0x59f111f1, 0x923f82a4, 0xab1c5ed5,
  0xd807aa98, 0x12835b01, 0x243185be, 0x550c7dc3, 0x72be5d74, 0x80deb1fe, 0x9bdc06a7, 0xc19bf174,
  0xe49b69c1, 0xefbe4786, 0x0fc19dc6, 0x240ca1cc, 0x2de92c6f, 0x4a7484aa, 0x5cb0a9dc, 0x76f988da,
  0x983e5152, 0xa831c66d, 0xb00327c8, 0xbf597fc7, 0xc6e00bf3, 0xd5a79147, 0x06ca6351, 0x14292967,
  0x27b70a85, 0x2e1b2138, 0x4d2c6dfc, 0x53380d13, 0x650a7354, 0x766a0abb, 0x81c2c92e, 0x92722c85,
  0xa2bfe8a1, 0xa81a664b, 0xc24b8b70, 0xc76c51a3, 0xd192e819, 0xd6990624, 0xf40e3585, 0x106aa070,
  0x19a4c116, 0x1e376c08, 0x2748774c, 0x34b0bcb5, 0x391c0cb3, 0x4ed8aa4a, 0x5b9cca4f, 0x682e6ff3,
  0x748f82ee, 0x78a5636f, 0x84c87814, 0x8cc70208, 0x90befffa, 0xa4506ceb, 0xbef9a3f7, 0xc67178f2]
/-- The 8 beginnings. -/
def iv : St := ⟨0x6a09e667, 0xbb67ae85, 0x3c6ef372, 0xa54ff53a, 0x510e527f, 0x9b05688c, 0x1f83d9ab, 0x5be0cd19⟩
theorem kTab_length : kTab.length = 64 := rfl
theorem kTab_lt (j : Nat) : kTab.getD j 0 < 4294967296 := by
  by_cases h : j < kTab.length
  · rw [List.getD_eq_getElem?_getD, List.getElem?_eq_getElem h]
    have : ∀ x ∈ kTab, x < 4294967296 := by decide
    exact this _ (List.getElem_mem h)
  · rw [List.getD_eq_getElem?_getD, List.getElem?_eq_none (by omega)]; decide
theorem iv_ok : iv.ok := by unfold iv St.ok; decide
@[simp] theorem St.list_length (s : St) : s.list.length = 8 := rfl
theorem St.list_lt (s : St) (h : s.ok) : ∀ x ∈ s.list, x < 4294967296 := by
  obtain ⟨h1, h2, h3, h4, h5, h6, h7, h8⟩ := h
  intro x hx
  simp only [St.list, List.mem_cons, List.not_mem_nil, or_false] at hx
  rcases hx with rfl | rfl | rfl | rfl | rfl | rfl | rfl | rfl <;> assumption
end

section
set_option linter.unusedVariables false
set_option linter.unusedSimpArgs false

@[simp] theorem word32_length (x : Nat) : (word32 x).length = 4 := rfl
/-- The bytes of the first k words. -/
def St.bytesTo (s : St) (k : Nat) : List UInt8 := (s.list.take k).flatMap word32
theorem St.bytesTo_end (s : St) : s.bytesTo 8 = s.bytes := rfl
theorem St.bytesTo_length (s : St) (k : Nat) (h : k ≤ 8) : (s.bytesTo k).length = 4 * k := by
  have : k = 0 ∨ k = 1 ∨ k = 2 ∨ k = 3 ∨ k = 4 ∨ k = 5 ∨ k = 6 ∨ k = 7 ∨ k = 8 := by omega
  rcases this with rfl | rfl | rfl | rfl | rfl | rfl | rfl | rfl | rfl <;> rfl
theorem St.bytes_length (s : St) : s.bytes.length = 32 := rfl
theorem St.bytesTo_succ (s : St) (k x : Nat) (hx : s.list[k]? = some x) : s.bytesTo (k + 1) = s.bytesTo k ++ word32 x := by
  unfold St.bytesTo
  rw [List.take_add_one, hx, List.flatMap_append]
  simp
/-- How many noughts stand behind the mark. -/
def padZ (n : Nat) : Nat := (119 - n % 64) % 64
/-- What is behind the whole blocks, with the mark, the noughts and the count of all bits. -/
def padN (r : List UInt8) (n : Nat) (count : List UInt8) : List UInt8 := r ++ [128] ++ List.replicate (padZ n) 0 ++ count
theorem padN_length (r : List UInt8) (n : Nat) (c : List UInt8) (hr : r.length % 64 = n % 64) (hc : c.length = 8) : (padN r n c).length % 64 = 0 := by
  simp only [padN, List.length_append, List.length_cons, List.length_nil, List.length_replicate, hc]
  unfold padZ
  omega
end

section
set_option linter.unusedVariables false
set_option linter.unusedSimpArgs false

theorem blocksN_split (K : List Nat) (a c : Nat) (s : St) (m : List UInt8) : blocksN K (a + c) s m = blocksN K c (blocksN K a s m) (m.drop (64 * a)) := by
  induction a generalizing s m with
  | zero => simp [blocksN]
  | succ a ih =>
    rw [show a + 1 + c = (a + c) + 1 by omega, blocksN, ih]
    conv => rhs; rw [blocksN]
    rw [List.drop_drop, show 64 + 64 * a = 64 * (a + 1) by omega]
theorem blocksN_prefix (K : List Nat) (a : Nat) (s : St) (m t : List UInt8) (h : 64 * a ≤ m.length) : blocksN K a s (m ++ t) = blocksN K a s m := by
  induction a generalizing s m with
  | zero => rfl
  | succ a ih =>
    rw [blocksN, blocksN, List.take_append_of_le_length (by omega), List.drop_append_of_le_length (by omega), ih _ _ (by rw [List.length_drop]; omega)]
theorem blocksN_next (K : List Nat) (k : Nat) (s : St) (m : List UInt8) : blocksN K (k + 1) s m = mixN K (blocksN K k s m) ((m.drop (64 * k)).take 64) := by
  rw [blocksN_split K k 1, blocksN, blocksN]

/-- What is written: the state behind the whole blocks. -/
def stOf (all : List UInt8) : St := blocksN kTab (all.length / 64) iv all
/-- What is behind the whole blocks. -/
def tailOf (all : List UInt8) : List UInt8 := all.drop (64 * (all.length / 64))
theorem tailOf_length (all : List UInt8) : (tailOf all).length = all.length % 64 := by
  rw [tailOf, List.length_drop]; omega
theorem blocksN_okay (K : List Nat) (k : Nat) (s : St) (m : List UInt8) (h : s.ok) : (blocksN K k s m).ok := by
  induction k generalizing s m with
  | zero => exact h
  | succ k ih => exact ih _ _ (mixN_ok K s _)
theorem stOf_ok (all : List UInt8) : (stOf all).ok := blocksN_okay _ _ _ _ iv_ok
theorem stOf_short (all : List UInt8) (h : all.length < 64) : stOf all = iv := by
  rw [stOf, Nat.div_eq_of_lt h]; rfl
theorem tailOf_short (all : List UInt8) (h : all.length < 64) : tailOf all = all := by
  rw [tailOf, Nat.div_eq_of_lt h]; simp
/-- Behind q whole blocks of all that is there, through those of the rest. -/
theorem st_rest (q : Nat) (m : List UInt8) (h : 64 * q ≤ m.length) : blocksN kTab ((m.drop (64 * q)).length / 64) (blocksN kTab q iv m) (m.drop (64 * q)) = stOf m := by
  rw [stOf, ← blocksN_split, List.length_drop]
  congr 1
  omega
theorem tail_rest (q : Nat) (m : List UInt8) (h : 64 * q ≤ m.length) : (m.drop (64 * q)).drop (64 * ((m.drop (64 * q)).length / 64)) = tailOf m := by
  rw [tailOf, List.drop_drop, List.length_drop]
  congr 1
  omega
/-- Nothing stood behind the whole blocks. -/
theorem whole_state (all b : List UInt8) (h : all.length % 64 = 0) : stOf all = blocksN kTab (all.length / 64) iv (all ++ b) ∧ b = (all ++ b).drop (64 * (all.length / 64)) ∧ 64 * (all.length / 64) ≤ (all ++ b).length := by
  refine ⟨?_, ?_, by simp; omega⟩
  · rw [stOf, blocksN_prefix _ _ _ _ _ (by omega)]
  · rw [show 64 * (all.length / 64) = all.length by omega, List.drop_left]
/-- The block that is filled up. -/
theorem fill_state (all b : List UInt8) (h : 64 ≤ all.length % 64 + b.length) :
    mixN kTab (stOf all) (tailOf all ++ b.take (64 - all.length % 64)) = blocksN kTab (all.length / 64 + 1) iv (all ++ b) ∧ b.drop (64 - all.length % 64) = (all ++ b).drop (64 * (all.length / 64 + 1)) ∧ 64 * (all.length / 64 + 1) ≤ (all ++ b).length := by
  have hl := tailOf_length all
  refine ⟨?_, ?_, by simp; omega⟩
  · rw [blocksN_next, blocksN_prefix _ _ _ _ _ (by omega), List.drop_append_of_le_length (by omega)]
    rw [show all.drop (64 * (all.length / 64)) = tailOf all from rfl, List.take_append, hl, stOf]
    rw [List.take_of_length_le (l := tailOf all) (by omega)]
  · have e : all.drop (64 * (all.length / 64 + 1)) = [] := List.drop_eq_nil_of_le (by omega)
    rw [List.drop_append, e, List.nil_append]
    congr 1
    omega
/-- A part that doesn't fill the block up. -/
theorem part_state (all b : List UInt8) (h : all.length % 64 + b.length < 64) : stOf (all ++ b) = stOf all ∧ tailOf (all ++ b) = tailOf all ++ b := by
  have e : (all ++ b).length / 64 = all.length / 64 := by rw [List.length_append]; omega
  refine ⟨?_, ?_⟩
  · rw [stOf, stOf, e, blocksN_prefix _ _ _ _ _ (by omega)]
  · rw [tailOf, tailOf, e, List.drop_append_of_le_length (by omega)]

/-- The digest. -/
def closeS (s : St) (r : List UInt8) (n : Nat) : St := blocksN kTab ((padN r n (beBytes 8 (8 * n))).length / 64) s (padN r n (beBytes 8 (8 * n)))
def shaB (all : List UInt8) : List UInt8 := (closeS (stOf all) (tailOf all) all.length).bytes
theorem shaB_length (all : List UInt8) : (shaB all).length = 32 := rfl
/-- .. of all that stands there with what is put behind it. -/
theorem shaB_whole (all : List UInt8) : shaB all = (blocksN kTab ((padN all all.length (beBytes 8 (8 * all.length))).length / 64) iv (padN all all.length (beBytes 8 (8 * all.length)))).bytes := by
  rw [shaB, closeS]
  congr 1
  have h1 : padN all all.length (beBytes 8 (8 * all.length)) = all.take (64 * (all.length / 64)) ++ padN (tailOf all) all.length (beBytes 8 (8 * all.length)) := by
    simp only [padN, tailOf, ← List.append_assoc, List.take_append_drop]
  have h2 : (all.take (64 * (all.length / 64))).length = 64 * (all.length / 64) := by rw [List.length_take]; omega
  have h3 : (padN all all.length (beBytes 8 (8 * all.length))).length / 64 = all.length / 64 + (padN (tailOf all) all.length (beBytes 8 (8 * all.length))).length / 64 := by
    rw [h1, List.length_append, h2]; omega
  have h4 : blocksN kTab (all.length / 64) iv (padN all all.length (beBytes 8 (8 * all.length))) = stOf all := by
    have h5 := blocksN_prefix kTab (all.length / 64) iv (all.take (64 * (all.length / 64))) (all.drop (64 * (all.length / 64))) (by omega)
    rw [List.take_append_drop] at h5
    rw [h1, blocksN_prefix _ _ _ _ _ (by omega), ← h5, stOf]
  rw [h3, blocksN_split, h4]
  congr 1
  rw [h1]
  exact (List.drop_left' h2).symm
end
end Go.Proofs.YtpdkpadpdkagoaaDoor
