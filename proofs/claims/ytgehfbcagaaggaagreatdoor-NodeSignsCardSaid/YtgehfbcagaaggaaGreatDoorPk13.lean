/-
  Texts of this claim in one file: LonM, LonP, LonQ, Lon1, Lon2, Lon3, Lon4, Lon5, Lon6.
-/
import Derived.Test.YtgehfbcagaaggaaGreatDoorPk0
import Derived.Test.YtgehfbcagaaggaaGreatDoorPk12
import Derived.Test.YtgehfbcagaaggaaGreatDoorPk32
import Derived.Test.YtgehfbcagaaggaaGreatDoorPk28
section
namespace Go.Proofs.YtgehfbcagaaggaaGreatDoor
set_option linter.unusedVariables false
set_option linter.unusedSimpArgs false
/-- The i-th word. -/
def wd (n i : Nat) : Nat := n / 18446744073709551616 ^ i % 18446744073709551616
end Go.Proofs.YtgehfbcagaaggaaGreatDoor
end
section
namespace Go.Proofs.YtgehfbcagaaggaaGreatDoor
set_option linter.unusedVariables false
set_option linter.unusedSimpArgs false
/-- x turned right by n of 32 bits. -/
def rotrL (x n : Nat) : Nat := x / 2 ^ n + x % 2 ^ n * 2 ^ (64 - n)
/-- One bit at a time. -/
def turn1L (x : Nat) : Nat := x / 2 + x % 2 * 9223372036854775808
def turnNL : Nat → Nat → Nat
  | x, 0 => x
  | x, n + 1 => turn1L (turnNL x n)
theorem rotrL_zero (x : Nat) : rotrL x 0 = x := by simp [rotrL, Nat.mod_one]
theorem rotrL_succ (x n : Nat) (hn : n < 64) : rotrL x (n + 1) = turn1L (rotrL x n) := by
  unfold rotrL turn1L
  have h1 : (2 : Nat) ^ (64 - n) = 2 * 2 ^ (64 - (n + 1)) := by
    rw [show 64 - n = (64 - (n + 1)) + 1 by omega, Nat.pow_succ, Nat.mul_comm]
  have hd : x / 2 ^ (n + 1) = x / 2 ^ n / 2 := by rw [Nat.pow_succ, Nat.div_div_eq_div_mul]
  have hm : x % 2 ^ (n + 1) = x % 2 ^ n + 2 ^ n * (x / 2 ^ n % 2) := by
    rw [Nat.pow_succ, Nat.mod_mul]
  have h31 : 2 ^ n * 2 ^ (64 - (n + 1)) = 9223372036854775808 := by
    rw [← Nat.pow_add, show n + (64 - (n + 1)) = 63 by omega]
  rw [hd, hm, h1]
  generalize x / 2 ^ n = q
  generalize x % 2 ^ n = r
  generalize 2 ^ (64 - (n + 1)) = u at *
  generalize 2 ^ n = v at *
  have e1 : r * (2 * u) = 2 * (r * u) := by rw [Nat.mul_left_comm]
  rw [e1, Nat.add_mul, show v * (q % 2) * u = (v * u) * (q % 2) by rw [Nat.mul_right_comm], h31]
  omega
theorem turnNL_eq (x n : Nat) (hn : n ≤ 64) : turnNL x n = rotrL x n := by
  induction n with
  | zero => rw [turnNL, rotrL_zero]
  | succ n ih => rw [turnNL, ih (by omega), rotrL_succ x n (by omega)]
theorem turn1L_lt (x : Nat) (h : x < 18446744073709551616) : turn1L x < 18446744073709551616 := by unfold turn1L; omega
theorem rotrL_lt (x n : Nat) (h : x < 18446744073709551616) (hn : n ≤ 64) : rotrL x n < 18446744073709551616 := by
  rw [← turnNL_eq x n hn]
  clear hn
  induction n with
  | zero => exact h
  | succ n ih => exact turn1L_lt _ ih
def S0L (x : Nat) : Nat := rotrL x 28 ^^^ rotrL x 34 ^^^ rotrL x 39
def S1L (x : Nat) : Nat := rotrL x 14 ^^^ rotrL x 18 ^^^ rotrL x 41
def s0L (x : Nat) : Nat := rotrL x 1 ^^^ rotrL x 8 ^^^ x / 128
def s1L (x : Nat) : Nat := rotrL x 19 ^^^ rotrL x 61 ^^^ x / 64
def chL (e f g : Nat) : Nat := (e &&& f) ^^^ ((18446744073709551615 - e) &&& g)
def majL (a b c : Nat) : Nat := (a &&& b) ^^^ (a &&& c) ^^^ (b &&& c)
/-- The code's way to turn. -/
theorem rotrL_or (x n : Nat) (hx : x < 18446744073709551616) (hn : 0 < n) (hn2 : n < 64) : (x * 2 ^ (64 - n) % 18446744073709551616) ||| (x / 2 ^ n) = rotrL x n := by
  have h1 : x * 2 ^ (64 - n) % 18446744073709551616 = 2 ^ (64 - n) * (x % 2 ^ n) := by
    rw [show (18446744073709551616 : Nat) = 2 ^ (64 - n) * 2 ^ n by rw [← Nat.pow_add, show 64 - n + n = 64 by omega], Nat.mul_comm x, Nat.mul_mod_mul_left]
  have h2 : x / 2 ^ n < 2 ^ (64 - n) := by
    rw [Nat.div_lt_iff_lt_mul (Nat.two_pow_pos n), ← Nat.pow_add, show 64 - n + n = 64 by omega]
    exact hx
  rw [h1, ← Nat.two_pow_add_eq_or_of_lt h2, rotrL, Nat.mul_comm, Nat.add_comm]
def St8.okL (s : St8) : Prop := s.a < 18446744073709551616 ∧ s.b < 18446744073709551616 ∧ s.c < 18446744073709551616 ∧ s.d < 18446744073709551616 ∧ s.e < 18446744073709551616 ∧ s.f < 18446744073709551616 ∧ s.g < 18446744073709551616 ∧ s.h < 18446744073709551616
def t1L (s : St8) (k w : Nat) : Nat := s.h + S1L s.e + chL s.e s.f s.g + k + w
def t2L (s : St8) : Nat := S0L s.a + majL s.a s.b s.c
def St8.stepL (s : St8) (k w : Nat) : St8 := ⟨(t1L s k w + t2L s) % 18446744073709551616, s.a, s.b, s.c, (s.d + t1L s k w) % 18446744073709551616, s.e, s.f, s.g⟩
theorem St8.stepL_ok (s : St8) (k w : Nat) (h : s.okL) : (s.stepL k w).okL := by
  obtain ⟨h1, h2, h3, h4, h5, h6, h7, h8⟩ := h
  exact ⟨Nat.mod_lt _ (by omega), h1, h2, h3, Nat.mod_lt _ (by omega), h5, h6, h7⟩
def rndL (K W : List Nat) (s : St8) : Nat → St8
  | 0 => s
  | t + 1 => (rndL K W s t).stepL (K.getD t 0) (W.getD t 0)
theorem rndL_ok (K W : List Nat) (s : St8) (h : s.okL) (t : Nat) : (rndL K W s t).okL := by
  induction t with
  | zero => exact h
  | succ t ih => exact St8.stepL_ok _ _ _ ih
def St8.plusL (s v : St8) : St8 := ⟨(s.a + v.a) % 18446744073709551616, (s.b + v.b) % 18446744073709551616, (s.c + v.c) % 18446744073709551616, (s.d + v.d) % 18446744073709551616, (s.e + v.e) % 18446744073709551616, (s.f + v.f) % 18446744073709551616, (s.g + v.g) % 18446744073709551616, (s.h + v.h) % 18446744073709551616⟩
theorem St8.plusL_ok (s v : St8) : (s.plusL v).okL := ⟨Nat.mod_lt _ (by omega), Nat.mod_lt _ (by omega), Nat.mod_lt _ (by omega), Nat.mod_lt _ (by omega), Nat.mod_lt _ (by omega), Nat.mod_lt _ (by omega), Nat.mod_lt _ (by omega), Nat.mod_lt _ (by omega)⟩
/-- A word of 8 bytes, the t-th of a block. -/
def word8 (m : List UInt8) (t : Nat) : Nat := beNum 0 ((m.drop (8 * t)).take 8)
theorem word8_lt (m : List UInt8) (t : Nat) : word8 m t < 18446744073709551616 := by
  have h := beNum_lt 0 ((m.drop (8 * t)).take 8)
  have hl : ((m.drop (8 * t)).take 8).length ≤ 8 := List.length_take_le _ _
  have h2 : (256 : Nat) ^ ((m.drop (8 * t)).take 8).length ≤ 256 ^ 8 := Nat.pow_le_pow_right (by omega) hl
  unfold word8
  omega
/-- The first t words of a block, gone on. -/
def wordsToL (m : List UInt8) : Nat → List Nat
  | 0 => []
  | t + 1 => let w := wordsToL m t
    w ++ [if t < 16 then word8 m t else (s1L (w.getD (t - 2) 0) + w.getD (t - 7) 0 + s0L (w.getD (t - 15) 0) + w.getD (t - 16) 0) % 18446744073709551616]
@[simp] theorem wordsToL_length (m : List UInt8) (t : Nat) : (wordsToL m t).length = t := by
  induction t with
  | zero => rfl
  | succ t ih => simp [wordsToL, ih]
theorem wordsToL_lt (m : List UInt8) (t : Nat) : ∀ x ∈ wordsToL m t, x < 18446744073709551616 := by
  induction t with
  | zero => intro x hx; simp [wordsToL] at hx
  | succ t ih =>
    intro x hx
    simp only [wordsToL, List.mem_append, List.mem_singleton] at hx
    rcases hx with hx | rfl
    · exact ih x hx
    · split
      · exact word8_lt _ _
      · exact Nat.mod_lt _ (by omega)
def mixL (K : List Nat) (s : St8) (m : List UInt8) : St8 := s.plusL (rndL K (wordsToL m 80) s 80)
theorem mixL_ok (K : List Nat) (s : St8) (m : List UInt8) : (mixL K s m).okL := St8.plusL_ok _ _
/-- Through n whole blocks. -/
def blocksL (K : List Nat) : Nat → St8 → List UInt8 → St8
  | 0, s, _ => s
  | n + 1, s, m => blocksL K n (mixL K s (m.take 128)) (m.drop 128)
def St8.bytesL (s : St8) : List UInt8 := s.list.flatMap (beBytes 8)
/-- The 80 constants. -/
def kTabL : List Nat := [
  0x428a2f98d728ae22, 0x7137449123ef65cd, 0xb5c0fbcfec4d3b2f, 0xe9b5dba58189dbbc,
  0x3956c25bf348b538, 0x59f111f1b605d019, 0x923f82a4af194f9b, 0xab1c5ed5da6d8118,
  0xd807aa98a3030242, 0x12835b0145706fbe, 0x243185be4ee4b28c, 0x550c7dc3d5ffb4e2,
  0x72be5d74f27b896f, 0x80deb1fe3b1696b1, 0x9bdc06a725c71235, 0xc19bf174cf692694,
  0xe49b69c19ef14ad2, 0xefbe4786384f25e3, 0x0fc19dc68b8cd5b5, 0x240ca1cc77ac9c65,
  0x2de92c6f592b0275, 0x4a7484aa6ea6e483, 0x5cb0a9dcbd41fbd4, 0x76f988da831153b5,
  0x983e5152ee66dfab, 0xa831c66d2db43210, 0xb00327c898fb213f, 0xbf597fc7beef0ee4,
  0xc6e00bf33da88fc2, 0xd5a79147930aa725, 0x06ca6351e003826f, 0x142929670a0e6e70,
  0x27b70a8546d22ffc, 0x2e1b21385c26c926, 0x4d2c6dfc5ac42aed, 0x53380d139d95b3df,
  0x650a73548baf63de, 0x766a0abb3c77b2a8, 0x81c2c92e47edaee6, 0x92722c851482353b,
  0xa2bfe8a14cf10364, 0xa81a664bbc423001, 0xc24b8b70d0f89791, 0xc76c51a30654be30,
  0xd192e819d6ef5218, 0xd69906245565a910, 0xf40e35855771202a, 0x106aa07032bbd1b8,
  0x19a4c116b8d2d0c8, 0x1e376c085141ab53, 0x2748774cdf8eeb99, 0x34b0bcb5e19b48a8,
  0x391c0cb3c5c95a63, 0x4ed8aa4ae3418acb, 0x5b9cca4f7763e373, 0x682e6ff3d6b2b8a3,
  0x748f82ee5defb2fc, 0x78a5636f43172f60, 0x84c87814a1f0ab72, 0x8cc702081a6439ec,
  0x90befffa23631e28, 0xa4506cebde82bde9, 0xbef9a3f7b2c67915, 0xc67178f2e372532b,
  0xca273eceea26619c, 0xd186b8c721c0c207, 0xeada7dd6cde0eb1e, 0xf57d4f7fee6ed178,
  0x06f067aa72176fba, 0x0a637dc5a2c898a6, 0x113f9804bef90dae, 0x1b710b35131c471b,
  0x28db77f523047d84, 0x32caab7b40c72493, 0x3c9ebe0a15c9bebc, 0x431d67c49c100d4c,
  0x4cc5d4becb3e42b6, 0x597f299cfc657e2a, 0x5fcb6fab3ad6faec, 0x6c44198c4a475817]
/-- The 8 beginnings. -/
def ivL : St8 := ⟨0x6a09e667f3bcc908, 0xbb67ae8584caa73b, 0x3c6ef372fe94f82b, 0xa54ff53a5f1d36f1, 0x510e527fade682d1, 0x9b05688c2b3e6c1f, 0x1f83d9abfb41bd6b, 0x5be0cd19137e2179⟩
theorem kTabL_length : kTabL.length = 80 := rfl
theorem kTabL_lt (j : Nat) : kTabL.getD j 0 < 18446744073709551616 := by
  by_cases h : j < kTabL.length
  · rw [List.getD_eq_getElem?_getD, List.getElem?_eq_getElem h]
    have : ∀ x ∈ kTabL, x < 18446744073709551616 := by decide
    exact this _ (List.getElem_mem h)
  · rw [List.getD_eq_getElem?_getD, List.getElem?_eq_none (by omega)]; decide
theorem ivL_ok : ivL.okL := by unfold ivL St8.okL; decide
theorem St8.list_ltL (s : St8) (h : s.okL) : ∀ x ∈ s.list, x < 18446744073709551616 := by
  obtain ⟨h1, h2, h3, h4, h5, h6, h7, h8⟩ := h
  intro x hx
  simp only [St8.list, List.mem_cons, List.not_mem_nil, or_false] at hx
  rcases hx with rfl | rfl | rfl | rfl | rfl | rfl | rfl | rfl <;> assumption
end Go.Proofs.YtgehfbcagaaggaaGreatDoor
end
section
namespace Go.Proofs.YtgehfbcagaaggaaGreatDoor
set_option linter.unusedVariables false
set_option linter.unusedSimpArgs false
/-- The bytes of the first k words. -/
def St8.bytesToL (s : St8) (k : Nat) : List UInt8 := (s.list.take k).flatMap (beBytes 8)
theorem St8.bytesToL_end (s : St8) : s.bytesToL 8 = s.bytesL := rfl
theorem St8.bytesToL_length (s : St8) (k : Nat) (h : k ≤ 8) : (s.bytesToL k).length = 8 * k := by
  have : k = 0 ∨ k = 1 ∨ k = 2 ∨ k = 3 ∨ k = 4 ∨ k = 5 ∨ k = 6 ∨ k = 7 ∨ k = 8 := by omega
  rcases this with rfl | rfl | rfl | rfl | rfl | rfl | rfl | rfl | rfl <;> rfl
theorem St8.bytesToL_succ (s : St8) (k x : Nat) (hx : s.list[k]? = some x) : s.bytesToL (k + 1) = s.bytesToL k ++ beBytes 8 x := by
  unfold St8.bytesToL
  rw [List.take_add_one, hx, List.flatMap_append]
  simp
/-- How many noughts stand behind the mark. -/
def padZL (n : Nat) : Nat := (239 - n % 128) % 128
/-- What is behind the whole blocks, with the mark, the noughts and the count of all bits. -/
def padNL (r : List UInt8) (n : Nat) (count : List UInt8) : List UInt8 := r ++ [128] ++ List.replicate (padZL n) 0 ++ count
theorem blocksL_split (K : List Nat) (a c : Nat) (s : St8) (m : List UInt8) : blocksL K (a + c) s m = blocksL K c (blocksL K a s m) (m.drop (128 * a)) := by
  induction a generalizing s m with
  | zero => simp [blocksL]
  | succ a ih =>
    rw [show a + 1 + c = (a + c) + 1 by omega, blocksL, ih]
    conv => rhs; rw [blocksL]
    rw [List.drop_drop, show 128 + 128 * a = 128 * (a + 1) by omega]
theorem blocksL_prefix (K : List Nat) (a : Nat) (s : St8) (m t : List UInt8) (h : 128 * a ≤ m.length) : blocksL K a s (m ++ t) = blocksL K a s m := by
  induction a generalizing s m with
  | zero => rfl
  | succ a ih =>
    rw [blocksL, blocksL, List.take_append_of_le_length (by omega), List.drop_append_of_le_length (by omega), ih _ _ (by rw [List.length_drop]; omega)]
theorem blocksL_next (K : List Nat) (k : Nat) (s : St8) (m : List UInt8) : blocksL K (k + 1) s m = mixL K (blocksL K k s m) ((m.drop (128 * k)).take 128) := by
  rw [blocksL_split K k 1, blocksL, blocksL]
/-- What is written: the state behind the whole blocks. -/
def stOfL (all : List UInt8) : St8 := blocksL kTabL (all.length / 128) ivL all
/-- What is behind the whole blocks. -/
def tailOfL (all : List UInt8) : List UInt8 := all.drop (128 * (all.length / 128))
theorem tailOfL_length (all : List UInt8) : (tailOfL all).length = all.length % 128 := by
  rw [tailOfL, List.length_drop]; omega
theorem blocksL_okay (K : List Nat) (k : Nat) (s : St8) (m : List UInt8) (h : s.okL) : (blocksL K k s m).okL := by
  induction k generalizing s m with
  | zero => exact h
  | succ k ih => exact ih _ _ (mixL_ok K s _)
theorem stOfL_ok (all : List UInt8) : (stOfL all).okL := blocksL_okay _ _ _ _ ivL_ok
/-- Behind q whole blocks of all that is there, through those of the rest. -/
theorem stL_rest (q : Nat) (m : List UInt8) (h : 128 * q ≤ m.length) : blocksL kTabL ((m.drop (128 * q)).length / 128) (blocksL kTabL q ivL m) (m.drop (128 * q)) = stOfL m := by
  rw [stOfL, ← blocksL_split, List.length_drop]
  congr 1
  omega
theorem tailL_rest (q : Nat) (m : List UInt8) (h : 128 * q ≤ m.length) : (m.drop (128 * q)).drop (128 * ((m.drop (128 * q)).length / 128)) = tailOfL m := by
  rw [tailOfL, List.drop_drop, List.length_drop]
  congr 1
  omega
/-- The block that is filled up. -/
theorem fillL_state (all b : List UInt8) (h : 128 ≤ all.length % 128 + b.length) :
    mixL kTabL (stOfL all) (tailOfL all ++ b.take (128 - all.length % 128)) = blocksL kTabL (all.length / 128 + 1) ivL (all ++ b) ∧ b.drop (128 - all.length % 128) = (all ++ b).drop (128 * (all.length / 128 + 1)) ∧ 128 * (all.length / 128 + 1) ≤ (all ++ b).length := by
  have hl := tailOfL_length all
  refine ⟨?_, ?_, by simp; omega⟩
  · rw [blocksL_next, blocksL_prefix _ _ _ _ _ (by omega), List.drop_append_of_le_length (by omega)]
    rw [show all.drop (128 * (all.length / 128)) = tailOfL all from rfl, List.take_append, hl, stOfL]
    rw [List.take_of_length_le (l := tailOfL all) (by omega)]
  · have e : all.drop (128 * (all.length / 128 + 1)) = [] := List.drop_eq_nil_of_le (by omega)
    rw [List.drop_append, e, List.nil_append]
    congr 1
    omega
/-- A part that doesn't fill the block up. -/
theorem partL_state (all b : List UInt8) (h : all.length % 128 + b.length < 128) : stOfL (all ++ b) = stOfL all ∧ tailOfL (all ++ b) = tailOfL all ++ b := by
  have e : (all ++ b).length / 128 = all.length / 128 := by rw [List.length_append]; omega
  refine ⟨?_, ?_⟩
  · rw [stOfL, stOfL, e, blocksL_prefix _ _ _ _ _ (by omega)]
  · rw [tailOfL, tailOfL, e, List.drop_append_of_le_length (by omega)]
/-- The digest. -/
def closeSL (s : St8) (r : List UInt8) (n : Nat) : St8 := blocksL kTabL ((padNL r n (beBytes 16 (8 * n))).length / 128) s (padNL r n (beBytes 16 (8 * n)))
def longB (all : List UInt8) : List UInt8 := (closeSL (stOfL all) (tailOfL all) all.length).bytesL
theorem longB_length (all : List UInt8) : (longB all).length = 64 := rfl
end Go.Proofs.YtgehfbcagaaggaaGreatDoor
end
section
namespace Go.Proofs.YtgehfbcagaaggaaGreatDoor
open Go.RowKit
set_option linter.unusedVariables false
set_option linter.unusedSimpArgs false
theorem neg_andL (n : Nat) (h0 : 0 < n) (h1 : n < 64) : bits .and .u64 (IntKind.u64.wrap (-(n : Int))) 63 = ((64 - n : Nat) : Int) := by
  have key : ∀ m : Fin 64, 0 < m.val → bits .and .u64 (IntKind.u64.wrap (-(m.val : Int))) 63 = ((64 - m.val : Nat) : Int) := by decide +kernel
  exact key ⟨n, h1⟩ h0
theorem rot_bitsL (x n : Nat) (hx : x < 18446744073709551616) (h0 : 0 < n) (h1 : n < 64) :
    bits .or .u64 ((x : Int) * 2 ^ (64 - n) % 18446744073709551616) ((x : Int) / 2 ^ (64 - (64 - n))) = ((rotrL x n : Nat) : Int) := by
  have e1 : (x : Int) * 2 ^ (64 - n) % 18446744073709551616 = ((x * 2 ^ (64 - n) % 18446744073709551616 : Nat) : Int) := by simp
  have e2 : (x : Int) / 2 ^ (64 - (64 - n)) = ((x / 2 ^ n : Nat) : Int) := by
    rw [show 64 - (64 - n) = n by omega]; simp
  rw [e1, e2, u64_or_nat _ _ (Nat.mod_lt _ (by omega)) (Nat.lt_of_le_of_lt (Nat.div_le_self _ _) hx), rotrL_or x n hx h0 h1]
theorem rotlL_any (x n : Nat) (w : World) (hx : x < 18446744073709551616) (h0 : 0 < n) (h1 : n < 64) :
    Calls Tryz.prog 139 #[.int .u64 (x : Int), .int .i64 (-(n : Int))] w fun e w' => e = .returned (.int .u64 (rotrL x n : Nat)) ∧ w = w' := by
  have hn := neg_andL n h0 h1
  have HB := hid (rot_bitsL x n hx h0 h1)
  go_enter Tryz.func139, Tryz.ntmps139
  go_wp2
  go_ret
  exact ⟨ret_int HB.out, rfl⟩
theorem xor3L (a b c : Nat) (ha : a < 18446744073709551616) (hb : b < 18446744073709551616) (hc : c < 18446744073709551616) :
    bits .xor .u64 (bits .xor .u64 (a : Int) (b : Int)) (c : Int) = ((a ^^^ b ^^^ c : Nat) : Int) := by
  rw [u64_xor_nat _ _ ha hb, u64_xor_nat _ _ (Nat.xor_lt_two_pow (n := 64) ha hb) hc]
theorem turned_any (x i j k : Nat) (w : World) (hx : x < 18446744073709551616) (hi0 : 0 < i) (hi : i < 64) (hj0 : 0 < j) (hj : j < 64) (hk0 : 0 < k) (hk : k < 64) :
    Calls Tryz.prog 134 #[.int .u64 (x : Int), .int .i64 (i : Int), .int .i64 (j : Int), .int .i64 (k : Int)] w fun e w' => e = .returned (.int .u64 ((rotrL x i ^^^ rotrL x j ^^^ rotrL x k : Nat) : Int)) ∧ w = w' := by
  have HB := hid (xor3L (rotrL x i) (rotrL x j) (rotrL x k) (rotrL_lt x i hx (by omega)) (rotrL_lt x j hx (by omega)) (rotrL_lt x k hx (by omega)))
  go_enter Tryz.func134, Tryz.ntmps134
  go_wp2_with fail
  refine (rotlL_any x i _ hx hi0 hi).mono ?_
  rintro e w' ⟨rfl, rfl⟩
  go_wp2_with fail
  refine (rotlL_any x j _ hx hj0 hj).mono ?_
  rintro e w' ⟨rfl, rfl⟩
  go_wp2_with fail
  refine (rotlL_any x k _ hx hk0 hk).mono ?_
  rintro e w' ⟨rfl, rfl⟩
  go_wp2
  go_ret
  exact ⟨ret_int HB.out, rfl⟩
theorem rotlL_q (x : Nat) (z : Int) (w : World) (k : Nat) (hx : x < 18446744073709551616) (h0 : z < 0) (h1 : -64 < z) :
    Calls Tryz.prog 139 #[.int .u64 (x : Int), .int .i64 z] (w.drewN k) fun e w'' => e = .returned (.int .u64 (rotrL x (-z).toNat : Nat)) ∧ ∃ m, w'' = w.drewN m := by
  obtain ⟨n, hn⟩ := Int.eq_ofNat_of_zero_le (by omega : 0 ≤ -z)
  obtain rfl : z = -(n : Int) := by omega
  rw [show (- -(n : Int)).toNat = n by omega]
  exact (rotlL_any x n _ hx (by omega) (by omega)).mono fun _ _ h => ⟨h.1, k, h.2.symm⟩
theorem shifted_any (x i j k : Nat) (w : World) (hx : x < 18446744073709551616) (hi0 : 0 < i) (hi : i < 64) (hj0 : 0 < j) (hj : j < 64) (hk : k < 64) :
    Calls Tryz.prog 138 #[.int .u64 (x : Int), .int .i64 (i : Int), .int .i64 (j : Int), .int .i64 (k : Int)] w fun e w' => e = .returned (.int .u64 ((rotrL x i ^^^ rotrL x j ^^^ x / 2 ^ k : Nat) : Int)) ∧ ∃ n, w' = w.drewN n := by
  have HB := hid (xor3L (rotrL x i) (rotrL x j) (x / 2 ^ k) (rotrL_lt x i hx (by omega)) (rotrL_lt x j hx (by omega)) (Nat.lt_of_le_of_lt (Nat.div_le_self _ _) hx))
  have HD : Hid ((x : Int) / 2 ^ k = ((x / 2 ^ k : Nat) : Int)) := hid (by simp)
  have hk0 : (0 : Int) ≤ (k : Int) := by omega
  have hk1 : (k : Int) < 64 := by omega
  have h0i : -(i : Int) < 0 := by omega
  have h0j : -(j : Int) < 0 := by omega
  have h1i : -64 < -(i : Int) := by omega
  have h1j : -64 < -(j : Int) := by omega
  go_enter Tryz.func138, Tryz.ntmps138
  go_wp2_with fail
  go_quiet ((go_at_call 139; exact rotlL_q x _ _ _ hx (by first | assumption | (simp; omega)) (by first | assumption | (simp; omega))))
  go_wp2
  go_ret
  exact ⟨ret_int (by rw [← HB.out, ← HD.out]), _, rfl⟩
end Go.Proofs.YtgehfbcagaaggaaGreatDoor
end
section
namespace Go.Proofs.YtgehfbcagaaggaaGreatDoor
open Go.RowKit
set_option linter.unusedVariables false
set_option linter.unusedSimpArgs false
abbrev A80 : TypeId := 152
/-- The array of words when k of them are laid. -/
def wcL (m : List UInt8) (k : Nat) : Array Value := (uvs (wordsToL m k) ++ List.replicate (80 - k) (Value.int .u64 0)).toArray
theorem wcL_zero (m : List UInt8) : wcL m 0 = (List.replicate 80 (Value.int .u64 0)).toArray := by simp [wcL, wordsToL, uvs]
theorem wcL_get (m : List UInt8) (k : Nat) (h : k < 80) : (wcL m k)[k]? = some (Value.int .u64 0) := by
  rw [wcL, List.getElem?_toArray, List.getElem?_append_right (by simp), List.getElem?_replicate, if_pos (by simp; omega)]
theorem wcL_set (m : List UInt8) (k x : Nat) (h : k < 80) (hx : wordsToL m (k + 1) = wordsToL m k ++ [x]) : (wcL m k).setIfInBounds k (Value.int .u64 (x : Int)) = wcL m (k + 1) := by
  have h64 : 80 - k = (80 - (k + 1)) + 1 := by omega
  rw [wcL, wcL, hx, uvs_append, h64, List.replicate_succ]
  simp only [List.setIfInBounds_toArray]
  congr 1
  rw [List.set_append_right _ _ (by simp)]
  simp [uvs]
theorem wcL_old (m : List UInt8) (k j : Nat) (h : j < k) : (wcL m k)[j]? = some (Value.int .u64 (((wordsToL m k).getD j 0 : Nat) : Int)) := by
  have h1 : j < (wordsToL m k).length := by simpa using h
  rw [wcL, List.getElem?_toArray, List.getElem?_append_left (by simpa using h), uvs, List.getElem?_map, List.getD_eq_getElem?_getD, List.getElem?_eq_getElem h1]
  rfl
theorem wordL_lt (m : List UInt8) (k j : Nat) (h : j < k) : (wordsToL m k).getD j 0 < 18446744073709551616 := by
  have h1 : j < (wordsToL m k).length := by simpa using h
  rw [List.getD_eq_getElem?_getD, List.getElem?_eq_getElem h1]
  exact wordsToL_lt m k _ (List.getElem_mem h1)
theorem info80 : (Tryz.prog.info? 152).map (·.size) = some 80 := by kernel_rfl
theorem wcL_size (m : List UInt8) (k : Nat) (h : k ≤ 80) : (wcL m k).size = 80 := by simp [wcL]; omega
theorem wcL_one (m : List UInt8) (k : Nat) : (wcL m k).all (·.oneCell') = true := by
  rw [Array.all_eq_true']
  intro v hv
  simp only [wcL, uvs, List.mem_toArray, List.mem_append, List.mem_map, List.mem_replicate] at hv
  rcases hv with ⟨x, _, rfl⟩ | ⟨_, rfl⟩ <;> rfl
/-- .. and the next one in parts. -/
def wcP (m : List UInt8) (k T : Nat) : Array Value := (wcL m k).setIfInBounds k (Value.int .u64 (T : Int))
theorem wcP_zero (m : List UInt8) (k : Nat) (h : k < 80) : wcP m k 0 = wcL m k := by
  rw [wcP]
  apply Array.ext_getElem?
  intro i
  rw [Array.getElem?_setIfInBounds]
  split
  · rename_i e; subst e
    rw [if_pos (by rw [wcL_size m k (by omega)]; exact h), wcL_get m k h]; rfl
  · rfl
theorem wcP_get (m : List UInt8) (k T : Nat) (h : k < 80) : (wcP m k T)[k]? = some (Value.int .u64 (T : Int)) := by
  rw [wcP, Array.getElem?_setIfInBounds, if_pos rfl, if_pos (by rw [wcL_size m k (by omega)]; exact h)]
theorem wcP_set (m : List UInt8) (k T T' : Nat) : (wcP m k T).setIfInBounds k (Value.int .u64 (T' : Int)) = wcP m k T' := by
  rw [wcP, wcP, Array.setIfInBounds_setIfInBounds]
theorem word_take (xs : List UInt8) (j : Nat) (h : j < xs.length) : beNum 0 (xs.take (j + 1)) = beNum 0 (xs.take j) * 256 + xs[j].toNat := by
  rw [List.take_succ_eq_append_getElem h, beNum_snoc]
theorem be_take_lt (xs : List UInt8) (j : Nat) (h : j ≤ 7) : beNum 0 (xs.take j) * 256 + 256 ≤ 18446744073709551616 := by
  have h1 := beNum_lt 0 (xs.take j)
  have hl : (xs.take j).length ≤ j := List.length_take_le _ _
  have h2 : (256 : Nat) ^ (xs.take j).length ≤ 256 ^ 7 := Nat.pow_le_pow_right (by omega) (by omega)
  omega
theorem nextL_bits (a b p q : Nat) : IntKind.u64.wrap (IntKind.u64.wrap (IntKind.u64.wrap ((a : Int) + (p : Int)) + (b : Int)) + (q : Int)) = (((a + p + b + q) % 18446744073709551616 : Nat) : Int) := by
  simp only [IntKind.wrap_u64]
  omega
theorem s0L_any (x : Nat) (hx : x < 18446744073709551616) (w : World) (a : Nat) :
    Calls Tryz.prog 138 #[.int .u64 (x : Int), .int .i64 1, .int .i64 8, .int .i64 7] (w.drewN a) fun e w' => e = .returned (.int .u64 ((s0L x : Nat) : Int)) ∧ ∃ n, w' = w.drewN n :=
  (shifted_any x 1 8 7 _ hx (by omega) (by omega) (by omega) (by omega) (by omega)).mono fun e w' ⟨h1, n, h2⟩ => ⟨h1, _, h2.trans (World.drewN_drewN _ _ _)⟩
theorem s1L_any (x : Nat) (hx : x < 18446744073709551616) (w : World) (a : Nat) :
    Calls Tryz.prog 138 #[.int .u64 (x : Int), .int .i64 19, .int .i64 61, .int .i64 6] (w.drewN a) fun e w' => e = .returned (.int .u64 ((s1L x : Nat) : Int)) ∧ ∃ n, w' = w.drewN n :=
  (shifted_any x 19 61 6 _ hx (by omega) (by omega) (by omega) (by omega) (by omega)).mono fun e w' ⟨h1, n, h2⟩ => ⟨h1, _, h2.trans (World.drewN_drewN _ _ _)⟩
set_option maxRecDepth 100000 in
set_option maxHeartbeats 800000 in
theorem wordsL_any (b o : Nat) (m : List UInt8) (c : Nat) (w : World) (hm : m.length = 128) (hc : 128 ≤ c) (hc2 : c ≤ 9223372036854775807) (hb : b < w.heap.size) (hl : Lie w w.heap.size (some ⟨b, o, none⟩) (bvs m)) :
    Calls Tryz.prog 133 #[.slice (some ⟨b, o, none⟩) 128 c] w fun e w' => e = .returned (.agg (wcL m 80)) ∧ Below w.heap.size w w' := by
  have HL := hid hl
  have HM := hid hm
  have hz0 : ∀ W : World, (zeroValue 152).run Tryz.prog W = .ok (.agg (wcL m 0)) W := fun W => by
    rw [wcL_zero]
    exact (zero_of_info (P := Tryz.prog) (t := 152) (v := .agg (List.replicate 80 (Value.int .u64 0)).toArray) (n := 80) (by kernel_rfl)).1 W
  clear hl hm
  go_enter Tryz.func133, Tryz.ntmps133
  go_wp2
  clear hz0
  go_loopg [8] 16 (fun g i wr => ∃ k : Nat, k + g = 16 ∧ i = .int .i64 (k : Int) ∧ wr.heap[w.heap.size + 1]? = some (.cells (wcL m k) A80 (0, 0)) ∧ wr.heap[w.heap.size]? = some (.cells (wcL m 0) A80 (0, 0)) ∧ Below w.heap.size w wr)
  case atStart =>
    exact ⟨0, rfl, rfl, heap_alloc2_new w _ _, heap_alloc2_old w _ _, ((Below.refl _ _).alloc (Nat.le_refl _) _).alloc (by simp) _⟩
  case round =>
    obtain ⟨k, hk, rfl, hw1, hw0, hbel⟩ := hrel
    have HW1 := hid hw1; have HW0 := hid hw0; have HB := hid hbel
    have HK := hid hk
    have hkb : k ≤ 16 := by omega
    clear hw1 hw0 hbel hk
    obtain ⟨wo, rfl⟩ : ∃ wo : World, wo = wr := ⟨_, rfl⟩
    by_cases hlt : k < 16
    · have hx : (k : Int) < 16 := by omega
      have hk0 : (0 : Int) ≤ (k : Int) := by omega
      have hx80 : (k : Int) < 80 := by omega
      have e2 : (8 * (k : Int) + 8 - 8 * (k : Int)) = 8 := by omega
      have hcc : (8 * (k : Int) + 8) ≤ (c : Int) := by omega
      have hne : ¬ (8 * k = c) := by omega
      obtain ⟨ys, hys⟩ : ∃ ys, ys = (m.drop (8 * k)).take 8 := ⟨_, rfl⟩
      have hyl : ys.length = 8 := by rw [hys, List.length_take, List.length_drop, HM.out]; omega
      have HYS := hid hys
      have HYL := hid hyl
      clear hys hyl e2
      go_wp2
      have hz : ((0 : Nat) : Int) = 0 := rfl
      go_loopg [19] 8 (fun g i wr => ∃ j : Nat, j + g = 8 ∧ i = .int .i64 (j : Int) ∧ wr.heap[w.heap.size + 1]? = some (.cells (wcP m k (beNum 0 (ys.take j))) A80 (0, 0)) ∧ wr.heap[w.heap.size]? = some (.cells (wcL m 0) A80 (0, 0)) ∧ Below w.heap.size w wr)
      case atStart => exact ⟨0, rfl, rfl, by rw [List.take_zero]; exact (wcP_zero m k (by omega)).symm ▸ HW1.out, HW0.out, HB.out⟩
      case round =>
        clear hz
        obtain ⟨j, hj, rfl, hw1, hw0, hbel⟩ := hrel
        have HW2 := hid hw1; have HW02 := hid hw0; have HB2 := hid hbel
        have HJ := hid hj
        have hjb : j ≤ 8 := by omega
        clear hw1 hw0 hbel hj HW1 HW0 HB
        by_cases hj8 : j < 8
        · have hy : (j : Int) < 8 := by omega
          have hj0 : (0 : Int) ≤ (j : Int) := by omega
          have hB := HB2.out
          have hjl : j < ys.length := by rw [HYL.out]; exact hj8
          obtain ⟨x, hx8⟩ : ∃ x : UInt8, x = ys[j] := ⟨_, rfl⟩
          have hcx : wr.cell? ⟨b, o + 8 * k + j, none⟩ = some (.int .u8 (x.toNat : Int)) := by
            obtain ⟨b', o', h1, _, h2⟩ := (HL.out.below hB).byte (k := 8 * k + j) (by rw [HM.out]; omega)
            simp only [Option.some.injEq, Addr.mk.injEq] at h1
            obtain ⟨rfl, rfl, _⟩ := h1
            rw [Nat.add_assoc, h2, hx8]
            have e : m[8 * k + j]'(by rw [HM.out]; omega) = ys[j] := by
              have h3 := HYS.out
              subst h3
              simp
            rw [e]
          have hx0 := x.toNat_lt
          obtain ⟨T, hT⟩ : ∃ T, T = beNum 0 (ys.take j) := ⟨_, rfl⟩
          have hTl : T * 256 + 256 ≤ 18446744073709551616 := by rw [hT]; exact be_take_lt ys j (by omega)
          have hTn : beNum 0 (ys.take (j + 1)) = T * 256 + x.toNat := by rw [word_take ys j hjl, hT, hx8]
          rw [← hT] at HW2
          have hvk : wr.cell? ⟨w.heap.size + 1, k, none⟩ = some (.int .u64 (T : Int)) := cell_of HW2.out k _ (wcP_get m k T (by omega))
          have hfz : wr.frozen? ⟨w.heap.size + 1, k, none⟩ = false := frozen_of_row _ _ _ _ _ HW2.out
          have q1 := wrap_byte T hTl
          have q2 := or_byte T x.toNat hx0 hTl
          have Q := hid q2
          have HTN := hid hTn
          clear hB hx8 hT hTl hTn hjl q2
          go_wp2
          have hW := block_set HW2.out k (Value.int .u64 ((T * 256 + x.toNat : Nat) : Int))
          rw [wcP_set, ← HTN.out, HTN.out, ← Q.out] at hW
          rw [Q.out] at hW
          have hj := HJ.out
          go_roundg (8 - j - 1)
          case measure => omega
          case rel => exact ⟨j + 1, by omega, by go_num, by rw [HTN.out, Q.out]; exact hW, (heap_setCell_other _ _ _ _ (by simp)).trans HW02.out, HB2.out.setCell (by simp) _⟩
        · obtain rfl : j = 8 := by omega
          have hT : wcP m k (beNum 0 (ys.take 8)) = wcL m (k + 1) := by
            rw [wcP, wcL_set m k _ (by omega)]
            simp only [wordsToL, if_pos hlt, word8]
            rw [← HYS.out, List.take_of_length_le (by rw [HYL.out]; omega)]
          have HT := hid hT
          clear hT
          go_wp2
          have hk := HK.out
          go_roundg (16 - k - 1)
          case measure => omega
          case rel => exact ⟨k + 1, by omega, by go_num, by rw [← HT.out]; exact HW2.out, HW02.out, HB2.out⟩
    · obtain rfl : k = 16 := by have := HK.out; omega
      clear HK hkb hlt
      go_wp2
      go_loopg [7] 64 (fun g i wr => ∃ k : Nat, k + g = 80 ∧ 16 ≤ k ∧ i = .int .i64 (k : Int) ∧ wr.heap[w.heap.size + 1]? = some (.cells (wcL m k) A80 (0, 0)) ∧ wr.heap[w.heap.size]? = some (.cells (wcL m 0) A80 (0, 0)) ∧ Below w.heap.size w wr)
      case atStart => exact ⟨16, rfl, by omega, rfl, HW1.out, HW0.out, HB.out⟩
      case round =>
        clear HW1 HW0 HB
        obtain ⟨k, hk, hk16, rfl, hw1, hw0, hbel⟩ := hrel
        have HW1 := hid hw1; have HW0 := hid hw0; have HB := hid hbel
        have HK := hid hk
        have hkb : k ≤ 80 := by omega
        clear hw1 hw0 hbel hk
        by_cases hlt : k < 80
        · have hx80 : (k : Int) < 80 := by omega
          have hk0 : (0 : Int) ≤ (k : Int) := by omega
          have hold : ∀ j, 0 < j → j ≤ 16 → ∃ x : Nat, x = (wordsToL m k).getD (k - j) 0 ∧ x < 18446744073709551616 ∧ wr.cell? ⟨w.heap.size + 1, k - j, none⟩ = some (.int .u64 (x : Int)) := fun j h0 hj =>
            ⟨_, rfl, wordL_lt m k _ (by omega), cell_of HW1.out (k - j) _ (wcL_old m k _ (by omega))⟩
          obtain ⟨x, hex, hx, hcx⟩ := hold 15 (by omega) (by omega)
          obtain ⟨y, hey, hy, hcy⟩ := hold 2 (by omega) (by omega)
          obtain ⟨p, hep, hp, hcp⟩ := hold 7 (by omega) (by omega)
          obtain ⟨q, heq, hq, hcq⟩ := hold 16 (by omega) (by omega)
          have HX := hid hex; have HY := hid hey; have HP := hid hep; have HQ := hid heq
          have hvk : wr.cell? ⟨w.heap.size + 1, k, none⟩ = some (.int .u64 0) := cell_of HW1.out k _ (wcL_get m k (by omega))
          have hfz : wr.frozen? ⟨w.heap.size + 1, k, none⟩ = false := frozen_of_row _ _ _ _ _ HW1.out
          have q1 : IntKind.i64.wrap ((k : Int) - 7) = (k : Int) - 7 := IntWalk.i64_in _ (by omega)
          have q2 : (7 : Int) ≤ (k : Int) := by omega
          have q3 : (k : Int) - 7 < 80 := by omega
          have q4 : ((k : Int) - 7).toNat = k - 7 := by omega
          have q5 : IntKind.i64.wrap ((k : Int) - 16) = (k : Int) - 16 := IntWalk.i64_in _ (by omega)
          have q6 : (16 : Int) ≤ (k : Int) := by omega
          have q7 : (k : Int) - 16 < 80 := by omega
          have q8 : ((k : Int) - 16).toNat = k - 16 := by omega
          have q9 : IntKind.i64.wrap ((k : Int) - 2) = (k : Int) - 2 := IntWalk.i64_in _ (by omega)
          have q10 : (2 : Int) ≤ (k : Int) := by omega
          have q11 : (k : Int) - 2 < 80 := by omega
          have q12 : ((k : Int) - 2).toNat = k - 2 := by omega
          have q13 : IntKind.i64.wrap ((k : Int) - 15) = (k : Int) - 15 := IntWalk.i64_in _ (by omega)
          have q14 : (15 : Int) ≤ (k : Int) := by omega
          have q15 : (k : Int) - 15 < 80 := by omega
          have q16 : ((k : Int) - 15).toNat = k - 15 := by omega
          clear hold hex hey hep heq
          go_wp2
          have HC0 := hid (s0L_any x hx)
          have HC1 := hid (s1L_any y hy)
          refine wp_region_quiet_tail 22 (by kernel_rfl) (by kernel_rfl) ?_
          simp only [List.take_succ_cons, List.take_zero, List.drop_succ_cons, List.drop_zero]
          repeat (quiet_step ((go_at_call 138; first | with_reducible exact HC1.out _ _ | with_reducible exact HC0.out _ _)))
          refine wpQuiet_nil ?_
          intro _ hw'
          obtain ⟨nq, hw''⟩ := hw'
          subst hw''
          clear q1 q2 q3 q4 q5 q6 q7 q8 q9 q10 q11 q12 q13 q14 q15 q16
          go_wp2
          have hnext : wordsToL m (k + 1) = wordsToL m k ++ [(s1L y + p + s0L x + q) % 18446744073709551616] := by
            have h16 : ¬ k < 16 := by omega
            rw [HX.out, HY.out, HP.out, HQ.out]
            simp only [wordsToL, if_neg h16]
          have hW := block_set (w := wr.drewN nq) HW1.out k (Value.int .u64 (((s1L y + p + s0L x + q) % 18446744073709551616 : Nat) : Int))
          rw [wcL_set m k _ hlt hnext] at hW
          have hk := HK.out
          go_roundg (80 - k - 1)
          case measure => omega
          case rel => exact ⟨k + 1, by omega, by omega, by go_num, by rw [nextL_bits]; exact hW, (heap_setCell_other (wr.drewN nq) _ _ _ (by simp)).trans HW0.out, (below_drewN HB.out nq).setCell (by simp) _⟩
        · obtain rfl : k = 80 := by omega
          have hs := wcL_size m 80 (by omega)
          have hs0 := wcL_size m 0 (by omega)
          have HI : Hid ((Tryz.prog.info? 152).map (·.size) = some (wcL m 80).size) := hid (info80.trans (congrArg some hs.symm))
          have HS : Hid ((wcL m 0).size = (wcL m 80).size) := hid (hs0.trans hs.symm)
          have HO := hid (wcL_one m 80)
          clear hs hs0
          go_wp2_with (first
            | (with_reducible refine wpList_load_row rfl 152 (.tmp 3) rfl (w.heap.size + 1) rfl A80 (wcL m 80) (0, 0) _ HW1.out Tryz.underlying152 rfl HI.out ?_)
            | (with_reducible refine wpList_store_row rfl 152 (.tmp 2) _ rfl w.heap.size (wcL m 80) rfl rfl A80 (wcL m 0) HW0.out HI.out HS.out HO.out ?_))
          refine bodyPost_ret (v := .agg (wcL m 80)) (results_cell_row rfl _ _ w.heap.size A80 (wcL m 80) (0, 0) _ rfl (setRow_heap _ _ _ _ _ _ HW0.out) Tryz.underlying152 rfl HI.out) rfl ⟨rfl, ?_⟩
          exact below_setRow HB.out (Nat.le_refl _) _
end Go.Proofs.YtgehfbcagaaggaaGreatDoor
end
section
namespace Go.Proofs.YtgehfbcagaaggaaGreatDoor
open Go.RowKit
set_option linter.unusedVariables false
set_option linter.unusedSimpArgs false
abbrev A8L : TypeId := 141
/-- A state as an array. -/
def stL (s : St8) : Array Value := (uvs s.list).toArray
theorem stL_size (s : St8) : (stL s).size = 8 := rfl
theorem stL_one (s : St8) : (stL s).all (·.oneCell') = true := by simp [stL, St8.list, uvs, Value.oneCell']
theorem info8L : (Tryz.prog.info? 141).map (·.size) = some 8 := by kernel_rfl
/-- What the package's variables hold. -/
def GlobL (w : World) : Prop := (∀ j, j < 80 → w.cell? ⟨1, j, none⟩ = some (.int .u64 ((kTabL.getD j 0 : Nat) : Int))) ∧
  (∀ j v, (stL ivL)[j]? = some v → w.cell? ⟨0, j, none⟩ = some v) ∧ 1 < w.heap.size ∧ 0 < w.heap.size
theorem GlobL.below {w w' : World} {B : Nat} (h : GlobL w) (hb : Below B w w') (hB : w.heap.size ≤ B) : GlobL w' := by
  obtain ⟨h1, h2, h3, h4⟩ := h
  exact ⟨fun j hj => (hb.cell (p := ⟨_, j, none⟩) (Nat.lt_of_lt_of_le h3 hB)).trans (h1 j hj), fun j v hv => (hb.cell (p := ⟨_, j, none⟩) (Nat.lt_of_lt_of_le h4 hB)).trans (h2 j v hv), Nat.lt_of_lt_of_le h3 hb.size, Nat.lt_of_lt_of_le h4 hb.size⟩
theorem S0L_any (x : Nat) (hx : x < 18446744073709551616) (w : World) :
    Calls Tryz.prog 134 #[.int .u64 (x : Int), .int .i64 28, .int .i64 34, .int .i64 39] w fun e w' => e = .returned (.int .u64 ((S0L x : Nat) : Int)) ∧ w = w' :=
  (turned_any x 28 34 39 w hx (by omega) (by omega) (by omega) (by omega) (by omega) (by omega)).mono fun e w' h => h
theorem S1L_any (x : Nat) (hx : x < 18446744073709551616) (w : World) (a : Nat) :
    Calls Tryz.prog 134 #[.int .u64 (x : Int), .int .i64 14, .int .i64 18, .int .i64 41] (w.drewN a) fun e w' => e = .returned (.int .u64 ((S1L x : Nat) : Int)) ∧ ∃ n, w' = w.drewN n :=
  (turned_any x 14 18 41 _ hx (by omega) (by omega) (by omega) (by omega) (by omega) (by omega)).mono fun e w' h => ⟨h.1, a, h.2.symm⟩
theorem chL_bits (e f g : Nat) (he : e < 18446744073709551616) (hf : f < 18446744073709551616) (hg : g < 18446744073709551616) :
    bits .xor .u64 (bits .and .u64 (e : Int) (f : Int)) (bits .and .u64 (bits .xor .u64 IntKind.u64.max (e : Int)) (g : Int)) = ((chL e f g : Nat) : Int) := by
  have e0 : IntKind.u64.max = ((18446744073709551615 : Nat) : Int) := by decide
  have e1 : 18446744073709551615 ^^^ e = 18446744073709551615 - e := by
    apply Nat.eq_of_testBit_eq
    intro i
    have h2 := Nat.testBit_two_pow_sub_succ (n := 64) he i
    rw [show (2 : Nat) ^ 64 - (e + 1) = 18446744073709551615 - e by omega] at h2
    have h3 := Nat.testBit_two_pow_sub_one 64 i
    rw [show (2 : Nat) ^ 64 - 1 = 18446744073709551615 by decide] at h3
    rw [h2, Nat.testBit_xor, h3]
    by_cases hi : i < 64
    · simp [hi]
    · have : e.testBit i = false := Nat.testBit_lt_two_pow (Nat.lt_of_lt_of_le he (Nat.pow_le_pow_right (n := 2) (by omega) (by omega : 64 ≤ i)))
      simp [hi, this]
  rw [e0, u64_xor_nat _ _ (by omega) he, e1, u64_and_nat _ _ he hf, u64_and_nat _ _ (by omega) hg,
    u64_xor_nat _ _ (Nat.and_lt_two_pow (n := 64) _ hf) (Nat.and_lt_two_pow (n := 64) _ hg), chL]
theorem majL_bits (a b c : Nat) (ha : a < 18446744073709551616) (hb : b < 18446744073709551616) (hc : c < 18446744073709551616) :
    bits .xor .u64 (bits .xor .u64 (bits .and .u64 (a : Int) (b : Int)) (bits .and .u64 (a : Int) (c : Int))) (bits .and .u64 (b : Int) (c : Int)) = ((majL a b c : Nat) : Int) := by
  have h1 := Nat.and_lt_two_pow (n := 64) a hb
  have h2 := Nat.and_lt_two_pow (n := 64) a hc
  have h3 := Nat.and_lt_two_pow (n := 64) b hc
  rw [u64_and_nat _ _ ha hb, u64_and_nat _ _ ha hc, u64_and_nat _ _ hb hc, u64_xor_nat _ _ h1 h2, u64_xor_nat _ _ (Nat.xor_lt_two_pow (n := 64) h1 h2) h3, majL]
theorem addL (x y : Nat) : IntKind.u64.wrap ((x : Int) + (y : Int)) = (((x + y) % 18446744073709551616 : Nat) : Int) := by
  rw [IntKind.wrap_u64]; omega
theorem stepL_a (a b c d e f g h q p : Nat) :
    IntKind.u64.wrap (IntKind.u64.wrap (IntKind.u64.wrap (IntKind.u64.wrap (IntKind.u64.wrap ((h : Int) + ((S1L e : Nat) : Int)) + ((chL e f g : Nat) : Int)) + (q : Int)) + (p : Int)) + IntKind.u64.wrap (((S0L a : Nat) : Int) + ((majL a b c : Nat) : Int)))
      = (((St8.stepL ⟨a, b, c, d, e, f, g, h⟩ q p).a : Nat) : Int) := by
  simp only [IntKind.wrap_u64, St8.stepL, t1L, t2L]
  omega
theorem stepL_e (a b c d e f g h q p : Nat) :
    IntKind.u64.wrap ((d : Int) + IntKind.u64.wrap (IntKind.u64.wrap (IntKind.u64.wrap (IntKind.u64.wrap ((h : Int) + ((S1L e : Nat) : Int)) + ((chL e f g : Nat) : Int)) + (q : Int)) + (p : Int)))
      = (((St8.stepL ⟨a, b, c, d, e, f, g, h⟩ q p).e : Nat) : Int) := by
  simp only [IntKind.wrap_u64, St8.stepL, t1L]
  omega
set_option maxRecDepth 100000 in
set_option maxHeartbeats 1600000 in
theorem mixedL_any (s : St8) (b o : Nat) (m : List UInt8) (c : Nat) (w : World) (hs : s.okL) (hm : m.length = 128) (hc : 128 ≤ c) (hc2 : c ≤ 9223372036854775807) (hb : b < w.heap.size) (hl : Lie w w.heap.size (some ⟨b, o, none⟩) (bvs m)) (hg : GlobL w) :
    Calls Tryz.prog 121 #[.agg (stL s), .slice (some ⟨b, o, none⟩) 128 c] w fun e w' => e = .returned (.agg (stL (mixL kTabL s m))) ∧ Below w.heap.size w w' := by
  have HL := hid hl
  have HM := hid hm
  have HG := hid hg
  clear hl hm hg
  have hz0 : ∀ W : World, (zeroValue 152).run Tryz.prog W = .ok (.agg (wcL m 0)) W := fun W => by
    rw [wcL_zero]
    exact (zero_of_info (P := Tryz.prog) (t := 152) (v := .agg (List.replicate 80 (Value.int .u64 0)).toArray) (n := 80) (by kernel_rfl)).1 W
  go_enter Tryz.func121, Tryz.ntmps121
  go_wp2_with fail
  obtain ⟨z8, hz8⟩ : ∃ z8 : Array Value, z8 = #[Value.int .u64 0, .int .u64 0, .int .u64 0, .int .u64 0, .int .u64 0, .int .u64 0, .int .u64 0, .int .u64 0] := ⟨_, rfl⟩
  rw [← hz8]
  have hz8s : z8.size = 8 := by rw [hz8]; rfl
  have HZ8 := hid hz8s
  clear hz8 hz8s
  have hL2 : Lie ((w.alloc (.cells (stL s) A8L)).alloc (.cells z8 A8L)) w.heap.size (some ⟨b, o, none⟩) (bvs m) := (HL.out.alloc (Nat.le_refl _) _).alloc (by simp) _
  have hG2 : GlobL ((w.alloc (.cells (stL s) A8L)).alloc (.cells z8 A8L)) := HG.out.below (((Below.refl _ _).alloc (Nat.le_refl _) _).alloc (by simp) _) (Nat.le_refl _)
  have hs2 : ((w.alloc (.cells (stL s) A8L)).alloc (.cells z8 A8L)).heap[w.heap.size]? = some (.cells (stL s) A8L (0, 0)) := heap_alloc2_old w _ _
  have hr2 : ((w.alloc (.cells (stL s) A8L)).alloc (.cells z8 A8L)).heap[w.heap.size + 1]? = some (.cells z8 A8L (0, 0)) := heap_alloc2_new w _ _
  have hb2 : Below w.heap.size w ((w.alloc (.cells (stL s) A8L)).alloc (.cells z8 A8L)) := ((Below.refl _ _).alloc (Nat.le_refl _) _).alloc (by simp) _
  have hsz2 : w.heap.size + 2 ≤ ((w.alloc (.cells (stL s) A8L)).alloc (.cells z8 A8L)).heap.size := by simp
  generalize (w.alloc (.cells (stL s) A8L)).alloc (.cells z8 A8L) = w2 at *
  refine (wordsL_any b o m c w2 HM.out hc hc2 (by omega) (hL2.more (by omega))).mono ?_
  rintro e w3 ⟨rfl, hb3⟩
  have hs3 : w3.heap[w.heap.size]? = some (.cells (stL s) A8L (0, 0)) := (hb3.block _ (by omega)).trans hs2
  have hr3 : w3.heap[w.heap.size + 1]? = some (.cells z8 A8L (0, 0)) := (hb3.block _ (by omega)).trans hr2
  have hG3 : GlobL w3 := hG2.below hb3 (Nat.le_refl _)
  have hb3' : Below w.heap.size w w3 := hb2.trans (hb3.mono (by omega))
  have hsz3 : w.heap.size + 2 ≤ w3.heap.size := Nat.le_trans hsz2 hb3.size
  have hi57 : (Tryz.prog.info? 152).map (·.size) = some (wcL m 80).size := info80.trans (congrArg some (wcL_size m 80 (by omega)).symm)
  have HI57 := hid hi57
  have HO := hid (wcL_one m 80)
  have HS64 : Hid ((wcL m 0).size = (wcL m 80).size) := hid ((wcL_size m 0 (by omega)).trans (wcL_size m 80 (by omega)).symm)
  have Hs3 := hid hs3; have Hr3 := hid hr3; have HG3 := hid hG3; have HB3 := hid hb3'
  clear hb3 hs3 hr3 hG3 hb3' hs2 hr2 hG2 hb2 hL2 hi57
  go_wp2_with (with_reducible refine wpList_store_row rfl 152 (.tmp 5) _ rfl w3.heap.size (wcL m 80) rfl rfl A80 _ (heap_alloc_new _ _) HI57.out ?e1 HO.out ?_)
  case e1 => exact HS64.out
  rw [World.setRow_alloc_new]
  clear hz0
  have hs4 : (w3.alloc (.cells (wcL m 80) A80)).heap[w.heap.size]? = some (.cells (stL s) A8L (0, 0)) := (Below.heap_alloc w3 _ w.heap.size (by omega)).trans Hs3.out
  have hr4 : (w3.alloc (.cells (wcL m 80) A80)).heap[w.heap.size + 1]? = some (.cells z8 A8L (0, 0)) := (Below.heap_alloc w3 _ (w.heap.size + 1) (by omega)).trans Hr3.out
  have hw4 : (w3.alloc (.cells (wcL m 80) A80)).heap[w3.heap.size]? = some (.cells (wcL m 80) A80 (0, 0)) := heap_alloc_new _ _
  have hG4 : GlobL (w3.alloc (.cells (wcL m 80) A80)) := HG3.out.below ((Below.refl w3.heap.size w3).alloc (Nat.le_refl _) _) (Nat.le_refl _)
  have hb4 : Below w.heap.size w (w3.alloc (.cells (wcL m 80) A80)) := HB3.out.alloc (by omega) _
  have hB5 : w.heap.size + 1 < w3.heap.size := by omega
  generalize w3.heap.size = B5 at *
  generalize w3.alloc (.cells (wcL m 80) A80) = w4 at *
  have hcs : ∀ j x, (stL s)[j]? = some x → w4.cell? ⟨w.heap.size, j, none⟩ = some x := fun j x h => cell_of hs4 j x h
  have hc0 : w4.cell? ⟨w.heap.size, 0, none⟩ = some (.int .u64 (s.a : Int)) := hcs 0 _ rfl
  have hc1 : w4.cell? ⟨w.heap.size, 1, none⟩ = some (.int .u64 (s.b : Int)) := hcs 1 _ rfl
  have hc2' : w4.cell? ⟨w.heap.size, 2, none⟩ = some (.int .u64 (s.c : Int)) := hcs 2 _ rfl
  have hc3 : w4.cell? ⟨w.heap.size, 3, none⟩ = some (.int .u64 (s.d : Int)) := hcs 3 _ rfl
  have hc4 : w4.cell? ⟨w.heap.size, 4, none⟩ = some (.int .u64 (s.e : Int)) := hcs 4 _ rfl
  have hc5 : w4.cell? ⟨w.heap.size, 5, none⟩ = some (.int .u64 (s.f : Int)) := hcs 5 _ rfl
  have hc6 : w4.cell? ⟨w.heap.size, 6, none⟩ = some (.int .u64 (s.g : Int)) := hcs 6 _ rfl
  have hc7 : w4.cell? ⟨w.heap.size, 7, none⟩ = some (.int .u64 (s.h : Int)) := hcs 7 _ rfl
  have Hs4 := hid hs4; have Hr4 := hid hr4; have Hw4 := hid hw4; have HG4 := hid hG4; have HB4 := hid hb4
  clear hcs hs4 hr4 hw4 hG4 hb4 Hs3 Hr3 HG3 HB3
  go_wp2
  go_quiet (fail)
  go_wp2
  go_quiet (fail)
  go_wp2
  clear hc0 hc1 hc2' hc3 hc4 hc5 hc6 hc7
  have HS := hid hs
  clear hs
  go_loopg [6, 7, 8, 9, 10, 11, 12, 13, 37] 80 (fun r x0 x1 x2 x3 x4 x5 x6 x7 i wr => ∃ (k : Nat) (v : St8), k + r = 80 ∧ v = rndL kTabL (wordsToL m 80) s k ∧ x0 = .int .u64 (v.a : Int) ∧ x1 = .int .u64 (v.b : Int) ∧ x2 = .int .u64 (v.c : Int) ∧ x3 = .int .u64 (v.d : Int) ∧ x4 = .int .u64 (v.e : Int) ∧ x5 = .int .u64 (v.f : Int) ∧ x6 = .int .u64 (v.g : Int) ∧ x7 = .int .u64 (v.h : Int) ∧ i = .int .i64 (k : Int) ∧ ∃ n, wr = w4.drewN n)
  case atStart => exact ⟨0, s, rfl, rfl, rfl, rfl, rfl, rfl, rfl, rfl, rfl, rfl, rfl, _, World.drewN_drewN _ _ _⟩
  case round =>
    obtain ⟨k, v, hk, hv, rfl, rfl, rfl, rfl, rfl, rfl, rfl, rfl, rfl, hw⟩ := hrel
    have hcell : ∀ p, wr.cell? p = w4.cell? p := by obtain ⟨n, rfl⟩ := hw; exact fun p => rfl
    have HCELL := hid hcell
    have HW := hid hw
    clear hcell hw
    have hvo : v.okL := by rw [hv]; exact rndL_ok _ _ _ HS.out k
    have HV := hid hv
    have HK := hid hk
    have hkb : k ≤ 80 := by omega
    clear hk hv
    obtain ⟨va, vb, vc, vd, ve, vf, vg, vh⟩ := v
    obtain ⟨h1, h2, h3, h4, h5, h6, h7, h8⟩ := hvo
    simp only at h1 h2 h3 h4 h5 h6 h7 h8
    by_cases hlt : k < 80
    · have hx64 : (k : Int) < 80 := by omega
      have hk0 : (0 : Int) ≤ (k : Int) := by omega
      obtain ⟨q, heq, hq⟩ : ∃ q, q = kTabL.getD k 0 ∧ q < 18446744073709551616 := ⟨_, rfl, kTabL_lt k⟩
      obtain ⟨p, hep, hp⟩ : ∃ p, p = (wordsToL m 80).getD k 0 ∧ p < 18446744073709551616 := ⟨_, rfl, wordL_lt m 80 k hlt⟩
      have hcq : wr.cell? ⟨1, k, none⟩ = some (.int .u64 (q : Int)) := by rw [HCELL.out, heq]; exact HG4.out.1 k hlt
      have hcp : wr.cell? ⟨B5, k, none⟩ = some (.int .u64 (p : Int)) := by rw [HCELL.out, hep]; exact cell_of Hw4.out k _ (wcL_old m 80 k hlt)
      have HQ := hid heq; have HP := hid hep
      have HCH := hid (chL_bits ve vf vg h5 h6 h7)
      have HMJ := hid (majL_bits va vb vc h1 h2 h3)
      have hsg : IntKind.u64.signed = false := rfl
      clear heq hep
      go_wp2
      rw [HCH.out, HMJ.out]
      have HC1 := hid (S1L_any ve h5)
      go_quiet ((go_at_call 134; with_reducible exact HC1.out _ _))
      go_wp2_with fail
      refine (S0L_any va h1 _).mono ?_
      rintro e w' ⟨rfl, rfl⟩
      go_wp2
      have hst : St8.stepL ⟨va, vb, vc, vd, ve, vf, vg, vh⟩ q p = rndL kTabL (wordsToL m 80) s (k + 1) := by
        rw [rndL, ← HV.out, ← HQ.out, ← HP.out]
      have hk := HK.out
      go_roundg (80 - k - 1)
      case measure => omega
      case rel => exact ⟨k + 1, _, by omega, hst, by rw [stepL_a], rfl, rfl, rfl, by rw [stepL_e], rfl, rfl, rfl, by go_num, by obtain ⟨n, hn⟩ := HW.out; exact ⟨_, by rw [hn, World.drewN_drewN]⟩⟩
    · obtain rfl : k = 80 := by omega
      clear HK hkb hlt
      have hs5 : wr.heap[w.heap.size]? = some (.cells (stL s) A8L (0, 0)) := by obtain ⟨n, hn⟩ := HW.out; rw [hn]; exact Hs4.out
      have hr5 : wr.heap[w.heap.size + 1]? = some (.cells z8 A8L (0, 0)) := by obtain ⟨n, hn⟩ := HW.out; rw [hn]; exact Hr4.out
      have hb5 : Below w.heap.size w wr := by obtain ⟨n, hn⟩ := HW.out; rw [hn]; exact below_drewN HB4.out n
      have hcs : ∀ j x, (stL s)[j]? = some x → wr.cell? ⟨w.heap.size, j, none⟩ = some x := fun j x h => cell_of hs5 j x h
      have hc0 : wr.cell? ⟨w.heap.size, 0, none⟩ = some (.int .u64 (s.a : Int)) := hcs 0 _ rfl
      have hc1 : wr.cell? ⟨w.heap.size, 1, none⟩ = some (.int .u64 (s.b : Int)) := hcs 1 _ rfl
      have hc2' : wr.cell? ⟨w.heap.size, 2, none⟩ = some (.int .u64 (s.c : Int)) := hcs 2 _ rfl
      have hc3 : wr.cell? ⟨w.heap.size, 3, none⟩ = some (.int .u64 (s.d : Int)) := hcs 3 _ rfl
      have hc4 : wr.cell? ⟨w.heap.size, 4, none⟩ = some (.int .u64 (s.e : Int)) := hcs 4 _ rfl
      have hc5 : wr.cell? ⟨w.heap.size, 5, none⟩ = some (.int .u64 (s.f : Int)) := hcs 5 _ rfl
      have hc6 : wr.cell? ⟨w.heap.size, 6, none⟩ = some (.int .u64 (s.g : Int)) := hcs 6 _ rfl
      have hc7 : wr.cell? ⟨w.heap.size, 7, none⟩ = some (.int .u64 (s.h : Int)) := hcs 7 _ rfl
      have Hr5 := hid hr5; have HB5 := hid hb5
      clear hcs hs5 hr5 hb5 HCELL HW h1 h2 h3 h4 h5 h6 h7 h8
      obtain ⟨pa, hpa⟩ : ∃ p, p = (s.a + va) % 18446744073709551616 := ⟨_, rfl⟩
      have hwa := addL s.a va
      rw [← hpa] at hwa
      obtain ⟨pb, hpb⟩ : ∃ p, p = (s.b + vb) % 18446744073709551616 := ⟨_, rfl⟩
      have hwb := addL s.b vb
      rw [← hpb] at hwb
      obtain ⟨pc, hpc⟩ : ∃ p, p = (s.c + vc) % 18446744073709551616 := ⟨_, rfl⟩
      have hwc := addL s.c vc
      rw [← hpc] at hwc
      obtain ⟨pd, hpd⟩ : ∃ p, p = (s.d + vd) % 18446744073709551616 := ⟨_, rfl⟩
      have hwd := addL s.d vd
      rw [← hpd] at hwd
      obtain ⟨pe, hpe⟩ : ∃ p, p = (s.e + ve) % 18446744073709551616 := ⟨_, rfl⟩
      have hwe := addL s.e ve
      rw [← hpe] at hwe
      obtain ⟨pf, hpf⟩ : ∃ p, p = (s.f + vf) % 18446744073709551616 := ⟨_, rfl⟩
      have hwf := addL s.f vf
      rw [← hpf] at hwf
      obtain ⟨pg, hpg⟩ : ∃ p, p = (s.g + vg) % 18446744073709551616 := ⟨_, rfl⟩
      have hwg := addL s.g vg
      rw [← hpg] at hwg
      obtain ⟨ph, hph⟩ : ∃ p, p = (s.h + vh) % 18446744073709551616 := ⟨_, rfl⟩
      have hwh := addL s.h vh
      rw [← hph] at hwh
      obtain ⟨M, hM⟩ : ∃ M, M = mixL kTabL s m := ⟨_, rfl⟩
      have hlit : #[Value.int .u64 (pa : Int), Value.int .u64 (pb : Int), Value.int .u64 (pc : Int), Value.int .u64 (pd : Int), Value.int .u64 (pe : Int), Value.int .u64 (pf : Int), Value.int .u64 (pg : Int), Value.int .u64 (ph : Int)] = stL M := by
        rw [hM, mixL, ← HV.out]
        simp only [St8.plusL, ← hpa, ← hpb, ← hpc, ← hpd, ← hpe, ← hpf, ← hpg, ← hph]
        rfl
      have HLIT := hid hlit; have HMM := hid hM
      clear hlit hM hpa hpb hpc hpd hpe hpf hpg hph
      have HI : Hid ((Tryz.prog.info? 141).map (·.size) = some (stL M).size) := hid (info8L.trans (congrArg some (stL_size _).symm))
      have HI2 : Hid ((Tryz.prog.info? 141).map (·.size) = some (#[Value.int .u64 (pa : Int), Value.int .u64 (pb : Int), Value.int .u64 (pc : Int), Value.int .u64 (pd : Int), Value.int .u64 (pe : Int), Value.int .u64 (pf : Int), Value.int .u64 (pg : Int), Value.int .u64 (ph : Int)] : Array Value).size) := hid (by rw [HLIT.out]; exact HI.out)
      have HZ : Hid (z8.size = (#[Value.int .u64 (pa : Int), Value.int .u64 (pb : Int), Value.int .u64 (pc : Int), Value.int .u64 (pd : Int), Value.int .u64 (pe : Int), Value.int .u64 (pf : Int), Value.int .u64 (pg : Int), Value.int .u64 (ph : Int)] : Array Value).size) := hid (by rw [HLIT.out]; exact HZ8.out.trans (stL_size _).symm)
      have HOM : Hid ((#[Value.int .u64 (pa : Int), Value.int .u64 (pb : Int), Value.int .u64 (pc : Int), Value.int .u64 (pd : Int), Value.int .u64 (pe : Int), Value.int .u64 (pf : Int), Value.int .u64 (pg : Int), Value.int .u64 (ph : Int)] : Array Value).all (·.oneCell') = true) := hid (by rw [HLIT.out]; exact stL_one M)
      go_wp2_with (with_reducible refine wpList_store_row rfl 141 (.tmp 4) (.tmp 122) rfl (w.heap.size + 1) #[Value.int .u64 (pa : Int), Value.int .u64 (pb : Int), Value.int .u64 (pc : Int), Value.int .u64 (pd : Int), Value.int .u64 (pe : Int), Value.int .u64 (pf : Int), Value.int .u64 (pg : Int), Value.int .u64 (ph : Int)] rfl rfl A8L z8 Hr5.out HI2.out HZ.out HOM.out ?_)
      rw [HLIT.out]
      refine bodyPost_ret (v := .agg (stL M)) (results_cell_row rfl _ _ (w.heap.size + 1) A8L (stL M) (0, 0) _ rfl (setRow_heap _ _ _ _ _ _ Hr5.out) Tryz.underlying141 rfl HI.out) rfl ⟨by rw [HMM.out], ?_⟩
      exact below_setRow HB5.out (by omega) _
end Go.Proofs.YtgehfbcagaaggaaGreatDoor
end
section
namespace Go.Proofs.YtgehfbcagaaggaaGreatDoor
open Go.RowKit
set_option linter.unusedVariables false
set_option linter.unusedSimpArgs false
theorem agg8L (w : World) : (isAgg 141).run Tryz.prog w = .ok true w := by
  have hu := run_underlying (P := Tryz.prog) Tryz.underlying141 w
  simp [isAgg, hu]
theorem size8L (w : World) : (sizeOf 141).run Tryz.prog w = .ok 8 w := by
  have h := info8L
  cases hq : Tryz.prog.info? 141 with
  | none => simp [hq] at h
  | some i => have hs : i.size = 8 := by simpa [hq] using h
              simp [sizeOf, typeInfo, hq, hs]
/-- What holds at the label, k blocks gone through. -/
def ThruL (w : World) (A : Option Addr) (s : St8) (xs : List UInt8) (z8 : Array Value) (A' : Option Addr) (n c' k : Nat) (w' : World) : Prop :=
  128 * k ≤ xs.length ∧ n = xs.length - 128 * k ∧ Sq w' w.heap.size A' c' (bvs (xs.drop (128 * k))) ∧ w'.heap[w.heap.size]? = some (.cells (stL (blocksL kTabL k s xs)) A8L (0, 0)) ∧
    w'.heap[w.heap.size + 1]? = some (.cells z8 A8L (0, 0)) ∧ Below w.heap.size w w' ∧ SameBlk A A'
/-- A state laid anew, cell by cell. -/
def lay8L (w : World) (g : Nat) (t : St8) : World := (((((((w.setCell ⟨g, 0, none⟩ (.int .u64 (t.a : Int))).setCell ⟨g, 1, none⟩ (.int .u64 (t.b : Int))).setCell ⟨g, 2, none⟩ (.int .u64 (t.c : Int))).setCell ⟨g, 3, none⟩ (.int .u64 (t.d : Int))).setCell ⟨g, 4, none⟩ (.int .u64 (t.e : Int))).setCell ⟨g, 5, none⟩ (.int .u64 (t.f : Int))).setCell ⟨g, 6, none⟩ (.int .u64 (t.g : Int))).setCell ⟨g, 7, none⟩ (.int .u64 (t.h : Int))
theorem lay8L_row {w : World} {g : Nat} {s : St8} (t : St8) (h : w.heap[g]? = some (.cells (stL s) A8L (0, 0))) : (lay8L w g t).heap[g]? = some (.cells (stL t) A8L (0, 0)) :=
  by
  have h0 := block_set h 0 (.int .u64 (t.a : Int))
  have h1 := block_set h0 1 (.int .u64 (t.b : Int))
  have h2 := block_set h1 2 (.int .u64 (t.c : Int))
  have h3 := block_set h2 3 (.int .u64 (t.d : Int))
  have h4 := block_set h3 4 (.int .u64 (t.e : Int))
  have h5 := block_set h4 5 (.int .u64 (t.f : Int))
  have h6 := block_set h5 6 (.int .u64 (t.g : Int))
  have h7 := block_set h6 7 (.int .u64 (t.h : Int))
  simpa [lay8L, stL, St8.list, uvs] using h7
theorem lay8L_other {w : World} {g k : Nat} (t : St8) (h : k ≠ g) : (lay8L w g t).heap[k]? = w.heap[k]? := by
  unfold lay8L
  rw [heap_setCell_other _ _ _ _ h, heap_setCell_other _ _ _ _ h, heap_setCell_other _ _ _ _ h, heap_setCell_other _ _ _ _ h, heap_setCell_other _ _ _ _ h, heap_setCell_other _ _ _ _ h, heap_setCell_other _ _ _ _ h, heap_setCell_other _ _ _ _ h]
theorem lay8L_below {B : Nat} {a w : World} {g : Nat} (t : St8) (h : Below B a w) (hg : B ≤ g) : Below B a (lay8L w g t) :=
  (((((((h.setCell hg _).setCell hg _).setCell hg _).setCell hg _).setCell hg _).setCell hg _).setCell hg _).setCell hg _
theorem ThruL.next {w : World} {A : Option Addr} {s : St8} {xs : List UInt8} {z8 : Array Value} {b' o' n c' k : Nat} {w' w3 : World} (hT : ThruL w A s xs z8 (some ⟨b', o', none⟩) n c' k w') (hn : 128 ≤ n) (hb3 : Below w'.heap.size w'.drew w3)
    (t : St8) (ht : t = mixL kTabL (blocksL kTabL k s xs) ((xs.drop (128 * k)).take 128)) (A2 : Option Addr) (hA2 : A2 = if c' = 128 then some ⟨b', o', none⟩ else some ⟨b', o' + 128, none⟩) :
    ThruL w A s xs z8 A2 (n - 128) (c' - 128) (k + 1) (lay8L w3 w.heap.size t) := by
  obtain ⟨h1, h2, hsl, hr, hr2, hb, hsb⟩ := hT
  have hcap := hsl.cap
  rw [bvs_length, List.length_drop] at hcap
  have hlt : w.heap.size + 1 < w'.heap.size := block_lt hr2
  have hbw : Below w.heap.size w w3 := (hb.drew).trans (hb3.mono (by omega))
  have hsl3 : Sq w3 w.heap.size (some ⟨b', o', none⟩) c' (bvs (xs.drop (128 * k))) := hsl.below ((Below.refl w.heap.size w').drew.trans (hb3.mono (by omega)))
  have hr3 : w3.heap[w.heap.size]? = some (.cells (stL (blocksL kTabL k s xs)) A8L (0, 0)) := (hb3.block w.heap.size (by omega)).trans hr
  refine ⟨by omega, by omega, ?_, ?_, ?_, lay8L_below t hbw (Nat.le_refl _), ?_⟩
  · refine Sq.below ?_ (lay8L_below t (Below.refl w.heap.size w3) (Nat.le_refl _))
    by_cases hc : c' = 128
    · rw [hA2, if_pos hc]
      have := hsl3.end_ 128
      rw [List.drop_eq_nil_of_le (by omega)]
      exact this
    · rw [hA2, if_neg hc]
      have h64 := hsl3.drop 128 (by omega)
      have e : (bvs (xs.drop (128 * k))).drop 128 = bvs (xs.drop (128 * (k + 1))) := by
        simp only [bvs, ← List.map_drop, List.drop_drop]
        rw [show 128 * k + 128 = 128 * (k + 1) by omega]
      rw [← e]; exact h64
  · rw [blocksL_next, ← ht]; exact lay8L_row t hr3
  · rw [lay8L_other t (by omega)]
    exact (hb3.block (w.heap.size + 1) hlt).trans hr2
  · intro b o sp h
    obtain ⟨o0, sp0, he⟩ := hsb b' o' none rfl
    rw [hA2] at h
    split at h <;> (simp only [Option.some.injEq, Addr.mk.injEq] at h; rw [← h.1]; exact ⟨o0, sp0, he⟩)
set_option maxRecDepth 100000 in
set_option maxHeartbeats 800000 in
theorem throughL_any (s : St8) (A : Option Addr) (xs : List UInt8) (c : Nat) (w : World) (hs : s.okL) (hA : Sq w w.heap.size A c (bvs xs)) (hg : GlobL w) :
    Calls Tryz.prog 122 #[.agg (stL s), .slice A xs.length c] w fun e w' => ∃ A' c', e = .returned (.tuple #[.agg (stL (blocksL kTabL (xs.length / 128) s xs)), .slice A' (xs.length % 128) c']) ∧
      Sq w' w.heap.size A' c' (bvs (xs.drop (128 * (xs.length / 128)))) ∧ Below w.heap.size w w' ∧ SameBlk A A' := by
  have HA := hid hA
  have HG := hid hg
  have HS := hid hs
  clear hA hg hs
  go_enter Tryz.func122, Tryz.ntmps122
  go_wp2
  obtain ⟨z8, hz8⟩ : ∃ z8 : Array Value, z8 = #[Value.int .u64 0, .int .u64 0, .int .u64 0, .int .u64 0, .int .u64 0, .int .u64 0, .int .u64 0, .int .u64 0] := ⟨_, rfl⟩
  rw [← hz8]
  have hz8s : z8.size = 8 := by rw [hz8]; rfl
  have HZ8 := hid hz8s
  clear hz8 hz8s
  go_loopg [1] (xs.length + 1) (fun g v w' => ∃ (k n : Nat) (A' : Option Addr) (c' : Nat), v = .slice A' n c' ∧ g = n + 1 ∧ ThruL w A s xs z8 A' n c' k w')
  case atStart =>
    refine ⟨0, xs.length, A, c, rfl, rfl, ?_⟩
    refine ⟨by omega, by omega, ?_, heap_alloc2_old w _ _, heap_alloc2_new w _ _, ((Below.refl _ _).alloc (Nat.le_refl _) _).alloc (by simp) _, fun b o sp h => ⟨o, sp, h⟩⟩
    exact (HA.out.alloc (Nat.le_refl _) _).alloc (by simp) _
  case round =>
    obtain ⟨k, n, A', c', rfl, hgk, hT⟩ := hrel
    have HGK := hid hgk
    obtain ⟨w', rfl⟩ : ∃ w' : World, w' = wr := ⟨_, rfl⟩
    have HT := hid hT
    clear hT hgk
    obtain ⟨st, hst⟩ : ∃ st, st = blocksL kTabL k s xs := ⟨_, rfl⟩
    have hrow : w'.heap[w.heap.size]? = some (.cells (stL st) A8L (0, 0)) := by rw [hst]; exact HT.out.2.2.2.1
    have hrow2 : w'.heap[w.heap.size + 1]? = some (.cells z8 A8L (0, 0)) := HT.out.2.2.2.2.1
    have hso : st.okL := by rw [hst]; exact blocksL_okay _ _ _ _ HS.out
    have HR := hid hrow; have HR2 := hid hrow2; have HSO := hid hso; have HST := hid hst
    clear hrow hrow2 hso hst
    by_cases hlt : n < 128
    · have hx : ¬ (128 : Int) ≤ (n : Int) := by omega
      have HI : Hid ((Tryz.prog.info? 141).map (·.size) = some (stL st).size) := hid (info8L.trans (congrArg some (stL_size _).symm))
      have HZ : Hid (z8.size = (stL st).size) := hid (HZ8.out.trans (stL_size _).symm)
      have HO := hid (stL_one st)
      go_wp2_with (first
        | (with_reducible refine wpList_load_row rfl 141 (.tmp 2) rfl w.heap.size rfl A8L (stL st) (0, 0) _ HR.out Tryz.underlying141 rfl HI.out ?_)
        | (with_reducible refine wpList_store_row rfl 141 (.tmp 4) _ rfl (w.heap.size + 1) (stL st) rfl rfl A8L z8 HR2.out HI.out HZ.out HO.out ?_))
      have hload := run_loadVar_row (P := Tryz.prog) (w'.setRow (w.heap.size + 1) (stL st)) (w.heap.size + 1) A8L 141 (stL st) (0, 0) _ (setRow_heap _ _ _ _ _ _ HR2.out) Tryz.underlying141 rfl HI.out
      obtain ⟨hk1, hk2, hsl, _, _, hbl, hsb⟩ := HT.out
      have hq : xs.length / 128 = k ∧ xs.length % 128 = n := by omega
      have hfin : stL (blocksL kTabL (xs.length / 128) s xs) = stL st := by rw [hq.1, HST.out]
      refine bodyPost_ret (v := .tuple #[.agg (stL st), .slice A' n c']) (by simp [results, Tryz.results122, asAddr, hload]) rfl ⟨A', c', ?_, ?_, below_setRow hbl (by omega) _, hsb⟩
      · rw [hfin, hq.2]
      · rw [hq.1]
        exact hsl.below (below_setRow (Below.refl _ _) (by omega) _)
    · have hx : (128 : Int) ≤ (n : Int) := by omega
      obtain ⟨hk1, hk2, hsl, _, _, hbl, hsb⟩ := HT.out
      have hcap := hsl.cap
      rw [bvs_length, List.length_drop, ← hk2] at hcap
      obtain ⟨b', o', rfl, hb'⟩ := hsl.form (by rw [bvs_length, List.length_drop]; omega)
      have hm64 : ((xs.drop (128 * k)).take 128).length = 128 := by rw [List.length_take, List.length_drop]; omega
      have hLie : Lie w' w.heap.size (some ⟨b', o', none⟩) (bvs ((xs.drop (128 * k)).take 128)) := by
        have := hsl.lie.take 128
        simpa [bvs, List.map_take] using this
      have hsz : w.heap.size + 1 < w'.heap.size := block_lt HR2.out
      have hG : GlobL w' := HG.out.below hbl (Nat.le_refl _)
      have HLIE := hid hLie; have HM := hid hm64; have HG' := hid hG; have HSL := hid hsl; have HBL := hid hbl
      clear hsb
      obtain ⟨hc1, hc2⟩ := hcap
      have hcx : (128 : Int) ≤ (c' : Int) := by omega
      have hncx : (n : Int) ≤ (c' : Int) := by omega
      clear hk1 hk2 hsl hbl hLie hm64 hG
      obtain ⟨sa, sb, sc, sd, se, sf, sg, sh⟩ := st
      have hcs : ∀ j x, (stL ⟨sa, sb, sc, sd, se, sf, sg, sh⟩)[j]? = some x → w'.cell? ⟨w.heap.size, j, none⟩ = some x := fun j x h => cell_of HR.out j x h
      have hc0 : w'.cell? ⟨w.heap.size, 0, none⟩ = some (.int .u64 (sa : Int)) := hcs 0 _ rfl
      have hc1' : w'.cell? ⟨w.heap.size, 1, none⟩ = some (.int .u64 (sb : Int)) := hcs 1 _ rfl
      have hc2' : w'.cell? ⟨w.heap.size, 2, none⟩ = some (.int .u64 (sc : Int)) := hcs 2 _ rfl
      have hc3 : w'.cell? ⟨w.heap.size, 3, none⟩ = some (.int .u64 (sd : Int)) := hcs 3 _ rfl
      have hc4 : w'.cell? ⟨w.heap.size, 4, none⟩ = some (.int .u64 (se : Int)) := hcs 4 _ rfl
      have hc5 : w'.cell? ⟨w.heap.size, 5, none⟩ = some (.int .u64 (sf : Int)) := hcs 5 _ rfl
      have hc6 : w'.cell? ⟨w.heap.size, 6, none⟩ = some (.int .u64 (sg : Int)) := hcs 6 _ rfl
      have hc7 : w'.cell? ⟨w.heap.size, 7, none⟩ = some (.int .u64 (sh : Int)) := hcs 7 _ rfl
      clear hcs
      have hag : ∀ W, (isAgg 141).run Tryz.prog W = .ok true W := agg8L
      have hsi : ∀ W, (sizeOf 141).run Tryz.prog W = .ok 8 W := size8L
      obtain ⟨mx, hmx⟩ : ∃ mx, mx = mixL kTabL ⟨sa, sb, sc, sd, se, sf, sg, sh⟩ ((xs.drop (128 * k)).take 128) := ⟨_, rfl⟩
      have hcall := mixedL_any ⟨sa, sb, sc, sd, se, sf, sg, sh⟩ b' o' ((xs.drop (128 * k)).take 128) c' w'.drew HSO.out HM.out (by omega) (by omega) (by show b' < w'.heap.size; omega) ((HLIE.out.more (by omega) : Lie w' w'.heap.size _ _)) HG'.out
      rw [← hmx] at hcall
      have HMX := hid hmx
      clear hmx
      obtain ⟨ta, tb, tc, td, te, tf, tg, th⟩ := mx
      have HC : Hid (Calls Tryz.prog 121 #[.agg #[.int .u64 (sa : Int), .int .u64 (sb : Int), .int .u64 (sc : Int), .int .u64 (sd : Int), .int .u64 (se : Int), .int .u64 (sf : Int), .int .u64 (sg : Int), .int .u64 (sh : Int)], .slice (some ⟨b', o', none⟩) 128 c'] w'.drew fun e w3 => e = .returned (.agg #[.int .u64 (ta : Int), .int .u64 (tb : Int), .int .u64 (tc : Int), .int .u64 (td : Int), .int .u64 (te : Int), .int .u64 (tf : Int), .int .u64 (tg : Int), .int .u64 (th : Int)]) ∧ Below w'.heap.size w'.drew w3) := hid hcall
      clear hcall
      by_cases hc64 : c' = 128
      · subst hc64
        obtain rfl : n = 128 := by omega
        clear hcx hncx
        go_wp2
        go_region_law (first
          | (go_simp; go_at_call 121; refine HC.out.mono ?_; rintro e w3 ⟨rfl, hb3⟩
             have hk3 : ∀ j, w3.cell? ⟨w.heap.size, j, none⟩ = w'.cell? ⟨w.heap.size, j, none⟩ := fun j => hb3.cell (p := ⟨w.heap.size, j, none⟩) (by show w.heap.size < w'.heap.size; omega)
             have hf3 : ∀ j, w3.frozen? ⟨w.heap.size, j, none⟩ = w'.frozen? ⟨w.heap.size, j, none⟩ := fun j => hb3.frozen (p := ⟨w.heap.size, j, none⟩) (by show w.heap.size < w'.heap.size; omega)
             have hfz : ∀ j, w'.frozen? ⟨w.heap.size, j, none⟩ = false := fun j => frozen_of_row _ _ _ _ _ HR.out
             have HB3 := hid hb3
             clear hb3))
        have HN := hid (ThruL.next HT.out (by omega) HB3.out ⟨ta, tb, tc, td, te, tf, tg, th⟩ (by rw [HMX.out, ← HST.out]) _ rfl)
        rw [if_pos rfl] at HN
        go_wp2
        have hgk := HGK.out
        go_roundg 1
        case measure => omega
        case rel => exact ⟨k + 1, 0, _, 0, rfl, rfl, HN.out⟩
      · go_wp2
        go_region_law (first
          | (go_simp; go_at_call 121; refine HC.out.mono ?_; rintro e w3 ⟨rfl, hb3⟩
             have hk3 : ∀ j, w3.cell? ⟨w.heap.size, j, none⟩ = w'.cell? ⟨w.heap.size, j, none⟩ := fun j => hb3.cell (p := ⟨w.heap.size, j, none⟩) (by show w.heap.size < w'.heap.size; omega)
             have hf3 : ∀ j, w3.frozen? ⟨w.heap.size, j, none⟩ = w'.frozen? ⟨w.heap.size, j, none⟩ := fun j => hb3.frozen (p := ⟨w.heap.size, j, none⟩) (by show w.heap.size < w'.heap.size; omega)
             have hfz : ∀ j, w'.frozen? ⟨w.heap.size, j, none⟩ = false := fun j => frozen_of_row _ _ _ _ _ HR.out
             have HB3 := hid hb3
             clear hb3))
        have HN := hid (ThruL.next HT.out (by omega) HB3.out ⟨ta, tb, tc, td, te, tf, tg, th⟩ (by rw [HMX.out, ← HST.out]) _ rfl)
        rw [if_neg hc64] at HN
        go_wp2
        have hgk := HGK.out
        go_roundg (n - 128 + 1)
        case measure => omega
        case rel => exact ⟨k + 1, n - 128, _, c' - 128, rfl, rfl, HN.out⟩
end Go.Proofs.YtgehfbcagaaggaaGreatDoor
end
section
namespace Go.Proofs.YtgehfbcagaaggaaGreatDoor
open Go.RowKit
set_option linter.unusedVariables false
set_option linter.unusedSimpArgs false
theorem setCells_snoc (vs : List Value) (v : Value) (w : World) (g o : Nat) : w.setCells g o (vs ++ [v]) = (w.setCells g o vs).setCell ⟨g, o + vs.length, none⟩ v := by
  induction vs generalizing w o with
  | nil => rfl
  | cons x l ih =>
    rw [List.cons_append, World.setCells, World.setCells, ih, List.length_cons]
    rw [show o + 1 + l.length = o + (l.length + 1) by omega]
theorem be8_get (x k j : Nat) (h : k + j = 7) : (beBytes 8 x)[k]'(by simp; omega) = UInt8.ofNat (x / 256 ^ j) := by
  have : k = 0 ∧ j = 7 ∨ k = 1 ∧ j = 6 ∨ k = 2 ∧ j = 5 ∨ k = 3 ∧ j = 4 ∨ k = 4 ∧ j = 3 ∨ k = 5 ∧ j = 2 ∨ k = 6 ∧ j = 1 ∨ k = 7 ∧ j = 0 := by omega
  rcases this with ⟨rfl, rfl⟩ | ⟨rfl, rfl⟩ | ⟨rfl, rfl⟩ | ⟨rfl, rfl⟩ | ⟨rfl, rfl⟩ | ⟨rfl, rfl⟩ | ⟨rfl, rfl⟩ | ⟨rfl, rfl⟩ <;> rfl
set_option maxHeartbeats 800000 in
theorem put_any (g o L c x : Nat) (cur : Array Value) (t : TypeId) (w : World) (hx : x < 18446744073709551616) (hL : 8 ≤ L) (hL2 : L ≤ 9223372036854775807) (hg : w.heap[g]? = some (.cells cur t (0, 0))) (ho : o + 8 ≤ cur.size) :
    Calls Tryz.prog 135 #[.slice (some ⟨g, o, none⟩) L c, .int .u64 (x : Int)] w fun e w' => e = .returned (.tuple #[]) ∧ w' = w.setCells g o (bvs (beBytes 8 x)) := by
  have HG := hid hg
  have HB := hid (beBytes_length 8 x)
  clear hg
  go_enter Tryz.func135, Tryz.ntmps135
  go_wp2
  go_loopg [5] 8 (fun r i wr => ∃ k : Nat, k + r = 8 ∧ i = .int .i64 (k : Int) ∧ wr = w.setCells g o (bvs ((beBytes 8 x).take k)))
  case atStart => exact ⟨0, rfl, rfl, rfl⟩
  case round =>
    obtain ⟨k, hk, rfl, hw⟩ := hrel
    have hkb : k ≤ 8 := by omega
    have HK := hid hk
    clear hk
    by_cases hlt : k < 8
    · have hx8 : (k : Int) < 8 := by omega
      have hk0 : (0 : Int) ≤ (k : Int) := by omega
      have hkL : (k : Int) < (L : Int) := by omega
      obtain ⟨j, hj⟩ : ∃ j, k + j = 7 := ⟨7 - k, by omega⟩
      have hrow := heap_setCells (bvs ((beBytes 8 x).take k)) HG.out o (by simp; omega)
      rw [← hw] at hrow
      have hsz : o + k < (cur.toList.take o ++ (bvs ((beBytes 8 x).take k) ++ cur.toList.drop (o + (bvs ((beBytes 8 x).take k)).length))).toArray.size := by
        simp; omega
      obtain ⟨v, hv⟩ : ∃ v, wr.cell? ⟨g, o + k, none⟩ = some v := ⟨_, cell_of hrow _ _ (Array.getElem?_eq_getElem hsz)⟩
      have hfz : wr.frozen? ⟨g, o + k, none⟩ = false := frozen_of_row _ _ _ _ _ hrow
      have HW := hid hw
      have HJ := hid hj
      have hb : (beBytes 8 x).take (k + 1) = (beBytes 8 x).take k ++ [UInt8.ofNat (x / 256 ^ j)] := by
        rw [List.take_succ_eq_append_getElem (by simp; omega), be8_get x k j hj]
      have HBE := hid hb
      have e7 : (7 - (k : Int)) = (j : Int) := by omega
      have hj63 : 8 * (j : Int) < 64 := by omega
      clear hrow hsz hw hj hb
      go_wp2
      have hW : wr.setCell ⟨g, o + k, none⟩ (Value.int .u8 ((x : Int) / 2 ^ (8 * j) % 256)) = w.setCells g o (bvs ((beBytes 8 x).take (k + 1))) := by
        rw [HBE.out, bvs_append, show bvs [UInt8.ofNat (x / 256 ^ j)] = [Value.int .u8 (((UInt8.ofNat (x / 256 ^ j)).toNat : Nat) : Int)] from rfl, setCells_snoc, ← HW.out, ← shr_val]
        congr 3
        simp; omega
      have hk := HK.out
      go_roundg (8 - k - 1)
      case measure => omega
      case rel => exact ⟨k + 1, by omega, by go_num, hW⟩
    · obtain rfl : k = 8 := by have := HK.out; omega
      rw [List.take_of_length_le (by simp)] at hw
      have HW := hid hw
      clear hw
      go_wp2
      go_end0
      exact ⟨rfl, HW.out⟩
end Go.Proofs.YtgehfbcagaaggaaGreatDoor
end
section
namespace Go.Proofs.YtgehfbcagaaggaaGreatDoor
open Go.RowKit
set_option linter.unusedVariables false
set_option linter.unusedSimpArgs false
abbrev A64B : TypeId := 97
theorem info64B : (Tryz.prog.info? 97).map (·.size) = some 64 := by kernel_rfl
/-- The array when k words are laid. -/
def dL (s : St8) (k : Nat) : Array Value := (bvs (s.bytesToL k) ++ List.replicate (64 - 8 * k) (Value.int .u8 0)).toArray
theorem dL_zero (s : St8) : dL s 0 = (List.replicate 64 (Value.int .u8 0)).toArray := by simp [dL, St8.bytesToL, bvs]
theorem dL_end (s : St8) : dL s 8 = byA s.bytesL := by simp [dL, byA, St8.bytesToL_end]
theorem dL_size (s : St8) (k : Nat) (h : k ≤ 8) : (dL s k).size = 64 := by
  simp [dL, St8.bytesToL_length s k h]; omega
theorem dL_next (s : St8) (k x : Nat) (hk : k < 8) (hx : s.list[k]? = some x) :
    ((dL s k).toList.take (8 * k) ++ (bvs (beBytes 8 x) ++ (dL s k).toList.drop (8 * k + (bvs (beBytes 8 x)).length))).toArray = dL s (k + 1) := by
  have h1 : 64 - 8 * k = 8 + (64 - 8 * (k + 1)) := by omega
  have hl := St8.bytesToL_length s k (by omega)
  rw [dL, dL, St8.bytesToL_succ s k x hx, h1]
  simp only [bvs_append]
  congr 1
  have hl2 : (bvs (s.bytesToL k)).length = 8 * k := by simp [hl]
  generalize bvs (s.bytesToL k) = P at hl2 ⊢
  have hl3 : (bvs (beBytes 8 x)).length = 8 := by simp
  generalize bvs (beBytes 8 x) = Q at hl3 ⊢
  rw [List.take_left' hl2, hl3, ← List.drop_drop, List.drop_left' hl2, List.drop_replicate, List.append_assoc]
  congr 3
  omega
theorem index_runL (cs : Array Value) (k : Nat) (v : Value) (hk : k < 8) (hv : cs[k]? = some v) (W : World) : (Instr.index 141 (.agg cs) (.int .i64 (k : Int))).run Tryz.prog W = .ok v W := by
  have hu := run_underlying (P := Tryz.prog) Tryz.underlying141 W
  have hu2 := run_underlying (P := Tryz.prog) Tryz.underlying59 W
  have h8 : (k : Int) < 8 := by omega
  have hI : (Tryz.prog.info? 59).map (·.size) = some 1 := by kernel_rfl
  cases hq : Tryz.prog.info? 59 with
  | none => simp [hq] at hI
  | some i =>
    have hs : i.size = 1 := by simpa [hq] using hI
    simp [Instr.index, asIntOf, hu, part, isAgg, hu2, sizeOf, typeInfo, hq, hs, h8, hv]
    intro h; omega
theorem stL_get (v : St8) (k y : Nat) (hy : v.list[k]? = some y) : (stL v)[k]? = some (.int .u64 (y : Int)) := by
  rw [stL, List.getElem?_toArray, uvs, List.getElem?_map, hy]; rfl
theorem sizeU8L : (Tryz.prog.info? 5).map (·.size) = some 1 := by kernel_rfl
/-- What lies in a slice, as copy asks it. -/
theorem lieL_src {w : World} {B : Nat} {A : Option Addr} {cs : List Value} (h : Lie w B A cs) (hp : 0 < cs.length) : ∃ ad, A = some ad ∧ ∀ j v, cs[j]? = some v → w.cell? (ad.add j) = some v := by
  obtain ⟨b, o, rfl, _, hc⟩ := h (fun e => by subst e; simp at hp)
  exact ⟨_, rfl, fun j v hv => by rw [add_none]; exact hc j v hv⟩
/-- Zeros as bytes. -/
theorem bvs_zeros (n : Nat) : bvs (List.replicate n 0) = List.replicate n (Value.int .u8 0) := by simp [bvs]
/-- The block's cells when the mark is laid. -/
theorem mark_row (r : List UInt8) (F z : Nat) (h : r.length + 1 + z + 16 = F) :
    ((splice (List.replicate F (Value.int .u8 0)) 0 (bvs r)).toArray.setIfInBounds r.length (Value.int .u8 128)) = (bvs (r ++ [128] ++ List.replicate z 0 ++ List.replicate 16 0)).toArray := by
  have h2 : F - r.length = 1 + (z + 16) := by omega
  simp only [splice, List.take_zero, List.nil_append, bvs_length, Nat.zero_add, List.drop_replicate, h2, List.setIfInBounds_toArray]
  congr 1
  rw [List.set_append_right _ _ (by simp), bvs_length, Nat.sub_self, Nat.add_comm 1, List.replicate_succ, List.set_cons_zero]
  rw [← List.replicate_append_replicate]
  simp [bvs, List.append_assoc]
/-- .. and the count's bytes. -/
theorem count_row (P b1 b2 : List UInt8) (F : Nat) (hP : P.length + 16 = F) (h1 : b1.length = 8) (h2 : b2.length = 8) :
    (((((bvs (P ++ List.replicate 16 0)).take (F - 16) ++ (bvs b1 ++ (bvs (P ++ List.replicate 16 0)).drop (F - 16 + (bvs b1).length))).toArray.toList.take (F - 8) ++ (bvs b2 ++ ((bvs (P ++ List.replicate 16 0)).take (F - 16) ++ (bvs b1 ++ (bvs (P ++ List.replicate 16 0)).drop (F - 16 + (bvs b1).length))).toArray.toList.drop (F - 8 + (bvs b2).length)))).toArray = (bvs (P ++ (b1 ++ b2))).toArray) := by
  have e16 : F - 16 = P.length := by omega
  have e8 : F - 8 = P.length + 8 := by omega
  rw [e16, e8]
  simp only [bvs_append, bvs_zeros]
  congr 1
  have hl : (bvs P).length = P.length := bvs_length P
  have g1 : (bvs b1).length = 8 := by simp [h1]
  have g2 : (bvs b2).length = 8 := by simp [h2]
  generalize bvs P = p at *
  generalize bvs b1 = x at *
  generalize bvs b2 = y at *
  generalize P.length = q at *
  rw [g1, g2, List.take_left' hl, ← List.drop_drop, List.drop_left' hl, List.drop_replicate]
  rw [← List.append_assoc p x, List.take_left' (by simp [hl, g1]), ← List.drop_drop (i := 8) (j := q + 8), List.drop_left' (by simp [hl, g1]), List.drop_replicate]
  simp
theorem be16 (m : Nat) : beBytes 16 m = beBytes 8 (m / 256 ^ 8) ++ beBytes 8 m := by
  simp only [beBytes, Nat.div_div_eq_div_mul, ← Nat.pow_add, List.cons_append, List.nil_append]
set_option maxRecDepth 100000 in
set_option maxHeartbeats 1600000 in
theorem closedL_128 (s : St8) (A : Option Addr) (r : List UInt8) (c n : Nat) (w : World) (hs : s.okL) (hr : r.length < 112) (hrn : r.length = n % 128) (hn : n ≤ 1152921504606846976) (hA : Lie w w.heap.size A (bvs r)) (hg : GlobL w) :
    Calls Tryz.prog 123 #[.agg (stL s), .slice A r.length c, .int .u64 (n : Int)] w fun e w' => e = .returned (.agg (byA (closeSL s r n).bytesL)) ∧ Below w.heap.size w w' := by
  have HS := hid hs; have HA := hid hA; have HG := hid hg; have HRN := hid hrn
  obtain ⟨i0, hi, hz0, hz1, hz2⟩ := info_parts infoU8
  have hpz : r.length + 1 + padZL n + 16 = 128 := by unfold padZL; omega
  have HPZ := hid hpz
  obtain ⟨zF, hzF⟩ : ∃ zF : List Value, zF = List.replicate 128 (Value.int .u8 0) := ⟨_, rfl⟩
  have hzl : zF.length = 128 := by rw [hzF, List.length_replicate]
  have hmk : ∀ W : World, (Instr.makeSlice 22 (.int .i64 128) (.int .i64 128)).run Tryz.prog W = .ok (.slice (some ⟨W.heap.size, 0, none⟩) 128 128) (W.alloc (.cells zF.toArray 5)) := fun W => by
    have h := run_make (P := Tryz.prog) W 22 5 i0 _ Tryz.underlying22 hi hz0 .i64 .i64 128 128 (by omega) (by omega) (by rw [hz2]; omega) (by omega)
    rw [hz1] at h
    rw [h, hzF, ← toList_madeCells_one]
    rfl
  obtain ⟨z64, hz64⟩ : ∃ z : Array Value, z = (List.replicate 64 (Value.int .u8 0)).toArray := ⟨_, rfl⟩
  have hz64s : z64.size = 64 := by rw [hz64]; simp
  have hzero : ∀ W : World, (zeroValue 97).run Tryz.prog W = .ok (.agg z64) W := fun W => by
    rw [hz64]
    exact (zero_of_info (P := Tryz.prog) (t := 97) (v := .agg (List.replicate 64 (Value.int .u8 0)).toArray) (n := 64) (by kernel_rfl)).1 W
  have HZF := hid hzF; have HZL := hid hzl; have HZ64 := hid hz64; have HZS := hid hz64s
  clear hs hA hg hrn hz0 hz1 hz2 hi hpz hzF hzl hz64 hz64s
  go_enter Tryz.func123, Tryz.ntmps123
  have hrow3 : (((w.alloc (.cells (stL s) A8L)).alloc (.cells z64 A64B)).alloc (.cells zF.toArray 5)).heap[w.heap.size + 1 + 1]? = some (.cells zF.toArray 5 (0, 0)) := by
    have h := heap_alloc_new ((w.alloc (.cells (stL s) A8L)).alloc (.cells z64 A64B)) (.cells zF.toArray 5)
    simpa using h
  have hS2 : ((w.alloc (.cells (stL s) A8L)).alloc (.cells z64 A64B)).heap[w.heap.size]? = some (.cells (stL s) A8L (0, 0)) := heap_alloc2_old w _ _
  have hR2 : ((w.alloc (.cells (stL s) A8L)).alloc (.cells z64 A64B)).heap[w.heap.size + 1]? = some (.cells z64 A64B (0, 0)) := heap_alloc2_new w _ _
  have hB2 : Below w.heap.size w ((w.alloc (.cells (stL s) A8L)).alloc (.cells z64 A64B)) := ((Below.refl _ _).alloc (Nat.le_refl _) _).alloc (by simp) _
  have hB23 : Below (w.heap.size + 1 + 1) ((w.alloc (.cells (stL s) A8L)).alloc (.cells z64 A64B)) (((w.alloc (.cells (stL s) A8L)).alloc (.cells z64 A64B)).alloc (.cells zF.toArray 5)) := (Below.refl _ _).alloc (by simp) _
  have hsz2 : ((w.alloc (.cells (stL s) A8L)).alloc (.cells z64 A64B)).heap.size = w.heap.size + 1 + 1 := by simp
  obtain ⟨bv, hbv⟩ : ∃ bv, bv = bvs r := ⟨_, rfl⟩
  have hbl : bv.length = r.length := by rw [hbv]; simp
  have HA3 : Hid (Lie (((w.alloc (.cells (stL s) A8L)).alloc (.cells z64 A64B)).alloc (.cells zF.toArray 5)) w.heap.size A bv) := hid (by rw [hbv]; exact HA.out.below (hB2.alloc (by simp; omega) _))
  have HR3 := hid hrow3; have HS2 := hid hS2; have HR2 := hid hR2; have HB2 := hid hB2; have HB23 := hid hB23; have HSZ := hid hsz2; have HBV := hid hbv; have HBL := hid hbl
  clear hrow3 hS2 hR2 hB2 hB23 hsz2 hbv hbl
  go_wp2_with (with_reducible refine wpList_copy_splice rfl (.tmp 20) (.tmp 21) 22 22 rfl 5 Tryz.underlying22 sizeU8L _ _ _ _ _ _ rfl rfl (w.heap.size + 1 + 1) 0 zF 5 HR3.out bv ?e2 ?e3 ?e4 ?e5 (w.heap.size + 1 + 1) ((w.alloc (.cells (stL s) A8L)).alloc (.cells z64 A64B)) HB23.out (Nat.le_refl _) ?_)
  case e2 => rw [HBL.out]; exact (Nat.min_eq_left (by omega)).symm
  case e3 => intro hp; first | exact ⟨rfl, lieL_src HA3.out hp⟩ | exact lieL_src HA3.out hp
  case e4 => rw [HBL.out, HZL.out]; omega
  case e5 => rw [HBV.out]; exact bvs_one r
  intro w4 HW4 hb4
  rw [HBL.out]
  have hcr : (splice zF 0 bv).length = 128 := by rw [length_splice _ _ _ (by rw [HBL.out, HZL.out]; omega), HZL.out]
  obtain ⟨v, hv⟩ : ∃ v, w4.cell? ⟨w.heap.size + 1 + 1, r.length, none⟩ = some v := ⟨_, cell_of HW4.out r.length _ (Array.getElem?_eq_getElem (by rw [List.size_toArray, hcr]; omega))⟩
  have hfz : w4.frozen? ⟨w.heap.size + 1 + 1, r.length, none⟩ = false := frozen_of_row _ _ _ _ _ HW4.out
  have hm5 := block_set HW4.out r.length (.int .u8 128)
  obtain ⟨P, hP⟩ : ∃ P, P = r ++ [128] ++ List.replicate (padZL n) 0 := ⟨_, rfl⟩
  have hPl : P.length + 16 = 128 := by rw [hP]; simp; have := HPZ.out; omega
  rw [HZF.out, HBV.out, mark_row r 128 (padZL n) HPZ.out, ← hP] at hm5
  have hq : (n : Int) / 2305843009213693952 = 0 := by omega
  have hr0 : (0 : Int) ≤ (r.length : Int) := by omega
  have hr1 : (r.length : Int) < 128 := by omega
  have hP1 := put_any (w.heap.size + 1 + 1) 112 16 16 0 (bvs (P ++ List.replicate 16 0)).toArray 5 (w4.setCell ⟨w.heap.size + 1 + 1, r.length, none⟩ (.int .u8 128)) (by omega) (by omega) (by omega) hm5 (by simp; omega)
  rw [show ((0 : Nat) : Int) = 0 from rfl] at hP1
  have HP1 := hid hP1
  have HB4 := hid hb4; have HP := hid hP; have HPL := hid hPl; have HM5 := hid hm5
  clear hb4 hcr hm5 hP hPl hP1
  go_wp2_with fail
  refine HP1.out.mono ?_
  rintro e w5 ⟨rfl, hw5⟩
  have hrow5 := heap_setCells (bvs (beBytes 8 0)) HM5.out 112 (by simp; have := HPL.out; omega)
  rw [← hw5] at hrow5
  have hg5 : w4.grownBy w5 (some (w.heap.size + 1 + 1)) := by rw [hw5]; exact grown_step (grown_setCell _ _ _ none _) (.inl rfl) (grown_setCells _ _ _ _)
  have hP2 := put_any (w.heap.size + 1 + 1) 120 8 8 (8 * n) _ _ w5 (by omega) (by omega) (by omega) hrow5 (by simp; have := HPL.out; omega)
  have hrow6 := heap_setCells (bvs (beBytes 8 (8 * n))) hrow5 120 (by simp; have := HPL.out; omega)
  have hc := count_row P (beBytes 8 0) (beBytes 8 (8 * n)) 128 HPL.out (by simp) (by simp)
  simp only [Nat.reduceSub] at hc
  simp only [List.toList_toArray] at hrow6 hc
  rw [hc] at hrow6
  have he16 : beBytes 8 0 ++ beBytes 8 (8 * n) = beBytes 16 (8 * n) := by rw [be16, show 8 * n / 256 ^ 8 = 0 from Nat.div_eq_of_lt (by omega)]
  rw [he16, HP.out] at hrow6
  have hrow6' : (w5.setCells (w.heap.size + 1 + 1) 120 (bvs (beBytes 8 (8 * n)))).heap[w.heap.size + 1 + 1]? = some (.cells (bvs (padNL r n (beBytes 16 (8 * n)))).toArray 5 (0, 0)) := hrow6
  have h8n : (n : Int) * 8 = ((8 * n : Nat) : Int) := by omega
  have h8l : (n : Int) * 8 < 18446744073709551616 := by omega
  rw [← h8n] at hP2
  have HP2 := hid hP2; have HR6 := hid hrow6'
  have HB5 := hid (HB4.out.grown hg5 (by have := HB4.out.size; have := HSZ.out; omega) (fun k hk => by injection hk with hk; omega))
  clear hw5 hrow5 hg5 hP2 hrow6 hc he16 hrow6' h8n hq
  go_wp2_with fail
  refine HP2.out.mono ?_
  rintro e w6 ⟨rfl, hw6⟩
  have hR6 := HR6.out
  rw [← hw6] at hR6
  have hB6 : Below (w.heap.size + 1 + 1) ((w.alloc (.cells (stL s) A8L)).alloc (.cells z64 A64B)) w6 := by
    rw [hw6]; exact HB5.out.grown (grown_setCells _ _ _ _) (by have := HB5.out.size; have := HSZ.out; omega) (fun k hk => by injection hk with hk; omega)
  obtain ⟨zs, hzs⟩ : ∃ zs, zs = padNL r n (beBytes 16 (8 * n)) := ⟨_, rfl⟩
  rw [← hzs] at hR6
  have hzl : zs.length = 128 := by rw [hzs, padNL]; simp; have := HPZ.out; omega
  have hS6 : w6.heap[w.heap.size]? = some (.cells (stL s) A8L (0, 0)) := (hB6.block _ (by omega)).trans HS2.out
  have hR0 : w6.heap[w.heap.size + 1]? = some (.cells z64 A64B (0, 0)) := (hB6.block _ (by omega)).trans HR2.out
  have hBw : Below w.heap.size w w6 := HB2.out.trans (hB6.mono (by omega))
  have hsz6 : w.heap.size + 1 + 1 ≤ w6.heap.size := by have := block_lt hR6; omega
  have HTH := hid (throughL_any s (some ⟨w.heap.size + 1 + 1, 0, none⟩) zs 128 w6 HS.out (Lie.sq (fun _ => ⟨w.heap.size + 1 + 1, 0, rfl, block_lt hR6, fun j u hu => by rw [Nat.zero_add]; exact cell_of hR6 j u (by simpa using hu)⟩) (by simp [hzl]) (by omega)) (HG.out.below hBw (Nat.le_refl _)))
  rw [hzl] at HTH
  have hcl : blocksL kTabL (128 / 128) s zs = closeSL s r n := by rw [closeSL, ← hzs, hzl]
  rw [hcl] at HTH
  have HI : Hid ((Tryz.prog.info? 141).map (·.size) = some (stL s).size) := hid (info8L.trans (congrArg some (stL_size _).symm))
  have HS6 := hid hS6; have HR0 := hid hR0; have HBW := hid hBw
  clear hw6 hR6 hB6 hzs hzl hS6 hR0 hBw hcl HB5 HP2 HR6
  go_wp2_with (first
    | fail
    | (with_reducible refine wpList_load_row rfl 141 (.tmp 3) rfl w.heap.size rfl A8L (stL s) (0, 0) _ HS6.out Tryz.underlying141 rfl HI.out ?_))
  refine HTH.out.mono ?_
  rintro e w7 ⟨A7, c7, rfl, _, hb7, _⟩
  obtain ⟨ct, hct⟩ : ∃ ct, ct = closeSL s r n := ⟨_, rfl⟩
  have hco : ct.okL := by rw [hct, closeSL]; exact blocksL_okay _ _ _ _ HS.out
  rw [← hct]
  have hS7 : w7.heap[w.heap.size]? = some (.cells (stL s) A8L (0, 0)) := (hb7.block _ (by omega)).trans HS6.out
  have hR7 : w7.heap[w.heap.size + 1]? = some (.cells z64 A64B (0, 0)) := (hb7.block _ (by omega)).trans HR0.out
  have hB7 : Below w.heap.size w w7 := HBW.out.trans (hb7.mono (by omega))
  have hsz7 : w.heap.size + 1 + 1 ≤ w7.heap.size := Nat.le_trans hsz6 hb7.size
  have HI2 : Hid ((Tryz.prog.info? 141).map (·.size) = some (stL ct).size) := hid (info8L.trans (congrArg some (stL_size _).symm))
  have HZ2 : Hid ((stL s).size = (stL ct).size) := hid ((stL_size s).trans (stL_size ct).symm)
  have HO2 := hid (stL_one ct)
  have hS8 : (w7.setRow w.heap.size (stL ct)).heap[w.heap.size]? = some (.cells (stL ct) A8L (0, 0)) := setRow_heap _ _ _ _ _ _ hS7
  have hS9 : ((w7.setRow w.heap.size (stL ct)).alloc (.cells z64 A64B)).heap[w.heap.size]? = some (.cells (stL ct) A8L (0, 0)) := (Below.heap_alloc _ _ _ (by rw [size_setRow]; omega)).trans hS8
  have hR9 : ((w7.setRow w.heap.size (stL ct)).alloc (.cells z64 A64B)).heap[w.heap.size + 1]? = some (.cells z64 A64B (0, 0)) := (Below.heap_alloc _ _ _ (by rw [size_setRow]; omega)).trans ((setRow_other _ _ _ _ (by omega)).trans hR7)
  have hD9 : ((w7.setRow w.heap.size (stL ct)).alloc (.cells z64 A64B)).heap[w7.heap.size]? = some (.cells (dL ct 0) A64B (0, 0)) := by
    have h := heap_alloc_new (w7.setRow w.heap.size (stL ct)) (.cells z64 A64B)
    rw [size_setRow] at h
    rw [h, dL_zero, HZ64.out]
  have hB9 : Below w.heap.size w ((w7.setRow w.heap.size (stL ct)).alloc (.cells z64 A64B)) := (below_setRow hB7 (Nat.le_refl _) _).alloc (by rw [size_setRow]; omega) _
  have hsr : (w7.setRow w.heap.size (stL ct)).heap.size = w7.heap.size := size_setRow _ _ _
  have HS7 := hid hS7; have HS9 := hid hS9; have HR9 := hid hR9; have HD9 := hid hD9; have HB9 := hid hB9; have HCT := hid hct; have HCO := hid hco
  clear hb7 hS7 hR7 hB7 hS8 hS9 hR9 hD9 hB9 hct hco HTH HBW HS6 HR0
  go_wp2_with (first
    | fail
    | (with_reducible refine wpList_store_row rfl 141 (.tmp 3) _ rfl w.heap.size (stL ct) rfl rfl A8L (stL s) HS7.out HI2.out HZ2.out HO2.out ?_)
    | (with_reducible refine wpList_load_row rfl 141 (.tmp 3) rfl w.heap.size rfl A8L (stL ct) (0, 0) _ HS9.out Tryz.underlying141 rfl HI2.out ?_))
  clear hzero hmk
  generalize (w7.setRow w.heap.size (stL ct)).alloc (.cells z64 A64B) = w9 at *
  have hD : w.heap.size + 1 < w7.heap.size := by omega
  generalize w7.heap.size = D at *
  have HIX : Hid (∀ (k x : Nat) (W : World), k < 8 → ct.list[k]? = some x → (Instr.index 141 (.agg (stL ct)) (.int .i64 (k : Int))).run Tryz.prog W = .ok (.int .u64 (x : Int)) W) := hid fun k x W hk hx => index_runL _ k _ hk (stL_get ct k x hx) W
  go_loopg [45] 8 (fun r i wr => ∃ k : Nat, k + r = 8 ∧ i = .int .i64 (k : Int) ∧ wr.heap[D]? = some (.cells (dL ct k) A64B (0, 0)) ∧ wr.heap[w.heap.size + 1]? = some (.cells z64 A64B (0, 0)) ∧ Below w.heap.size w wr)
  case atStart => exact ⟨0, rfl, rfl, HD9.out, HR9.out, HB9.out⟩
  case round =>
    clear HD9 HR9 HB9 HS9
    obtain ⟨k, hk, rfl, hd, hr9, hb⟩ := hrel
    have HD := hid hd; have HR := hid hr9; have HB := hid hb; have HK := hid hk
    have hkb : k ≤ 8 := by omega
    clear hd hr9 hb hk
    by_cases hlt : k < 8
    · have hx8 : (k : Int) < 8 := by omega
      have hk0 : (0 : Int) ≤ (k : Int) := by omega
      obtain ⟨x, hx⟩ : ∃ x, ct.list[k]? = some x := ⟨_, List.getElem?_eq_getElem (show k < 8 from hlt)⟩
      have hxl : x < 18446744073709551616 := St8.list_ltL ct HCO.out x (List.mem_of_getElem? hx)
      have hi2 : ∀ W : World, (Instr.index 141 (.agg (stL ct)) (.int .i64 (k : Int))).run Tryz.prog W = .ok (.int .u64 (x : Int)) W := fun W => HIX.out k x W hlt hx
      have hne : ¬ (8 * k = 64) := by omega
      have h8a : (0 : Int) ≤ 8 * (k : Int) := by omega
      have h8b : 8 * (k : Int) ≤ 64 := by omega
      have h8c : (8 * (k : Int)).toNat = 8 * k := by omega
      have HPT := hid (put_any D (8 * k) (64 - 8 * k) (64 - 8 * k) x (dL ct k) A64B wr hxl (by omega) (by omega) HD.out (by rw [dL_size ct k hkb]; omega))
      have hrow := heap_setCells (bvs (beBytes 8 x)) HD.out (8 * k) (by rw [dL_size ct k hkb]; simp; omega)
      rw [dL_next ct k x hlt hx] at hrow
      have HROW := hid hrow
      clear hrow hx
      go_wp2_with fail
      refine HPT.out.mono ?_
      rintro e w10 ⟨rfl, hw10⟩
      have hg10 : wr.grownBy w10 (some D) := by rw [hw10]; exact grown_setCells _ _ _ _
      have hD10 : w10.heap[D]? = some (.cells (dL ct (k + 1)) A64B (0, 0)) := by rw [hw10]; exact HROW.out
      have HG10 := hid hg10; have HD10 := hid hD10
      clear hw10 hg10 hD10
      go_wp2
      have hk := HK.out
      go_roundg (8 - k - 1)
      case measure => omega
      case rel => exact ⟨k + 1, by omega, by go_num, HD10.out, (HG10.out.block _ (block_lt HR.out) (by simp; omega)).trans HR.out, HB.out.grown HG10.out HB.out.size (fun q hq => by injection hq with hq; omega)⟩
    · obtain rfl : k = 8 := by omega
      have hdz : (dL ct 8).size = 64 := dL_size ct 8 (by omega)
      have HI3 : Hid ((Tryz.prog.info? 97).map (·.size) = some (dL ct 8).size) := hid (info64B.trans (congrArg some hdz.symm))
      have HZ3 : Hid (z64.size = (dL ct 8).size) := hid (HZS.out.trans hdz.symm)
      have HO3 : Hid ((dL ct 8).all (·.oneCell') = true) := hid (by rw [dL_end]; exact byA_one _)
      clear hdz
      go_wp2_with (first
        | (with_reducible refine wpList_load_row rfl 97 (.tmp 9) rfl D rfl A64B (dL ct 8) (0, 0) _ HD.out Tryz.underlying97 rfl HI3.out ?_)
        | (with_reducible refine wpList_store_row rfl 97 (.tmp 6) _ rfl (w.heap.size + 1) (dL ct 8) rfl rfl A64B z64 HR.out HI3.out HZ3.out HO3.out ?_))
      refine bodyPost_ret (v := .agg (dL ct 8)) (results_cell_row rfl _ _ (w.heap.size + 1) A64B (dL ct 8) (0, 0) _ rfl (setRow_heap _ _ _ _ _ _ HR.out) Tryz.underlying97 rfl HI3.out) rfl ⟨by rw [dL_end, HCT.out], ?_⟩
      exact below_setRow HB.out (by omega) _
set_option maxRecDepth 100000 in
set_option maxHeartbeats 1600000 in
theorem closedL_256 (s : St8) (A : Option Addr) (r : List UInt8) (c n : Nat) (w : World) (hs : s.okL) (hr0 : 112 ≤ r.length) (hr : r.length < 128) (hrn : r.length = n % 128) (hn : n ≤ 1152921504606846976) (hA : Lie w w.heap.size A (bvs r)) (hg : GlobL w) :
    Calls Tryz.prog 123 #[.agg (stL s), .slice A r.length c, .int .u64 (n : Int)] w fun e w' => e = .returned (.agg (byA (closeSL s r n).bytesL)) ∧ Below w.heap.size w w' := by
  have HS := hid hs; have HA := hid hA; have HG := hid hg; have HRN := hid hrn
  obtain ⟨i0, hi, hz0, hz1, hz2⟩ := info_parts infoU8
  have hpz : r.length + 1 + padZL n + 16 = 256 := by unfold padZL; omega
  have HPZ := hid hpz
  obtain ⟨zF, hzF⟩ : ∃ zF : List Value, zF = List.replicate 256 (Value.int .u8 0) := ⟨_, rfl⟩
  have hzl : zF.length = 256 := by rw [hzF, List.length_replicate]
  have hmk : ∀ W : World, (Instr.makeSlice 22 (.int .i64 256) (.int .i64 256)).run Tryz.prog W = .ok (.slice (some ⟨W.heap.size, 0, none⟩) 256 256) (W.alloc (.cells zF.toArray 5)) := fun W => by
    have h := run_make (P := Tryz.prog) W 22 5 i0 _ Tryz.underlying22 hi hz0 .i64 .i64 256 256 (by omega) (by omega) (by rw [hz2]; omega) (by omega)
    rw [hz1] at h
    rw [h, hzF, ← toList_madeCells_one]
    rfl
  obtain ⟨z64, hz64⟩ : ∃ z : Array Value, z = (List.replicate 64 (Value.int .u8 0)).toArray := ⟨_, rfl⟩
  have hz64s : z64.size = 64 := by rw [hz64]; simp
  have hzero : ∀ W : World, (zeroValue 97).run Tryz.prog W = .ok (.agg z64) W := fun W => by
    rw [hz64]
    exact (zero_of_info (P := Tryz.prog) (t := 97) (v := .agg (List.replicate 64 (Value.int .u8 0)).toArray) (n := 64) (by kernel_rfl)).1 W
  have HZF := hid hzF; have HZL := hid hzl; have HZ64 := hid hz64; have HZS := hid hz64s
  clear hs hA hg hrn hz0 hz1 hz2 hi hpz hzF hzl hz64 hz64s
  go_enter Tryz.func123, Tryz.ntmps123
  have hrow3 : (((w.alloc (.cells (stL s) A8L)).alloc (.cells z64 A64B)).alloc (.cells zF.toArray 5)).heap[w.heap.size + 1 + 1]? = some (.cells zF.toArray 5 (0, 0)) := by
    have h := heap_alloc_new ((w.alloc (.cells (stL s) A8L)).alloc (.cells z64 A64B)) (.cells zF.toArray 5)
    simpa using h
  have hS2 : ((w.alloc (.cells (stL s) A8L)).alloc (.cells z64 A64B)).heap[w.heap.size]? = some (.cells (stL s) A8L (0, 0)) := heap_alloc2_old w _ _
  have hR2 : ((w.alloc (.cells (stL s) A8L)).alloc (.cells z64 A64B)).heap[w.heap.size + 1]? = some (.cells z64 A64B (0, 0)) := heap_alloc2_new w _ _
  have hB2 : Below w.heap.size w ((w.alloc (.cells (stL s) A8L)).alloc (.cells z64 A64B)) := ((Below.refl _ _).alloc (Nat.le_refl _) _).alloc (by simp) _
  have hB23 : Below (w.heap.size + 1 + 1) ((w.alloc (.cells (stL s) A8L)).alloc (.cells z64 A64B)) (((w.alloc (.cells (stL s) A8L)).alloc (.cells z64 A64B)).alloc (.cells zF.toArray 5)) := (Below.refl _ _).alloc (by simp) _
  have hsz2 : ((w.alloc (.cells (stL s) A8L)).alloc (.cells z64 A64B)).heap.size = w.heap.size + 1 + 1 := by simp
  obtain ⟨bv, hbv⟩ : ∃ bv, bv = bvs r := ⟨_, rfl⟩
  have hbl : bv.length = r.length := by rw [hbv]; simp
  have HA3 : Hid (Lie (((w.alloc (.cells (stL s) A8L)).alloc (.cells z64 A64B)).alloc (.cells zF.toArray 5)) w.heap.size A bv) := hid (by rw [hbv]; exact HA.out.below (hB2.alloc (by simp; omega) _))
  have HR3 := hid hrow3; have HS2 := hid hS2; have HR2 := hid hR2; have HB2 := hid hB2; have HB23 := hid hB23; have HSZ := hid hsz2; have HBV := hid hbv; have HBL := hid hbl
  clear hrow3 hS2 hR2 hB2 hB23 hsz2 hbv hbl
  go_wp2_with (with_reducible refine wpList_copy_splice rfl (.tmp 20) (.tmp 21) 22 22 rfl 5 Tryz.underlying22 sizeU8L _ _ _ _ _ _ rfl rfl (w.heap.size + 1 + 1) 0 zF 5 HR3.out bv ?e2 ?e3 ?e4 ?e5 (w.heap.size + 1 + 1) ((w.alloc (.cells (stL s) A8L)).alloc (.cells z64 A64B)) HB23.out (Nat.le_refl _) ?_)
  case e2 => rw [HBL.out]; exact (Nat.min_eq_left (by omega)).symm
  case e3 => intro hp; first | exact ⟨rfl, lieL_src HA3.out hp⟩ | exact lieL_src HA3.out hp
  case e4 => rw [HBL.out, HZL.out]; omega
  case e5 => rw [HBV.out]; exact bvs_one r
  intro w4 HW4 hb4
  rw [HBL.out]
  have hcr : (splice zF 0 bv).length = 256 := by rw [length_splice _ _ _ (by rw [HBL.out, HZL.out]; omega), HZL.out]
  obtain ⟨v, hv⟩ : ∃ v, w4.cell? ⟨w.heap.size + 1 + 1, r.length, none⟩ = some v := ⟨_, cell_of HW4.out r.length _ (Array.getElem?_eq_getElem (by rw [List.size_toArray, hcr]; omega))⟩
  have hfz : w4.frozen? ⟨w.heap.size + 1 + 1, r.length, none⟩ = false := frozen_of_row _ _ _ _ _ HW4.out
  have hm5 := block_set HW4.out r.length (.int .u8 128)
  obtain ⟨P, hP⟩ : ∃ P, P = r ++ [128] ++ List.replicate (padZL n) 0 := ⟨_, rfl⟩
  have hPl : P.length + 16 = 256 := by rw [hP]; simp; have := HPZ.out; omega
  rw [HZF.out, HBV.out, mark_row r 256 (padZL n) HPZ.out, ← hP] at hm5
  have hq : (n : Int) / 2305843009213693952 = 0 := by omega
  have hr0 : (0 : Int) ≤ (r.length : Int) := by omega
  have hr1 : (r.length : Int) < 256 := by omega
  have hP1 := put_any (w.heap.size + 1 + 1) 240 16 16 0 (bvs (P ++ List.replicate 16 0)).toArray 5 (w4.setCell ⟨w.heap.size + 1 + 1, r.length, none⟩ (.int .u8 128)) (by omega) (by omega) (by omega) hm5 (by simp; omega)
  rw [show ((0 : Nat) : Int) = 0 from rfl] at hP1
  have HP1 := hid hP1
  have HB4 := hid hb4; have HP := hid hP; have HPL := hid hPl; have HM5 := hid hm5
  clear hb4 hcr hm5 hP hPl hP1
  go_wp2_with fail
  refine HP1.out.mono ?_
  rintro e w5 ⟨rfl, hw5⟩
  have hrow5 := heap_setCells (bvs (beBytes 8 0)) HM5.out 240 (by simp; have := HPL.out; omega)
  rw [← hw5] at hrow5
  have hg5 : w4.grownBy w5 (some (w.heap.size + 1 + 1)) := by rw [hw5]; exact grown_step (grown_setCell _ _ _ none _) (.inl rfl) (grown_setCells _ _ _ _)
  have hP2 := put_any (w.heap.size + 1 + 1) 248 8 8 (8 * n) _ _ w5 (by omega) (by omega) (by omega) hrow5 (by simp; have := HPL.out; omega)
  have hrow6 := heap_setCells (bvs (beBytes 8 (8 * n))) hrow5 248 (by simp; have := HPL.out; omega)
  have hc := count_row P (beBytes 8 0) (beBytes 8 (8 * n)) 256 HPL.out (by simp) (by simp)
  simp only [Nat.reduceSub] at hc
  simp only [List.toList_toArray] at hrow6 hc
  rw [hc] at hrow6
  have he16 : beBytes 8 0 ++ beBytes 8 (8 * n) = beBytes 16 (8 * n) := by rw [be16, show 8 * n / 256 ^ 8 = 0 from Nat.div_eq_of_lt (by omega)]
  rw [he16, HP.out] at hrow6
  have hrow6' : (w5.setCells (w.heap.size + 1 + 1) 248 (bvs (beBytes 8 (8 * n)))).heap[w.heap.size + 1 + 1]? = some (.cells (bvs (padNL r n (beBytes 16 (8 * n)))).toArray 5 (0, 0)) := hrow6
  have h8n : (n : Int) * 8 = ((8 * n : Nat) : Int) := by omega
  have h8l : (n : Int) * 8 < 18446744073709551616 := by omega
  rw [← h8n] at hP2
  have HP2 := hid hP2; have HR6 := hid hrow6'
  have HB5 := hid (HB4.out.grown hg5 (by have := HB4.out.size; have := HSZ.out; omega) (fun k hk => by injection hk with hk; omega))
  clear hw5 hrow5 hg5 hP2 hrow6 hc he16 hrow6' h8n hq
  go_wp2_with fail
  refine HP2.out.mono ?_
  rintro e w6 ⟨rfl, hw6⟩
  have hR6 := HR6.out
  rw [← hw6] at hR6
  have hB6 : Below (w.heap.size + 1 + 1) ((w.alloc (.cells (stL s) A8L)).alloc (.cells z64 A64B)) w6 := by
    rw [hw6]; exact HB5.out.grown (grown_setCells _ _ _ _) (by have := HB5.out.size; have := HSZ.out; omega) (fun k hk => by injection hk with hk; omega)
  obtain ⟨zs, hzs⟩ : ∃ zs, zs = padNL r n (beBytes 16 (8 * n)) := ⟨_, rfl⟩
  rw [← hzs] at hR6
  have hzl : zs.length = 256 := by rw [hzs, padNL]; simp; have := HPZ.out; omega
  have hS6 : w6.heap[w.heap.size]? = some (.cells (stL s) A8L (0, 0)) := (hB6.block _ (by omega)).trans HS2.out
  have hR0 : w6.heap[w.heap.size + 1]? = some (.cells z64 A64B (0, 0)) := (hB6.block _ (by omega)).trans HR2.out
  have hBw : Below w.heap.size w w6 := HB2.out.trans (hB6.mono (by omega))
  have hsz6 : w.heap.size + 1 + 1 ≤ w6.heap.size := by have := block_lt hR6; omega
  have HTH := hid (throughL_any s (some ⟨w.heap.size + 1 + 1, 0, none⟩) zs 256 w6 HS.out (Lie.sq (fun _ => ⟨w.heap.size + 1 + 1, 0, rfl, block_lt hR6, fun j u hu => by rw [Nat.zero_add]; exact cell_of hR6 j u (by simpa using hu)⟩) (by simp [hzl]) (by omega)) (HG.out.below hBw (Nat.le_refl _)))
  rw [hzl] at HTH
  have hcl : blocksL kTabL (256 / 128) s zs = closeSL s r n := by rw [closeSL, ← hzs, hzl]
  rw [hcl] at HTH
  have HI : Hid ((Tryz.prog.info? 141).map (·.size) = some (stL s).size) := hid (info8L.trans (congrArg some (stL_size _).symm))
  have HS6 := hid hS6; have HR0 := hid hR0; have HBW := hid hBw
  clear hw6 hR6 hB6 hzs hzl hS6 hR0 hBw hcl HB5 HP2 HR6
  go_wp2_with (first
    | fail
    | (with_reducible refine wpList_load_row rfl 141 (.tmp 3) rfl w.heap.size rfl A8L (stL s) (0, 0) _ HS6.out Tryz.underlying141 rfl HI.out ?_))
  refine HTH.out.mono ?_
  rintro e w7 ⟨A7, c7, rfl, _, hb7, _⟩
  obtain ⟨ct, hct⟩ : ∃ ct, ct = closeSL s r n := ⟨_, rfl⟩
  have hco : ct.okL := by rw [hct, closeSL]; exact blocksL_okay _ _ _ _ HS.out
  rw [← hct]
  have hS7 : w7.heap[w.heap.size]? = some (.cells (stL s) A8L (0, 0)) := (hb7.block _ (by omega)).trans HS6.out
  have hR7 : w7.heap[w.heap.size + 1]? = some (.cells z64 A64B (0, 0)) := (hb7.block _ (by omega)).trans HR0.out
  have hB7 : Below w.heap.size w w7 := HBW.out.trans (hb7.mono (by omega))
  have hsz7 : w.heap.size + 1 + 1 ≤ w7.heap.size := Nat.le_trans hsz6 hb7.size
  have HI2 : Hid ((Tryz.prog.info? 141).map (·.size) = some (stL ct).size) := hid (info8L.trans (congrArg some (stL_size _).symm))
  have HZ2 : Hid ((stL s).size = (stL ct).size) := hid ((stL_size s).trans (stL_size ct).symm)
  have HO2 := hid (stL_one ct)
  have hS8 : (w7.setRow w.heap.size (stL ct)).heap[w.heap.size]? = some (.cells (stL ct) A8L (0, 0)) := setRow_heap _ _ _ _ _ _ hS7
  have hS9 : ((w7.setRow w.heap.size (stL ct)).alloc (.cells z64 A64B)).heap[w.heap.size]? = some (.cells (stL ct) A8L (0, 0)) := (Below.heap_alloc _ _ _ (by rw [size_setRow]; omega)).trans hS8
  have hR9 : ((w7.setRow w.heap.size (stL ct)).alloc (.cells z64 A64B)).heap[w.heap.size + 1]? = some (.cells z64 A64B (0, 0)) := (Below.heap_alloc _ _ _ (by rw [size_setRow]; omega)).trans ((setRow_other _ _ _ _ (by omega)).trans hR7)
  have hD9 : ((w7.setRow w.heap.size (stL ct)).alloc (.cells z64 A64B)).heap[w7.heap.size]? = some (.cells (dL ct 0) A64B (0, 0)) := by
    have h := heap_alloc_new (w7.setRow w.heap.size (stL ct)) (.cells z64 A64B)
    rw [size_setRow] at h
    rw [h, dL_zero, HZ64.out]
  have hB9 : Below w.heap.size w ((w7.setRow w.heap.size (stL ct)).alloc (.cells z64 A64B)) := (below_setRow hB7 (Nat.le_refl _) _).alloc (by rw [size_setRow]; omega) _
  have hsr : (w7.setRow w.heap.size (stL ct)).heap.size = w7.heap.size := size_setRow _ _ _
  have HS7 := hid hS7; have HS9 := hid hS9; have HR9 := hid hR9; have HD9 := hid hD9; have HB9 := hid hB9; have HCT := hid hct; have HCO := hid hco
  clear hb7 hS7 hR7 hB7 hS8 hS9 hR9 hD9 hB9 hct hco HTH HBW HS6 HR0
  go_wp2_with (first
    | fail
    | (with_reducible refine wpList_store_row rfl 141 (.tmp 3) _ rfl w.heap.size (stL ct) rfl rfl A8L (stL s) HS7.out HI2.out HZ2.out HO2.out ?_)
    | (with_reducible refine wpList_load_row rfl 141 (.tmp 3) rfl w.heap.size rfl A8L (stL ct) (0, 0) _ HS9.out Tryz.underlying141 rfl HI2.out ?_))
  clear hzero hmk
  generalize (w7.setRow w.heap.size (stL ct)).alloc (.cells z64 A64B) = w9 at *
  have hD : w.heap.size + 1 < w7.heap.size := by omega
  generalize w7.heap.size = D at *
  have HIX : Hid (∀ (k x : Nat) (W : World), k < 8 → ct.list[k]? = some x → (Instr.index 141 (.agg (stL ct)) (.int .i64 (k : Int))).run Tryz.prog W = .ok (.int .u64 (x : Int)) W) := hid fun k x W hk hx => index_runL _ k _ hk (stL_get ct k x hx) W
  go_loopg [45] 8 (fun r i wr => ∃ k : Nat, k + r = 8 ∧ i = .int .i64 (k : Int) ∧ wr.heap[D]? = some (.cells (dL ct k) A64B (0, 0)) ∧ wr.heap[w.heap.size + 1]? = some (.cells z64 A64B (0, 0)) ∧ Below w.heap.size w wr)
  case atStart => exact ⟨0, rfl, rfl, HD9.out, HR9.out, HB9.out⟩
  case round =>
    clear HD9 HR9 HB9 HS9
    obtain ⟨k, hk, rfl, hd, hr9, hb⟩ := hrel
    have HD := hid hd; have HR := hid hr9; have HB := hid hb; have HK := hid hk
    have hkb : k ≤ 8 := by omega
    clear hd hr9 hb hk
    by_cases hlt : k < 8
    · have hx8 : (k : Int) < 8 := by omega
      have hk0 : (0 : Int) ≤ (k : Int) := by omega
      obtain ⟨x, hx⟩ : ∃ x, ct.list[k]? = some x := ⟨_, List.getElem?_eq_getElem (show k < 8 from hlt)⟩
      have hxl : x < 18446744073709551616 := St8.list_ltL ct HCO.out x (List.mem_of_getElem? hx)
      have hi2 : ∀ W : World, (Instr.index 141 (.agg (stL ct)) (.int .i64 (k : Int))).run Tryz.prog W = .ok (.int .u64 (x : Int)) W := fun W => HIX.out k x W hlt hx
      have hne : ¬ (8 * k = 64) := by omega
      have h8a : (0 : Int) ≤ 8 * (k : Int) := by omega
      have h8b : 8 * (k : Int) ≤ 64 := by omega
      have h8c : (8 * (k : Int)).toNat = 8 * k := by omega
      have HPT := hid (put_any D (8 * k) (64 - 8 * k) (64 - 8 * k) x (dL ct k) A64B wr hxl (by omega) (by omega) HD.out (by rw [dL_size ct k hkb]; omega))
      have hrow := heap_setCells (bvs (beBytes 8 x)) HD.out (8 * k) (by rw [dL_size ct k hkb]; simp; omega)
      rw [dL_next ct k x hlt hx] at hrow
      have HROW := hid hrow
      clear hrow hx
      go_wp2_with fail
      refine HPT.out.mono ?_
      rintro e w10 ⟨rfl, hw10⟩
      have hg10 : wr.grownBy w10 (some D) := by rw [hw10]; exact grown_setCells _ _ _ _
      have hD10 : w10.heap[D]? = some (.cells (dL ct (k + 1)) A64B (0, 0)) := by rw [hw10]; exact HROW.out
      have HG10 := hid hg10; have HD10 := hid hD10
      clear hw10 hg10 hD10
      go_wp2
      have hk := HK.out
      go_roundg (8 - k - 1)
      case measure => omega
      case rel => exact ⟨k + 1, by omega, by go_num, HD10.out, (HG10.out.block _ (block_lt HR.out) (by simp; omega)).trans HR.out, HB.out.grown HG10.out HB.out.size (fun q hq => by injection hq with hq; omega)⟩
    · obtain rfl : k = 8 := by omega
      have hdz : (dL ct 8).size = 64 := dL_size ct 8 (by omega)
      have HI3 : Hid ((Tryz.prog.info? 97).map (·.size) = some (dL ct 8).size) := hid (info64B.trans (congrArg some hdz.symm))
      have HZ3 : Hid (z64.size = (dL ct 8).size) := hid (HZS.out.trans hdz.symm)
      have HO3 : Hid ((dL ct 8).all (·.oneCell') = true) := hid (by rw [dL_end]; exact byA_one _)
      clear hdz
      go_wp2_with (first
        | (with_reducible refine wpList_load_row rfl 97 (.tmp 9) rfl D rfl A64B (dL ct 8) (0, 0) _ HD.out Tryz.underlying97 rfl HI3.out ?_)
        | (with_reducible refine wpList_store_row rfl 97 (.tmp 6) _ rfl (w.heap.size + 1) (dL ct 8) rfl rfl A64B z64 HR.out HI3.out HZ3.out HO3.out ?_))
      refine bodyPost_ret (v := .agg (dL ct 8)) (results_cell_row rfl _ _ (w.heap.size + 1) A64B (dL ct 8) (0, 0) _ rfl (setRow_heap _ _ _ _ _ _ HR.out) Tryz.underlying97 rfl HI3.out) rfl ⟨by rw [dL_end, HCT.out], ?_⟩
      exact below_setRow HB.out (by omega) _
end Go.Proofs.YtgehfbcagaaggaaGreatDoor
end
