/-
  Texts of this claim in one file: Back.
-/
import Derived.Test.YtlgcdddgahjknaaPk9
section
namespace Go.Proofs.Ytlgcdddgahjknaa
open Go.RowKit
set_option linter.unusedVariables false
set_option linter.unusedSimpArgs false
theorem beNum_cons (a : Nat) (x : UInt8) (l : List UInt8) : beNum a (x :: l) = beNum (a * 256 + x.toNat) l := rfl
/-- Bytes of a number make it, behind whatever stood ahead. -/
theorem beNum_beBytes (k n a : Nat) : beNum a (beBytes k n) = a * 256 ^ k + n % 256 ^ k := by
  induction k generalizing a with
  | zero => simp [beNum, beBytes, Nat.mod_one]
  | succ k ih =>
    rw [beBytes, beNum_cons, ih]
    have h1 : (UInt8.ofNat (n / 256 ^ k)).toNat = n / 256 ^ k % 256 := by simp [UInt8.toNat_ofNat']
    rw [h1, Nat.pow_succ, Nat.mod_mul, Nat.add_mul]
    have h2 : a * 256 * 256 ^ k = a * (256 ^ k * 256) := by rw [Nat.mul_assoc, Nat.mul_comm 256]
    have h3 : n / 256 ^ k % 256 * 256 ^ k = 256 ^ k * (n / 256 ^ k % 256) := Nat.mul_comm _ _
    omega
theorem be_one (n : Nat) (h : n < 64) : beBytes 1 n = [UInt8.ofNat n] := by simp [beBytes]
theorem lenAt_lenBytes (n : Nat) (rest : List UInt8) (h : n < 1073741824) : lenAt (lenBytes n ++ rest) = (n, lenSize n, 0) := by
  unfold lenBytes lenSize
  by_cases h1 : n < 64
  · rw [if_pos h1, if_pos h1, be_one n h1]
    have : (UInt8.ofNat n).toNat = n := by simp [UInt8.toNat_ofNat']; omega
    simp only [List.singleton_append, lenAt, this]
    rw [if_pos h1]
  · rw [if_neg h1, if_neg h1]
    by_cases h2 : n < 16384
    · rw [if_pos h2, if_pos h2]
      have hb : beBytes 2 (16384 + n) = UInt8.ofNat ((16384 + n) / 256) :: beBytes 1 (16384 + n) := by simp [beBytes]
      have hx : (UInt8.ofNat ((16384 + n) / 256)).toNat = 64 + n / 256 := by simp only [UInt8.toNat_ofNat']; omega
      have hm : (64 + n / 256) % 64 = n / 256 := by omega
      have hv : beNum (n / 256) (beBytes 1 (16384 + n)) = n := by rw [beNum_beBytes]; omega
      have hl : (beBytes 1 (16384 + n)).length = 1 := beBytes_length _ _
      rw [hb, List.cons_append]
      simp only [lenAt, hx, hm]
      rw [if_neg (by omega), if_neg (by omega), if_pos (by omega), if_neg (by rw [List.length_append]; omega), List.take_left' hl, hv]
      have hs : lenSize n = 2 := by unfold lenSize; rw [if_neg h1, if_pos h2]
      rw [if_pos hs]
    · rw [if_neg h2, if_neg h2]
      have hb : beBytes 4 (2147483648 + n) = UInt8.ofNat ((2147483648 + n) / 16777216) :: beBytes 3 (2147483648 + n) := by simp [beBytes]
      have hx : (UInt8.ofNat ((2147483648 + n) / 16777216)).toNat = 128 + n / 16777216 := by simp only [UInt8.toNat_ofNat']; omega
      have hm : (128 + n / 16777216) % 64 = n / 16777216 := by omega
      have hv : beNum (n / 16777216) (beBytes 3 (2147483648 + n)) = n := by rw [beNum_beBytes]; omega
      have hl : (beBytes 3 (2147483648 + n)).length = 3 := beBytes_length _ _
      rw [hb, List.cons_append]
      simp only [lenAt, hx, hm]
      rw [if_neg (by omega), if_neg (by omega), if_neg (by omega), if_neg (by rw [List.length_append]; omega), List.take_left' hl, hv]
      have hs : lenSize n = 4 := by unfold lenSize; rw [if_neg h1, if_neg h2]
      rw [if_pos hs]
theorem vecAt_back (v rest : List UInt8) (h : v.length < 1073741824) : vecAt (vecBytes v ++ rest) = (v, rest, 0) := by
  unfold vecAt vecBytes
  rw [List.append_assoc, lenAt_lenBytes _ _ h]
  have hl := lenBytes_length v.length
  simp only [ne_eq, not_true_eq_false, if_false]
  rw [if_neg (by simp only [List.length_append, hl]; omega), List.drop_left' hl, List.take_left' rfl]
  have hd : (lenBytes v.length ++ (v ++ rest)).drop (lenSize v.length + v.length) = rest := by
    rw [← List.append_assoc]
    exact List.drop_left' (by rw [List.length_append, hl])
  rw [hd]
end Go.Proofs.Ytlgcdddgahjknaa
end
