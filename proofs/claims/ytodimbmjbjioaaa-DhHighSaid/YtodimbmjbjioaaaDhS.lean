/-
  Layer 7's product as bytes, plain.
-/
import Derived.Test.YtodimbmjbjioaaaRef07a
import Derived.Test.YtodimbmjbjioaaaLad
namespace Go.Proofs.Ytodimbmjbjioaaa
open Go.RowKit
set_option linter.unusedVariables false
set_option linter.unusedSimpArgs false
set_option exponentiation.threshold 600

/-- The number of a point's bytes. -/
def uF (pt : List UInt8) : FF := ⟨ofN pt, ofN_lt pt⟩
/-- The product's bytes. -/
def dhV (key pt : List UInt8) : List UInt8 := leB 32 (ladOut (uF pt) (leN (clampB key))).val
theorem dhV_length (key pt : List UInt8) : (dhV key pt).length = 32 := leB_length 32 _
def z32 : List UInt8 := List.replicate 32 0
def b32 (x : UInt8) : List UInt8 := x :: List.replicate 31 0
theorem z32_length : z32.length = 32 := rfl
theorem b32_length (x : UInt8) : (b32 x).length = 32 := rfl
theorem uF_nine : uF (b32 9) = 9 := Fin.ext (by decide +kernel)
theorem uF_zero : uF z32 = 0 := Fin.ext (by decide +kernel)
theorem zeros_key : leN (clampB z32) = 28948022309329048855892746252171976963317496166410141009864396001978282409984 := by decide +kernel
theorem leB_zero : leB 32 0 = z32 := by decide +kernel
theorem dhV_zero (key : List UInt8) {pt : List UInt8} (h : uF pt = 0) : dhV key pt = z32 := by
  unfold dhV
  rw [h, ladOut_zero]
  exact leB_zero
theorem dhV_base : dhV z32 (b32 9) = [47, 229, 125, 163, 71, 205, 98, 67, 21, 40, 218, 172, 95, 187, 41, 7, 48, 255, 246, 132, 175, 196, 207, 194, 237, 144, 153, 95, 88, 203, 59, 116] := by
  unfold dhV
  rw [uF_nine, zeros_key, ladOut_base]
  decide +kernel
theorem clampB_even (xs : List UInt8) : leN (clampB xs) % 2 = 0 ∧ leN (clampB xs) < 2 ^ 255 := by
  obtain ⟨ps, hps⟩ : ∃ ps, ps = pad32 xs := ⟨_, rfl⟩
  have hl : ps.length = 32 := by rw [hps]; exact pad32_length xs
  unfold clampB
  rw [← hps]
  rcases ps with _ | ⟨a, qs⟩
  · simp at hl
  have hq : qs.length = 31 := by simpa using hl
  obtain ⟨rs, y, rfl⟩ : ∃ rs y, qs = rs ++ [y] := ⟨qs.dropLast, qs.getLast (by intro h; rw [h] at hq; simp at hq), (List.dropLast_concat_getLast _).symm⟩
  have hr : rs.length = 30 := by simpa using hq
  have e : (((a :: (rs ++ [y])).set 0 (UInt8.ofNat (((a :: (rs ++ [y])).getD 0 0).toNat / 8 * 8))).set 31 (UInt8.ofNat (((a :: (rs ++ [y])).getD 31 0).toNat % 64 + 64))) =
      UInt8.ofNat (a.toNat / 8 * 8) :: (rs ++ [UInt8.ofNat (y.toNat % 64 + 64)]) := by
    have h31 : (a :: (rs ++ [y])).getD 31 0 = y := by
      simp [List.getD_eq_getElem?_getD, List.getElem?_append, hr]
    rw [h31]
    simp [List.set_append, hr]
  rw [e]
  have ha := a.toNat_lt
  have hy := y.toNat_lt
  have hx0 : (UInt8.ofNat (a.toNat / 8 * 8)).toNat = a.toNat / 8 * 8 := by simp [UInt8.toNat_ofNat']; omega
  have hx1 : (UInt8.ofNat (y.toNat % 64 + 64)).toNat = y.toNat % 64 + 64 := by simp [UInt8.toNat_ofNat']; omega
  have hlt := leN_lt rs
  rw [hr] at hlt
  have e2 : leN (UInt8.ofNat (a.toNat / 8 * 8) :: (rs ++ [UInt8.ofNat (y.toNat % 64 + 64)])) = a.toNat / 8 * 8 + 256 * (leN rs + 256 ^ 30 * (y.toNat % 64 + 64)) := by
    show (UInt8.ofNat (a.toNat / 8 * 8)).toNat + 256 * leN (rs ++ [UInt8.ofNat (y.toNat % 64 + 64)]) = _
    rw [leN_snoc, hr, hx0, hx1]
  rw [e2]
  generalize leN rs = z at *
  generalize a.toNat = p at *
  generalize y.toNat = q at *
  rw [show (256 : Nat) ^ 30 = 1766847064778384329583297500742918515827483896875618958121606201292619776 by decide +kernel] at *
  rw [show (2 : Nat) ^ 255 = 57896044618658097711785492504343953926634992332820282019728792003956564819968 by decide +kernel]
  omega
theorem pad32_self {xs : List UInt8} (h : xs.length = 32) : pad32 xs = xs := by
  unfold pad32
  rw [List.take_append_of_le_length (by omega), List.take_of_length_le (by omega)]
theorem clampB_twice (xs : List UInt8) : clampB (clampB xs) = clampB xs := by
  have hp := pad32_self (clampB_length xs)
  obtain ⟨ps, hps⟩ : ∃ ps, ps = pad32 xs := ⟨_, rfl⟩
  have hl : ps.length = 32 := by rw [hps]; exact pad32_length xs
  unfold clampB at *
  rw [hp, ← hps]
  have h0 : ((ps.set 0 (UInt8.ofNat ((ps.getD 0 0).toNat / 8 * 8))).set 31 (UInt8.ofNat ((ps.getD 31 0).toNat % 64 + 64))).getD 0 0 = UInt8.ofNat ((ps.getD 0 0).toNat / 8 * 8) := by
    rw [List.getD_eq_getElem?_getD, List.getElem?_set_ne (by omega), List.getElem?_set_self (by omega)]; rfl
  have h31 : ((ps.set 0 (UInt8.ofNat ((ps.getD 0 0).toNat / 8 * 8))).set 31 (UInt8.ofNat ((ps.getD 31 0).toNat % 64 + 64))).getD 31 0 = UInt8.ofNat ((ps.getD 31 0).toNat % 64 + 64) := by
    rw [List.getD_eq_getElem?_getD, List.getElem?_set_self (by rw [List.length_set]; omega)]; rfl
  rw [h0, h31]
  have ha := (ps.getD 0 0).toNat_lt
  have hy := (ps.getD 31 0).toNat_lt
  generalize (ps.getD 0 0).toNat = p at *
  generalize (ps.getD 31 0).toNat = q at *
  have e0 : (UInt8.ofNat (p / 8 * 8)).toNat / 8 * 8 = p / 8 * 8 := by simp [UInt8.toNat_ofNat']; try omega
  have e1 : (UInt8.ofNat (q % 64 + 64)).toNat % 64 + 64 = q % 64 + 64 := by simp [UInt8.toNat_ofNat']; try omega
  rw [e0, e1, List.set_comm _ _ (by omega : (31 : Nat) ≠ 0), List.set_set, List.set_set]
/-- Two have one secret. -/
theorem uF_dhV (key pt : List UInt8) : uF (dhV key pt) = ladOut (uF pt) (leN (clampB key)) := by
  refine Fin.ext ?_
  show ofN (leB 32 (ladOut (uF pt) (leN (clampB key))).val) = _
  obtain ⟨v, hv⟩ : ∃ v : FF, v = ladOut (uF pt) (leN (clampB key)) := ⟨_, rfl⟩
  rw [← hv]
  have h1 : v.val < pp := v.isLt
  have h3 : v.val < 57896044618658097711785492504343953926634992332820282019728792003956564819968 := by rw [pp_def] at h1; omega
  have h2 : v.val < 256 ^ 32 := Nat.lt_trans h3 (by decide +kernel)
  unfold ofN
  rw [List.take_of_length_le (by rw [leB_length]; omega), leN_leB, Nat.mod_eq_of_lt h2, Nat.mod_eq_of_lt h3, Nat.mod_eq_of_lt h1]
theorem dh_shares (a b : List UInt8) : dhV a (dhV b (b32 9)) = dhV b (dhV a (b32 9)) := by
  unfold dhV
  rw [show leB 32 (ladOut (uF (b32 9)) (leN (clampB b))).val = dhV b (b32 9) from rfl, show leB 32 (ladOut (uF (b32 9)) (leN (clampB a))).val = dhV a (b32 9) from rfl]
  rw [uF_dhV, uF_dhV, uF_nine, share (clampB_even a).2 (clampB_even b).2 (clampB_even a).1 (clampB_even b).1]
theorem dh_clamped (a pt : List UInt8) : dhV (clampB a) pt = dhV a pt := by
  unfold dhV
  rw [clampB_twice]
theorem xor_128 (y : UInt8) : (y ^^^ 128).toNat % 128 = y.toNat % 128 := by
  have : ∀ z : Fin 256, ((UInt8.ofNat z.val) ^^^ 128).toNat % 128 = (UInt8.ofNat z.val).toNat % 128 := by decide +kernel
  have h := this ⟨y.toNat, y.toNat_lt⟩
  simpa using h
/-- The highest bit plays no part. -/
theorem uF_high {pt : List UInt8} (h : pt.length = 32) (y z : UInt8) (hy : pt[31]? = some y) (hz : z = y ^^^ 128) : uF (pt.set 31 z) = uF pt := by
  have h31 : 31 < pt.length := by omega
  obtain ⟨zs, hzs⟩ : ∃ zs, zs = pt.take 31 := ⟨_, rfl⟩
  have hzl : zs.length = 31 := by rw [hzs, List.length_take]; omega
  have hpt : pt = zs ++ [y] := by
    rw [List.getElem?_eq_getElem h31] at hy
    injection hy with hy
    rw [hzs, ← hy, ← List.take_succ_eq_append_getElem h31, List.take_of_length_le (by omega)]
  have hset : pt.set 31 z = zs ++ [z] := by
    rw [hpt, List.set_append, hzl]; simp
  refine Fin.ext ?_
  show ofN (pt.set 31 z) = ofN pt
  rw [hset]
  conv => rhs; rw [hpt]
  unfold ofN
  rw [List.take_of_length_le (by simp [hzl]), List.take_of_length_le (by simp [hzl]), ← leN_cut zs y hzl, ← leN_cut zs z hzl, hz, xor_128]
theorem dhV_high {key pt : List UInt8} (h : pt.length = 32) (y z : UInt8) (hy : pt[31]? = some y) (hz : z = y ^^^ 128) : dhV key (pt.set 31 z) = dhV key pt := by
  unfold dhV
  rw [uF_high h y z hy hz]
def pB (x : UInt8) : List UInt8 := x :: (List.replicate 30 255 ++ [127])
theorem pB_length (x : UInt8) : (pB x).length = 32 := rfl
theorem uF_p : uF (pB 237) = 0 := Fin.ext (by decide +kernel)
theorem uF_p1 : uF (pB 238) = uF (b32 1) := Fin.ext (by decide +kernel)
theorem dhV_p1 (key : List UInt8) : dhV key (pB 238) = dhV key (b32 1) := by
  unfold dhV
  rw [uF_p1]
end Go.Proofs.Ytodimbmjbjioaaa
