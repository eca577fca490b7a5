/-
  A block's bytes as four columns, plain.
-/
import Derived.Test.YtfjcedfjfadfpaaAesA
namespace Go.Proofs.Ytfjcedfjfadfpaa
set_option linter.unusedVariables false
set_option linter.unusedSimpArgs false
def col (S : Nat → Nat) (c : Nat) : Nat := ln (fun r => S (4 * c + r)) 4
theorem col_lt {S : Nat → Nat} (hS : ∀ i, S i < 256) (c : Nat) : col S c < 4294967296 := ln_lt 4 _ fun r => hS _
def cut (S : Nat → Nat) (k i : Nat) : Nat := if i < k then S i else 0
theorem cut_lt {S : Nat → Nat} (hS : ∀ i, S i < 256) (k i : Nat) : cut S k i < 256 := by
  unfold cut; split
  · exact hS i
  · decide
theorem cut_zero (S : Nat → Nat) (c : Nat) : col (cut S 0) c = 0 := (ln_congr 4 fun r _ => by simp [cut]).trans (ln_zero 4)
theorem cut_all (S : Nat → Nat) (k c : Nat) (hk : 16 ≤ k) (hc : c < 4) : col (cut S k) c = col S c := ln_congr 4 fun r hr => by simp [cut]; omega
theorem cut_other (S : Nat → Nat) (k c : Nat) (h : c ≠ k / 4) : col (cut S (k + 1)) c = col (cut S k) c := ln_congr 4 fun r hr => by
  unfold cut
  by_cases h1 : 4 * c + r < k
  · rw [if_pos h1, if_pos (by omega)]
  · rw [if_neg h1, if_neg (by omega)]
/-- One byte at its place. -/
theorem ln_at {x : Nat} (hx : x < 256) (j : Nat) (hj : j < 4) : x * 2 ^ (8 * j) % 4294967296 = ln (fun r => if r = j then x else 0) 4 := by
  have h : j = 0 ∨ j = 1 ∨ j = 2 ∨ j = 3 := by omega
  rcases h with rfl | rfl | rfl | rfl <;> simp [ln] <;> omega
theorem at_lt {x : Nat} (hx : x < 256) (j r : Nat) : (if r = j then x else 0) < 256 := by split <;> omega
theorem put_step {S : Nat → Nat} (hS : ∀ i, S i < 256) (k : Nat) (hk : k < 16) : col (cut S k) (k / 4) ||| (S k * 2 ^ (8 * (k % 4)) % 4294967296) = col (cut S (k + 1)) (k / 4) := by
  rw [ln_at (hS k) (k % 4) (by omega), col, ln_or 4 (fun r => cut_lt hS k _) (fun r => at_lt (hS k) _ r)]
  refine ln_congr 4 fun r hr => ?_
  unfold cut
  by_cases h : r = k % 4
  · have e : 4 * (k / 4) + r = k := by omega
    rw [e, if_neg (Nat.lt_irrefl k), if_pos h, if_pos (by omega), Nat.zero_or]
  · rw [if_neg h, Nat.or_zero]
    by_cases h1 : 4 * (k / 4) + r < k
    · rw [if_pos h1, if_pos (by omega)]
    · rw [if_neg h1, if_neg (by omega)]
/-- Each row turned. -/
def tur (S : Nat → Nat) (i : Nat) : Nat := S (4 * ((i / 4 + i % 4) % 4) + i % 4)
theorem tur_lt {S : Nat → Nat} (hS : ∀ i, S i < 256) (i : Nat) : tur S i < 256 := hS _
theorem tur_step {S : Nat → Nat} (hS : ∀ i, S i < 256) (c r : Nat) (hc : c < 4) (hr : r < 4) :
    col (cut (tur S) (4 * c + r)) c ||| (col S ((c + r) % 4) &&& (255 * 2 ^ (8 * r) % 4294967296)) = col (cut (tur S) (4 * c + r + 1)) c := by
  have h := put_step (tur_lt hS) (4 * c + r) (by omega)
  rw [show (4 * c + r) / 4 = c by omega, show (4 * c + r) % 4 = r by omega] at h
  rw [← h]
  congr 1
  rw [ln_at (x := 255) (by omega) r hr, ln_at (tur_lt hS _) r hr, col, ln_and 4 (fun i => hS _) (fun i => at_lt (by omega) _ i)]
  refine ln_congr 4 fun i hi => ?_
  by_cases h : i = r
  · subst h
    rw [if_pos rfl, if_pos rfl, mask_b _ (hS _)]
    unfold tur
    rw [show (4 * c + i) / 4 = c by omega, show (4 * c + i) % 4 = i by omega]
  · rw [if_neg h, if_neg h, Nat.and_zero]
/-- Turned by k bytes. -/
def rr (x k : Nat) : Nat := (x * 2 ^ (32 - k) % 4294967296) ||| (x / 2 ^ k)
theorem rr_ln {f : Nat → Nat} (hf : ∀ i, f i < 256) (k : Nat) (h1 : 1 ≤ k) (h3 : k ≤ 3) : rr (ln f 4) (8 * k) = ln (fun r => f ((r + k) % 4)) 4 := by
  refine ln_ext (fun i => hf _) fun i => ?_
  unfold rr
  rw [Nat.testBit_or, show 4294967296 = 2 ^ 32 from rfl, Nat.testBit_mod_two_pow, ← Nat.shiftLeft_eq, Nat.testBit_shiftLeft, Nat.testBit_div_two_pow, ln_bit 4 f hf, ln_bit 4 f hf]
  by_cases hi : i < 32
  · by_cases h : i ≥ 32 - 8 * k
    · rw [show (i - (32 - 8 * k)) / 8 = (i / 8 + k) % 4 by omega, show (i - (32 - 8 * k)) % 8 = i % 8 by omega,
        show decide (i < 32) = true by simp [hi], show decide (i ≥ 32 - 8 * k) = true by simp; omega, show decide (i - (32 - 8 * k) < 8 * 4) = true by simp; omega,
        show decide (i + 8 * k < 8 * 4) = false by simp; omega]
      simp
    · rw [show (i + 8 * k) / 8 = (i / 8 + k) % 4 by omega, show (i + 8 * k) % 8 = i % 8 by omega,
        show decide (i ≥ 32 - 8 * k) = false by simp; omega, show decide (i + 8 * k < 8 * 4) = true by simp; omega, show decide (i < 8 * 4) = true by simp; omega]
      simp
  · rw [show decide (i < 32) = false by simp; omega, show decide (i + 8 * k < 8 * 4) = false by simp; omega]
    simp
theorem rr_lt {x : Nat} (hx : x < 4294967296) (k : Nat) : rr x k < 4294967296 :=
  Nat.or_lt_two_pow (n := 32) (Nat.mod_lt _ (by decide)) (Nat.lt_of_le_of_lt (Nat.div_le_self _ _) hx)
theorem ln_mod4 {f : Nat → Nat} (hf : ∀ i, f i < 256) : ln f 8 % 4294967296 = ln f 4 := by
  refine ln_ext hf fun i => ?_
  rw [show 4294967296 = 2 ^ 32 from rfl, Nat.testBit_mod_two_pow, ln_bit 8 f hf]
  by_cases h : i < 32
  · rw [show decide (i < 32) = true by simp [h], show decide (i < 8 * 8) = true by simp; omega]; simp
  · rw [show decide (i < 32) = false by simp; omega]; simp
theorem ln_div4 {f : Nat → Nat} (hf : ∀ i, f i < 256) : ln f 8 / 4294967296 = ln (fun i => f (4 + i)) 4 := by
  refine ln_ext (fun i => hf _) fun i => ?_
  rw [show 4294967296 = 2 ^ 32 from rfl, Nat.testBit_div_two_pow, ln_bit 8 f hf, show (i + 32) / 8 = 4 + i / 8 by omega, show (i + 32) % 8 = i % 8 by omega]
  congr 1
  simp; omega
theorem ln_two {f : Nat → Nat} (hf : ∀ i, f i < 256) : ln f 4 ||| (ln (fun i => f (4 + i)) 4 * 4294967296 % 18446744073709551616) = ln f 8 := by
  refine ln_ext hf fun i => ?_
  rw [show 4294967296 = 2 ^ 32 from rfl, show 18446744073709551616 = 2 ^ 64 from rfl, Nat.testBit_or, Nat.testBit_mod_two_pow, ← Nat.shiftLeft_eq, Nat.testBit_shiftLeft, ln_bit 4 f hf, ln_bit 4 _ (fun i => hf _)]
  by_cases h : i < 32
  · rw [show decide (i ≥ 32) = false by simp; omega, show decide (i < 8 * 4) = true by simp; omega, show decide (i < 8 * 8) = true by simp; omega]; simp
  · by_cases h2 : i < 64
    · rw [show 4 + (i - 32) / 8 = i / 8 by omega, show (i - 32) % 8 = i % 8 by omega, show decide (i ≥ 32) = true by simp; omega, show decide (i < 8 * 4) = false by simp; omega, show decide (i < 8 * 8) = true by simp; omega,
        show decide (i - 32 < 8 * 4) = true by simp; omega]; simp
    · rw [show decide (i < 64) = false by simp; omega, show decide (i < 8 * 4) = false by simp; omega]; simp
theorem ln_pad {f : Nat → Nat} (hf : ∀ i, f i < 256) : ln f 4 = ln (fun i => if i < 4 then f i else 0) 8 := by
  refine ln_ext (fun i => by split <;> simp [hf]) fun i => ?_
  rw [ln_bit 4 f hf]
  by_cases h : i < 32
  · rw [show decide (i < 8 * 4) = true by simp; omega, show decide (i < 8 * 8) = true by simp; omega, if_pos (by omega)]
  · rw [show decide (i < 8 * 4) = false by simp; omega, if_neg (by omega)]; simp
/-- A column mixed: words. -/
def mixW (a : Nat) : Nat := dblW (a ^^^ rr a 8) % 4294967296 ^^^ rr a 8 ^^^ rr a 16 ^^^ rr a 24
def mixN (f : Nat → Nat) (r : Nat) : Nat := dblN (f r ^^^ f ((r + 1) % 4)) ^^^ f ((r + 1) % 4) ^^^ f ((r + 2) % 4) ^^^ f ((r + 3) % 4)
theorem mixN_lt {f : Nat → Nat} (hf : ∀ i, f i < 256) (r : Nat) : mixN f r < 256 := xor_b (xor_b (xor_b (dblN_lt (xor_b (hf _) (hf _))) (hf _)) (hf _)) (hf _)
theorem mixW_lt {a : Nat} (ha : a < 4294967296) : mixW a < 4294967296 := by
  unfold mixW
  exact Nat.xor_lt_two_pow (n := 32) (Nat.xor_lt_two_pow (n := 32) (Nat.xor_lt_two_pow (n := 32) (Nat.mod_lt _ (by decide)) (rr_lt ha _)) (rr_lt ha _)) (rr_lt ha _)
theorem mixW_ln {f : Nat → Nat} (hf : ∀ i, f i < 256) : mixW (ln f 4) = ln (mixN f) 4 := by
  unfold mixW
  have h1 := rr_ln hf 1 (by omega) (by omega)
  have h2 := rr_ln hf 2 (by omega) (by omega)
  have h3 := rr_ln hf 3 (by omega) (by omega)
  have a1 : ∀ i, f i ^^^ f ((i + 1) % 4) < 256 := fun i => xor_b (hf _) (hf _)
  have a2 : ∀ i, (if i < 4 then f i ^^^ f ((i + 1) % 4) else 0) < 256 := fun i => by split <;> simp [a1]
  rw [show 8 = 8 * 1 from rfl, show 16 = 8 * 2 from rfl, show 24 = 8 * 3 from rfl, h1, h2, h3, ln_xor 4 hf (fun i => hf _), ln_pad a1, dblW_ln a2, ln_mod4 (fun i => dblN_lt (a2 i)),
    ln_xor 4 (fun i => dblN_lt (a2 i)) (fun i => hf _), ln_xor 4 (fun i => xor_b (dblN_lt (a2 i)) (hf _)) (fun i => hf _), ln_xor 4 (fun i => xor_b (xor_b (dblN_lt (a2 i)) (hf _)) (hf _)) (fun i => hf _)]
  refine ln_congr 4 fun i hi => ?_
  rw [if_pos hi]
  rfl
/-- All columns. -/
def mixS (S : Nat → Nat) (i : Nat) : Nat := mixN (fun r => S (4 * (i / 4) + r)) (i % 4)
theorem mixS_lt {S : Nat → Nat} (hS : ∀ i, S i < 256) (i : Nat) : mixS S i < 256 := mixN_lt (fun r => hS _) _
theorem mixW_col {S : Nat → Nat} (hS : ∀ i, S i < 256) (c : Nat) : mixW (col S c) = col (mixS S) c := by
  unfold col
  rw [mixW_ln (fun i => hS _)]
  refine ln_congr 4 fun r hr => ?_
  unfold mixS
  rw [show (4 * c + r) / 4 = c by omega, show (4 * c + r) % 4 = r by omega]
theorem xor_col {S W : Nat → Nat} (hS : ∀ i, S i < 256) (hW : ∀ i, W i < 256) (c : Nat) : col S c ^^^ col W c = col (fun i => S i ^^^ W i) c := ln_xor 4 (fun i => hS _) (fun i => hW _)
/-- Two columns put through the box. -/
def boxS (S : Nat → Nat) (i : Nat) : Nat := boxC (S i)
theorem boxS_lt {S : Nat → Nat} (hS : ∀ i, S i < 256) (i : Nat) : boxS S i < 256 := boxC_lt _ (hS i)
theorem two_col {S : Nat → Nat} (hS : ∀ i, S i < 256) (c : Nat) : col S c ||| (col S (c + 1) * 4294967296 % 18446744073709551616) = ln (fun i => S (4 * c + i)) 8 := by
  have h := ln_two (f := fun i => S (4 * c + i)) (fun i => hS _)
  unfold col
  rw [← h]
  have e : ln (fun r => S (4 * (c + 1) + r)) 4 = ln (fun i => S (4 * c + (4 + i))) 4 := ln_congr 4 fun r _ => by rw [show 4 * (c + 1) + r = 4 * c + (4 + r) by omega]
  rw [e]
theorem box_two {S : Nat → Nat} (hS : ∀ i, S i < 256) (c : Nat) : boxW (col S c ||| (col S (c + 1) * 4294967296 % 18446744073709551616)) % 4294967296 = col (boxS S) c ∧ boxW (col S c ||| (col S (c + 1) * 4294967296 % 18446744073709551616)) / 4294967296 = col (boxS S) (c + 1) := by
  have hb : ∀ i, boxC (S (4 * c + i)) < 256 := fun i => boxC_lt _ (hS _)
  rw [two_col hS c, boxW_ln (fun i => hS _)]
  refine ⟨(ln_mod4 hb).trans rfl, (ln_div4 hb).trans ?_⟩
  exact ln_congr 4 fun r _ => by unfold boxS; rw [show 4 * (c + 1) + r = 4 * c + (4 + r) by omega]
/-- The next four words. -/
def nxc (S : Nat → Nat) (p : Nat) : Nat → Nat → Nat
  | 0, r => boxC (S (12 + (r + 1) % 4)) ^^^ (if r = 0 then p else 0) ^^^ S r
  | c + 1, r => nxc S p c r ^^^ S (4 * (c + 1) + r)
theorem nxc_lt {S : Nat → Nat} (hS : ∀ i, S i < 256) {p : Nat} (hp : p < 256) : ∀ c r, nxc S p c r < 256
  | 0, r => xor_b (xor_b (boxC_lt _ (hS _)) (at_lt hp 0 r)) (hS _)
  | c + 1, r => xor_b (nxc_lt hS hp c r) (hS _)
def nx (S : Nat → Nat) (p i : Nat) : Nat := nxc S p (i / 4) (i % 4)
theorem nx_lt {S : Nat → Nat} (hS : ∀ i, S i < 256) {p : Nat} (hp : p < 256) (i : Nat) : nx S p i < 256 := nxc_lt hS hp _ _
theorem nx_begin {S : Nat → Nat} (hS : ∀ i, S i < 256) {p : Nat} (hp : p < 256) : boxW (rr (col S 3) 8) % 4294967296 ^^^ p ^^^ col S 0 = col (nx S p) 0 := by
  unfold col
  have a1 : ∀ i, boxC (if i < 4 then S (4 * 3 + (i + 1) % 4) else 0) < 256 := fun i => boxC_lt _ (by split <;> simp [hS])
  have a0 : ∀ i, (if i < 4 then S (4 * 3 + (i + 1) % 4) else 0) < 256 := fun i => by split <;> simp [hS]
  have e := ln_at hp 0 (by omega)
  rw [Nat.mul_zero, Nat.pow_zero, Nat.mul_one, Nat.mod_eq_of_lt (by omega)] at e
  have hr := rr_ln (f := fun r => S (4 * 3 + r)) (fun i => hS _) 1 (by omega) (by omega)
  rw [show (8 : Nat) = 8 * 1 from rfl, hr, ln_pad (fun i => hS _), boxW_ln a0, ln_mod4 a1]
  conv => lhs; rw [e]
  rw [ln_xor 4 a1 (fun i => at_lt hp 0 i), ln_xor 4 (fun i => xor_b (a1 i) (at_lt hp 0 i)) (fun i => hS _)]
  refine ln_congr 4 fun r hr => ?_
  unfold nx
  rw [if_pos hr, show (4 * 0 + r) / 4 = 0 by omega, show (4 * 0 + r) % 4 = r by omega, show 4 * 0 + r = r by omega]
  rfl
theorem nx_more {S : Nat → Nat} (hS : ∀ i, S i < 256) {p : Nat} (hp : p < 256) (c : Nat) : col (nx S p) c ^^^ col S (c + 1) = col (nx S p) (c + 1) := by
  unfold col
  rw [ln_xor 4 (fun i => nx_lt hS hp _) (fun i => hS _)]
  refine ln_congr 4 fun r hr => ?_
  unfold nx
  rw [show (4 * c + r) / 4 = c by omega, show (4 * c + r) % 4 = r by omega, show (4 * (c + 1) + r) / 4 = c + 1 by omega, show (4 * (c + 1) + r) % 4 = r by omega]
  rfl
end Go.Proofs.Ytfjcedfjfadfpaa
