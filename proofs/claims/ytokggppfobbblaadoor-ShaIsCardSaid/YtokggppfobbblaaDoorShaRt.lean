/-
  Primes and the constants that are roots of them, plain.
-/
import Derived.Test.YtokggppfobbblaaDoorShaP
import Derived.Test.YtokggppfobbblaaDoorLonM
namespace Go.Proofs.YtokggppfobbblaaDoor
set_option linter.unusedVariables false
set_option linter.unusedSimpArgs false

/-- The primes below p. -/
def prs : Nat → List Nat
  | 0 => []
  | p + 1 => if 2 ≤ p ∧ (prs p).all (fun q => p % q != 0) = true then prs p ++ [p] else prs p
theorem prs_prefix (p d : Nat) : ∃ t, prs (p + d) = prs p ++ t := by
  induction d with
  | zero => exact ⟨[], by simp⟩
  | succ d ih =>
    obtain ⟨t, ht⟩ := ih
    rw [show p + (d + 1) = (p + d) + 1 by omega, prs]
    split
    · exact ⟨t ++ [p + d], by rw [ht, List.append_assoc]⟩
    · exact ⟨t, ht⟩
theorem prs_lt (p : Nat) : ∀ x ∈ prs p, 2 ≤ x ∧ x < p := by
  induction p with
  | zero => intro x hx; cases hx
  | succ p ih =>
    intro x hx
    rw [prs] at hx
    split at hx
    · rcases List.mem_append.1 hx with hx | hx
      · have := ih x hx; omega
      · rw [List.mem_singleton] at hx; omega
    · have := ih x hx; omega
theorem prs_410 : (prs 410).length = 80 := by decide +kernel
/-- Where there are n of them, they are the first n. -/
theorem prs_take (p n : Nat) (h : (prs p).length = n) (hp : p ≤ 410) : prs p = (prs 410).take n := by
  obtain ⟨t, ht⟩ := prs_prefix p (410 - p)
  rw [show p + (410 - p) = 410 by omega] at ht
  rw [ht, ← h, List.take_left]
theorem prs_le (p : Nat) (hp : p ≤ 410) : (prs p).length ≤ 80 := by
  obtain ⟨t, ht⟩ := prs_prefix p (410 - p)
  rw [show p + (410 - p) = 410 by omega] at ht
  have := prs_410
  rw [ht, List.length_append] at this
  omega
/-- The k-th root's first 32 bits behind the point. -/
def rt32 (k p : Nat) : Nat := rbits (p * 2 ^ (64 * k)) k 0 70 % 18446744073709551616 / 4294967296
theorem roots_iv : ((prs 410).take 8).map (rt32 2) = iv.list := by decide +kernel
theorem roots_k : ((prs 410).take 64).map (rt32 3) = kTab := by decide +kernel
end Go.Proofs.YtokggppfobbblaaDoor
