/-
  Texts of this claim in one file: UndI.
-/
import Derived.Test.YthooibljnfnnhaaPk3
section
namespace Go.Proofs.Ythooibljnfnnhaa
set_option linter.unusedVariables false
set_option linter.unusedSimpArgs false
/-- What lies beneath, by numbers. -/
theorem und_iff {q l Q L : Nat} : undB q l Q L = true ↔ l ≤ L ∧ q / 2 ^ (L - l) = Q := by
  unfold undB
  rw [Bool.and_eq_true, decide_eq_true_eq, decide_eq_true_eq]
  constructor
  · rintro ⟨h1, h2⟩
    have hd : nd q l / 2 ^ (L + 1) = Q := by
      unfold loN at h1
      unfold hiN at h2
      have hp := Nat.one_le_two_pow (n := L)
      have hp1 := pow1 L
      apply Nat.div_eq_of_lt_le
      · exact h1
      · rw [Nat.add_mul, Nat.one_mul]; omega
    have hm : nd q l % 2 ^ (L + 1) ≤ 2 ^ (L + 1) - 2 := by
      have h3 := Nat.div_add_mod (nd q l) (2 ^ (L + 1))
      rw [hd, Nat.mul_comm] at h3
      unfold hiN at h2
      omega
    have hl : l ≤ L := by
      rcases Nat.lt_or_ge L l with hlt | hge
      · exfalso
        obtain ⟨t, rfl⟩ : ∃ t, l = L + 1 + t := ⟨l - (L + 1), by omega⟩
        have e1 : nd q (L + 1 + t) + 1 = 2 ^ (L + 1) * (q * 2 ^ (t + 1) + 2 ^ t) := by
          unfold nd
          have := Nat.one_le_two_pow (n := L + 1 + t)
          rw [Nat.mul_add, ← Nat.pow_add, ← Nat.mul_assoc, Nat.mul_comm (2 ^ (L + 1)) q, Nat.mul_assoc, ← Nat.pow_add, show L + 1 + (t + 1) = L + 1 + t + 1 by omega]
          omega
        have h3 := Nat.div_add_mod (nd q (L + 1 + t)) (2 ^ (L + 1))
        have h4 : (nd q (L + 1 + t) + 1) % 2 ^ (L + 1) = 0 := by rw [e1]; exact Nat.mul_mod_right _ _
        have hp := Nat.one_le_two_pow (n := L)
        have hp1 := pow1 L
        rw [Nat.add_mod, Nat.mod_eq_of_lt (a := 1) (by omega), Nat.mod_eq_of_lt (by omega)] at h4
        omega
      · exact hge
    refine ⟨hl, ?_⟩
    rw [← hd, show L + 1 = l + 1 + (L - l) by omega, Nat.pow_add, ← Nat.div_div_eq_div_mul, nd_div]
  · rintro ⟨hl, rfl⟩
    have h := up_in q l (L - l)
    rw [show l + (L - l) = L by omega] at h
    exact ⟨Nat.le_trans h.1 (lo_le q l), Nat.le_trans (le_hi q l) h.2⟩
end Go.Proofs.Ythooibljnfnnhaa
end
