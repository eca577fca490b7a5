/-
  Texts of this claim in one file: ScB.
-/
import Derived.Test.YtgehfbcagaaggaaGreatDoorPk41
section
namespace Go.Proofs.YtgehfbcagaaggaaGreatDoor
open Go.RowKit
set_option linter.unusedVariables false
set_option linter.unusedSimpArgs false
theorem bit_num (x j s : Nat) (hs : s < 64) : x / 18446744073709551616 ^ j % 18446744073709551616 / 2 ^ s % 2 = x / 2 ^ (64 * j + s) % 2 := by
  have e : (2 : Nat) ^ (64 * j + s) = 18446744073709551616 ^ j * 2 ^ s := by rw [Nat.pow_add, Nat.pow_mul]
  rw [e, ← Nat.div_div_eq_div_mul]
  generalize x / 18446744073709551616 ^ j = y
  have h8 : (18446744073709551616 : Nat) = 2 ^ s * (2 * 2 ^ (63 - s)) := by
    rw [← Nat.pow_succ', ← Nat.pow_add, show s + (63 - s).succ = 64 by omega]
  rw [h8, Nat.mod_mul_right_div_self, Nat.mod_mul_right_mod]
theorem Bit_s (x : Nat) (i : Int) (w : World) (hx : x < 115792089237316195423570985008687907853269984665640564039457584007913129639936) (h0 : -9223372036854775808 ≤ i) (h1 : i ≤ 9223372036854775807) :
    Calls Tryz.prog 106 #[.agg (sA x), .int .i64 i] w fun e w' => e = .returned (.int .i64 (if 0 ≤ i ∧ i < 256 then ((x / 2 ^ i.toNat % 2 : Nat) : Int) else 0)) ∧ Below w.heap.size w w' := by
  have KW : Hid (∀ W, Calls Tryz.prog 74 #[.agg (sA x)] W fun e w' => e = .returned (.agg (sA x)) ∧ Below W.heap.size W w') := hid fun W => words_s x W hx
  have HA : Hid (Below w.heap.size w (w.alloc (.cells (sA x) ST))) := hid ((Below.refl _ _).alloc (Nat.le_refl _) _)
  by_cases hi : i < 0
  · rw [if_neg (by omega)]
    clear hx KW
    go_enter Tryz.func106, Tryz.ntmps106
    go_wp2
    go_ret
    exact ⟨rfl, HA.out⟩
  · by_cases hi2 : 256 ≤ i
    · rw [if_neg (by omega)]
      clear hx KW
      go_enter Tryz.func106, Tryz.ntmps106
      go_wp2
      go_ret
      exact ⟨rfl, HA.out⟩
    · obtain ⟨k, hik⟩ : ∃ k : Nat, i = (k : Int) := ⟨i.toNat, by omega⟩
      rw [if_pos (by omega), show i.toNat = k by omega]
      obtain ⟨j, hj⟩ : ∃ j, j = k / 64 := ⟨_, rfl⟩
      obtain ⟨s, hs⟩ : ∃ s, s = k % 64 := ⟨_, rfl⟩
      have hk : k = 64 * j + s := by omega
      have hj4 : j < 4 := by omega
      have hd : i.tdiv 64 = (j : Int) := by rw [hik, Int.tdiv_eq_ediv_of_nonneg (by omega)]; omega
      have hm : i.tmod 64 = (s : Int) := by rw [hik, Int.tmod_eq_emod_of_nonneg (by omega)]; omega
      obtain ⟨q, hq⟩ : ∃ q, q = x / 18446744073709551616 ^ j % 18446744073709551616 := ⟨_, rfl⟩
      have HIX := hid (fun (W : World) => index_runW (sA x) j (.int .u64 (q : Int)) hj4 (by rw [hq]; exact eA_get x j hj4) W)
      obtain ⟨t, ht⟩ : ∃ t, t = q / 2 ^ s % 2 := ⟨_, rfl⟩
      have hb : bits .and .u64 ((q : Int) / 2 ^ s) 1 = (t : Int) := by
        have := and_one (q / 2 ^ s) (Nat.lt_of_le_of_lt (Nat.div_le_self _ _) (by omega))
        rw [ht, ← this]
        congr 1
      have hw : wrap64 (t : Int) = (t : Int) := by unfold wrap64; omega
      have HS : Hid (s < 64) := hid (by omega)
      have HR : Hid (x / 2 ^ k % 2 = t) := hid (by rw [ht, hq, hk]; exact (bit_num x j s (by omega)).symm)
      have hs0 : (0 : Int) ≤ (s : Int) := by omega
      obtain ⟨p0, p1, p2, p3, b0, b1, b2, b3, hxv, ex⟩ := words x hx
      unfold sA at *
      rw [ex] at HIX KW HA ⊢
      clear hx hj hs hk hq ht h0 h1 hik hxv ex b0 b1 b2 b3
      have hix := HIX.out
      go_enter Tryz.func106, Tryz.ntmps106
      go_wp2_with (go_at_call 74; refine (KW.out _).mono ?_; rintro e w1 ⟨rfl, hb1⟩)
      have hmin : min s 64 = s := by have := HS.out; omega
      rw [hmin, hb, hw]
      go_ret
      refine ⟨by rw [HR.out]; rfl, HA.out.trans (hb1.mono ?_)⟩
      simp
end Go.Proofs.YtgehfbcagaaggaaGreatDoor
end
