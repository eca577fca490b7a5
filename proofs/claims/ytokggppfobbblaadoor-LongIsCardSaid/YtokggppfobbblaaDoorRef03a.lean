/-
  The document's own longer digest (package ratlineref03): turns, shifts, bits.
-/
import Derived.Test.YtokggppfobbblaaDoorRef02b
import Derived.Test.YtokggppfobbblaaDoorLonQ
namespace Go.Proofs.YtokggppfobbblaaDoor
open Go.RowKit
set_option linter.unusedVariables false
set_option linter.unusedSimpArgs false

set_option maxHeartbeats 400000 in
theorem turn3_any (x n : Nat) (w : World) (hx : x < 18446744073709551616) (hn : n ≤ 64) :
    Calls Tryd.prog 35 #[.int .u64 (x : Int), .int .i64 (n : Int)] w fun e w' => e = .returned (.int .u64 ((rotrL x n : Nat) : Int)) ∧ w = w' := by
  have HE := hid (turnNL_eq x n hn)
  go_enter Tryd.func35, Tryd.ntmps35
  go_wp2
  go_loopg [0, 5] n (fun g a i wr => ∃ k : Nat, k + g = n ∧ i = .int .i64 (k : Int) ∧ a = .int .u64 ((turnNL x k : Nat) : Int) ∧ turnNL x k < 18446744073709551616 ∧ wr = w)
  case atStart => exact ⟨0, by omega, rfl, rfl, hx, rfl⟩
  case round =>
    obtain ⟨k, hk, rfl, rfl, hl, rfl⟩ := hrel
    have HK := hid hk
    have hkn : k ≤ n := by omega
    have hnx : turnNL x (k + 1) = turn1L (turnNL x k) := rfl
    obtain ⟨y, hy⟩ : ∃ y, y = turnNL x k := ⟨_, rfl⟩
    rw [← hy] at hl hnx ⊢
    have hl2 := turn1L_lt y hl
    unfold turn1L at hnx hl2
    have HNX := hid hnx; have HL2 := hid hl2; have HY := hid hy
    clear hk hnx hl2 hy
    by_cases hlt : k < n
    · have hki : (k : Int) < (n : Int) := by omega
      go_wp2
      have hk := HK.out
      go_roundg (n - k - 1)
      case measure => omega
      case rel => exact ⟨k + 1, by omega, by go_num, by rw [HNX.out]; go_num, by rw [HNX.out]; exact HL2.out, rfl⟩
    · obtain rfl : k = n := by omega
      have hki : ¬ (k : Int) < (k : Int) := by omega
      clear HK
      go_wp2
      go_ret
      exact ⟨ret_int (by rw [HY.out, HE.out]), rfl⟩

set_option maxHeartbeats 400000 in
theorem shift3_any (x n : Nat) (w : World) (hx : x < 18446744073709551616) (hn : n ≤ 64) :
    Calls Tryd.prog 36 #[.int .u64 (x : Int), .int .i64 (n : Int)] w fun e w' => e = .returned (.int .u64 ((x / 2 ^ n : Nat) : Int)) ∧ w = w' := by
  go_enter Tryd.func36, Tryd.ntmps36
  go_wp2
  go_loopg [0, 5] n (fun g a i wr => ∃ k y : Nat, k + g = n ∧ i = .int .i64 (k : Int) ∧ a = .int .u64 (y : Int) ∧ y = x / 2 ^ k ∧ wr = w)
  case atStart => exact ⟨0, x, by omega, rfl, rfl, by simp, rfl⟩
  case round =>
    obtain ⟨k, y, hk, rfl, rfl, hy, rfl⟩ := hrel
    have hyl : y < 18446744073709551616 := by rw [hy]; exact Nat.lt_of_le_of_lt (Nat.div_le_self _ _) hx
    have HK := hid hk; have HY := hid hy
    have hkn : k ≤ n := by omega
    clear hk hy
    by_cases hlt : k < n
    · have hki : (k : Int) < (n : Int) := by omega
      go_wp2
      have hk := HK.out
      go_roundg (n - k - 1)
      case measure => omega
      case rel => exact ⟨k + 1, y / 2, by omega, by go_num, by go_num, by rw [HY.out, Nat.pow_succ, Nat.div_div_eq_div_mul], rfl⟩
    · obtain rfl : k = n := by omega
      have hki : ¬ (k : Int) < (k : Int) := by omega
      clear HK
      go_wp2
      go_ret
      exact ⟨ret_int (by rw [HY.out]; simp), rfl⟩
theorem turn3_l (x n : Nat) (z : Int) (a : Nat) (hx : x < 18446744073709551616) (hn : n ≤ 64) (hz : z = (n : Int)) (ha : a = rotrL x n) (w : World) (k : Nat) :
    Calls Tryd.prog 35 #[.int .u64 (x : Int), .int .i64 z] (w.drewN k) fun e w'' => e = .returned (.int .u64 (a : Int)) ∧ ∃ m, w'' = w.drewN m := by
  subst hz; subst ha
  exact (turn3_any x n _ hx hn).mono fun _ _ h => ⟨h.1, k, h.2.symm⟩
theorem shift3_l (x n : Nat) (z : Int) (a : Nat) (hx : x < 18446744073709551616) (hn : n ≤ 64) (hz : z = (n : Int)) (ha : a = x / 2 ^ n) (w : World) (k : Nat) :
    Calls Tryd.prog 36 #[.int .u64 (x : Int), .int .i64 z] (w.drewN k) fun e w'' => e = .returned (.int .u64 (a : Int)) ∧ ∃ m, w'' = w.drewN m := by
  subst hz; subst ha
  exact (shift3_any x n _ hx hn).mono fun _ _ h => ⟨h.1, k, h.2.symm⟩
theorem xor3L_u64 (a b c : Nat) (ha : a < 18446744073709551616) (hb : b < 18446744073709551616) (hc : c < 18446744073709551616) : bits .xor .u64 (bits .xor .u64 (a : Int) (b : Int)) (c : Int) = ((a ^^^ b ^^^ c : Nat) : Int) := by
  have hab : a ^^^ b < 18446744073709551616 := Nat.xor_lt_two_pow (n := 64) ha hb
  rw [bits_xor_u64_nat _ _ ha hb, bits_xor_u64_nat _ _ hab hc]
theorem addL_u64 (a b r : Nat) (hr : r = (a + b) % 18446744073709551616) : IntKind.u64.wrap ((a : Int) + (b : Int)) = (r : Int) := by
  rw [hr, IntKind.wrap_u64]; omega
theorem bitL_q (x z : Nat) (hx : x < 18446744073709551616) : ∃ X X2 : Nat, IntKind.u64.wrap ((x : Int) / (z : Int)) = (X : Int) ∧ Int.tmod (X : Int) 2 = (X2 : Int) ∧ X2 = x / z % 2 ∧ X2 < 2 := by
  refine ⟨x / z, x / z % 2, ?_, (Int.ofNat_tmod _ 2).symm, rfl, Nat.mod_lt _ (by omega)⟩
  have := Nat.div_le_self x z
  rw [show (x : Int) / (z : Int) = ((x / z : Nat) : Int) from rfl]
  generalize x / z = d at *
  rw [IntKind.wrap_u64]; omega
theorem bitL_mul (x y z : Nat) (hx : x < 2) (hz : z ≤ 9223372036854775808) (hy : y < z) : ∃ p r : Nat, IntKind.u64.wrap ((x : Int) * (z : Int)) = (p : Int) ∧ IntKind.u64.wrap ((y : Int) + (p : Int)) = (r : Int) ∧ r = y + x * z := by
  have h := Nat.mul_le_mul_right z (show x ≤ 1 by omega)
  refine ⟨x * z, y + x * z, ?_, ?_, rfl⟩
  · rw [← Int.natCast_mul, IntKind.wrap_u64]; omega
  · rw [IntKind.wrap_u64]; omega
end Go.Proofs.YtokggppfobbblaaDoor
