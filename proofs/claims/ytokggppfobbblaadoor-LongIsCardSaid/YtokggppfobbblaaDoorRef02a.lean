/-
  The document's own digest (package ratlineref02): turns, shifts, the table.
-/
import Derived.Test.YtokggppfobbblaaDoorLon2
import Derived.Test.YtokggppfobbblaaDoorQuiT
import Derived.Test.YtokggppfobbblaaDoorShaR
namespace Go.Proofs.YtokggppfobbblaaDoor
open Go.RowKit
set_option linter.unusedVariables false
set_option linter.unusedSimpArgs false

set_option maxHeartbeats 400000 in
theorem turnR_any (x n : Nat) (w : World) (hx : x < 4294967296) (hn : n ≤ 32) :
    Calls Tryd.prog 42 #[.int .u64 (x : Int), .int .i64 (n : Int)] w fun e w' => e = .returned (.int .u64 ((rotr x n : Nat) : Int)) ∧ w = w' := by
  have HE := hid (turnN_eq x n hn)
  go_enter Tryd.func42, Tryd.ntmps42
  go_wp2
  go_loopg [0, 5] n (fun g a i wr => ∃ k : Nat, k + g = n ∧ i = .int .i64 (k : Int) ∧ a = .int .u64 ((turnN x k : Nat) : Int) ∧ turnN x k < 4294967296 ∧ wr = w)
  case atStart => exact ⟨0, by omega, rfl, rfl, hx, rfl⟩
  case round =>
    obtain ⟨k, hk, rfl, rfl, hl, rfl⟩ := hrel
    have HK := hid hk
    have hkn : k ≤ n := by omega
    have hnx : turnN x (k + 1) = turn1 (turnN x k) := rfl
    obtain ⟨y, hy⟩ : ∃ y, y = turnN x k := ⟨_, rfl⟩
    rw [← hy] at hl hnx ⊢
    have hl2 := turn1_lt y hl
    unfold turn1 at hnx hl2
    have HNX := hid hnx; have HL2 := hid hl2; have HY := hid hy
    clear hk hnx hl2 hy
    by_cases hlt : k < n
    · have hki : (k : Int) < (n : Int) := by omega
      go_wp2
      have hk := HK.out
      go_roundg (n - k - 1)
      case measure => omega
      case rel => exact ⟨k + 1, by omega, by go_num, by rw [HNX.out]; go_num, by rw [HNX.out]; exact HL2.out, rfl⟩
    · obtain rfl : k = n := by omega
      have hki : ¬ (k : Int) < (k : Int) := by omega
      clear HK
      go_wp2
      go_ret
      exact ⟨ret_int (by rw [HY.out, HE.out]), rfl⟩

set_option maxHeartbeats 400000 in
theorem shiftR_any (x n : Nat) (w : World) (hx : x < 18446744073709551616) (hn : n ≤ 64) :
    Calls Tryd.prog 43 #[.int .u64 (x : Int), .int .i64 (n : Int)] w fun e w' => e = .returned (.int .u64 ((x / 2 ^ n : Nat) : Int)) ∧ w = w' := by
  go_enter Tryd.func43, Tryd.ntmps43
  go_wp2
  go_loopg [0, 5] n (fun g a i wr => ∃ k y : Nat, k + g = n ∧ i = .int .i64 (k : Int) ∧ a = .int .u64 (y : Int) ∧ y = x / 2 ^ k ∧ wr = w)
  case atStart => exact ⟨0, x, by omega, rfl, rfl, by simp, rfl⟩
  case round =>
    obtain ⟨k, y, hk, rfl, rfl, hy, rfl⟩ := hrel
    have hyl : y < 18446744073709551616 := by rw [hy]; exact Nat.lt_of_le_of_lt (Nat.div_le_self _ _) hx
    have HK := hid hk; have HY := hid hy
    have hkn : k ≤ n := by omega
    clear hk hy
    by_cases hlt : k < n
    · have hki : (k : Int) < (n : Int) := by omega
      go_wp2
      have hk := HK.out
      go_roundg (n - k - 1)
      case measure => omega
      case rel => exact ⟨k + 1, y / 2, by omega, by go_num, by go_num, by rw [HY.out, Nat.pow_succ, Nat.div_div_eq_div_mul], rfl⟩
    · obtain rfl : k = n := by omega
      have hki : ¬ (k : Int) < (k : Int) := by omega
      clear HK
      go_wp2
      go_ret
      exact ⟨ret_int (by rw [HY.out]; simp), rfl⟩
end Go.Proofs.YtokggppfobbblaaDoor
