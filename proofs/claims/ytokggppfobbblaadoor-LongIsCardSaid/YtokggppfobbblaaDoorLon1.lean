/-
  Package long, function by function: turns.
-/
import Derived.Test.YtokggppfobbblaaDoorSha1
import Derived.Test.YtokggppfobbblaaDoorLonQ
namespace Go.Proofs.YtokggppfobbblaaDoor
open Go.RowKit
set_option linter.unusedVariables false
set_option linter.unusedSimpArgs false

theorem neg_andL (n : Nat) (h0 : 0 < n) (h1 : n < 64) : bits .and .u64 (IntKind.u64.wrap (-(n : Int))) 63 = ((64 - n : Nat) : Int) := by
  have key : ∀ m : Fin 64, 0 < m.val → bits .and .u64 (IntKind.u64.wrap (-(m.val : Int))) 63 = ((64 - m.val : Nat) : Int) := by decide +kernel
  exact key ⟨n, h1⟩ h0
theorem rot_bitsL (x n : Nat) (hx : x < 18446744073709551616) (h0 : 0 < n) (h1 : n < 64) :
    bits .or .u64 ((x : Int) * 2 ^ (64 - n) % 18446744073709551616) ((x : Int) / 2 ^ (64 - (64 - n))) = ((rotrL x n : Nat) : Int) := by
  have e1 : (x : Int) * 2 ^ (64 - n) % 18446744073709551616 = ((x * 2 ^ (64 - n) % 18446744073709551616 : Nat) : Int) := by simp
  have e2 : (x : Int) / 2 ^ (64 - (64 - n)) = ((x / 2 ^ n : Nat) : Int) := by
    rw [show 64 - (64 - n) = n by omega]; simp
  rw [e1, e2, u64_or_nat _ _ (Nat.mod_lt _ (by omega)) (Nat.lt_of_le_of_lt (Nat.div_le_self _ _) hx), rotrL_or x n hx h0 h1]

theorem rotlL_any (x n : Nat) (w : World) (hx : x < 18446744073709551616) (h0 : 0 < n) (h1 : n < 64) :
    Calls Tryd.prog 72 #[.int .u64 (x : Int), .int .i64 (-(n : Int))] w fun e w' => e = .returned (.int .u64 (rotrL x n : Nat)) ∧ w = w' := by
  have hn := neg_andL n h0 h1
  have HB := hid (rot_bitsL x n hx h0 h1)
  go_enter Tryd.func72, Tryd.ntmps72
  go_wp2
  go_ret
  exact ⟨ret_int HB.out, rfl⟩

theorem xor3L (a b c : Nat) (ha : a < 18446744073709551616) (hb : b < 18446744073709551616) (hc : c < 18446744073709551616) :
    bits .xor .u64 (bits .xor .u64 (a : Int) (b : Int)) (c : Int) = ((a ^^^ b ^^^ c : Nat) : Int) := by
  rw [u64_xor_nat _ _ ha hb, u64_xor_nat _ _ (Nat.xor_lt_two_pow (n := 64) ha hb) hc]

theorem turned_any (x i j k : Nat) (w : World) (hx : x < 18446744073709551616) (hi0 : 0 < i) (hi : i < 64) (hj0 : 0 < j) (hj : j < 64) (hk0 : 0 < k) (hk : k < 64) :
    Calls Tryd.prog 63 #[.int .u64 (x : Int), .int .i64 (i : Int), .int .i64 (j : Int), .int .i64 (k : Int)] w fun e w' => e = .returned (.int .u64 ((rotrL x i ^^^ rotrL x j ^^^ rotrL x k : Nat) : Int)) ∧ w = w' := by
  have HB := hid (xor3L (rotrL x i) (rotrL x j) (rotrL x k) (rotrL_lt x i hx (by omega)) (rotrL_lt x j hx (by omega)) (rotrL_lt x k hx (by omega)))
  go_enter Tryd.func63, Tryd.ntmps63
  go_wp2_with fail
  refine (rotlL_any x i _ hx hi0 hi).mono ?_
  rintro e w' ⟨rfl, rfl⟩
  go_wp2_with fail
  refine (rotlL_any x j _ hx hj0 hj).mono ?_
  rintro e w' ⟨rfl, rfl⟩
  go_wp2_with fail
  refine (rotlL_any x k _ hx hk0 hk).mono ?_
  rintro e w' ⟨rfl, rfl⟩
  go_wp2
  go_ret
  exact ⟨ret_int HB.out, rfl⟩

theorem rotlL_q (x : Nat) (z : Int) (w : World) (k : Nat) (hx : x < 18446744073709551616) (h0 : z < 0) (h1 : -64 < z) :
    Calls Tryd.prog 72 #[.int .u64 (x : Int), .int .i64 z] (w.drewN k) fun e w'' => e = .returned (.int .u64 (rotrL x (-z).toNat : Nat)) ∧ ∃ m, w'' = w.drewN m := by
  obtain ⟨n, hn⟩ := Int.eq_ofNat_of_zero_le (by omega : 0 ≤ -z)
  obtain rfl : z = -(n : Int) := by omega
  rw [show (- -(n : Int)).toNat = n by omega]
  exact (rotlL_any x n _ hx (by omega) (by omega)).mono fun _ _ h => ⟨h.1, k, h.2.symm⟩

theorem shifted_any (x i j k : Nat) (w : World) (hx : x < 18446744073709551616) (hi0 : 0 < i) (hi : i < 64) (hj0 : 0 < j) (hj : j < 64) (hk : k < 64) :
    Calls Tryd.prog 71 #[.int .u64 (x : Int), .int .i64 (i : Int), .int .i64 (j : Int), .int .i64 (k : Int)] w fun e w' => e = .returned (.int .u64 ((rotrL x i ^^^ rotrL x j ^^^ x / 2 ^ k : Nat) : Int)) ∧ ∃ n, w' = w.drewN n := by
  have HB := hid (xor3L (rotrL x i) (rotrL x j) (x / 2 ^ k) (rotrL_lt x i hx (by omega)) (rotrL_lt x j hx (by omega)) (Nat.lt_of_le_of_lt (Nat.div_le_self _ _) hx))
  have HD : Hid ((x : Int) / 2 ^ k = ((x / 2 ^ k : Nat) : Int)) := hid (by simp)
  have hk0 : (0 : Int) ≤ (k : Int) := by omega
  have hk1 : (k : Int) < 64 := by omega
  have h0i : -(i : Int) < 0 := by omega
  have h0j : -(j : Int) < 0 := by omega
  have h1i : -64 < -(i : Int) := by omega
  have h1j : -64 < -(j : Int) := by omega
  go_enter Tryd.func71, Tryd.ntmps71
  go_wp2_with fail
  go_quiet ((go_at_call 72; exact rotlL_q x _ _ _ hx (by first | assumption | (simp; omega)) (by first | assumption | (simp; omega))))
  go_wp2
  go_ret
  exact ⟨ret_int (by rw [← HB.out, ← HD.out]), _, rfl⟩
end Go.Proofs.YtokggppfobbblaaDoor
