/-
  Package sha, function by function: turns, choice, majority.
-/
import Derived.Test.YtpdkpadpdkagoaaDoorBytes
import Derived.Test.YtpdkpadpdkagoaaDoorShaP
import Derived.Laws.BitsAllLaws
import Derived.Laws.Unary
namespace Go.Proofs.YtpdkpadpdkagoaaDoor
open Go.RowKit
set_option linter.unusedVariables false
set_option linter.unusedSimpArgs false

theorem ret_int {k : IntKind} {a b : Int} (h : a = b) : Ending.returned (.int k a) = .returned (.int k b) := by rw [h]

theorem neg_and (n : Nat) (h0 : 0 < n) (h1 : n < 32) : bits .and .u64 (IntKind.u64.wrap (-(n : Int))) 31 = ((32 - n : Nat) : Int) := by
  have key : ∀ m : Fin 32, 0 < m.val → bits .and .u64 (IntKind.u64.wrap (-(m.val : Int))) 31 = ((32 - m.val : Nat) : Int) := by decide +kernel
  exact key ⟨n, h1⟩ h0
theorem rot_bits (x n : Nat) (hx : x < 4294967296) (h0 : 0 < n) (h1 : n < 32) :
    bits .or .u32 ((x : Int) * 2 ^ (32 - n) % 4294967296) ((x : Int) / 2 ^ (32 - (32 - n))) = ((rotr x n : Nat) : Int) := by
  have e1 : (x : Int) * 2 ^ (32 - n) % 4294967296 = ((x * 2 ^ (32 - n) % 4294967296 : Nat) : Int) := by simp
  have e2 : (x : Int) / 2 ^ (32 - (32 - n)) = ((x / 2 ^ n : Nat) : Int) := by
    rw [show 32 - (32 - n) = n by omega]; simp
  rw [e1, e2, u32_or_nat _ _ (Nat.mod_lt _ (by omega)) (Nat.lt_of_le_of_lt (Nat.div_le_self _ _) hx), rotr_or x n hx h0 h1]

theorem rotl_any (x n : Nat) (w : World) (hx : x < 4294967296) (h0 : 0 < n) (h1 : n < 32) :
    Calls Tryd.prog 53 #[.int .u32 (x : Int), .int .i64 (-(n : Int))] w fun e w' => e = .returned (.int .u32 (rotr x n : Nat)) ∧ w = w' := by
  have hn := neg_and n h0 h1
  have HB := hid (rot_bits x n hx h0 h1)
  go_enter Tryd.func53, Tryd.ntmps53
  go_wp2
  go_ret
  exact ⟨ret_int HB.out, rfl⟩

theorem right_any (x n : Nat) (z : Int) (w : World) (hz : z = (n : Int)) (hx : x < 4294967296) (h0 : 0 < n) (h1 : n < 32) :
    Calls Tryd.prog 49 #[.int .u32 (x : Int), .int .i64 z] w fun e w' => e = .returned (.int .u32 (rotr x n : Nat)) ∧ w = w' := by
  subst hz
  go_enter Tryd.func49, Tryd.ntmps49
  go_wp2_with fail
  refine (rotl_any x n _ hx h0 h1).mono ?_
  rintro e w' ⟨rfl, rfl⟩
  go_wp2
  go_ret
  exact ⟨rfl, rfl⟩

theorem right_q (x : Nat) (z : Int) (w : World) (k : Nat) (hx : x < 4294967296) (h0 : 0 < z) (h1 : z < 32) :
    Calls Tryd.prog 49 #[.int .u32 (x : Int), .int .i64 z] (w.drewN k) fun e w'' => e = .returned (.int .u32 (rotr x z.toNat : Nat)) ∧ ∃ m, w'' = w.drewN m := by
  obtain ⟨n, rfl⟩ := Int.eq_ofNat_of_zero_le (by omega : 0 ≤ z)
  exact (right_any x n n _ rfl hx (by omega) (by omega)).mono fun _ _ h => ⟨h.1, k, h.2.symm⟩

theorem choice_bits (e f g : Nat) (he : e < 4294967296) (hf : f < 4294967296) (hg : g < 4294967296) :
    bits .xor .u32 (bits .and .u32 (e : Int) (f : Int)) (bits .and .u32 (bits .xor .u32 IntKind.u32.max (e : Int)) (g : Int)) = ((chN e f g : Nat) : Int) := by
  have e0 : IntKind.u32.max = ((4294967295 : Nat) : Int) := by decide
  have e1 : 4294967295 ^^^ e = 4294967295 - e := by
    apply Nat.eq_of_testBit_eq
    intro i
    have h2 := Nat.testBit_two_pow_sub_succ (n := 32) he i
    rw [show (2 : Nat) ^ 32 - (e + 1) = 4294967295 - e by omega] at h2
    have h3 := Nat.testBit_two_pow_sub_one 32 i
    rw [show (2 : Nat) ^ 32 - 1 = 4294967295 by decide] at h3
    rw [h2, Nat.testBit_xor, h3]
    by_cases hi : i < 32
    · simp [hi]
    · have : e.testBit i = false := Nat.testBit_lt_two_pow (Nat.lt_of_lt_of_le he (Nat.pow_le_pow_right (n := 2) (by omega) (by omega : 32 ≤ i)))
      simp [hi, this]
  rw [e0, u32_xor_nat _ _ (by omega) he, e1, u32_and_nat _ _ he hf, u32_and_nat _ _ (by omega) hg,
    u32_xor_nat _ _ (Nat.and_lt_two_pow (n := 32) _ hf) (Nat.and_lt_two_pow (n := 32) _ hg), chN]

theorem choice_any (e f g : Nat) (w : World) (he : e < 4294967296) (hf : f < 4294967296) (hg : g < 4294967296) :
    Calls Tryd.prog 50 #[.int .u32 (e : Int), .int .u32 (f : Int), .int .u32 (g : Int)] w fun e' w' => e' = .returned (.int .u32 (chN e f g : Nat)) ∧ w = w' := by
  have HB := hid (choice_bits e f g he hf hg)
  have hs : IntKind.u32.signed = false := rfl
  go_enter Tryd.func50, Tryd.ntmps50
  go_wp2
  go_ret
  exact ⟨ret_int HB.out, rfl⟩

theorem choice_q (e f g : Nat) (w : World) (k : Nat) (he : e < 4294967296) (hf : f < 4294967296) (hg : g < 4294967296) :
    Calls Tryd.prog 50 #[.int .u32 (e : Int), .int .u32 (f : Int), .int .u32 (g : Int)] (w.drewN k) fun e' w'' => e' = .returned (.int .u32 (chN e f g : Nat)) ∧ ∃ m, w'' = w.drewN m :=
  (choice_any e f g _ he hf hg).mono fun _ _ h => ⟨h.1, k, h.2.symm⟩

theorem majority_bits (a b c : Nat) (ha : a < 4294967296) (hb : b < 4294967296) (hc : c < 4294967296) :
    bits .xor .u32 (bits .xor .u32 (bits .and .u32 (a : Int) (b : Int)) (bits .and .u32 (a : Int) (c : Int))) (bits .and .u32 (b : Int) (c : Int)) = ((majN a b c : Nat) : Int) := by
  have h1 := Nat.and_lt_two_pow (n := 32) a hb
  have h2 := Nat.and_lt_two_pow (n := 32) a hc
  have h3 := Nat.and_lt_two_pow (n := 32) b hc
  rw [u32_and_nat _ _ ha hb, u32_and_nat _ _ ha hc, u32_and_nat _ _ hb hc, u32_xor_nat _ _ h1 h2, u32_xor_nat _ _ (Nat.xor_lt_two_pow (n := 32) h1 h2) h3, majN]

theorem majority_any (a b c : Nat) (w : World) (ha : a < 4294967296) (hb : b < 4294967296) (hc : c < 4294967296) :
    Calls Tryd.prog 51 #[.int .u32 (a : Int), .int .u32 (b : Int), .int .u32 (c : Int)] w fun e' w' => e' = .returned (.int .u32 (majN a b c : Nat)) ∧ w = w' := by
  have HB := hid (majority_bits a b c ha hb hc)
  go_enter Tryd.func51, Tryd.ntmps51
  go_wp2
  go_ret
  exact ⟨ret_int HB.out, rfl⟩
end Go.Proofs.YtpdkpadpdkagoaaDoor
