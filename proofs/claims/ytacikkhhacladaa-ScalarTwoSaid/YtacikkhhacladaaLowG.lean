/-
  The document's lowest 64 bits, of any number.
-/
import Derived.Test.YtacikkhhacladaaBig4
namespace Go.Proofs.Ytacikkhhacladaa
open Go.RowKit
set_option linter.unusedVariables false
set_option linter.unusedSimpArgs false

theorem low_step (T N i x m : Nat) (hT : T = N % 32768 ^ 5) (hi : i < 5) (hx : x = N / 32768 ^ i % 32768) (hm : m = T / 32768 ^ (i + 1) % 18446744073709551616) : (m * 32768 % 18446744073709551616 + x) % 18446744073709551616 = T / 32768 ^ i % 18446744073709551616 := by
  have h1 := div_next T i
  have h2 : T / 32768 ^ i % 32768 = x := by
    rw [hT, hx]
    have e : (32768 : Nat) ^ 5 = 32768 ^ i * (32768 * 32768 ^ (4 - i)) := by rw [← Nat.pow_succ', ← Nat.pow_add, show i + (4 - i).succ = 5 by omega]
    rw [e, Nat.mod_mul_right_div_self, Nat.mod_mul_right_mod]
  rw [h2] at h1
  generalize T / 32768 ^ (i + 1) = z at *
  generalize T / 32768 ^ i = y at *
  omega

set_option maxHeartbeats 400000 in
theorem LowG_any (N : Nat) (A : Option Addr) (c B : Nat) (w : World) (hS : Sq w B A c (ivs (dg N))) :
    Calls Try.prog 11 #[.slice A (dg N).length c] w fun e w' => e = .returned (.int .u64 ((N % 18446744073709551616 : Nat) : Int)) ∧ w = w' := by
  have HS := hid hS
  obtain ⟨T, hT⟩ : ∃ T, T = N % 32768 ^ 5 := ⟨_, rfl⟩
  have h5 : 0 = T / 32768 ^ 5 % 18446744073709551616 := by rw [Nat.div_eq_of_lt (by rw [hT]; exact Nat.mod_lt _ (by decide))]
  have hend : T / 32768 ^ 0 % 18446744073709551616 = N % 18446744073709551616 := by rw [Nat.pow_zero, Nat.div_one, hT]; exact (low_five N).symm
  obtain ⟨V, hV⟩ : ∃ V, V = N % 18446744073709551616 := ⟨_, rfl⟩
  rw [← hV] at hend ⊢
  have H5 := hid h5; have HT := hid hT; have HE := hid hend
  clear hS h5 hT hV hend
  go_enter Try.func11, Try.ntmps11
  go_wp2
  go_loopg [3, 4] 5 (fun g n i wr => ∃ k m : Nat, g = k ∧ i = .int .i64 ((k : Int) - 1) ∧ n = .int .u64 (m : Int) ∧ m = T / 32768 ^ k % 18446744073709551616 ∧ k ≤ 5 ∧ wr = w)
  case atStart => exact ⟨5, 0, rfl, rfl, rfl, H5.out, by omega, rfl⟩
  case round =>
    obtain ⟨k, m, rfl, rfl, rfl, hm, hk, rfl⟩ := hrel
    have HM := hid hm
    clear hm
    rcases gk with _ | i
    · have h0 : ¬ (0 : Int) ≤ ((0 : Nat) : Int) - 1 := by omega
      have hmn : m = V := by rw [HM.out]; exact HE.out
      subst hmn
      clear HM HE
      go_wp2
      go_ret
      exact ⟨rfl, rfl⟩
    · have e1 : ((i + 1 : Nat) : Int) - 1 = (i : Int) := by omega
      rw [e1]
      have h0 : (0 : Int) ≤ (i : Int) := by omega
      obtain ⟨x, hx⟩ : ∃ x, x = N / 32768 ^ i % 32768 := ⟨_, rfl⟩
      have hD := digit_any A (dg N) c B i wr HS.out (by omega)
      rw [dg_getD, ← hx] at hD
      have hx1 : x < 32768 := by rw [hx]; exact Nat.mod_lt _ (by omega)
      have hn := low_step T N i x m HT.out (by omega) hx HM.out
      obtain ⟨z, hz⟩ : ∃ z, z = m * 32768 % 18446744073709551616 := ⟨_, rfl⟩
      obtain ⟨r, hr⟩ : ∃ r, r = (z + x) % 18446744073709551616 := ⟨_, rfl⟩
      have f1 : IntKind.u64.wrap ((m : Int) * 32768) = (z : Int) := by rw [IntKind.wrap_u64]; omega
      have f2 : IntKind.u64.wrap (x : Int) = (x : Int) := by rw [IntKind.wrap_u64]; omega
      have f3 : IntKind.u64.wrap ((z : Int) + (x : Int)) = (r : Int) := by rw [IntKind.wrap_u64]; omega
      have hnext : r = T / 32768 ^ i % 18446744073709551616 := by rw [hr, hz, hn]
      have HD := hid hD; have HNX := hid hnext
      clear hx hD hn hz hr hnext
      go_wp2_with fail
      refine HD.out.mono ?_
      rintro e w' ⟨rfl, rfl⟩
      go_wp2
      go_roundg i
      case measure => omega
      case rel => exact ⟨i, r, rfl, rfl, rfl, HNX.out, by omega, rfl⟩
end Go.Proofs.Ytacikkhhacladaa
