/-
  The document's numbers modulo the prime: noughts cut off, the prime.
-/
import Derived.Test.YtodimbmjbjioaaaBig5
import Derived.Test.YtodimbmjbjioaaaFldP
import Derived.Test.YtodimbmjbjioaaaBigB
import Derived.Deep.RegionHeld3
namespace Go.Proofs.Ytodimbmjbjioaaa
open Go.RowKit
set_option linter.unusedVariables false
set_option linter.unusedSimpArgs false

theorem dg_drop (n k : Nat) : (dg n).drop k = dg (n / 32768 ^ k) := by
  induction k generalizing n with
  | zero => simp
  | succ k ih =>
    by_cases h : n = 0
    · subst h; rw [dg_zero, Nat.zero_div, dg_zero]; rfl
    · rw [dg_pos n h, List.drop_succ_cons, ih, Nat.div_div_eq_div_mul, Nat.pow_succ, Nat.mul_comm]
theorem dg_take_val (n k : Nat) (h : k ≤ (dg n).length) : val ((dg n).take k) = n % 32768 ^ k := val_digits n (dg n) (fun j _ => dg_getD n j) k h

set_option maxHeartbeats 800000 in
theorem trim6_any (A : Option Addr) (xs : List Nat) (c B : Nat) (w : World) (hS : Sq w B A c (ivs xs)) (hd : Dgs xs) (hl : xs.length ≤ 1099511627776) :
    Calls Try.prog 48 #[.slice A xs.length c] w fun e w' => e = .returned (.slice A (dg (val xs)).length c) ∧ Sq w' B A c (ivs (dg (val xs))) ∧ w = w' := by
  have hcap := hS.cap
  rw [ivs_length] at hcap
  obtain ⟨hc1, hc2⟩ := hcap
  have HS := hid hS; have HD := hid hd
  clear hS hd
  go_enter Try.func48, Try.ntmps48
  go_wp2
  go_loopg [0] (xs.length + 1) (fun g v wr => ∃ k : Nat, v = .slice A k c ∧ k ≤ xs.length ∧ g = k + 1 ∧ val (xs.take k) = val xs ∧ wr = w)
  case atStart => exact ⟨xs.length, rfl, Nat.le_refl _, rfl, by rw [List.take_length], rfl⟩
  case round =>
    obtain ⟨k, rfl, hk, hg, hv, rfl⟩ := hrel
    have HG := hid hg; have HV := hid hv
    clear hg hv
    rcases k with _ | k
    · have hz : dg (val xs) = [] := by rw [← HV.out, List.take_zero]; exact dg_zero
      have HZ := hid hz
      clear hz
      have h0 : ¬ (0 : Int) < ((0 : Nat) : Int) := by omega
      go_wp2
      go_ret
      exact ⟨by rw [HZ.out]; rfl, by rw [HZ.out]; exact HS.out.take 0, rfl⟩
    · have hkl : k < xs.length := by omega
      obtain ⟨b, o, rfl, hb, hcell⟩ := HS.out.dig hkl
      have hlk : (xs.take (k + 1)).length = k + 1 := by rw [List.length_take]; omega
      have hgd : (xs.take (k + 1)).getD k 0 = xs.getD k 0 := by simp [List.getD_eq_getElem?_getD, List.getElem?_take]
      obtain ⟨x, hx⟩ : ∃ x, x = xs.getD k 0 := ⟨_, rfl⟩
      rw [← hx] at hcell hgd
      have h0 : (0 : Int) < ((k + 1 : Nat) : Int) := by omega
      have h1 : (((k + 1 : Nat) : Int) - 1) = (k : Int) := by omega
      have h2 : (k : Int) < ((k + 1 : Nat) : Int) := by omega
      have hk0 : (0 : Int) ≤ (k : Int) := by omega
      have hkc : (k : Int) ≤ (c : Int) := by omega
      have hkm : ((k + 1 : Nat) : Int) ≤ 9223372036854775807 := by omega
      by_cases hx0 : x = 0
      · have hv2 : val (xs.take k) = val xs := by
          rw [← HV.out, ← val_take_nought (xs.take (k + 1)) k hlk (by rw [hgd, hx0]), List.take_take, Nat.min_eq_left (by omega)]
        have hxi : ((x : Int) == 0) = true := by simp [hx0]
        have HV2 := hid hv2
        clear hlk hgd hx hx0 hv2
        go_wp2
        have hg := HG.out
        go_roundg (k + 1)
        case measure => omega
        case rel => exact ⟨k, rfl, by omega, rfl, HV2.out, rfl⟩
      · have hz : dg (val xs) = xs.take (k + 1) := by
          rw [← HV.out]
          exact dg_val _ (HD.out.take _) (fun q hq => by
            have : q = k := by omega
            subst this
            rw [hgd]; exact hx0)
        have hxi : ((x : Int) == 0) = false := by simp [hx0]
        have HZ := hid hz; have HLK := hid hlk
        clear hlk hgd hx hx0 hz
        go_wp2
        go_ret
        exact ⟨by rw [HZ.out, HLK.out]; rfl, by rw [HZ.out]; have h := HS.out.take (k + 1); simpa [ivs, List.map_take] using h, rfl⟩

theorem P_any (w : World) : Calls Try.prog 35 #[] w (BigR w pp) := by
  have hp : 2 ^ 255 - 19 = pp := by decide +kernel
  have HPOW := hid (fun W => Pow_any 255 W (by omega))
  have HL1 := hid (dgl6 (2 ^ 255) (by decide +kernel)); have HL2 := hid (dgl6 19 (by decide +kernel))
  obtain ⟨T, hT⟩ : ∃ T, T = 2 ^ 255 := ⟨_, rfl⟩
  have hle : 19 ≤ T := by rw [hT]; decide +kernel
  rw [← hT] at hp HPOW HL1
  have HP := hid hp; have HN := hid (fun W => Num_any 19 W (by omega)); have HLE := hid hle
  clear hp hT hle
  go_enter Try.func35, Try.ntmps35
  go_wp2_with fail
  refine (HPOW.out _).mono ?_
  rintro e w1 ⟨A1, c1, rfl, hS1, hb1⟩
  have HS1 := hid hS1; have HB1 := hid hb1
  clear hS1 hb1
  go_wp2_with fail
  refine (HN.out _).mono ?_
  rintro e w2 ⟨A2, c2, rfl, hS2, hb2⟩
  have HS2 := hid hS2; have HB2 := hid (HB1.out.trans (hb2.mono HB1.out.size)); have HS1' := hid (HS1.out.on6 hb2)
  clear hS2 hb2 HS1 HB1
  go_wp2_with fail
  refine (Sub_any T 19 A1 A2 c1 c2 w2 HS1'.out HS2.out (Nat.le_trans HL1.out (by omega)) HLE.out).mono ?_
  rw [HP.out]
  rintro e w3 ⟨A3, c3, rfl, hS3, hb3⟩
  have HS3 := hid hS3; have HB3 := hid (HB2.out.trans (hb3.mono HB2.out.size))
  clear hS3 hb3
  go_wp2
  go_ret
  exact ⟨A3, c3, rfl, HS3.out, HB3.out⟩
end Go.Proofs.Ytodimbmjbjioaaa
