/-
  The document's numbers modulo the prime: powers.
-/
import Derived.Test.YtealegfmmeklcaaRef06c
import Derived.Test.YtealegfmmeklcaaRef06p
import Derived.Test.YtealegfmmeklcaaFldA
namespace Go.Proofs.Ytealegfmmeklcaa
open Go.RowKit
set_option linter.unusedVariables false
set_option linter.unusedSimpArgs false

/-- The power of the lower m bits, and the m-th square. -/
def lowP (x E m : Nat) : Nat := x ^ (E % 2 ^ m) % pp
def sqP (x m : Nat) : Nat := x ^ 2 ^ m % pp
theorem lowP_lt (x E m : Nat) : lowP x E m < pp := Nat.mod_lt _ pp_pos
theorem sqP_lt (x m : Nat) : sqP x m < pp := Nat.mod_lt _ pp_pos
theorem lowP_zero (x E : Nat) : lowP x E 0 = 1 := by
  unfold lowP
  rw [Nat.pow_zero, Nat.mod_one, Nat.pow_zero]
  exact Nat.mod_eq_of_lt pp_two
theorem sqP_zero (x : Nat) (h : x < pp) : sqP x 0 = x := by
  unfold sqP
  rw [Nat.pow_zero, Nat.pow_one]
  exact Nat.mod_eq_of_lt h
theorem sqP_next (x m : Nat) : sqP x m * sqP x m % pp = sqP x (m + 1) := by
  unfold sqP
  rw [Nat.mod_mul_mod, Nat.mul_mod_mod, ← Nat.pow_two, ← Nat.pow_mul, ← Nat.pow_succ]
theorem lowP_odd (x E m : Nat) (h : E / 2 ^ m % 2 = 1) : lowP x E m * sqP x m % pp = lowP x E (m + 1) := by
  unfold lowP sqP
  rw [Nat.mod_mul_mod, Nat.mul_mod_mod, ← Nat.pow_add, Nat.pow_succ, Nat.mod_mul, h, Nat.mul_one]
theorem lowP_even (x E m : Nat) (h : E / 2 ^ m % 2 = 0) : lowP x E m = lowP x E (m + 1) := by
  unfold lowP
  rw [Nat.pow_succ, Nat.mod_mul, h, Nat.mul_zero, Nat.add_zero]
theorem lowP_end (x : Nat) (xs : List UInt8) : lowP x (leN xs) (8 * xs.length) = x ^ leN xs % pp := by
  have h := leN_lt xs
  rw [show (256 : Nat) = 2 ^ 8 by decide, ← Nat.pow_mul] at h
  unfold lowP
  rw [Nat.mod_eq_of_lt h]

set_option maxHeartbeats 2000000 in
theorem Pow6_any (x : Nat) (A : Option Addr) (c : Nat) (A' : Option Addr) (xs : List UInt8) (c' : Nat) (w : World) (hS : Sq w w.heap.size A c (ivs (dg x))) (hS' : Sq w w.heap.size A' c' (bvs xs)) (hx : x < pp) (hxl : xs.length ≤ 1000000) :
    Calls Try.prog 17 #[.slice A (dg x).length c, .slice A' xs.length c'] w (BigR w (x ^ leN xs % pp)) := by
  have HS := hid hS; have HS' := hid hS'
  have HN : Hid (∀ W, Calls Try.prog 15 #[.int .u64 1] W (BigR W 1)) := hid fun W => Num_any 1 W (by omega)
  have hend := lowP_end x xs
  obtain ⟨E, hE⟩ : ∃ E, E = leN xs := ⟨_, rfl⟩
  rw [← hE] at hend ⊢
  rw [← hend]
  have h0 := lowP_zero x E
  have h1 := sqP_zero x hx
  have H0 := hid h0; have H1 := hid h1; have HE := hid hE
  clear hS hS' h0 h1 hend hE hx
  go_enter Try.func17, Try.ntmps17
  go_wp2_with fail
  refine (HN.out _).mono ?_
  rintro e w1 ⟨A1, c1, rfl, hS1, hb1⟩
  have HS1 := hid hS1; have HSa := hid (HS.out.on6 hb1); have HB1 := hid hb1
  clear hS1 hb1 HS
  go_wp2
  go_loopg [0, 5, 6] xs.length (fun g a v i wr => ∃ (k : Nat) (A1 : Option Addr) (c1 : Nat) (A2 : Option Addr) (c2 : Nat), k + g = xs.length ∧ i = .int .i64 (k : Int) ∧ a = .slice A1 (dg (sqP x (8 * k))).length c1 ∧ Sq wr wr.heap.size A1 c1 (ivs (dg (sqP x (8 * k)))) ∧ v = .slice A2 (dg (lowP x E (8 * k))).length c2 ∧ Sq wr wr.heap.size A2 c2 (ivs (dg (lowP x E (8 * k)))) ∧ Below w.heap.size w wr)
  case atStart => exact ⟨0, A, c, A1, c1, by omega, rfl, by rw [Nat.mul_zero, H1.out], by rw [Nat.mul_zero, H1.out]; exact HSa.out, by rw [Nat.mul_zero, H0.out], by rw [Nat.mul_zero, H0.out]; exact HS1.out, HB1.out⟩
  case round =>
    clear HSa HS1 HB1
    obtain ⟨k, A3, c3, A4, c4, hk, rfl, rfl, hS3, rfl, hS4, hb⟩ := hrel
    have HS3 := hid hS3; have HS4 := hid hS4; have HK := hid hk; have HB := hid hb
    have hkn : k ≤ xs.length := by omega
    clear hS3 hS4 hk hb
    by_cases hlt : k < xs.length
    · have hx : (k : Int) < (xs.length : Int) := by omega
      have hk0 : (0 : Int) ≤ (k : Int) := by omega
      obtain ⟨b, o, rfl, hbl, hcell⟩ := ((HS'.out.below HB.out).lie).byte hlt
      obtain ⟨y, hy⟩ : ∃ y, y = xs[k] := ⟨_, rfl⟩
      rw [← hy] at hcell
      have hyl := y.toNat_lt
      have hyw : IntKind.i64.wrap (y.toNat : Int) = (y.toNat : Int) := IntWalk.i64_in _ (by omega)
      have HY := hid hy; have HYL := hid hyl
      clear hy hyl
      go_wp2
      clear hcell hyw
      go_loopg [0, 5, 7, 8] 8 (fun g a v bt i wr => ∃ (j : Nat) (A1 : Option Addr) (c1 : Nat) (A2 : Option Addr) (c2 : Nat), j + g = 8 ∧ i = .int .i64 (j : Int) ∧ bt = .int .i64 ((y.toNat / 2 ^ j : Nat) : Int) ∧ a = .slice A1 (dg (sqP x (8 * k + j))).length c1 ∧ Sq wr wr.heap.size A1 c1 (ivs (dg (sqP x (8 * k + j)))) ∧ v = .slice A2 (dg (lowP x E (8 * k + j))).length c2 ∧ Sq wr wr.heap.size A2 c2 (ivs (dg (lowP x E (8 * k + j)))) ∧ Below w.heap.size w wr)
      case atStart => exact ⟨0, A3, c3, A4, c4, by omega, rfl, by rw [Nat.pow_zero, Nat.div_one], rfl, HS3.out, rfl, HS4.out, HB.out⟩
      case round =>
        clear HS3 HS4 HB
        obtain ⟨j, A5, c5, A6, c6, hj, rfl, rfl, rfl, hS5, rfl, hS6, hb⟩ := hrel
        have HS5 := hid hS5; have HS6 := hid hS6; have HJ := hid hj; have HB := hid hb
        have hj8 : j ≤ 8 := by omega
        clear hS5 hS6 hj hb
        by_cases hlt2 : j < 8
        · have hx2 : (j : Int) < 8 := by omega
          have hbit : y.toNat / 2 ^ j % 2 = E / 2 ^ (8 * k + j) % 2 := by
            have h := leN_bit xs (8 * k + j) (by omega)
            have e1 : (8 * k + j) / 8 = k := by omega
            have e2 : (8 * k + j) % 8 = j := by omega
            rw [HE.out, ← h, e2, HY.out]
            simp only [e1]
          have hnb : y.toNat / 2 ^ j / 2 = y.toNat / 2 ^ (j + 1) := by rw [Nat.div_div_eq_div_mul, Nat.pow_succ]
          have hz256 : y.toNat / 2 ^ j < 256 := Nat.lt_of_le_of_lt (Nat.div_le_self _ _) HYL.out
          have hsn := sqP_next x (8 * k + j)
          have hod := lowP_odd x E (8 * k + j)
          have hev := lowP_even x E (8 * k + j)
          have hsl := sqP_lt x (8 * k + j)
          have hll := lowP_lt x E (8 * k + j)
          obtain ⟨z, hz⟩ : ∃ z, z = y.toNat / 2 ^ j := ⟨_, rfl⟩
          rw [← hz] at hbit hnb hz256 ⊢
          obtain ⟨S, hSs⟩ : ∃ S, S = sqP x (8 * k + j) := ⟨_, rfl⟩
          obtain ⟨P, hP⟩ : ∃ P, P = lowP x E (8 * k + j) := ⟨_, rfl⟩
          rw [← hSs] at hsn hod hsl HS5 ⊢
          rw [← hP] at hod hev hll HS6 ⊢
          have ht1 : ((z : Int)).tmod 2 = ((z % 2 : Nat) : Int) := by rw [Int.tmod_eq_emod_of_nonneg (by omega)]; omega
          have ht2 : (z : Int) % 2 = ((z % 2 : Nat) : Int) := by omega
          have ht3 : ((z : Int)).tdiv 2 = ((z / 2 : Nat) : Int) := by rw [Int.tdiv_eq_ediv_of_nonneg (by omega)]; omega
          have ht4 : (z : Int) / 2 = ((z / 2 : Nat) : Int) := by omega
          obtain ⟨t, ht⟩ : ∃ t, t = z % 2 := ⟨_, rfl⟩
          obtain ⟨q, hq⟩ : ∃ q, q = z / 2 := ⟨_, rfl⟩
          rw [← ht] at ht1 ht2 hbit
          rw [← hq] at ht3 ht4 hnb
          have hw1 : IntKind.i64.wrap (t : Int) = (t : Int) := IntWalk.i64_in _ (by omega)
          have hw2 : IntKind.i64.wrap (q : Int) = (q : Int) := IntWalk.i64_in _ (by omega)
          have ht2' : t < 2 := by omega
          have MS := hid (fun W h => Mul6_any S S A5 A5 c5 c5 W h h hsl hsl)
          have MP := hid (fun W h h' => Mul6_any P S A6 A5 c6 c5 W h h' hll hsl)
          rw [hsn] at MS
          have HOD := hid hod; have HEV := hid hev; have HBIT := hid hbit; have HNB := hid hnb
          clear hz hz256 hSs hP hsn hod hev hsl hll hbit hnb ht hq
          by_cases ht1' : t = 1
          · have hbb : ((t : Int) == 1) = true := by rw [beq_iff_eq]; omega
            have HOD2 := hid (HOD.out (by rw [← HBIT.out]; exact ht1'))
            rw [HOD2.out] at MP
            clear ht1' HOD HEV
            go_wp2_with fail
            refine (MP.out _ HS6.out HS5.out).mono ?_
            rintro e w2 ⟨A7, c7, rfl, hS7, hb7⟩
            have HS7 := hid hS7; have HS57 := hid (HS5.out.on6 hb7); have HB7 := hid (HB.out.trans (hb7.mono HB.out.size))
            clear hS7 hb7 HB HS5 HS6 MP
            go_wp2_with fail
            refine (MS.out _ HS57.out).mono ?_
            rintro e w3 ⟨A8, c8, rfl, hS8, hb8⟩
            have HS8 := hid hS8; have HS78 := hid (HS7.out.on6 hb8); have HB8 := hid (HB7.out.trans (hb8.mono HB7.out.size))
            clear hS8 hb8 HB7 HS57 HS7 MS
            go_wp2
            have hj := HJ.out
            go_roundg (8 - j - 1)
            case measure => omega
            case rel => exact ⟨j + 1, A8, c8, A7, c7, by omega, by go_num, by rw [HNB.out], rfl, HS8.out, rfl, HS78.out, HB8.out⟩
          · have hbb : ((t : Int) == 1) = false := by rw [beq_eq_false_iff_ne]; omega
            have HEV2 := hid (HEV.out (by rw [← HBIT.out]; omega))
            clear ht1' HOD HEV MP
            go_wp2_with fail
            refine (MS.out _ HS5.out).mono ?_
            rintro e w3 ⟨A8, c8, rfl, hS8, hb8⟩
            have HS8 := hid hS8; have HS78 := hid (HS6.out.on6 hb8); have HB8 := hid (HB.out.trans (hb8.mono HB.out.size))
            clear hS8 hb8 HB HS5 HS6 MS
            go_wp2
            have hj := HJ.out
            go_roundg (8 - j - 1)
            case measure => omega
            case rel => exact ⟨j + 1, A8, c8, A6, c6, by omega, by go_num, by rw [HNB.out], rfl, HS8.out, by rw [HEV2.out]; rfl, by rw [← Nat.add_assoc, ← HEV2.out]; exact HS78.out, HB8.out⟩
        · obtain rfl : j = 8 := by omega
          have hx2 : ¬ ((8 : Nat) : Int) < 8 := by omega
          go_wp2
          have hk := HK.out
          go_roundg (xs.length - k - 1)
          case measure => omega
          case rel => exact ⟨k + 1, A5, c5, A6, c6, by omega, by go_num, by rw [show 8 * (k + 1) = 8 * k + 8 by omega], by rw [show 8 * (k + 1) = 8 * k + 8 by omega]; exact HS5.out, by rw [show 8 * (k + 1) = 8 * k + 8 by omega], by rw [show 8 * (k + 1) = 8 * k + 8 by omega]; exact HS6.out, HB.out⟩
    · obtain rfl : k = xs.length := by omega
      have hx : ¬ ((xs.length : Nat) : Int) < (xs.length : Int) := by omega
      go_wp2
      go_ret
      exact ⟨A4, c4, rfl, HS4.out, HB.out⟩

theorem leB_inv : leN (leB 32 (pp - 2)) = pp - 2 := by
  rw [leN_leB, Nat.mod_eq_of_lt (by decide +kernel)]
theorem Inv6_any (x : Nat) (A : Option Addr) (c : Nat) (w : World) (hS : Sq w w.heap.size A c (ivs (dg x))) (hx : x < pp) :
    Calls Try.prog 48 #[.slice A (dg x).length c] w (BigR w (x ^ (pp - 2) % pp)) := by
  have HS := hid hS
  have HP := hid P_any
  have HN : Hid (∀ W, Calls Try.prog 15 #[.int .u64 2] W (BigR W 2)) := hid fun W => Num_any 2 W (by omega)
  have LP : Hid ((dg pp).length ≤ 1073741824) := hid (Nat.le_trans ((dg_length_le pp 17).2 pp_dig) (by omega))
  have HLE := hid pp_two
  have HB : Hid (∀ W A c, Sq W W.heap.size A c (ivs (dg (pp - 2))) → Calls Try.prog 18 #[.slice A (dg (pp - 2)).length c, .int .i64 32] W fun e w' => ∃ v, e = .returned v ∧ OwnB w' W.heap.size v (leB 32 (pp - 2)) ∧ Below W.heap.size W w') := hid fun W A c h =>
    Bytes6_any (pp - 2) 32 A c W h (by decide +kernel) (by omega)
  have HW : Hid (∀ W A c A' c', Sq W W.heap.size A c (ivs (dg x)) → Sq W W.heap.size A' c' (bvs (leB 32 (pp - 2))) → Calls Try.prog 17 #[.slice A (dg x).length c, .slice A' 32 c'] W (BigR W (x ^ (pp - 2) % pp))) := hid fun W A c A' c' h h' => by
    have hp := Pow6_any x A c A' (leB 32 (pp - 2)) c' W h h' hx (by rw [leB_length]; omega)
    rw [leB_length, leB_inv] at hp
    exact hp
  obtain ⟨q, hq⟩ : ∃ q, q = pp - 2 := ⟨_, rfl⟩
  rw [← hq] at HB HW ⊢
  have HQ := hid hq
  clear hS hx hq
  go_enter Try.func48, Try.ntmps48
  go_wp2_with fail
  refine (HP.out _).mono ?_
  rintro e w1 ⟨A1, c1, rfl, hS1, hb1⟩
  have HS1 := hid hS1; have HSx := hid (HS.out.on6 hb1); have HB1 := hid hb1
  clear hS1 hb1 HS
  go_wp2_with fail
  refine (HN.out _).mono ?_
  rintro e w2 ⟨A2, c2, rfl, hS2, hb2⟩
  have HS2 := hid hS2; have HS12 := hid (HS1.out.on6 hb2); have HSx2 := hid (HSx.out.on6 hb2); have HB2 := hid (HB1.out.trans (hb2.mono HB1.out.size))
  clear hS2 hb2 HS1 HSx HB1
  go_wp2_with fail
  refine (Sub_any pp 2 A1 A2 c1 c2 w2 HS12.out HS2.out LP.out HLE.out).mono ?_
  rw [← HQ.out]
  rintro e w3 ⟨A3, c3, rfl, hS3, hb3⟩
  have HS3 := hid hS3; have HSx3 := hid (HSx2.out.on6 hb3); have HB3 := hid (HB2.out.trans (hb3.mono HB2.out.size))
  clear hS3 hb3 HS12 HS2 HSx2 HB2
  go_wp2_with fail
  refine (HB.out _ _ _ HS3.out).mono ?_
  rintro e w4 ⟨v, rfl, ho, hb4⟩
  have hSx4 := HSx3.out.on6 hb4
  obtain ⟨A4, c4, rfl, hS4⟩ := own_sl ho
  rw [leB_length]
  have HS4 := hid hS4.sq; have HSx4 := hid hSx4; have HB4 := hid (HB3.out.trans (hb4.mono HB3.out.size))
  clear ho hS4 hb4 hSx4 HSx3 HS3 HB3
  go_wp2_with fail
  refine (HW.out _ _ _ _ _ HSx4.out HS4.out).mono ?_
  rintro e w5 ⟨A5, c5, rfl, hS5, hb5⟩
  have HS5 := hid hS5; have HB5 := hid (HB4.out.trans (hb5.mono HB4.out.size))
  clear hS5 hb5
  go_wp2
  go_ret
  exact ⟨A5, c5, rfl, HS5.out, HB5.out⟩
end Go.Proofs.Ytealegfmmeklcaa
