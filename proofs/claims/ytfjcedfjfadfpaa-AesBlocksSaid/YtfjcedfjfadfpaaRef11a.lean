/-
  The document's layer 11: the product of two bytes.
-/
import Derived.Test.YtfjcedfjfadfpaaBase
import Derived.Test.YtfjcedfjfadfpaaLoops
import Derived.Deep.LoopGhost
namespace Go.Proofs.Ytfjcedfjfadfpaa
open Go.RowKit
set_option linter.unusedVariables false
set_option linter.unusedSimpArgs false

/-- Bit by bit. -/
def tm1 (a b : Nat) : Nat → Nat
  | 0 => 0
  | i + 1 => if b / 2 ^ i % 2 = 1 then tm1 a b i ^^^ (a * 2 ^ i) else tm1 a b i
/-- What stands above is taken off. -/
def tm2 (n : Nat) : Nat → Nat
  | 0 => n
  | k + 1 => if tm2 n k / 2 ^ (14 - k) % 2 = 1 then tm2 n k ^^^ (283 * 2 ^ (6 - k)) else tm2 n k
def tmN (a b : Nat) : Nat := tm2 (tm1 a b 8) 7
theorem tm1_lt {a b : Nat} (ha : a < 256) : ∀ i, i ≤ 8 → tm1 a b i < 32768
  | 0, _ => by show 0 < 32768; omega
  | i + 1, h => by
    have h1 := tm1_lt (b := b) ha i (by omega)
    have h2 : a * 2 ^ i < 2 ^ 15 := by
      have : 2 ^ i ≤ 2 ^ 7 := Nat.pow_le_pow_right (by omega) (by omega)
      have h3 : a * 2 ^ i ≤ a * 2 ^ 7 := Nat.mul_le_mul_left a this
      omega
    show (if _ then _ else _) < 32768
    split
    · exact Nat.xor_lt_two_pow (n := 15) (by omega) h2
    · exact h1
theorem tm2_lt {n : Nat} (hn : n < 32768) : ∀ k, k ≤ 7 → tm2 n k < 32768
  | 0, _ => hn
  | k + 1, h => by
    have h1 := tm2_lt hn k (by omega)
    have h2 : 283 * 2 ^ (6 - k) < 2 ^ 15 := by
      have : 2 ^ (6 - k) ≤ 2 ^ 6 := Nat.pow_le_pow_right (by omega) (by omega)
      omega
    show (if _ then _ else _) < 32768
    split
    · exact Nat.xor_lt_two_pow (n := 15) (by omega) h2
    · exact h1
theorem ofInt_n64' (a : Nat) (h : a < 9223372036854775808) : (BitVec.ofInt 64 (a : Int)).toNat = a := by
  rw [BitVec.toNat_ofInt]; omega
theorem i64_xor_nat' (a b : Nat) (ha : a < 9223372036854775808) (hb : b < 9223372036854775808) : bits .xor .i64 (a : Int) (b : Int) = ((a ^^^ b : Nat) : Int) := by
  have hx : a ^^^ b < 2 ^ 63 := Nat.xor_lt_two_pow (by omega) (by omega)
  show IntKind.i64.wrap ((BitVec.ofInt 64 (a : Int) ^^^ BitVec.ofInt 64 (b : Int)).toNat : Int) = _
  rw [BitVec.toNat_xor, ofInt_n64' a ha, ofInt_n64' b hb]
  exact IntWalk.i64_in _ (by omega)
theorem ret_int11 {k : IntKind} {x y : Nat} (h : x = y) : Ending.returned (.int k (x : Int)) = .returned (.int k (y : Int)) := by rw [h]
set_option maxHeartbeats 2000000 in
theorem Times11_any (a b : Nat) (ha : a < 256) (hb : b < 256) (w : World) :
    Calls Try.prog 8 #[.int .i64 (a : Int), .int .i64 (b : Int)] w fun e w' => e = .returned (.int .i64 ((tmN a b : Nat) : Int)) ∧ w = w' := by
  have HA := hid ha; have HB := hid hb
  obtain ⟨OUT, hOUT⟩ : ∃ n, n = tmN a b := ⟨_, rfl⟩
  rw [← hOUT]
  have HOUT := hid hOUT
  clear ha hb hOUT
  go_enter Try.func8, Try.ntmps8
  go_wp2
  go_loopg [5, 6] 8 (fun g n i wr => ∃ k : Nat, k + g = 8 ∧ i = .int .i64 (k : Int) ∧ n = .int .i64 ((tm1 a b k : Nat) : Int) ∧ wr = w)
  case atStart => exact ⟨0, rfl, rfl, rfl, rfl⟩
  case round =>
    obtain ⟨i, hi, rfl, rfl, rfl⟩ := hrel
    have HI := hid hi
    have hi8 : i ≤ 8 := by omega
    obtain ⟨n, hn⟩ : ∃ n, n = tm1 a b i := ⟨_, rfl⟩
    rw [← hn]
    have HN := hid hn
    clear hi hn
    by_cases hlt : i < 8
    · have hii : (i : Int) < 8 := by omega
      go_wp2
      go_loopg [7, 8] i (fun g x k wr' => ∃ j : Nat, j + g = i ∧ k = .int .i64 (j : Int) ∧ x = .int .i64 ((a * 2 ^ j : Nat) : Int) ∧ wr' = wr)
      case atStart => exact ⟨0, by omega, rfl, by simp, rfl⟩
      case round =>
        obtain ⟨j, hj, rfl, rfl, rfl⟩ := hrel
        have HJ := hid hj
        have hji : j ≤ i := by omega
        obtain ⟨x, hx⟩ : ∃ x, x = a * 2 ^ j := ⟨_, rfl⟩
        have hxl : x ≤ 65536 := by
          have h1 : 2 ^ j ≤ 2 ^ 8 := Nat.pow_le_pow_right (by omega) (by omega)
          have h2 : a * 2 ^ j ≤ a * 2 ^ 8 := Nat.mul_le_mul_left a h1
          have := HA.out
          omega
        rw [← hx]
        have HX := hid hx
        clear hj hx
        by_cases hjl : j < i
        · have hjj : (j : Int) < (i : Int) := by omega
          have hw2 : IntKind.i64.wrap (2 * (x : Int)) = ((a * 2 ^ (j + 1) : Nat) : Int) := (IntWalk.i64_in _ (by omega)).trans (by rw [Nat.pow_succ, ← Nat.mul_assoc, ← HX.out]; omega)
          have hw1 : IntKind.i64.wrap ((j : Int) + 1) = ((j + 1 : Nat) : Int) := (IntWalk.i64_in _ (by omega)).trans (by omega)
          go_wp2
          have hj := HJ.out
          go_roundg (i - j - 1)
          case measure => omega
          case rel => exact ⟨j + 1, by omega, rfl, rfl, rfl⟩
        · obtain rfl : j = i := by omega
          have hjj : ¬ (j : Int) < (j : Int) := by omega
          go_wp2
          go_loopg [9, 10] j (fun g x k wr' => ∃ l : Nat, l + g = j ∧ k = .int .i64 (l : Int) ∧ x = .int .i64 ((2 ^ l : Nat) : Int) ∧ wr' = wr)
          case atStart => exact ⟨0, by omega, rfl, rfl, rfl⟩
          case round =>
            obtain ⟨l, hl, rfl, rfl, rfl⟩ := hrel
            have HL := hid hl
            have hlj : l ≤ j := by omega
            obtain ⟨u, hu⟩ : ∃ u, u = 2 ^ l := ⟨_, rfl⟩
            have hul : u ≤ 256 := by
              have h1 : 2 ^ l ≤ 2 ^ 8 := Nat.pow_le_pow_right (by omega) (by omega)
              omega
            have hu0 : 0 < u := by rw [hu]; exact Nat.pow_pos (by omega)
            rw [← hu]
            have HU := hid hu
            clear hl hu
            by_cases hll : l < j
            · have hlk : (l : Int) < (j : Int) := by omega
              have hw2 : IntKind.i64.wrap (2 * (u : Int)) = ((2 ^ (l + 1) : Nat) : Int) := (IntWalk.i64_in _ (by omega)).trans (by rw [Nat.pow_succ, ← HU.out]; omega)
              have hw1 : IntKind.i64.wrap ((l : Int) + 1) = ((l + 1 : Nat) : Int) := (IntWalk.i64_in _ (by omega)).trans (by omega)
              clear hu0
              go_wp2
              have hl := HL.out
              go_roundg (j - l - 1)
              case measure => omega
              case rel => exact ⟨l + 1, by omega, rfl, rfl, rfl⟩
            · obtain rfl : l = j := by omega
              have hlk : ¬ (l : Int) < (l : Int) := by omega
              obtain ⟨q, hq⟩ : ∃ q, q = b / u := ⟨_, rfl⟩
              obtain ⟨t, ht⟩ : ∃ t, t = q % 2 := ⟨_, rfl⟩
              have hql : q < 256 := by rw [hq]; exact Nat.lt_of_le_of_lt (Nat.div_le_self _ _) HB.out
              have hne : ((u : Int) == 0) = false := by rw [beq_eq_false_iff_ne]; omega
              have hne2 : ¬ (u : Int) = 0 := by omega
              have hd : (b : Int).tdiv (u : Int) = (q : Int) := by rw [Int.tdiv_eq_ediv_of_nonneg (by omega), hq, Int.natCast_ediv]
              have hd2 : (b : Int) / (u : Int) = (q : Int) := by rw [hq, Int.natCast_ediv]
              have hw0 : IntKind.i64.wrap (q : Int) = (q : Int) := IntWalk.i64_in _ (by omega)
              have hm : (q : Int).tmod 2 = (t : Int) := by rw [Int.tmod_eq_emod_of_nonneg (by omega)]; omega
              have hm2 : (q : Int) % 2 = (t : Int) := by omega
              have hw3 : IntKind.i64.wrap (t : Int) = (t : Int) := IntWalk.i64_in _ (by omega)
              have hstep : tm1 a b (l + 1) = if t = 1 then n ^^^ x else n := by
                show (if b / 2 ^ l % 2 = 1 then tm1 a b l ^^^ (a * 2 ^ l) else tm1 a b l) = _
                rw [ht, hq, HX.out, HN.out, HU.out]
              have hnl : n < 32768 := by rw [HN.out]; exact tm1_lt HA.out l (by omega)
              have hxor := i64_xor_nat' n x (by omega) (by omega)
              have hwi : IntKind.i64.wrap ((l : Int) + 1) = ((l + 1 : Nat) : Int) := (IntWalk.i64_in _ (by omega)).trans (by omega)
              have HST := hid hstep
              clear hq ht hstep hnl hql hxl
              by_cases ht1 : t = 1
              · have ht1i : ((t : Int) == 1) = true := by rw [beq_iff_eq]; omega
                have ht1j : (t : Int) = 1 := by omega
                go_wp2
                have hi := HI.out
                go_roundg (8 - l - 1)
                case measure => omega
                case rel => exact ⟨l + 1, by omega, rfl, by rw [HST.out, if_pos ht1], rfl⟩
              · have ht1i : ((t : Int) == 1) = false := by rw [beq_eq_false_iff_ne]; omega
                have ht1j : ¬ (t : Int) = 1 := by omega
                go_wp2
                have hi := HI.out
                go_roundg (8 - l - 1)
                case measure => omega
                case rel => exact ⟨l + 1, by omega, rfl, by rw [HST.out, if_neg ht1], rfl⟩
    · obtain rfl : i = 8 := by omega
      have hnl : n < 32768 := by rw [HN.out]; exact tm1_lt HA.out 8 (by omega)
      have HNL := hid hnl
      have HO2 : Hid (OUT = tm2 n 7) := hid (by rw [HOUT.out, HN.out]; rfl)
      clear hnl HOUT
      go_wp2
      go_loopg [5, 11] 7 (fun g m i wr' => ∃ k : Nat, k + g = 7 ∧ i = .int .i64 ((14 - k : Nat) : Int) ∧ m = .int .i64 ((tm2 n k : Nat) : Int) ∧ wr' = wr)
      case atStart => exact ⟨0, rfl, rfl, rfl, rfl⟩
      case round =>
        obtain ⟨k, hk, rfl, rfl, rfl⟩ := hrel
        have HK := hid hk
        have hk7 : k ≤ 7 := by omega
        obtain ⟨m, hm⟩ : ∃ m, m = tm2 n k := ⟨_, rfl⟩
        obtain ⟨i, hi⟩ : ∃ i, i = 14 - k := ⟨_, rfl⟩
        rw [← hm, ← hi]
        have HM := hid hm; have HI2 := hid hi
        have hi14 : 7 ≤ i ∧ i ≤ 14 := by omega
        clear hk hm hi
        by_cases hlt : k < 7
        · have hii : (8 : Int) ≤ (i : Int) := by have := HI2.out; omega
          go_wp2
          go_loopg [12, 13] i (fun g x j wr' => ∃ l : Nat, l + g = i ∧ j = .int .i64 (l : Int) ∧ x = .int .i64 ((2 ^ l : Nat) : Int) ∧ wr' = wr)
          case atStart => exact ⟨0, by omega, rfl, rfl, rfl⟩
          case round =>
            obtain ⟨l, hl, rfl, rfl, rfl⟩ := hrel
            have HL := hid hl
            have hlj : l ≤ i := by omega
            obtain ⟨u, hu⟩ : ∃ u, u = 2 ^ l := ⟨_, rfl⟩
            have hul : u ≤ 16384 := by
              have h1 : 2 ^ l ≤ 2 ^ 14 := Nat.pow_le_pow_right (by omega) (by omega)
              omega
            have hu0 : 0 < u := by rw [hu]; exact Nat.pow_pos (by omega)
            rw [← hu]
            have HU := hid hu
            clear hl hu
            by_cases hll : l < i
            · have hlk : (l : Int) < (i : Int) := by omega
              have hw2 : IntKind.i64.wrap (2 * (u : Int)) = ((2 ^ (l + 1) : Nat) : Int) := (IntWalk.i64_in _ (by omega)).trans (by rw [Nat.pow_succ, ← HU.out]; omega)
              have hw1 : IntKind.i64.wrap ((l : Int) + 1) = ((l + 1 : Nat) : Int) := (IntWalk.i64_in _ (by omega)).trans (by omega)
              clear hu0
              go_wp2
              have hl := HL.out
              go_roundg (i - l - 1)
              case measure => omega
              case rel => exact ⟨l + 1, by omega, rfl, rfl, rfl⟩
            · obtain rfl : l = i := by omega
              have hlk : ¬ (l : Int) < (l : Int) := by omega
              obtain ⟨q, hq⟩ : ∃ q, q = m / u := ⟨_, rfl⟩
              obtain ⟨t, ht⟩ : ∃ t, t = q % 2 := ⟨_, rfl⟩
              obtain ⟨y, hy⟩ : ∃ y, y = u / 256 := ⟨_, rfl⟩
              have hml : m < 32768 := by rw [HM.out]; exact tm2_lt HNL.out k (by omega)
              have hql : q < 32768 := by rw [hq]; exact Nat.lt_of_le_of_lt (Nat.div_le_self _ _) hml
              have hyl : y ≤ 64 := by rw [hy]; omega
              have hye : y = 2 ^ (6 - k) := by
                have h1 : l = (6 - k) + 8 := by have := HI2.out; omega
                rw [hy, HU.out, h1, Nat.pow_add]
                exact Nat.mul_div_cancel _ (by decide)
              have hne : ((u : Int) == 0) = false := by rw [beq_eq_false_iff_ne]; omega
              have hne2 : ¬ (u : Int) = 0 := by omega
              have hd : (m : Int).tdiv (u : Int) = (q : Int) := by rw [Int.tdiv_eq_ediv_of_nonneg (by omega), hq, Int.natCast_ediv]
              have hd2 : (m : Int) / (u : Int) = (q : Int) := by rw [hq, Int.natCast_ediv]
              have hw0 : IntKind.i64.wrap (q : Int) = (q : Int) := IntWalk.i64_in _ (by omega)
              have hm1 : (q : Int).tmod 2 = (t : Int) := by rw [Int.tmod_eq_emod_of_nonneg (by omega)]; omega
              have hm2 : (q : Int) % 2 = (t : Int) := by omega
              have hw3 : IntKind.i64.wrap (t : Int) = (t : Int) := IntWalk.i64_in _ (by omega)
              have he1 : (u : Int).tdiv 256 = (y : Int) := by rw [Int.tdiv_eq_ediv_of_nonneg (by omega)]; omega
              have he2 : (u : Int) / 256 = (y : Int) := by omega
              have he3 : IntKind.i64.wrap (y : Int) = (y : Int) := IntWalk.i64_in _ (by omega)
              have he4 : IntKind.i64.wrap (283 * (y : Int)) = ((283 * y : Nat) : Int) := (IntWalk.i64_in _ (by omega)).trans (by omega)
              have hstep : tm2 n (k + 1) = if t = 1 then m ^^^ (283 * y) else m := by
                show (if tm2 n k / 2 ^ (14 - k) % 2 = 1 then tm2 n k ^^^ (283 * 2 ^ (6 - k)) else tm2 n k) = _
                rw [ht, hq, hye, HM.out, HU.out, HI2.out]
              have hxor := i64_xor_nat' m (283 * y) (by omega) (by omega)
              have hwi : IntKind.i64.wrap ((l : Int) - 1) = ((14 - (k + 1) : Nat) : Int) := (IntWalk.i64_in _ (by omega)).trans (by have := HI2.out; omega)
              obtain ⟨z, hz⟩ : ∃ z, z = 283 * y := ⟨_, rfl⟩
              rw [← hz] at he4 hstep hxor
              have HST := hid hstep
              clear hq ht hstep hml hql hyl hye hul hz hy hi14
              by_cases ht1 : t = 1
              · have ht1i : ((t : Int) == 1) = true := by rw [beq_iff_eq]; omega
                have ht1j : (t : Int) = 1 := by omega
                go_wp2
                have hk := HK.out
                go_roundg (7 - k - 1)
                case measure => omega
                case rel => exact ⟨k + 1, by omega, by rw [show 14 - (k + 1) = 13 - k by omega], by rw [HST.out, if_pos ht1], rfl⟩
              · have ht1i : ((t : Int) == 1) = false := by rw [beq_eq_false_iff_ne]; omega
                have ht1j : ¬ (t : Int) = 1 := by omega
                go_wp2
                have hk := HK.out
                go_roundg (7 - k - 1)
                case measure => omega
                case rel => exact ⟨k + 1, by omega, by rw [show 14 - (k + 1) = 13 - k by omega], by rw [HST.out, if_neg ht1], rfl⟩
        · obtain rfl : k = 7 := by omega
          have hii : ¬ (8 : Int) ≤ (i : Int) := by have := HI2.out; omega
          have hiv : (i : Int) = 7 := by have := HI2.out; omega
          go_wp2
          go_ret
          exact ⟨ret_int11 (by rw [HM.out, HO2.out]), rfl⟩
end Go.Proofs.Ytfjcedfjfadfpaa
