/-
  Texts of this claim in one file: Ref11a, Ref11b.
-/
import Derived.Test.YtojlmlmjmlbjmaaPk22
import Derived.Test.YtojlmlmjmlbjmaaPk1
import Derived.Deep.LoopGhost
import Derived.Test.YtojlmlmjmlbjmaaPk4
import Derived.Test.YtojlmlmjmlbjmaaPk24
import Derived.BigQuiet
import Derived.Deep.DeepCutAuto
section
namespace Go.Proofs.Ytojlmlmjmlbjmaa
open Go.RowKit
set_option linter.unusedVariables false
set_option linter.unusedSimpArgs false
/-- Bit by bit. -/
def tm1 (a b : Nat) : Nat → Nat
  | 0 => 0
  | i + 1 => if b / 2 ^ i % 2 = 1 then tm1 a b i ^^^ (a * 2 ^ i) else tm1 a b i
/-- What stands above is taken off. -/
def tm2 (n : Nat) : Nat → Nat
  | 0 => n
  | k + 1 => if tm2 n k / 2 ^ (14 - k) % 2 = 1 then tm2 n k ^^^ (283 * 2 ^ (6 - k)) else tm2 n k
def tmN (a b : Nat) : Nat := tm2 (tm1 a b 8) 7
theorem tm1_lt {a b : Nat} (ha : a < 256) : ∀ i, i ≤ 8 → tm1 a b i < 32768
  | 0, _ => by show 0 < 32768; omega
  | i + 1, h => by
    have h1 := tm1_lt (b := b) ha i (by omega)
    have h2 : a * 2 ^ i < 2 ^ 15 := by
      have : 2 ^ i ≤ 2 ^ 7 := Nat.pow_le_pow_right (by omega) (by omega)
      have h3 : a * 2 ^ i ≤ a * 2 ^ 7 := Nat.mul_le_mul_left a this
      omega
    show (if _ then _ else _) < 32768
    split
    · exact Nat.xor_lt_two_pow (n := 15) (by omega) h2
    · exact h1
theorem tm2_lt {n : Nat} (hn : n < 32768) : ∀ k, k ≤ 7 → tm2 n k < 32768
  | 0, _ => hn
  | k + 1, h => by
    have h1 := tm2_lt hn k (by omega)
    have h2 : 283 * 2 ^ (6 - k) < 2 ^ 15 := by
      have : 2 ^ (6 - k) ≤ 2 ^ 6 := Nat.pow_le_pow_right (by omega) (by omega)
      omega
    show (if _ then _ else _) < 32768
    split
    · exact Nat.xor_lt_two_pow (n := 15) (by omega) h2
    · exact h1
theorem ofInt_n64' (a : Nat) (h : a < 9223372036854775808) : (BitVec.ofInt 64 (a : Int)).toNat = a := by
  rw [BitVec.toNat_ofInt]; omega
theorem i64_xor_nat' (a b : Nat) (ha : a < 9223372036854775808) (hb : b < 9223372036854775808) : bits .xor .i64 (a : Int) (b : Int) = ((a ^^^ b : Nat) : Int) := by
  have hx : a ^^^ b < 2 ^ 63 := Nat.xor_lt_two_pow (by omega) (by omega)
  show IntKind.i64.wrap ((BitVec.ofInt 64 (a : Int) ^^^ BitVec.ofInt 64 (b : Int)).toNat : Int) = _
  rw [BitVec.toNat_xor, ofInt_n64' a ha, ofInt_n64' b hb]
  exact IntWalk.i64_in _ (by omega)
theorem ret_int11 {k : IntKind} {x y : Nat} (h : x = y) : Ending.returned (.int k (x : Int)) = .returned (.int k (y : Int)) := by rw [h]
set_option maxHeartbeats 2000000 in
theorem Times11_any (a b : Nat) (ha : a < 256) (hb : b < 256) (w : World) :
    Calls Try.prog 37 #[.int .i64 (a : Int), .int .i64 (b : Int)] w fun e w' => e = .returned (.int .i64 ((tmN a b : Nat) : Int)) ∧ w = w' := by
  have HA := hid ha; have HB := hid hb
  obtain ⟨OUT, hOUT⟩ : ∃ n, n = tmN a b := ⟨_, rfl⟩
  rw [← hOUT]
  have HOUT := hid hOUT
  clear ha hb hOUT
  go_enter Try.func37, Try.ntmps37
  go_wp2
  go_loopg [5, 6] 8 (fun g n i wr => ∃ k : Nat, k + g = 8 ∧ i = .int .i64 (k : Int) ∧ n = .int .i64 ((tm1 a b k : Nat) : Int) ∧ wr = w)
  case atStart => exact ⟨0, rfl, rfl, rfl, rfl⟩
  case round =>
    obtain ⟨i, hi, rfl, rfl, rfl⟩ := hrel
    have HI := hid hi
    have hi8 : i ≤ 8 := by omega
    obtain ⟨n, hn⟩ : ∃ n, n = tm1 a b i := ⟨_, rfl⟩
    rw [← hn]
    have HN := hid hn
    clear hi hn
    by_cases hlt : i < 8
    · have hii : (i : Int) < 8 := by omega
      go_wp2
      go_loopg [7, 8] i (fun g x k wr' => ∃ j : Nat, j + g = i ∧ k = .int .i64 (j : Int) ∧ x = .int .i64 ((a * 2 ^ j : Nat) : Int) ∧ wr' = wr)
      case atStart => exact ⟨0, by omega, rfl, by simp, rfl⟩
      case round =>
        obtain ⟨j, hj, rfl, rfl, rfl⟩ := hrel
        have HJ := hid hj
        have hji : j ≤ i := by omega
        obtain ⟨x, hx⟩ : ∃ x, x = a * 2 ^ j := ⟨_, rfl⟩
        have hxl : x ≤ 65536 := by
          have h1 : 2 ^ j ≤ 2 ^ 8 := Nat.pow_le_pow_right (by omega) (by omega)
          have h2 : a * 2 ^ j ≤ a * 2 ^ 8 := Nat.mul_le_mul_left a h1
          have := HA.out
          omega
        rw [← hx]
        have HX := hid hx
        clear hj hx
        by_cases hjl : j < i
        · have hjj : (j : Int) < (i : Int) := by omega
          have hw2 : IntKind.i64.wrap (2 * (x : Int)) = ((a * 2 ^ (j + 1) : Nat) : Int) := (IntWalk.i64_in _ (by omega)).trans (by rw [Nat.pow_succ, ← Nat.mul_assoc, ← HX.out]; omega)
          have hw1 : IntKind.i64.wrap ((j : Int) + 1) = ((j + 1 : Nat) : Int) := (IntWalk.i64_in _ (by omega)).trans (by omega)
          go_wp2
          have hj := HJ.out
          go_roundg (i - j - 1)
          case measure => omega
          case rel => exact ⟨j + 1, by omega, rfl, rfl, rfl⟩
        · obtain rfl : j = i := by omega
          have hjj : ¬ (j : Int) < (j : Int) := by omega
          go_wp2
          go_loopg [9, 10] j (fun g x k wr' => ∃ l : Nat, l + g = j ∧ k = .int .i64 (l : Int) ∧ x = .int .i64 ((2 ^ l : Nat) : Int) ∧ wr' = wr)
          case atStart => exact ⟨0, by omega, rfl, rfl, rfl⟩
          case round =>
            obtain ⟨l, hl, rfl, rfl, rfl⟩ := hrel
            have HL := hid hl
            have hlj : l ≤ j := by omega
            obtain ⟨u, hu⟩ : ∃ u, u = 2 ^ l := ⟨_, rfl⟩
            have hul : u ≤ 256 := by
              have h1 : 2 ^ l ≤ 2 ^ 8 := Nat.pow_le_pow_right (by omega) (by omega)
              omega
            have hu0 : 0 < u := by rw [hu]; exact Nat.pow_pos (by omega)
            rw [← hu]
            have HU := hid hu
            clear hl hu
            by_cases hll : l < j
            · have hlk : (l : Int) < (j : Int) := by omega
              have hw2 : IntKind.i64.wrap (2 * (u : Int)) = ((2 ^ (l + 1) : Nat) : Int) := (IntWalk.i64_in _ (by omega)).trans (by rw [Nat.pow_succ, ← HU.out]; omega)
              have hw1 : IntKind.i64.wrap ((l : Int) + 1) = ((l + 1 : Nat) : Int) := (IntWalk.i64_in _ (by omega)).trans (by omega)
              clear hu0
              go_wp2
              have hl := HL.out
              go_roundg (j - l - 1)
              case measure => omega
              case rel => exact ⟨l + 1, by omega, rfl, rfl, rfl⟩
            · obtain rfl : l = j := by omega
              have hlk : ¬ (l : Int) < (l : Int) := by omega
              obtain ⟨q, hq⟩ : ∃ q, q = b / u := ⟨_, rfl⟩
              obtain ⟨t, ht⟩ : ∃ t, t = q % 2 := ⟨_, rfl⟩
              have hql : q < 256 := by rw [hq]; exact Nat.lt_of_le_of_lt (Nat.div_le_self _ _) HB.out
              have hne : ((u : Int) == 0) = false := by rw [beq_eq_false_iff_ne]; omega
              have hne2 : ¬ (u : Int) = 0 := by omega
              have hd : (b : Int).tdiv (u : Int) = (q : Int) := by rw [Int.tdiv_eq_ediv_of_nonneg (by omega), hq, Int.natCast_ediv]
              have hd2 : (b : Int) / (u : Int) = (q : Int) := by rw [hq, Int.natCast_ediv]
              have hw0 : IntKind.i64.wrap (q : Int) = (q : Int) := IntWalk.i64_in _ (by omega)
              have hm : (q : Int).tmod 2 = (t : Int) := by rw [Int.tmod_eq_emod_of_nonneg (by omega)]; omega
              have hm2 : (q : Int) % 2 = (t : Int) := by omega
              have hw3 : IntKind.i64.wrap (t : Int) = (t : Int) := IntWalk.i64_in _ (by omega)
              have hstep : tm1 a b (l + 1) = if t = 1 then n ^^^ x else n := by
                show (if b / 2 ^ l % 2 = 1 then tm1 a b l ^^^ (a * 2 ^ l) else tm1 a b l) = _
                rw [ht, hq, HX.out, HN.out, HU.out]
              have hnl : n < 32768 := by rw [HN.out]; exact tm1_lt HA.out l (by omega)
              have hxor := i64_xor_nat' n x (by omega) (by omega)
              have hwi : IntKind.i64.wrap ((l : Int) + 1) = ((l + 1 : Nat) : Int) := (IntWalk.i64_in _ (by omega)).trans (by omega)
              have HST := hid hstep
              clear hq ht hstep hnl hql hxl
              by_cases ht1 : t = 1
              · have ht1i : ((t : Int) == 1) = true := by rw [beq_iff_eq]; omega
                have ht1j : (t : Int) = 1 := by omega
                go_wp2
                have hi := HI.out
                go_roundg (8 - l - 1)
                case measure => omega
                case rel => exact ⟨l + 1, by omega, rfl, by rw [HST.out, if_pos ht1], rfl⟩
              · have ht1i : ((t : Int) == 1) = false := by rw [beq_eq_false_iff_ne]; omega
                have ht1j : ¬ (t : Int) = 1 := by omega
                go_wp2
                have hi := HI.out
                go_roundg (8 - l - 1)
                case measure => omega
                case rel => exact ⟨l + 1, by omega, rfl, by rw [HST.out, if_neg ht1], rfl⟩
    · obtain rfl : i = 8 := by omega
      have hnl : n < 32768 := by rw [HN.out]; exact tm1_lt HA.out 8 (by omega)
      have HNL := hid hnl
      have HO2 : Hid (OUT = tm2 n 7) := hid (by rw [HOUT.out, HN.out]; rfl)
      clear hnl HOUT
      go_wp2
      go_loopg [5, 11] 7 (fun g m i wr' => ∃ k : Nat, k + g = 7 ∧ i = .int .i64 ((14 - k : Nat) : Int) ∧ m = .int .i64 ((tm2 n k : Nat) : Int) ∧ wr' = wr)
      case atStart => exact ⟨0, rfl, rfl, rfl, rfl⟩
      case round =>
        obtain ⟨k, hk, rfl, rfl, rfl⟩ := hrel
        have HK := hid hk
        have hk7 : k ≤ 7 := by omega
        obtain ⟨m, hm⟩ : ∃ m, m = tm2 n k := ⟨_, rfl⟩
        obtain ⟨i, hi⟩ : ∃ i, i = 14 - k := ⟨_, rfl⟩
        rw [← hm, ← hi]
        have HM := hid hm; have HI2 := hid hi
        have hi14 : 7 ≤ i ∧ i ≤ 14 := by omega
        clear hk hm hi
        by_cases hlt : k < 7
        · have hii : (8 : Int) ≤ (i : Int) := by have := HI2.out; omega
          go_wp2
          go_loopg [12, 13] i (fun g x j wr' => ∃ l : Nat, l + g = i ∧ j = .int .i64 (l : Int) ∧ x = .int .i64 ((2 ^ l : Nat) : Int) ∧ wr' = wr)
          case atStart => exact ⟨0, by omega, rfl, rfl, rfl⟩
          case round =>
            obtain ⟨l, hl, rfl, rfl, rfl⟩ := hrel
            have HL := hid hl
            have hlj : l ≤ i := by omega
            obtain ⟨u, hu⟩ : ∃ u, u = 2 ^ l := ⟨_, rfl⟩
            have hul : u ≤ 16384 := by
              have h1 : 2 ^ l ≤ 2 ^ 14 := Nat.pow_le_pow_right (by omega) (by omega)
              omega
            have hu0 : 0 < u := by rw [hu]; exact Nat.pow_pos (by omega)
            rw [← hu]
            have HU := hid hu
            clear hl hu
            by_cases hll : l < i
            · have hlk : (l : Int) < (i : Int) := by omega
              have hw2 : IntKind.i64.wrap (2 * (u : Int)) = ((2 ^ (l + 1) : Nat) : Int) := (IntWalk.i64_in _ (by omega)).trans (by rw [Nat.pow_succ, ← HU.out]; omega)
              have hw1 : IntKind.i64.wrap ((l : Int) + 1) = ((l + 1 : Nat) : Int) := (IntWalk.i64_in _ (by omega)).trans (by omega)
              clear hu0
              go_wp2
              have hl := HL.out
              go_roundg (i - l - 1)
              case measure => omega
              case rel => exact ⟨l + 1, by omega, rfl, rfl, rfl⟩
            · obtain rfl : l = i := by omega
              have hlk : ¬ (l : Int) < (l : Int) := by omega
              obtain ⟨q, hq⟩ : ∃ q, q = m / u := ⟨_, rfl⟩
              obtain ⟨t, ht⟩ : ∃ t, t = q % 2 := ⟨_, rfl⟩
              obtain ⟨y, hy⟩ : ∃ y, y = u / 256 := ⟨_, rfl⟩
              have hml : m < 32768 := by rw [HM.out]; exact tm2_lt HNL.out k (by omega)
              have hql : q < 32768 := by rw [hq]; exact Nat.lt_of_le_of_lt (Nat.div_le_self _ _) hml
              have hyl : y ≤ 64 := by rw [hy]; omega
              have hye : y = 2 ^ (6 - k) := by
                have h1 : l = (6 - k) + 8 := by have := HI2.out; omega
                rw [hy, HU.out, h1, Nat.pow_add]
                exact Nat.mul_div_cancel _ (by decide)
              have hne : ((u : Int) == 0) = false := by rw [beq_eq_false_iff_ne]; omega
              have hne2 : ¬ (u : Int) = 0 := by omega
              have hd : (m : Int).tdiv (u : Int) = (q : Int) := by rw [Int.tdiv_eq_ediv_of_nonneg (by omega), hq, Int.natCast_ediv]
              have hd2 : (m : Int) / (u : Int) = (q : Int) := by rw [hq, Int.natCast_ediv]
              have hw0 : IntKind.i64.wrap (q : Int) = (q : Int) := IntWalk.i64_in _ (by omega)
              have hm1 : (q : Int).tmod 2 = (t : Int) := by rw [Int.tmod_eq_emod_of_nonneg (by omega)]; omega
              have hm2 : (q : Int) % 2 = (t : Int) := by omega
              have hw3 : IntKind.i64.wrap (t : Int) = (t : Int) := IntWalk.i64_in _ (by omega)
              have he1 : (u : Int).tdiv 256 = (y : Int) := by rw [Int.tdiv_eq_ediv_of_nonneg (by omega)]; omega
              have he2 : (u : Int) / 256 = (y : Int) := by omega
              have he3 : IntKind.i64.wrap (y : Int) = (y : Int) := IntWalk.i64_in _ (by omega)
              have he4 : IntKind.i64.wrap (283 * (y : Int)) = ((283 * y : Nat) : Int) := (IntWalk.i64_in _ (by omega)).trans (by omega)
              have hstep : tm2 n (k + 1) = if t = 1 then m ^^^ (283 * y) else m := by
                show (if tm2 n k / 2 ^ (14 - k) % 2 = 1 then tm2 n k ^^^ (283 * 2 ^ (6 - k)) else tm2 n k) = _
                rw [ht, hq, hye, HM.out, HU.out, HI2.out]
              have hxor := i64_xor_nat' m (283 * y) (by omega) (by omega)
              have hwi : IntKind.i64.wrap ((l : Int) - 1) = ((14 - (k + 1) : Nat) : Int) := (IntWalk.i64_in _ (by omega)).trans (by have := HI2.out; omega)
              obtain ⟨z, hz⟩ : ∃ z, z = 283 * y := ⟨_, rfl⟩
              rw [← hz] at he4 hstep hxor
              have HST := hid hstep
              clear hq ht hstep hml hql hyl hye hul hz hy hi14
              by_cases ht1 : t = 1
              · have ht1i : ((t : Int) == 1) = true := by rw [beq_iff_eq]; omega
                have ht1j : (t : Int) = 1 := by omega
                go_wp2
                have hk := HK.out
                go_roundg (7 - k - 1)
                case measure => omega
                case rel => exact ⟨k + 1, by omega, by rw [show 14 - (k + 1) = 13 - k by omega], by rw [HST.out, if_pos ht1], rfl⟩
              · have ht1i : ((t : Int) == 1) = false := by rw [beq_eq_false_iff_ne]; omega
                have ht1j : ¬ (t : Int) = 1 := by omega
                go_wp2
                have hk := HK.out
                go_roundg (7 - k - 1)
                case measure => omega
                case rel => exact ⟨k + 1, by omega, by rw [show 14 - (k + 1) = 13 - k by omega], by rw [HST.out, if_neg ht1], rfl⟩
        · obtain rfl : k = 7 := by omega
          have hii : ¬ (8 : Int) ≤ (i : Int) := by have := HI2.out; omega
          have hiv : (i : Int) = 7 := by have := HI2.out; omega
          go_wp2
          go_ret
          exact ⟨ret_int11 (by rw [HM.out, HO2.out]), rfl⟩
end Go.Proofs.Ytojlmlmjmlbjmaa
end
section
namespace Go.Proofs.Ytojlmlmjmlbjmaa
open Go.RowKit
set_option linter.unusedVariables false
set_option linter.unusedSimpArgs false
theorem infoI64b : (Try.prog.info? 3).map (fun i => (i.zero, i.size, i.bytes)) = some (some (.int .i64 0), 1, 8) := by kernel_rfl
/-- What makes 1, found among 1 to k. -/
def ivN (a : Nat) : Nat → Nat
  | 0 => 0
  | k + 1 => if tmN a (k + 1) = 1 then k + 1 else ivN a k
theorem ivN_le (a : Nat) : ∀ k, ivN a k ≤ k
  | 0 => Nat.le_refl _
  | k + 1 => by
    have := ivN_le a k
    show (if tmN a (k + 1) = 1 then k + 1 else ivN a k) ≤ k + 1
    split <;> omega
/-- The bits of the inverse, summed. -/
def bitN (b i : Nat) : Nat := b / 2 ^ i % 2
def sumB (b i : Nat) : Nat := bitN b i + bitN b ((i + 4) % 8) + bitN b ((i + 5) % 8) + bitN b ((i + 6) % 8) + bitN b ((i + 7) % 8) + bitN 99 i
def bxN (b : Nat) : Nat → Nat
  | 0 => 0
  | i + 1 => bxN b i + sumB b i % 2 * 2 ^ i
def boxN (a : Nat) : Nat := bxN (ivN a 255) 8
theorem bxN_lt (b : Nat) : ∀ i, bxN b i < 2 ^ i
  | 0 => by show 0 < 1; omega
  | i + 1 => by
    have h := bxN_lt b i
    have h2 : sumB b i % 2 ≤ 1 := by omega
    have h3 : sumB b i % 2 * 2 ^ i ≤ 1 * 2 ^ i := Nat.mul_le_mul_right _ h2
    show bxN b i + _ < 2 ^ (i + 1)
    rw [Nat.pow_succ]
    omega
/-- What is left of 63 (hex). -/
def c99 (k : Nat) : Nat := 99 / 2 ^ k
/-- Bits as whole numbers in a row. -/
def bitL (b k : Nat) : List Value := (List.range k).map fun i => .int .i64 ((bitN b i : Nat) : Int)
theorem bitL_succ (b k : Nat) : bitL b (k + 1) = bitL b k ++ [.int .i64 ((bitN b k : Nat) : Int)] := by unfold bitL; rw [List.range_succ, List.map_append]; rfl
theorem bitL_at (b k i : Nat) (h : i < k) : (bitL b k)[i]? = some (.int .i64 ((bitN b i : Nat) : Int)) := by unfold bitL; simp [h]
theorem mod_i (x j m p : Nat) (hx : x < 8) (hj : j < 8) (hm : m = x + j) (hp : p = (x + j) % 8) : IntKind.i64.wrap ((x : Int) + (j : Int)) = (m : Int) ∧ (m : Int).tmod 8 = (p : Int) ∧ IntKind.i64.wrap (p : Int) = (p : Int) ∧ (0 : Int) ≤ (p : Int) ∧ (p : Int) < 8 :=
  ⟨(IntWalk.i64_in _ (by omega)).trans (by omega), by rw [Int.tmod_eq_emod_of_nonneg (by omega)]; omega, IntWalk.i64_in _ (by omega), by omega, by omega⟩
theorem add_i (x y z : Nat) (hz : z = x + y) (h : z < 1000) : IntKind.i64.wrap ((x : Int) + (y : Int)) = (z : Int) := (IntWalk.i64_in _ (by omega)).trans (by omega)
theorem mod2_i (x z : Nat) (hz : z = x % 2) : (x : Int).tmod 2 = (z : Int) ∧ IntKind.i64.wrap (z : Int) = (z : Int) := ⟨by rw [Int.tmod_eq_emod_of_nonneg (by omega)]; omega, IntWalk.i64_in _ (by omega)⟩
theorem div2_i (x z : Nat) (hz : z = x / 2) (h : x < 1000) : (x : Int).tdiv 2 = (z : Int) ∧ IntKind.i64.wrap (z : Int) = (z : Int) := ⟨by rw [Int.tdiv_eq_ediv_of_nonneg (by omega)]; omega, IntWalk.i64_in _ (by omega)⟩
theorem mul_i (x y z : Nat) (hz : z = x * y) (h : z < 1000) : IntKind.i64.wrap ((x : Int) * (y : Int)) = (z : Int) := by
  rw [← Int.natCast_mul, ← hz]
  exact IntWalk.i64_in _ (by omega)
theorem bitN_le (b i : Nat) : bitN b i ≤ 1 := by unfold bitN; omega
set_option maxHeartbeats 2000000 in
theorem Box11_any (a : Nat) (ha : a < 256) (w : World) :
    Calls Try.prog 21 #[.int .i64 (a : Int)] w fun e w' => e = .returned (.int .i64 ((boxN a : Nat) : Int)) ∧ Below w.heap.size w w' := by
  have HA := hid ha
  obtain ⟨OUT, hOUT⟩ : ∃ n, n = boxN a := ⟨_, rfl⟩
  rw [← hOUT]
  have HOUT := hid hOUT
  clear ha hOUT
  go_enter Try.func21, Try.ntmps21
  go_wp2
  go_loopg [3, 4] 255 (fun g b x wr => ∃ k : Nat, k + g = 255 ∧ x = .int .i64 ((k + 1 : Nat) : Int) ∧ b = .int .i64 ((ivN a k : Nat) : Int) ∧ w = wr)
  case atStart => exact ⟨0, rfl, rfl, rfl, rfl⟩
  case round =>
    obtain ⟨k, hk, rfl, rfl, rfl⟩ := hrel
    have HK := hid hk
    have hk8 : k ≤ 255 := by omega
    obtain ⟨b, hb⟩ : ∃ b, b = ivN a k := ⟨_, rfl⟩
    obtain ⟨x, hx⟩ : ∃ x, x = k + 1 := ⟨_, rfl⟩
    rw [← hb, ← hx]
    have HB := hid hb; have HX := hid hx
    clear hk hb
    by_cases hlt : x < 256
    · have hxi : (x : Int) < 256 := by omega
      have KT := hid (Times11_any a x HA.out hlt w)
      obtain ⟨t, ht⟩ : ∃ t, t = tmN a x := ⟨_, rfl⟩
      rw [← ht] at KT
      have hstep : ivN a (k + 1) = if t = 1 then x else b := by
        show (if tmN a (k + 1) = 1 then k + 1 else ivN a k) = _
        rw [← HX.out, ← ht, ← HB.out]
      have HST := hid hstep
      have hw1 : IntKind.i64.wrap ((x : Int) + 1) = ((k + 1 + 1 : Nat) : Int) := (IntWalk.i64_in _ (by omega)).trans (by omega)
      clear ht hstep hx
      go_wp2_with fail
      refine KT.out.mono ?_
      rintro e w' ⟨rfl, rfl⟩
      by_cases ht1 : t = 1
      · have ht1i : ((t : Int) == 1) = true := by rw [beq_iff_eq]; omega
        have ht1j : (t : Int) = 1 := by omega
        go_wp2
        have hk := HK.out
        have hx := HX.out
        go_roundg (255 - k - 1)
        case measure => omega
        case rel => exact ⟨k + 1, by omega, rfl, by rw [HST.out, if_pos ht1], rfl⟩
      · have ht1i : ((t : Int) == 1) = false := by rw [beq_eq_false_iff_ne]; omega
        have ht1j : ¬ (t : Int) = 1 := by omega
        go_wp2
        have hk := HK.out
        have hx := HX.out
        go_roundg (255 - k - 1)
        case measure => omega
        case rel => exact ⟨k + 1, by omega, rfl, by rw [HST.out, if_neg ht1], rfl⟩
    · have hxi : ¬ (x : Int) < 256 := by omega
      have hbl : b ≤ 255 := by
        have := ivN_le a k
        rw [HB.out]; omega
      have hkv : k = 255 := by have := HX.out; omega
      have HO2 : Hid (OUT = bxN b 8) := hid (by rw [HOUT.out, HB.out, hkv]; rfl)
      have HBL := hid hbl
      clear HX HB HK hkv hk8 hlt hbl HOUT hx
      go_wp2
      go_loopg [3, 5, 6] 8 (fun g y v i wr => ∃ k : Nat, k + g = 8 ∧ i = .int .i64 (k : Int) ∧ y = .int .i64 ((b / 2 ^ k : Nat) : Int) ∧ wr.ownsRow w.heap.size 3 1 v k (bitL b k) ∧ Below w.heap.size w wr)
      case atStart => exact ⟨0, rfl, rfl, by simp, ⟨rfl, .inl ⟨rfl, rfl⟩⟩, Below.refl _ _⟩
      case round =>
        obtain ⟨i, hi, rfl, rfl, ho, hbw⟩ := hrel
        have HI := hid hi; have HO := hid ho; have HBW := hid hbw
        have hi8 : i ≤ 8 := by omega
        obtain ⟨y, hy⟩ : ∃ y, y = b / 2 ^ i := ⟨_, rfl⟩
        have hyl : y ≤ 255 := by rw [hy]; exact Nat.le_trans (Nat.div_le_self _ _) HBL.out
        rw [← hy]
        have HY := hid hy
        clear hi ho hbw hy
        by_cases hlt : i < 8
        · have hii : (i : Int) < 8 := by omega
          obtain ⟨t, ht⟩ : ∃ t, t = y % 2 := ⟨_, rfl⟩
          obtain ⟨z, hz⟩ : ∃ z, z = y / 2 := ⟨_, rfl⟩
          have hm1 : (y : Int).tmod 2 = (t : Int) := by rw [Int.tmod_eq_emod_of_nonneg (by omega)]; omega
          have hm2 : (y : Int) % 2 = (t : Int) := by omega
          have hw1 : IntKind.i64.wrap (t : Int) = (t : Int) := IntWalk.i64_in _ (by omega)
          have hd1 : (y : Int).tdiv 2 = (z : Int) := by rw [Int.tdiv_eq_ediv_of_nonneg (by omega)]; omega
          have hd2 : (y : Int) / 2 = (z : Int) := by omega
          have hw2 : IntKind.i64.wrap (z : Int) = (z : Int) := IntWalk.i64_in _ (by omega)
          have hwi : IntKind.i64.wrap ((i : Int) + 1) = ((i + 1 : Nat) : Int) := (IntWalk.i64_in _ (by omega)).trans (by omega)
          have hT : Hid (t = bitN b i) := hid (by rw [ht, HY.out]; rfl)
          have hZ : Hid (z = b / 2 ^ (i + 1)) := hid (by rw [hz, HY.out, Nat.pow_succ, Nat.div_div_eq_div_mul])
          have HOa := hid (World.ownsRow.alloc HO.out (.cells #[.int .i64 (t : Int)] 3))
          have hsz : w.heap.size ≤ wr.heap.size := HBW.out.size
          clear ht hz hyl
          go_wp2_with (at_builtin; refine wpList_append_lie rfl _ _ 29 rfl w.heap.size 3 (.int .i64 0) 8 Try.underlying29 infoI64b rfl rfl HOa.out rfl rfl (Lie.new1 _ _ _) (by intro u hu; simp at hu; subst hu; rfl) ?e1 ?e2 ?e3 ?_)
          case e1 => rw [List.length_singleton]; unfold maxLen; omega
          case e2 => rw [List.length_singleton]; omega
          case e3 => simp; omega
          intro v2 w2 hown2 hg2 _
          have hb2 : Below w.heap.size w w2 := (HBW.out.alloc hsz _).grown hg2 (by simp; omega) (fun q h => own_lt HOa.out q h)
          have ho2 : w2.ownsRow w.heap.size 3 1 v2 (i + 1) (bitL b (i + 1)) := by
            rw [bitL_succ, ← hT.out]
            exact hown2
          have HO2 := hid ho2; have HB2 := hid hb2
          clear hown2 hg2 ho2 hb2 HO HOa HBW hsz
          go_wp2
          have hi := HI.out
          go_roundg (8 - i - 1)
          case measure => omega
          case rel => exact ⟨i + 1, by omega, rfl, by rw [← hZ.out], HO2.out, HB2.out⟩
        · have hi8e : i = 8 := by omega
          have hii : ¬ (i : Int) < 8 := by omega
          rw [hi8e] at HO HY
          obtain ⟨A, c, rfl, -⟩ := own_sl HO.out
          obtain ⟨g, hAg, hcell⟩ : ∃ g, A = some ⟨g, 0, none⟩ ∧ ∀ j, j < 8 → wr.cell? ⟨g, j, none⟩ = some (.int .i64 ((bitN b j : Nat) : Int)) := by
            obtain ⟨h1, h2⟩ := HO.out
            rcases h2 with ⟨h3, h4⟩ | ⟨g, cap, cur, hv, h3, hg, h5, h6, h7, h8⟩
            · omega
            · simp only [Value.slice.injEq] at hv
              refine ⟨g, hv.1, fun j hj => cell_of hg j _ ?_⟩
              have h9 := bitL_at b 8 j hj
              rw [← h8, List.getElem?_take_of_lt (by omega)] at h9
              rw [← Array.getElem?_toList]
              exact h9
          have hgl : g < wr.heap.size := World.block_lt_of_cell? wr _ (hcell 0 (by omega))
          subst hAg
          obtain ⟨W2, hW2⟩ : ∃ W2, W2 = wr := ⟨_, rfl⟩
          subst hW2
          have HCELL := hid hcell; have HGL := hid hgl
          rw [hi8e]
          clear hcell hgl HO HY HI hi8 hlt hi8e hyl
          have hii : ¬ ((8 : Nat) : Int) < 8 := by omega
          clear hii
          go_wp2
          go_loopg [7, 8, 9, 10] 8 (fun gg o u cc i wr => ∃ k : Nat, k + gg = 8 ∧ i = .int .i64 (k : Int) ∧ o = .int .i64 ((bxN b k : Nat) : Int) ∧ u = .int .i64 ((2 ^ k : Nat) : Int) ∧ cc = .int .i64 ((c99 k : Nat) : Int) ∧ Below W2.heap.size W2 wr)
          case atStart => exact ⟨0, rfl, rfl, rfl, rfl, rfl, Below.refl _ _⟩
          case round =>
            obtain ⟨k, hk, rfl, rfl, rfl, rfl, hbw⟩ := hrel
            have HK := hid hk
            have hk8 : k ≤ 8 := by omega
            obtain ⟨o, ho⟩ : ∃ o, o = bxN b k := ⟨_, rfl⟩
            obtain ⟨u, hu⟩ : ∃ u, u = 2 ^ k := ⟨_, rfl⟩
            obtain ⟨cc, hcc⟩ : ∃ x, x = c99 k := ⟨_, rfl⟩
            have hol : o < u := by rw [ho, hu]; exact bxN_lt b k
            have hul : u ≤ 256 := by
              have h1 : 2 ^ k ≤ 2 ^ 8 := Nat.pow_le_pow_right (by omega) (by omega)
              omega
            have hcl : cc ≤ 99 := by rw [hcc]; exact Nat.div_le_self _ _
            rw [← ho, ← hu, ← hcc]
            have HOo := hid ho; have HUu := hid hu; have HCC := hid hcc; have HBW2 := hid hbw
            clear hk ho hu hcc
            by_cases hlt : k < 8
            · have hii : (k : Int) < 8 := by omega
              have hk0 : (0 : Int) ≤ (k : Int) := by omega
              obtain ⟨bk, hbk⟩ : ∃ x, x = bitN b k := ⟨_, rfl⟩
              have hbkl : bk ≤ 1 := by rw [hbk]; exact bitN_le _ _
              have hck : wr.cell? ⟨g, k, none⟩ = some (.int .i64 (bk : Int)) := by rw [hbk]; exact (hbw.cell (p := ⟨g, k, none⟩) HGL.out).trans (HCELL.out k hlt)
              obtain ⟨p4, hp4⟩ : ∃ p, p = (k + 4) % 8 := ⟨_, rfl⟩
              obtain ⟨m4, hm4⟩ : ∃ m, m = k + 4 := ⟨_, rfl⟩
              obtain ⟨ha4', hr4, hw4, hp40, hp48⟩ := mod_i k 4 m4 p4 hlt (by decide) hm4 hp4
              have ha4 : IntKind.i64.wrap ((k : Int) + 4) = (m4 : Int) := ha4'
              clear ha4' hm4
              have hp4l : p4 < 8 := by rw [hp4]; exact Nat.mod_lt _ (by decide)
              obtain ⟨b4, hb4⟩ : ∃ x, x = bitN b p4 := ⟨_, rfl⟩
              have hb4l : b4 ≤ 1 := by rw [hb4]; exact bitN_le _ _
              have hc4 : wr.cell? ⟨g, p4, none⟩ = some (.int .i64 (b4 : Int)) := by rw [hb4]; exact (hbw.cell (p := ⟨g, p4, none⟩) HGL.out).trans (HCELL.out p4 hp4l)
              obtain ⟨p5, hp5⟩ : ∃ p, p = (k + 5) % 8 := ⟨_, rfl⟩
              obtain ⟨m5, hm5⟩ : ∃ m, m = k + 5 := ⟨_, rfl⟩
              obtain ⟨ha5', hr5, hw5, hp50, hp58⟩ := mod_i k 5 m5 p5 hlt (by decide) hm5 hp5
              have ha5 : IntKind.i64.wrap ((k : Int) + 5) = (m5 : Int) := ha5'
              clear ha5' hm5
              have hp5l : p5 < 8 := by rw [hp5]; exact Nat.mod_lt _ (by decide)
              obtain ⟨b5, hb5⟩ : ∃ x, x = bitN b p5 := ⟨_, rfl⟩
              have hb5l : b5 ≤ 1 := by rw [hb5]; exact bitN_le _ _
              have hc5 : wr.cell? ⟨g, p5, none⟩ = some (.int .i64 (b5 : Int)) := by rw [hb5]; exact (hbw.cell (p := ⟨g, p5, none⟩) HGL.out).trans (HCELL.out p5 hp5l)
              obtain ⟨p6, hp6⟩ : ∃ p, p = (k + 6) % 8 := ⟨_, rfl⟩
              obtain ⟨m6, hm6⟩ : ∃ m, m = k + 6 := ⟨_, rfl⟩
              obtain ⟨ha6', hr6, hw6, hp60, hp68⟩ := mod_i k 6 m6 p6 hlt (by decide) hm6 hp6
              have ha6 : IntKind.i64.wrap ((k : Int) + 6) = (m6 : Int) := ha6'
              clear ha6' hm6
              have hp6l : p6 < 8 := by rw [hp6]; exact Nat.mod_lt _ (by decide)
              obtain ⟨b6, hb6⟩ : ∃ x, x = bitN b p6 := ⟨_, rfl⟩
              have hb6l : b6 ≤ 1 := by rw [hb6]; exact bitN_le _ _
              have hc6 : wr.cell? ⟨g, p6, none⟩ = some (.int .i64 (b6 : Int)) := by rw [hb6]; exact (hbw.cell (p := ⟨g, p6, none⟩) HGL.out).trans (HCELL.out p6 hp6l)
              obtain ⟨p7, hp7⟩ : ∃ p, p = (k + 7) % 8 := ⟨_, rfl⟩
              obtain ⟨m7, hm7⟩ : ∃ m, m = k + 7 := ⟨_, rfl⟩
              obtain ⟨ha7', hr7, hw7, hp70, hp78⟩ := mod_i k 7 m7 p7 hlt (by decide) hm7 hp7
              have ha7 : IntKind.i64.wrap ((k : Int) + 7) = (m7 : Int) := ha7'
              clear ha7' hm7
              have hp7l : p7 < 8 := by rw [hp7]; exact Nat.mod_lt _ (by decide)
              obtain ⟨b7, hb7⟩ : ∃ x, x = bitN b p7 := ⟨_, rfl⟩
              have hb7l : b7 ≤ 1 := by rw [hb7]; exact bitN_le _ _
              have hc7 : wr.cell? ⟨g, p7, none⟩ = some (.int .i64 (b7 : Int)) := by rw [hb7]; exact (hbw.cell (p := ⟨g, p7, none⟩) HGL.out).trans (HCELL.out p7 hp7l)
              obtain ⟨cb, hcb⟩ : ∃ x, x = cc % 2 := ⟨_, rfl⟩
              obtain ⟨hcm, hcw⟩ := mod2_i cc cb hcb
              have hcbl : cb ≤ 1 := by rw [hcb]; exact Nat.le_of_lt_succ (Nat.mod_lt _ (by decide))
              obtain ⟨s1, hs1⟩ : ∃ x, x = bk + b4 := ⟨_, rfl⟩
              obtain ⟨s2, hs2⟩ : ∃ x, x = s1 + b5 := ⟨_, rfl⟩
              obtain ⟨s3, hs3⟩ : ∃ x, x = s2 + b6 := ⟨_, rfl⟩
              obtain ⟨s4, hs4⟩ : ∃ x, x = s3 + b7 := ⟨_, rfl⟩
              obtain ⟨s5, hs5⟩ : ∃ x, x = s4 + cb := ⟨_, rfl⟩
              have l1 : s1 ≤ 2 := by rw [hs1]; exact Nat.add_le_add hbkl hb4l
              have l2 : s2 ≤ 3 := by rw [hs2]; exact Nat.add_le_add l1 hb5l
              have l3 : s3 ≤ 4 := by rw [hs3]; exact Nat.add_le_add l2 hb6l
              have l4 : s4 ≤ 5 := by rw [hs4]; exact Nat.add_le_add l3 hb7l
              have l5 : s5 ≤ 6 := by rw [hs5]; exact Nat.add_le_add l4 hcbl
              have hS : Hid (s5 = sumB b k) := hid (by
                unfold sumB
                rw [hs5, hs4, hs3, hs2, hs1, hbk, hb4, hb5, hb6, hb7, hp4, hp5, hp6, hp7, hcb, HCC.out]; rfl)
              have e1 := add_i bk b4 s1 hs1 (Nat.lt_of_le_of_lt l1 (by decide))
              have e2 := add_i s1 b5 s2 hs2 (Nat.lt_of_le_of_lt l2 (by decide))
              have e3 := add_i s2 b6 s3 hs3 (Nat.lt_of_le_of_lt l3 (by decide))
              have e4 := add_i s3 b7 s4 hs4 (Nat.lt_of_le_of_lt l4 (by decide))
              have e5 := add_i s4 cb s5 hs5 (Nat.lt_of_le_of_lt l5 (by decide))
              obtain ⟨s6, hs6⟩ : ∃ x, x = s5 % 2 := ⟨_, rfl⟩
              obtain ⟨f1, f3⟩ := mod2_i s5 s6 hs6
              have l6 : s6 ≤ 1 := by rw [hs6]; exact Nat.le_of_lt_succ (Nat.mod_lt _ (by decide))
              obtain ⟨s7, hs7⟩ : ∃ x, x = s6 * u := ⟨_, rfl⟩
              have l7 : s7 ≤ 1 * 256 := by rw [hs7]; exact Nat.mul_le_mul l6 hul
              have f4 := mul_i s6 u s7 hs7 (Nat.lt_of_le_of_lt l7 (by decide))
              obtain ⟨o2, ho2⟩ : ∃ x, x = o + s7 := ⟨_, rfl⟩
              have l8 : o2 ≤ 256 + 1 * 256 := by rw [ho2]; exact Nat.add_le_add (Nat.le_trans (Nat.le_of_lt hol) hul) l7
              have f5 := add_i o s7 o2 ho2 (Nat.lt_of_le_of_lt l8 (by decide))
              have HO2 : Hid (o2 = bxN b (k + 1)) := hid (by
                show o2 = bxN b k + sumB b k % 2 * 2 ^ k
                rw [ho2, hs7, hs6, hS.out, HOo.out, HUu.out])
              obtain ⟨u2, hu2⟩ : ∃ x, x = 2 * u := ⟨_, rfl⟩
              have f6 : IntKind.i64.wrap (2 * (u : Int)) = (u2 : Int) := mul_i 2 u u2 hu2 (by rw [hu2]; exact Nat.lt_of_le_of_lt (Nat.mul_le_mul_left 2 hul) (by decide))
              have HU2 : Hid (u2 = 2 ^ (k + 1)) := hid (by rw [hu2, HUu.out, Nat.pow_succ, Nat.mul_comm])
              obtain ⟨c2, hc2⟩ : ∃ x, x = cc / 2 := ⟨_, rfl⟩
              obtain ⟨f7, f9⟩ := div2_i cc c2 hc2 (Nat.lt_of_le_of_lt hcl (by decide))
              have HC2 : Hid (c2 = c99 (k + 1)) := hid (by rw [hc2, HCC.out]; unfold c99; rw [Nat.pow_succ, Nat.div_div_eq_div_mul])
              have hwi : IntKind.i64.wrap ((k : Int) + 1) = ((k + 1 : Nat) : Int) := add_i k 1 (k + 1) rfl (by omega)
              clear hs1 hs2 hs3 hs4 hs5 hs6 hs7 ho2 hu2 hc2 hcb hbk hbkl hb4 hb5 hb6 hb7 hb4l hb5l hb6l hb7l hp4 hp5 hp6 hp7 hp4l hp5l hp6l hp7l hol hul hcl l1 l2 l3 l4 l5 l6 l7 l8 hcbl hbw
              go_wp2_with fail
              go_quiet (fail)
              go_wp2
              have hk := HK.out
              go_roundg (8 - k - 1)
              case measure => omega
              case rel => exact ⟨k + 1, by omega, rfl, by rw [← HO2.out], by rw [← HU2.out], by rw [← HC2.out], ⟨HBW2.out.os, HBW2.out.tape, HBW2.out.output, HBW2.out.size, HBW2.out.block⟩⟩
            · have hii : ¬ (k : Int) < 8 := by omega
              have hk8e : k = 8 := by omega
              rw [hk8e] at HOo
              clear HUu HCC HK hlt hk8 hol hul hcl hbw hk8e
              go_wp2
              go_ret
              exact ⟨ret_int11 (by rw [HOo.out, HO2.out]), HBW.out.trans (HBW2.out.mono HBW.out.size)⟩
end Go.Proofs.Ytojlmlmjmlbjmaa
end
