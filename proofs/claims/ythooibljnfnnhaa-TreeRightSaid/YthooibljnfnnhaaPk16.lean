/-
  Texts of this claim in one file: WlA, WlB, WlC.
-/
import Derived.Test.YthooibljnfnnhaaPk5
import Derived.Test.YthooibljnfnnhaaPk15
import Derived.Test.YthooibljnfnnhaaPk30
section
namespace Go.Proofs.Ythooibljnfnnhaa
open Go Go.RowKit
set_option linter.unusedVariables false
set_option linter.unusedSimpArgs false
theorem ofInt_q64 (a : Nat) (ha : a < 9223372036854775808) : (BitVec.ofInt 64 (a : Int)).toNat = a := by
  rw [BitVec.ofInt_natCast, BitVec.toNat_ofNat]; exact Nat.mod_eq_of_lt (by omega)
/-- A bit turned over. -/
theorem nd_xor (q l : Nat) : nd q l ^^^ 2 ^ (l + 1) = nd (sbq q) l := by
  apply Nat.eq_of_testBit_eq
  intro i
  unfold nd
  have hl : 2 ^ l - 1 < 2 ^ (l + 1) := by rw [pow1]; have := Nat.one_le_two_pow (n := l); omega
  rw [Nat.testBit_xor, Nat.mul_comm q, Nat.mul_comm (sbq q), Nat.testBit_two_pow_mul_add _ hl, Nat.testBit_two_pow_mul_add _ hl, Nat.testBit_two_pow]
  by_cases hi : i < l + 1
  · rw [if_pos hi, if_pos hi, decide_eq_false (by omega), Bool.xor_false]
  · rw [if_neg hi, if_neg hi]
    obtain ⟨j, rfl⟩ : ∃ j, i = l + 1 + j := ⟨i - (l + 1), by omega⟩
    rw [Nat.add_sub_cancel_left]
    cases j with
    | zero =>
      rw [Nat.testBit_zero, Nat.testBit_zero, decide_eq_true (by omega : l + 1 = l + 1 + 0)]
      unfold sbq
      split
      · rw [show q % 2 = 0 by assumption, show (q + 1) % 2 = 1 by omega]; rfl
      · rw [show q % 2 = 1 by omega, show (q - 1) % 2 = 0 by omega]; rfl
    | succ j =>
      rw [Nat.testBit_succ, Nat.testBit_succ, sbq_div, decide_eq_false (by omega), Bool.xor_false]
theorem sbq_nd (q l : Nat) : nd q l + nd (sbq q) l = 2 * nd (q / 2) (l + 1) := by
  have h1 := nd_left (q / 2) l
  have h2 := nd_right (q / 2) l
  unfold sbq
  split
  · rw [show q + 1 = 2 * (q / 2) + 1 by omega]
    have h3 : nd q l = nd (2 * (q / 2)) l := by congr 1; omega
    omega
  · rw [show q - 1 = 2 * (q / 2) by omega]
    have h3 : nd q l = nd (2 * (q / 2) + 1) l := by congr 1; omega
    omega
theorem nd_lt {q l k : Nat} (hq : q < 2 ^ k) (hk : l + k ≤ 16) : nd q l ≤ 131070 := by
  have h1 := hi_bound (l := l) hq
  have h2 := le_hi q l
  have h3 := pow_le16 hk
  omega
theorem inT_b {x : Int} : inT x 65536 ↔ 0 ≤ x ∧ x ≤ 131070 := by
  constructor
  · intro h
    obtain ⟨-, h1, h2⟩ := inT_fit h
    exact ⟨h1, by omega⟩
  · rintro ⟨h1, h2⟩
    exact inT_of (by decide) h1 (by omega)
set_option maxHeartbeats 1000000 in
theorem lev_any (x : Nat) (W : World) (hx : x ≤ 1000000) : Calls Try.prog 103 #[.int .i64 (x : Int)] W fun e w' => e = .returned (.int .i64 (lv x : Int)) ∧ w' = W := by
  go_enter Try.func103, Try.ntmps103
  go_wp2
  refine wp_scope_at 0 (fun a' w' => ∃ (y i : Nat) (u1 u4 u5 u6 u7 u8 u9 u10 u11 : Value), a' = { tmps := #[.int .i64 (y : Int), u1, .int .i64 0, .int .i64 (i : Int), u4, u5, u6, u7, u8, u9, u10, u11], defers := [] } ∧ w' = W ∧ y ≤ 1000000 ∧ i + y ≤ 1000000 ∧ i + lv y = lv x) (fun a' _ => match a'.tmps.getD 0 undef with | .int _ z => z.toNat | _ => 0) rfl ?_ ?_
  · intro Qj hQr hJ
    go_wp2
    refine wp_label ?_
    rename_i K hK
    refine hK _ _ (hJ _ _ ⟨x, 0, _, _, _, _, _, _, _, _, _, rfl, rfl, hx, by omega, by omega⟩)
  · rintro a' w' ⟨y, i, u1, u4, u5, u6, u7, u8, u9, u10, u11, rfl, rfl, hy, hi, hl⟩
    have HL := hid hl; have HX := hid hx
    have hm : Int.tmod (y : Int) 2 = ((y % 2 : Nat) : Int) := by rw [Int.tmod_eq_emod_of_nonneg (by omega)]; omega
    by_cases he : y % 2 = 0
    · rw [he] at hm
      have hlv : (i : Int) = (lv x : Int) := by rw [lv_even he] at hl; omega
      have HLV := hid hlv
      clear hl hx hlv
      go_wp2
      simp only [Exit.jump]
      go_ret
      exact ⟨by first | rfl | (rw [HLV.out]; rfl), rfl⟩
    · rw [show y % 2 = 1 by omega] at hm
      have hw1 : wrap64 ((y : Int) / 2) = (y : Int) / 2 := wrap64_in (by omega) (by omega)
      have hw2 : wrap64 ((i : Int) + 1) = (i : Int) + 1 := wrap64_in (by omega) (by omega)
      have hy1 : 0 < y := by omega
      have hlv : i + 1 + lv (y / 2) = lv x := by rw [lv_odd (by omega)] at hl; omega
      have HLV := hid hlv
      clear hl hx hlv
      go_wp2
      go_step3
      exact ⟨rfl, ⟨y / 2, i + 1, _, _, _, _, _, _, _, _, _, rfl, rfl, by omega, by omega, HLV.out⟩, by simp; omega⟩
theorem isNode_yes (x : Int) (W : World) (h : inT x 65536) : Calls Try.prog 92 #[.int .i64 x] W fun e w' => e = .returned (.bool true) ∧ w' = W := by
  obtain ⟨h1, h2⟩ := inT_b.1 h
  clear h
  go_enter Try.func92, Try.ntmps92
  go_wp2
  go_ret
  exact ⟨rfl, rfl⟩
theorem isNode_no (x : Int) (W : World) (h : ¬ inT x 65536) : Calls Try.prog 92 #[.int .i64 x] W fun e w' => e = .returned (.bool false) ∧ w' = W := by
  by_cases h1 : 0 ≤ x
  · have h2 : ¬ x ≤ 131070 := fun h2 => h (inT_b.2 ⟨h1, h2⟩)
    clear h
    go_enter Try.func92, Try.ntmps92
    go_wp2
    go_ret
    exact ⟨rfl, rfl⟩
  · clear h
    go_enter Try.func92, Try.ntmps92
    go_wp2
    go_ret
    exact ⟨rfl, rfl⟩
theorem shl_q (a l : Nat) (z : Int) (hz : z = (l : Int)) (hl : l ≤ 17) (ha : a ≤ 2) : Op.shift .shl .i64 (a : Int) .i64 z = pure (.int .i64 ((a * 2 ^ l : Nat) : Int)) := by
  subst hz
  have h1 : a * 2 ^ l ≤ 2 * 2 ^ 17 := Nat.mul_le_mul ha (Nat.pow_le_pow_right (by decide) hl)
  rw [shift_shl .i64 .i64 (a : Int) (l : Int) (by omega) (by simp only [IntKind.bits]; omega), Int.toNat_natCast]
  have h2 : ((a : Int) * 2 ^ l) = ((a * 2 ^ l : Nat) : Int) := by push_cast; rfl
  rw [h2]
  congr 2
  exact IntWalk.i64_in _ (by omega)
theorem xor_q (a b : Nat) (ha : a ≤ 1000000) (hb : b ≤ 1000000) : bits .xor .i64 (a : Int) (b : Int) = ((a ^^^ b : Nat) : Int) := by
  have hx : a ^^^ b < 2 ^ 63 := Nat.xor_lt_two_pow (by omega) (by omega)
  show IntKind.i64.wrap ((BitVec.ofInt 64 (a : Int) ^^^ BitVec.ofInt 64 (b : Int)).toNat : Int) = _
  rw [BitVec.toNat_xor, ofInt_q64 a (by omega), ofInt_q64 b (by omega)]
  exact IntWalk.i64_in _ (by omega)
theorem beside_any (q l k : Nat) (W : World) (hq : q < 2 ^ k) (hk : l + k ≤ 16) : Calls Try.prog 82 #[.int .i64 (nd q l : Int)] W fun e w' => e = .returned (.int .i64 (nd (sbq q) l : Int)) ∧ w' = W := by
  have HL := hid (lev_any (nd q l) W (by have := nd_lt hq hk; omega))
  rw [lv_nd] at HL
  have hS : Op.shift .shl .i64 2 .i64 (l : Int) = pure (.int .i64 ((2 * 2 ^ l : Nat) : Int)) := shl_q 2 l l rfl (by omega) (by decide)
  have hX := xor_q (nd q l) (2 * 2 ^ l) (by have := nd_lt hq hk; omega) (by rw [← pow1]; have := Nat.pow_le_pow_right (n := 2) (by decide) (by omega : l + 1 ≤ 17); omega)
  rw [← pow1] at hX hS
  rw [nd_xor] at hX
  obtain ⟨y, hy⟩ : ∃ y : Int, y = (nd (sbq q) l : Int) := ⟨_, rfl⟩
  obtain ⟨x, hx⟩ : ∃ x : Int, x = (nd q l : Int) := ⟨_, rfl⟩
  obtain ⟨z, hz⟩ : ∃ z : Int, z = (l : Int) := ⟨_, rfl⟩
  obtain ⟨p, hp⟩ : ∃ p : Int, p = ((2 ^ (l + 1) : Nat) : Int) := ⟨_, rfl⟩
  rw [← hx, ← hz] at HL
  rw [← hx, ← hy, ← hp] at hX
  rw [← hz, ← hp] at hS
  rw [← hx, ← hy]
  clear hx hy hz hp
  go_enter Try.func82, Try.ntmps82
  go_wp2_with fail
  refine HL.out.mono ?_
  rintro e w1 ⟨rfl, rfl⟩
  clear HL
  go_wp2
  go_ret
  exact ⟨rfl, rfl⟩
theorem above_any (q l k : Nat) (W : World) (hq : q < 2 ^ k) (hk : l + k ≤ 16) : Calls Try.prog 81 #[.int .i64 (nd q l : Int)] W fun e w' => e = .returned (.int .i64 (nd (q / 2) (l + 1) : Int)) ∧ w' = W := by
  have HB := hid (beside_any q l k W hq hk)
  have h1 := nd_lt hq hk
  have h2 := sbq_nd q l
  obtain ⟨x, hx⟩ : ∃ x, x = nd q l := ⟨_, rfl⟩
  obtain ⟨y, hy⟩ : ∃ x, x = nd (sbq q) l := ⟨_, rfl⟩
  obtain ⟨z, hz⟩ : ∃ x, x = nd (q / 2) (l + 1) := ⟨_, rfl⟩
  have h3 : y ≤ 1000000 := by
    rw [hy]
    cases k with
    | zero => have hq0 : q = 0 := by simpa using hq
              subst hq0
              have h5 : nd (sbq 0) l ≤ 3 * 2 ^ l := by unfold nd sbq; rw [if_pos (by decide), pow1]; omega
              have h6 := pow_le16 (h := l) (by omega)
              omega
    | succ k => have := nd_lt (sbq_lt hq) hk; omega
  rw [← hx, ← hy] at HB h2
  rw [← hz] at h2
  rw [← hx] at h1
  rw [← hx, ← hz]
  have hw1 : wrap64 ((x : Int) + (y : Int)) = (x : Int) + (y : Int) := wrap64_in (by omega) (by omega)
  have hw2 : ((x : Int) + (y : Int)) / 2 = (z : Int) := by omega
  have hw3 : Int.tdiv ((x : Int) + (y : Int)) 2 = (z : Int) := by rw [Int.tdiv_eq_ediv_of_nonneg (by omega)]; exact hw2
  have hw4 : wrap64 (z : Int) = (z : Int) := wrap64_in (by omega) (by omega)
  clear hx hy hz h1 h2 h3 hq hk hw2
  go_enter Try.func81, Try.ntmps81
  go_wp2_with fail
  refine HB.out.mono ?_
  rintro e w1 ⟨rfl, rfl⟩
  clear HB
  go_wp2
  go_ret
  exact ⟨by show Ending.returned (.int .i64 (wrap64 (z : Int))) = _; rw [hw4], rfl⟩
theorem and_q (a b : Nat) (ha : a ≤ 1000000) (hb : b ≤ 1000000) : bits .and .i64 (a : Int) (b : Int) = ((a &&& b : Nat) : Int) := by
  have hx : a &&& b < 2 ^ 63 := Nat.and_lt_two_pow _ (by omega)
  show IntKind.i64.wrap ((BitVec.ofInt 64 (a : Int) &&& BitVec.ofInt 64 (b : Int)).toNat : Int) = _
  rw [BitVec.toNat_and, ofInt_q64 a (by omega), ofInt_q64 b (by omega)]
  exact IntWalk.i64_in _ (by omega)
theorem fit_and {m : Nat} (h1 : 1 ≤ m) (h2 : m ≤ 65536) : fitB (m : Int) = true ↔ m &&& (m - 1) = 0 := by
  rw [Nat.and_sub_one_eq_zero_iff_isPowerOfTwo (by omega), fitB_iff]
  constructor
  · rintro ⟨h, -, he⟩
    exact ⟨h, by omega⟩
  · rintro ⟨h, rfl⟩
    refine ⟨h, ?_, rfl⟩
    rcases Nat.lt_or_ge 16 h with hlt | hge
    · have := Nat.pow_le_pow_right (n := 2) (by decide) (show 17 ≤ h from hlt)
      omega
    · exact hge
theorem Fits_e (n : Int) (W : World) (hn : I64 n) : Calls Try.prog 64 #[.int .i64 n] W fun e w' => e = .returned (.bool (fitB n)) ∧ w' = W := by
  obtain ⟨f, hf⟩ : ∃ f, f = fitB n := ⟨_, rfl⟩
  rw [← hf]
  have hno : ¬ (1 ≤ n ∧ n ≤ 65536) → f = false := by
    rw [hf]
    intro h
    rw [Bool.eq_false_iff]
    intro h2
    obtain ⟨j, hj, rfl⟩ := (fitB_iff n).1 h2
    have h3 := pow_le16 hj
    have h4 := Nat.one_le_two_pow (n := j)
    exact h ⟨by omega, by omega⟩
  by_cases h1 : 1 ≤ n
  · by_cases h2 : n ≤ 65536
    · obtain ⟨m, rfl⟩ := Int.eq_ofNat_of_zero_le (show 0 ≤ n by omega)
      have ha := and_q m (m - 1) (by omega) (by omega)
      have hfa := fit_and (m := m) (by omega) (by omega)
      have hw : wrap64 ((m : Int) - 1) = (m : Int) - 1 := wrap64_in (by omega) (by omega)
      rw [show ((m - 1 : Nat) : Int) = (m : Int) - 1 by omega] at ha
      obtain ⟨t, ht⟩ : ∃ t : Nat, t = m &&& (m - 1) := ⟨_, rfl⟩
      rw [← ht] at ha hfa
      rw [← hf] at hfa
      have HA := hid ha
      clear hn hno hf ht ha
      by_cases h0 : t = 0
      · obtain rfl := hfa.2 h0
        subst h0
        clear hfa
        go_enter Try.func64, Try.ntmps64
        go_wp2
        go_ret
        refine ⟨?_, rfl⟩
        show Ending.returned (.bool (bits .and .i64 (m : Int) ((m : Int) - 1) == 0)) = _
        rw [HA.out]
        first | rfl | (congr 2; exact beq_false_of_ne h0')
      · have hff : f = false := by
          rw [Bool.eq_false_iff]
          exact fun h => h0 (hfa.1 h)
        subst hff
        have h0' : ¬ (t : Int) = 0 := by omega
        clear hfa
        go_enter Try.func64, Try.ntmps64
        go_wp2
        go_ret
        refine ⟨?_, rfl⟩
        show Ending.returned (.bool (bits .and .i64 (m : Int) ((m : Int) - 1) == 0)) = _
        rw [HA.out]
        first | rfl | (congr 2; exact beq_false_of_ne h0')
    · obtain rfl := hno (fun h => h2 h.2)
      clear hn hno hf
      go_enter Try.func64, Try.ntmps64
      go_wp2
      go_ret
      exact ⟨rfl, rfl⟩
  · obtain rfl := hno (fun h => h1 h.1)
    clear hn hno hf
    go_enter Try.func64, Try.ntmps64
    go_wp2
    go_ret
    exact ⟨rfl, rfl⟩
theorem isOf_e (x n : Int) (W : World) (hn : I64 n) : Calls Try.prog 102 #[.int .i64 x, .int .i64 n] W fun e w' => e = .returned (.bool (inB x n)) ∧ w' = W := by
  have HF := hid (Fits_e n W hn)
  by_cases hf : fitB n = true
  · have hb : 1 ≤ n ∧ n ≤ 65536 := by
      obtain ⟨j, h1, rfl⟩ := (fitB_iff n).1 hf
      have := pow_le16 h1
      have := Nat.one_le_two_pow (n := j)
      omega
    have hw1 : wrap64 (n - 1) = n - 1 := wrap64_in (by omega) (by omega)
    have hw2 : wrap64 (2 * (n - 1)) = 2 * (n - 1) := wrap64_in (by omega) (by omega)
    obtain ⟨f, hff⟩ : ∃ f, f = inB x n := ⟨_, rfl⟩
    rw [← hff]
    have hff2 : f = (decide (0 ≤ x) && decide (x ≤ 2 * (n - 1))) := by
      rw [hff]; unfold inB; rw [hf, Bool.true_and, show 2 * (n - 1) = 2 * n - 2 by omega]
    rw [hf] at HF
    clear hff hf hn hb
    by_cases h0 : 0 ≤ x
    · by_cases h1 : x ≤ 2 * (n - 1)
      · rw [decide_eq_true h0, decide_eq_true h1] at hff2
        subst hff2
        go_enter Try.func102, Try.ntmps102
        go_wp2_with fail
        refine HF.out.mono ?_
        rintro e w1 ⟨rfl, rfl⟩
        clear HF
        go_wp2
        go_ret
        exact ⟨rfl, rfl⟩
      · rw [decide_eq_true h0, decide_eq_false h1] at hff2
        subst hff2
        go_enter Try.func102, Try.ntmps102
        go_wp2_with fail
        refine HF.out.mono ?_
        rintro e w1 ⟨rfl, rfl⟩
        clear HF
        go_wp2
        go_ret
        exact ⟨by first | rfl | (show Ending.returned (.bool (decide (x ≤ 2 * (n - 1)))) = _; rw [decide_eq_false (Int.not_le.2 h1)]; rfl), rfl⟩
    · rw [decide_eq_false h0, Bool.false_and] at hff2
      subst hff2
      go_enter Try.func102, Try.ntmps102
      go_wp2_with fail
      refine HF.out.mono ?_
      rintro e w1 ⟨rfl, rfl⟩
      clear HF
      go_wp2
      go_ret
      exact ⟨rfl, rfl⟩
  · have hff : fitB n = false := by simpa using hf
    have hi : inB x n = false := by unfold inB; rw [hff]; rfl
    rw [hff] at HF
    rw [hi]
    clear hn hff hi hf
    go_enter Try.func102, Try.ntmps102
    go_wp2_with fail
    refine HF.out.mono ?_
    rintro e w1 ⟨rfl, rfl⟩
    clear HF
    go_wp2
    go_ret
    exact ⟨rfl, rfl⟩
theorem Root_e (n : Int) (W : World) (hn : I64 n) : Calls Try.prog 43 #[.int .i64 n] W fun e w' => e = .returned (.int .i64 (rootZ n)) ∧ w' = W := by
  have HF := hid (Fits_e n W hn)
  unfold rootZ
  by_cases hf : fitB n = true
  · have hb : 1 ≤ n ∧ n ≤ 65536 := by
      obtain ⟨j, h1, rfl⟩ := (fitB_iff n).1 hf
      have := pow_le16 h1
      have := Nat.one_le_two_pow (n := j)
      omega
    have hw1 : wrap64 (n - 1) = n - 1 := wrap64_in (by omega) (by omega)
    rw [if_pos hf]
    rw [hf] at HF
    clear hf hn hb
    go_enter Try.func43, Try.ntmps43
    go_wp2_with fail
    refine HF.out.mono ?_
    rintro e w1 ⟨rfl, rfl⟩
    clear HF
    go_wp2
    go_ret
    exact ⟨by first | rfl | (show Ending.returned (.int .i64 (wrap64 (n - 1))) = _; rw [hw1]), rfl⟩
  · have hff : fitB n = false := by simpa using hf
    rw [if_neg hf]
    rw [hff] at HF
    clear hn hff hf
    go_enter Try.func43, Try.ntmps43
    go_wp2_with fail
    refine HF.out.mono ?_
    rintro e w1 ⟨rfl, rfl⟩
    clear HF
    go_wp2
    go_ret
    exact ⟨rfl, rfl⟩
theorem root_nd (h : Nat) : nd 0 h = 2 ^ h - 1 := by unfold nd; omega
theorem i64_pow {h : Nat} (hh : h ≤ 16) : I64 ((2 ^ h : Nat) : Int) := by
  have h1 := pow_le16 hh
  obtain ⟨P, hP⟩ : ∃ P, P = 2 ^ h := ⟨_, rfl⟩
  rw [← hP] at h1 ⊢
  exact ⟨by omega, by omega⟩
theorem rootZ_pow {h : Nat} (hh : h ≤ 16) : rootZ ((2 ^ h : Nat) : Int) = (nd 0 h : Int) := by
  have := Nat.one_le_two_pow (n := h)
  unfold rootZ; rw [fitB_pow hh, if_pos rfl, root_nd]; omega
theorem hasParent_yes (q l k : Nat) (W : World) (hq : q < 2 ^ (k + 1)) (hk : l + (k + 1) ≤ 16) : Calls Try.prog 80 #[.int .i64 (nd q l : Int), .int .i64 ((2 ^ (l + (k + 1)) : Nat) : Int)] W fun e w' => e = .returned (.bool true) ∧ w' = W := by
  have HF := hid (isOf_e (nd q l) ((2 ^ (l + (k + 1)) : Nat) : Int) W (i64_pow hk))
  rw [inB_nd hq hk] at HF
  have HR := hid (Root_e ((2 ^ (l + (k + 1)) : Nat) : Int) W (i64_pow hk))
  rw [rootZ_pow hk] at HR
  have hne : ¬ (nd q l : Int) = (nd 0 (l + (k + 1)) : Int) := fun h => by have := (nd_inj (show nd q l = nd 0 (l + (k + 1)) by omega)).2; omega
  obtain ⟨x, hx⟩ : ∃ x : Int, x = (nd q l : Int) := ⟨_, rfl⟩
  obtain ⟨y, hy⟩ : ∃ x : Int, x = (nd 0 (l + (k + 1)) : Int) := ⟨_, rfl⟩
  obtain ⟨n, hn⟩ : ∃ x : Int, x = ((2 ^ (l + (k + 1)) : Nat) : Int) := ⟨_, rfl⟩
  rw [← hx, ← hn] at HF
  rw [← hn, ← hy] at HR
  rw [← hx, ← hy] at hne
  rw [← hx, ← hn]
  clear hx hy hn hq hk
  go_enter Try.func80, Try.ntmps80
  go_wp2_with fail
  refine HF.out.mono ?_
  rintro e w1 ⟨rfl, rfl⟩
  clear HF
  go_wp2_with fail
  refine HR.out.mono ?_
  rintro e w1 ⟨rfl, rfl⟩
  clear HR
  go_wp2
  go_ret
  exact ⟨by first | rfl | (simp [hne]), rfl⟩
theorem hasParent_root (l : Nat) (W : World) (hk : l ≤ 16) : Calls Try.prog 80 #[.int .i64 (nd 0 l : Int), .int .i64 ((2 ^ l : Nat) : Int)] W fun e w' => e = .returned (.bool false) ∧ w' = W := by
  have HF := hid (isOf_e (nd 0 l) ((2 ^ l : Nat) : Int) W (i64_pow hk))
  have h1 := inB_nd (q := 0) (l := l) (k := 0) (by decide) hk
  rw [Nat.add_zero] at h1
  rw [h1] at HF
  have HR := hid (Root_e ((2 ^ l : Nat) : Int) W (i64_pow hk))
  rw [rootZ_pow hk] at HR
  obtain ⟨x, hx⟩ : ∃ x : Int, x = (nd 0 l : Int) := ⟨_, rfl⟩
  obtain ⟨n, hn⟩ : ∃ x : Int, x = ((2 ^ l : Nat) : Int) := ⟨_, rfl⟩
  rw [← hx, ← hn] at HF HR
  rw [← hx, ← hn]
  clear hx hn hk h1
  go_enter Try.func80, Try.ntmps80
  go_wp2_with fail
  refine HF.out.mono ?_
  rintro e w1 ⟨rfl, rfl⟩
  clear HF
  go_wp2_with fail
  refine HR.out.mono ?_
  rintro e w1 ⟨rfl, rfl⟩
  clear HR
  go_wp2
  go_ret
  exact ⟨by first | rfl | (simp), rfl⟩
theorem hasChildren_no (x : Int) (W : World) (h : ¬ inT x 65536) : Calls Try.prog 90 #[.int .i64 x] W fun e w' => e = .returned (.bool false) ∧ w' = W := by
  have HF := hid (isNode_no x W h)
  clear h
  go_enter Try.func90, Try.ntmps90
  go_wp2_with fail
  refine HF.out.mono ?_
  rintro e w1 ⟨rfl, rfl⟩
  clear HF
  go_wp2
  go_ret
  exact ⟨rfl, rfl⟩
theorem hasChildren_e (x : Nat) (W : World) (h : inT x 65536) : Calls Try.prog 90 #[.int .i64 (x : Int)] W fun e w' => e = .returned (.bool (decide (x % 2 = 1))) ∧ w' = W := by
  have HF := hid (isNode_yes x W h)
  have hm : Int.tmod (x : Int) 2 = ((x % 2 : Nat) : Int) := by rw [Int.tmod_eq_emod_of_nonneg (by omega)]; omega
  clear h
  by_cases he : x % 2 = 1
  · rw [he] at hm ⊢
    go_enter Try.func90, Try.ntmps90
    go_wp2_with fail
    refine HF.out.mono ?_
    rintro e w1 ⟨rfl, rfl⟩
    clear HF
    go_wp2
    go_ret
    exact ⟨rfl, rfl⟩
  · rw [show x % 2 = 0 by omega] at hm ⊢
    go_enter Try.func90, Try.ntmps90
    go_wp2_with fail
    refine HF.out.mono ?_
    rintro e w1 ⟨rfl, rfl⟩
    clear HF
    go_wp2
    go_ret
    exact ⟨rfl, rfl⟩
theorem reach_e (q l k : Nat) (W : World) (hq : q < 2 ^ k) (hk : l + 1 + k ≤ 16) : Calls Try.prog 91 #[.int .i64 (nd q (l + 1) : Int)] W fun e w' => e = .returned (.int .i64 ((2 ^ l : Nat) : Int)) ∧ w' = W := by
  have HL := hid (lev_any (nd q (l + 1)) W (by have := nd_lt hq hk; omega))
  rw [lv_nd] at HL
  have hw : wrap64 (((l + 1 : Nat) : Int) - 1) = (l : Int) := (wrap64_in (by omega) (by omega)).trans (by omega)
  have hS : Op.shift .shl .i64 1 .i64 (l : Int) = pure (.int .i64 ((1 * 2 ^ l : Nat) : Int)) := shl_q 1 l l rfl (by omega) (by decide)
  rw [Nat.one_mul] at hS
  obtain ⟨x, hx⟩ : ∃ x : Int, x = (nd q (l + 1) : Int) := ⟨_, rfl⟩
  obtain ⟨z, hz⟩ : ∃ z : Int, z = ((l + 1 : Nat) : Int) := ⟨_, rfl⟩
  obtain ⟨z1, hz1⟩ : ∃ z : Int, z = (l : Int) := ⟨_, rfl⟩
  obtain ⟨y, hy⟩ : ∃ z : Int, z = ((2 ^ l : Nat) : Int) := ⟨_, rfl⟩
  rw [← hx, ← hz] at HL
  rw [← hz, ← hz1] at hw
  rw [← hx, ← hy]
  rw [← hz1, ← hy] at hS
  clear hx hy hq hk hz hz1
  go_enter Try.func91, Try.ntmps91
  go_wp2_with fail
  refine HL.out.mono ?_
  rintro e w1 ⟨rfl, rfl⟩
  clear HL
  go_wp2
  go_ret
  exact ⟨rfl, rfl⟩
theorem ends_e (q l k : Nat) (W : World) (hq : q < 2 ^ k) (hk : l + k ≤ 16) : Calls Try.prog 93 #[.int .i64 (nd q l : Int)] W fun e w' => e = .returned (.tuple #[.int .i64 (loN q l : Int), .int .i64 (hiN q l : Int)]) ∧ w' = W := by
  have h0 := nd_lt hq hk
  have HL := hid (lev_any (nd q l) W (by omega))
  rw [lv_nd] at HL
  have hS : Op.shift .shl .i64 1 .i64 (l : Int) = pure (.int .i64 ((1 * 2 ^ l : Nat) : Int)) := shl_q 1 l l rfl (by omega) (by decide)
  rw [Nat.one_mul] at hS
  have h1 := lo_nd q l
  have h2 := nd_hi q l
  have hp := Nat.one_le_two_pow (n := l)
  have hp2 := pow_le16 (h := l) (by omega)
  obtain ⟨P, hP⟩ : ∃ x, x = 2 ^ l := ⟨_, rfl⟩
  rw [← hP] at hS h1 h2 hp hp2
  obtain ⟨x, hx⟩ : ∃ x, x = nd q l := ⟨_, rfl⟩
  obtain ⟨a, ha⟩ : ∃ x, x = loN q l := ⟨_, rfl⟩
  obtain ⟨b, hb⟩ : ∃ x, x = hiN q l := ⟨_, rfl⟩
  obtain ⟨z, hz⟩ : ∃ z : Int, z = (l : Int) := ⟨_, rfl⟩
  rw [← hx] at HL h0 h1 h2
  rw [← hz] at HL hS
  rw [← hb] at h2
  rw [← ha] at h1
  rw [← hx, ← ha, ← hb]
  have hw1 : wrap64 ((P : Int) - 1) = (P : Int) - 1 := wrap64_in (by omega) (by omega)
  have hw2 : wrap64 ((x : Int) - ((P : Int) - 1)) = (a : Int) := (wrap64_in (by omega) (by omega)).trans (by omega)
  have hw3 : wrap64 ((x : Int) + ((P : Int) - 1)) = (b : Int) := (wrap64_in (by omega) (by omega)).trans (by omega)
  clear hx ha hb hz h0 h1 h2 hp hp2 hP hq hk
  go_enter Try.func93, Try.ntmps93
  go_wp2_with fail
  refine HL.out.mono ?_
  rintro e w1 ⟨rfl, rfl⟩
  clear HL
  go_wp2
  refine bodyPost_ret (v := .tuple #[.int .i64 (wrap64 ((x : Int) - ((P : Int) - 1))), .int .i64 (wrap64 ((x : Int) + ((P : Int) - 1)))]) (by simp [results, Try.results93, go_sem]) rfl ⟨?_, rfl⟩
  rw [hw2, hw3]
end Go.Proofs.Ythooibljnfnnhaa
end
section
namespace Go.Proofs.Ythooibljnfnnhaa
open Go Go.RowKit
set_option linter.unusedVariables false
set_option linter.unusedSimpArgs false
theorem root_ok : WRoot := fun x W hx => (Root_e x W hx).mono fun e w' ⟨h1, h2⟩ => ⟨h1, by rw [h2]; exact Below.refl _ _⟩
theorem left_ok : WLeft := fun x W _ => by
  by_cases h : inT x 65536
  · obtain ⟨q, l, k, hq, hk, rfl⟩ := inT_16' h
    have HC := hid (hasChildren_e (nd q l) W h)
    cases l with
    | zero =>
      rw [leftZ_leaf]
      rw [decide_eq_false (by rw [nd_zero]; omega)] at HC
      obtain ⟨x, hx⟩ : ∃ x : Int, x = (nd q 0 : Int) := ⟨_, rfl⟩
      rw [← hx] at HC ⊢
      clear hx h hq hk
      go_enter Try.func68, Try.ntmps68
      go_wp2_with fail
      refine HC.out.mono ?_
      rintro e w1 ⟨rfl, rfl⟩
      go_wp2
      go_ret
      exact ⟨rfl, Below.refl _ _⟩
    | succ l =>
      rw [leftZ_nd hq hk]
      rw [decide_eq_true (by rw [nd_succ]; omega)] at HC
      have HR := hid (reach_e q l k W hq (by omega))
      have h1 := nd_left q l
      have h2 := nd_lt (l := l + 1) hq (by omega)
      obtain ⟨x, hx⟩ : ∃ x, x = nd q (l + 1) := ⟨_, rfl⟩
      obtain ⟨y, hy⟩ : ∃ x, x = 2 ^ l := ⟨_, rfl⟩
      obtain ⟨z, hz⟩ : ∃ x, x = nd (2 * q) l := ⟨_, rfl⟩
      rw [← hx] at HC HR h1 h2 ⊢
      rw [← hy] at HR h1
      rw [← hz] at h1 ⊢
      have hw : wrap64 ((x : Int) - (y : Int)) = (z : Int) := (wrap64_in (by omega) (by omega)).trans (by omega)
      clear hx hy hz h hq hk h1 h2
      go_enter Try.func68, Try.ntmps68
      go_wp2_with fail
      refine HC.out.mono ?_
      rintro e w1 ⟨rfl, rfl⟩
      go_wp2_with fail
      refine HR.out.mono ?_
      rintro e w1 ⟨rfl, rfl⟩
      go_wp2
      go_ret
      exact ⟨by first | rfl | (show Ending.returned (.int .i64 (wrap64 ((x : Int) - (y : Int)))) = _; rw [hw]), Below.refl _ _⟩
  · have HC := hid (hasChildren_no x W h)
    rw [leftZ_no h]
    clear h
    go_enter Try.func68, Try.ntmps68
    go_wp2_with fail
    refine HC.out.mono ?_
    rintro e w1 ⟨rfl, rfl⟩
    go_wp2
    go_ret
    exact ⟨rfl, Below.refl _ _⟩
theorem right_ok : WRight := fun x W _ => by
  by_cases h : inT x 65536
  · obtain ⟨q, l, k, hq, hk, rfl⟩ := inT_16' h
    have HC := hid (hasChildren_e (nd q l) W h)
    cases l with
    | zero =>
      rw [rightZ_leaf]
      rw [decide_eq_false (by rw [nd_zero]; omega)] at HC
      obtain ⟨x, hx⟩ : ∃ x : Int, x = (nd q 0 : Int) := ⟨_, rfl⟩
      rw [← hx] at HC ⊢
      clear hx h hq hk
      go_enter Try.func69, Try.ntmps69
      go_wp2_with fail
      refine HC.out.mono ?_
      rintro e w1 ⟨rfl, rfl⟩
      go_wp2
      go_ret
      exact ⟨rfl, Below.refl _ _⟩
    | succ l =>
      rw [rightZ_nd hq hk]
      rw [decide_eq_true (by rw [nd_succ]; omega)] at HC
      have HR := hid (reach_e q l k W hq (by omega))
      have h1 := nd_right q l
      have h2 := nd_lt (l := l + 1) hq (by omega)
      have h3 := pow_le16 (h := l) (by omega)
      obtain ⟨x, hx⟩ : ∃ x, x = nd q (l + 1) := ⟨_, rfl⟩
      obtain ⟨y, hy⟩ : ∃ x, x = 2 ^ l := ⟨_, rfl⟩
      obtain ⟨z, hz⟩ : ∃ x, x = nd (2 * q + 1) l := ⟨_, rfl⟩
      rw [← hx] at HC HR h1 h2 ⊢
      rw [← hy] at HR h1 h3
      rw [← hz] at h1 ⊢
      have hw : wrap64 ((x : Int) + (y : Int)) = (z : Int) := (wrap64_in (by omega) (by omega)).trans (by omega)
      clear hx hy hz h hq hk h1 h2 h3
      go_enter Try.func69, Try.ntmps69
      go_wp2_with fail
      refine HC.out.mono ?_
      rintro e w1 ⟨rfl, rfl⟩
      go_wp2_with fail
      refine HR.out.mono ?_
      rintro e w1 ⟨rfl, rfl⟩
      go_wp2
      go_ret
      exact ⟨by first | rfl | (show Ending.returned (.int .i64 (wrap64 ((x : Int) + (y : Int)))) = _; rw [hw]), Below.refl _ _⟩
  · have HC := hid (hasChildren_no x W h)
    rw [rightZ_no h]
    clear h
    go_enter Try.func69, Try.ntmps69
    go_wp2_with fail
    refine HC.out.mono ?_
    rintro e w1 ⟨rfl, rfl⟩
    go_wp2
    go_ret
    exact ⟨rfl, Below.refl _ _⟩
theorem span_ok : WSpan := fun x W _ => by
  by_cases h : inT x 65536
  · have HI := hid (isNode_yes x W h)
    obtain ⟨q, l, k, hq, hk, rfl⟩ := inT_16' h
    rw [firstZ_nd hq hk, lastZ_nd hq hk]
    have HE := hid (ends_e q l k W hq (by omega))
    have h1 : loN q l = 2 * (q * 2 ^ l) := by unfold loN; rw [pow1, ← Nat.mul_assoc, Nat.mul_comm q 2, Nat.mul_assoc]
    have h2 : hiN q l = 2 * ((q + 1) * 2 ^ l - 1) := by
      have e1 : hiN q l = loN q l + (2 ^ (l + 1) - 2) := rfl
      have := Nat.one_le_two_pow (n := l)
      rw [e1, h1, pow1, Nat.add_mul, Nat.one_mul]; omega
    have h3 := hi_bound (l := l) hq
    have h4 := pow_le16 (show l + k ≤ 16 by omega)
    have h5 : loN q l ≤ hiN q l := Nat.le_trans (lo_le q l) (le_hi q l)
    obtain ⟨x, hx⟩ : ∃ x : Int, x = (nd q l : Int) := ⟨_, rfl⟩
    obtain ⟨a, ha⟩ : ∃ x, x = loN q l := ⟨_, rfl⟩
    obtain ⟨b, hb⟩ : ∃ x, x = hiN q l := ⟨_, rfl⟩
    obtain ⟨a', ha'⟩ : ∃ x, x = q * 2 ^ l := ⟨_, rfl⟩
    obtain ⟨b', hb'⟩ : ∃ x, x = (q + 1) * 2 ^ l - 1 := ⟨_, rfl⟩
    rw [← hx] at HI HE ⊢
    rw [← ha, ← hb] at HE h5
    rw [← ha, ← ha'] at h1
    rw [← hb, ← hb'] at h2
    rw [← hb] at h3
    rw [← ha', ← hb']
    have hw1 : Int.tdiv (a : Int) 2 = (a' : Int) := by rw [Int.tdiv_eq_ediv_of_nonneg (by omega)]; omega
    have hw2 : Int.tdiv (b : Int) 2 = (b' : Int) := by rw [Int.tdiv_eq_ediv_of_nonneg (by omega)]; omega
    have hw3 : wrap64 (a' : Int) = (a' : Int) := wrap64_in (by omega) (by omega)
    have hw4 : wrap64 (b' : Int) = (b' : Int) := wrap64_in (by omega) (by omega)
    clear hx ha hb ha' hb' h1 h2 h3 h4 h5 h hq hk
    go_enter Try.func72, Try.ntmps72
    go_wp2_with fail
    refine HI.out.mono ?_
    rintro e w1 ⟨rfl, rfl⟩
    go_wp2_with fail
    refine HE.out.mono ?_
    rintro e w1 ⟨rfl, rfl⟩
    go_wp2
    go_ret2
    exact ⟨by first | rfl | (show Ending.returned (.tuple #[.int .i64 (wrap64 (a' : Int)), .int .i64 (wrap64 (b' : Int))]) = _; rw [hw3, hw4]), Below.refl _ _⟩
  · have HI := hid (isNode_no x W h)
    rw [firstZ_no h, lastZ_no h]
    clear h
    go_enter Try.func72, Try.ntmps72
    go_wp2_with fail
    refine HI.out.mono ?_
    rintro e w1 ⟨rfl, rfl⟩
    go_wp2
    go_ret2
    exact ⟨rfl, Below.refl _ _⟩
end Go.Proofs.Ythooibljnfnnhaa
end
section
namespace Go.Proofs.Ythooibljnfnnhaa
open Go Go.RowKit
set_option linter.unusedVariables false
set_option linter.unusedSimpArgs false
/-- A step on the way up: the r-th from the root. -/
theorem way_lt {q k r : Nat} (h : q < 2 ^ k) (hr : r ≤ k) : q / 2 ^ (k - r) < 2 ^ r := by
  have h2 := div_lt h (r := k - r) (by omega)
  rwa [show k - (k - r) = r by omega] at h2
set_option maxHeartbeats 1000000 in
theorem path_e (q l k : Nat) (W : World) (hq : q < 2 ^ k) (hk : l + k ≤ 16) : Calls Try.prog 59 #[.int .i64 (nd q l : Int), .int .i64 ((2 ^ (l + k) : Nat) : Int)] W (OwnLn W (pathL q l k)) := by
  have HK : Hid (k ≤ 16) := hid (by omega)
  obtain ⟨n, hn⟩ : ∃ n : Int, n = ((2 ^ (l + k) : Nat) : Int) := ⟨_, rfl⟩
  have HR : Hid (∀ W, Calls Try.prog 80 #[.int .i64 (nd (q / 2 ^ (k - 0)) (l + (k - 0)) : Int), .int .i64 n] W fun e w' => e = .returned (.bool false) ∧ w' = W) := hid fun W => by
    have h := hasParent_root (l + k) W hk
    rw [Nat.sub_zero, Nat.div_eq_of_lt hq, hn]; exact h
  have HP : Hid (∀ r W, r + 1 ≤ k → Calls Try.prog 80 #[.int .i64 (nd (q / 2 ^ (k - (r + 1))) (l + (k - (r + 1))) : Int), .int .i64 n] W fun e w' => e = .returned (.bool true) ∧ w' = W) := hid fun r W hr => by
    have h := hasParent_yes (q / 2 ^ (k - (r + 1))) (l + (k - (r + 1))) r W (way_lt hq hr) (by omega)
    rw [show l + (k - (r + 1)) + (r + 1) = l + k by omega, ← hn] at h
    exact h
  have HA : Hid (∀ r W, r + 1 ≤ k → Calls Try.prog 81 #[.int .i64 (nd (q / 2 ^ (k - (r + 1))) (l + (k - (r + 1))) : Int)] W fun e w' => e = .returned (.int .i64 (nd (q / 2 ^ (k - r)) (l + (k - r)) : Int)) ∧ w' = W) := hid fun r W hr => by
    have h := above_any (q / 2 ^ (k - (r + 1))) (l + (k - (r + 1))) (r + 1) W (way_lt hq hr) (by omega)
    rw [Nat.div_div_eq_div_mul, ← Nat.pow_succ, show (k - (r + 1)).succ = k - r by omega, show l + (k - (r + 1)) + 1 = l + (k - r) by omega] at h
    exact h
  rw [← hn]
  have hx0 : (nd q l : Int) = (nd (q / 2 ^ (k - k)) (l + (k - k)) : Int) := by rw [Nat.sub_self, Nat.pow_zero, Nat.div_one, Nat.add_zero]
  obtain ⟨x, hx⟩ : ∃ x : Int, x = (nd q l : Int) := ⟨_, rfl⟩
  rw [← hx] at hx0 ⊢
  clear hn hq hk hx
  go_enter Try.func59, Try.ntmps59
  go_wp2
  go_loopg [0, 5] k (fun r xv out wr => r ≤ k ∧ xv = .int .i64 (nd (q / 2 ^ (k - r)) (l + (k - r)) : Int) ∧ OwnI wr W.heap.size out ((pathL q l k).take (k - r)) ∧ Below W.heap.size W wr)
  case atStart => exact ⟨Nat.le_refl _, by rw [hx0], by rw [Nat.sub_self]; exact owni_nil _ _, Below.refl _ _⟩
  case round =>
    obtain ⟨hr, rfl, ho, hb⟩ := hrel
    have hlen : ((pathL q l k).take (k - gk)).length = k - gk := by rw [List.length_take, pathL_length]; omega
    cases gk with
    | zero =>
      have HRr := hid (HR.out wr)
      rw [Nat.sub_zero] at ho
      rw [List.take_of_length_le (by rw [pathL_length]; exact Nat.le_refl _)] at ho
      obtain ⟨y, hy⟩ : ∃ y : Int, y = (nd (q / 2 ^ (k - 0)) (l + (k - 0)) : Int) := ⟨_, rfl⟩
      rw [← hy] at HRr ⊢
      have HO := hid ho; have HB := hid hb
      clear ho hb hlen hr hy
      go_wp2_with fail
      refine HRr.out.mono ?_
      rintro e w1 ⟨rfl, rfl⟩
      go_wp2
      go_ret
      exact ⟨_, rfl, HO.out, HB.out⟩
    | succ r =>
      have HPr := hid (HP.out r wr hr)
      have HAr := hid (fun W => HA.out r W hr)
      obtain ⟨y, hy⟩ : ∃ y, y = nd (q / 2 ^ (k - r)) (l + (k - r)) := ⟨_, rfl⟩
      have hsn : (pathL q l k).take (k - (r + 1)) ++ [y] = (pathL q l k).take (k - r) := by
        rw [hy, take_snoc (x := nd (q / 2 ^ (k - r)) (l + (k - r))), show k - (r + 1) + 1 = k - r by omega]
        have h := pathL_get q l k (k - (r + 1)) (by omega)
        rw [show k - (r + 1) + 1 = k - r by omega, show l + (k - (r + 1)) + 1 = l + (k - r) by omega] at h
        exact h
      rw [← hy] at HAr
      obtain ⟨z, hz⟩ : ∃ y : Int, y = (nd (q / 2 ^ (k - (r + 1))) (l + (k - (r + 1))) : Int) := ⟨_, rfl⟩
      rw [← hz] at HAr HPr ⊢
      have HSN := hid hsn; have HO := hid ho; have HBB := hid hb; have HLN := hid hlen; have HRK := hid hr; have HY := hid hy
      clear hy hz hsn ho hb hlen hr
      go_wp2_with fail
      refine HPr.out.mono ?_
      rintro e w1 ⟨rfl, rfl⟩
      clear HPr
      go_wp2_with fail
      refine (HAr.out _).mono ?_
      rintro e w2 ⟨rfl, rfl⟩
      go_wp2_with (at_builtin; refine wpList_append_lie rfl _ _ 30 rfl W.heap.size 3 (.int .i64 0) 8 Try.underlying30 infoI64 rfl rfl (World.ownsRow.alloc HO.out (.cells #[.int .i64 (y : Int)] 3)) rfl rfl (Lie.new1 _ _ _) (by intro u hu; simp at hu; subst hu; rfl) ?d1 ?d2 ?d3 ?_)
      case d1 => rw [HLN.out]; have := HK.out; unfold maxLen; simp; omega
      case d2 => rw [HLN.out]; have := HK.out; simp; omega
      case d3 => have := HBB.out.size; simp; omega
      intro v5 w5 hown5 hg5 _
      have HO5 : Hid (OwnI w5 W.heap.size v5 ((pathL q l k).take (k - r))) := hid (by rw [← HSN.out]; exact owni_snoc hown5 (by rw [List.length_take]) rfl)
      have HB5 : Hid (Below W.heap.size W w5) := hid ((HBB.out.alloc HBB.out.size _).grown hg5 (by have := HBB.out.size; simp; omega) (own_lt HO.out))
      clear hown5 hg5 HSN HO HBB
      go_wp2_with fail
      refine (HAr.out _).mono ?_
      rintro e w6 ⟨rfl, rfl⟩
      clear HAr
      go_wp2
      go_roundg r
      case measure => omega
      case rel => exact ⟨by have := HRK.out; omega, by rw [HY.out], HO5.out, HB5.out⟩
set_option maxHeartbeats 1000000 in
theorem copath_e (q l k : Nat) (W : World) (hq : q < 2 ^ k) (hk : l + k ≤ 16) : Calls Try.prog 58 #[.int .i64 (nd q l : Int), .int .i64 ((2 ^ (l + k) : Nat) : Int)] W (OwnLn W (copL q l k)) := by
  have HK : Hid (k ≤ 16) := hid (by omega)
  obtain ⟨n, hn⟩ : ∃ n : Int, n = ((2 ^ (l + k) : Nat) : Int) := ⟨_, rfl⟩
  have HR : Hid (∀ W, Calls Try.prog 80 #[.int .i64 (nd (q / 2 ^ (k - 0)) (l + (k - 0)) : Int), .int .i64 n] W fun e w' => e = .returned (.bool false) ∧ w' = W) := hid fun W => by
    have h := hasParent_root (l + k) W hk
    rw [Nat.sub_zero, Nat.div_eq_of_lt hq, hn]; exact h
  have HP : Hid (∀ r W, r + 1 ≤ k → Calls Try.prog 80 #[.int .i64 (nd (q / 2 ^ (k - (r + 1))) (l + (k - (r + 1))) : Int), .int .i64 n] W fun e w' => e = .returned (.bool true) ∧ w' = W) := hid fun r W hr => by
    have h := hasParent_yes (q / 2 ^ (k - (r + 1))) (l + (k - (r + 1))) r W (way_lt hq hr) (by omega)
    rw [show l + (k - (r + 1)) + (r + 1) = l + k by omega, ← hn] at h
    exact h
  have HA : Hid (∀ r W, r + 1 ≤ k → Calls Try.prog 81 #[.int .i64 (nd (q / 2 ^ (k - (r + 1))) (l + (k - (r + 1))) : Int)] W fun e w' => e = .returned (.int .i64 (nd (q / 2 ^ (k - r)) (l + (k - r)) : Int)) ∧ w' = W) := hid fun r W hr => by
    have h := above_any (q / 2 ^ (k - (r + 1))) (l + (k - (r + 1))) (r + 1) W (way_lt hq hr) (by omega)
    rw [Nat.div_div_eq_div_mul, ← Nat.pow_succ, show (k - (r + 1)).succ = k - r by omega, show l + (k - (r + 1)) + 1 = l + (k - r) by omega] at h
    exact h
  have HS : Hid (∀ r W, r + 1 ≤ k → Calls Try.prog 82 #[.int .i64 (nd (q / 2 ^ (k - (r + 1))) (l + (k - (r + 1))) : Int)] W fun e w' => e = .returned (.int .i64 (nd (sbq (q / 2 ^ (k - (r + 1)))) (l + (k - (r + 1))) : Int)) ∧ w' = W) := hid fun r W hr =>
    beside_any (q / 2 ^ (k - (r + 1))) (l + (k - (r + 1))) (r + 1) W (way_lt hq hr) (by omega)
  rw [← hn]
  have hx0 : (nd q l : Int) = (nd (q / 2 ^ (k - k)) (l + (k - k)) : Int) := by rw [Nat.sub_self, Nat.pow_zero, Nat.div_one, Nat.add_zero]
  obtain ⟨x, hx⟩ : ∃ x : Int, x = (nd q l : Int) := ⟨_, rfl⟩
  rw [← hx] at hx0 ⊢
  clear hn hq hk hx
  go_enter Try.func58, Try.ntmps58
  go_wp2
  go_loopg [0, 5] k (fun r xv out wr => r ≤ k ∧ xv = .int .i64 (nd (q / 2 ^ (k - r)) (l + (k - r)) : Int) ∧ OwnI wr W.heap.size out ((copL q l k).take (k - r)) ∧ Below W.heap.size W wr)
  case atStart => exact ⟨Nat.le_refl _, by rw [hx0], by rw [Nat.sub_self]; exact owni_nil _ _, Below.refl _ _⟩
  case round =>
    obtain ⟨hr, rfl, ho, hb⟩ := hrel
    have hlen : ((copL q l k).take (k - gk)).length = k - gk := by rw [List.length_take, copL_length]; omega
    cases gk with
    | zero =>
      have HRr := hid (HR.out wr)
      rw [Nat.sub_zero] at ho
      rw [List.take_of_length_le (by rw [copL_length]; exact Nat.le_refl _)] at ho
      obtain ⟨y, hy⟩ : ∃ y : Int, y = (nd (q / 2 ^ (k - 0)) (l + (k - 0)) : Int) := ⟨_, rfl⟩
      rw [← hy] at HRr ⊢
      have HO := hid ho; have HB := hid hb
      clear ho hb hlen hr hy
      go_wp2_with fail
      refine HRr.out.mono ?_
      rintro e w1 ⟨rfl, rfl⟩
      go_wp2
      go_ret
      exact ⟨_, rfl, HO.out, HB.out⟩
    | succ r =>
      have HPr := hid (HP.out r wr hr)
      have HAr := hid (fun W => HA.out r W hr)
      have HSr := hid (HS.out r wr hr)
      obtain ⟨y, hy⟩ : ∃ y, y = nd (q / 2 ^ (k - r)) (l + (k - r)) := ⟨_, rfl⟩
      obtain ⟨u, hu⟩ : ∃ y, y = nd (sbq (q / 2 ^ (k - (r + 1)))) (l + (k - (r + 1))) := ⟨_, rfl⟩
      have hsn : (copL q l k).take (k - (r + 1)) ++ [u] = (copL q l k).take (k - r) := by
        rw [take_snoc (x := u), show k - (r + 1) + 1 = k - r by omega]
        have h := copL_get q l k (k - (r + 1)) (by omega)
        rw [h, hu]
      rw [← hu] at HSr
      rw [← hy] at HAr
      obtain ⟨z, hz⟩ : ∃ y : Int, y = (nd (q / 2 ^ (k - (r + 1))) (l + (k - (r + 1))) : Int) := ⟨_, rfl⟩
      rw [← hz] at HAr HPr HSr ⊢
      have HSN := hid hsn; have HO := hid ho; have HBB := hid hb; have HLN := hid hlen; have HRK := hid hr; have HY := hid hy
      clear hy hz hu hsn ho hb hlen hr
      go_wp2_with fail
      refine HPr.out.mono ?_
      rintro e w1 ⟨rfl, rfl⟩
      clear HPr
      go_wp2_with fail
      refine HSr.out.mono ?_
      rintro e w2 ⟨rfl, rfl⟩
      clear HSr
      go_wp2_with (at_builtin; refine wpList_append_lie rfl _ _ 30 rfl W.heap.size 3 (.int .i64 0) 8 Try.underlying30 infoI64 rfl rfl (World.ownsRow.alloc HO.out (.cells #[.int .i64 (u : Int)] 3)) rfl rfl (Lie.new1 _ _ _) (by intro u' hu; simp at hu; subst hu; rfl) ?d1 ?d2 ?d3 ?_)
      case d1 => rw [HLN.out]; have := HK.out; unfold maxLen; simp; omega
      case d2 => rw [HLN.out]; have := HK.out; simp; omega
      case d3 => have := HBB.out.size; simp; omega
      intro v5 w5 hown5 hg5 _
      have HO5 : Hid (OwnI w5 W.heap.size v5 ((copL q l k).take (k - r))) := hid (by rw [← HSN.out]; exact owni_snoc hown5 (by rw [List.length_take]) rfl)
      have HB5 : Hid (Below W.heap.size W w5) := hid ((HBB.out.alloc HBB.out.size _).grown hg5 (by have := HBB.out.size; simp; omega) (own_lt HO.out))
      clear hown5 hg5 HSN HO HBB
      go_wp2_with fail
      refine (HAr.out _).mono ?_
      rintro e w6 ⟨rfl, rfl⟩
      clear HAr
      go_wp2
      go_roundg r
      case measure => omega
      case rel => exact ⟨by have := HRK.out; omega, by rw [HY.out], HO5.out, HB5.out⟩
end Go.Proofs.Ythooibljnfnnhaa
end
