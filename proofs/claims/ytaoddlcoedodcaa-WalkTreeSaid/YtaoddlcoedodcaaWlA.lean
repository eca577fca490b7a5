/-
  Package walk as it landed: its helpers by number and level of a node.
-/
import Derived.Test.YtaoddlcoedodcaaLaw14b
import Derived.Test.YtaoddlcoedodcaaGoto
namespace Go.Proofs.Ytaoddlcoedodcaa
open Go Go.RowKit
set_option linter.unusedVariables false
set_option linter.unusedSimpArgs false
theorem ofInt_q64 (a : Nat) (ha : a < 9223372036854775808) : (BitVec.ofInt 64 (a : Int)).toNat = a := by
  rw [BitVec.ofInt_natCast, BitVec.toNat_ofNat]; exact Nat.mod_eq_of_lt (by omega)
/-- A bit turned over. -/
theorem nd_xor (q l : Nat) : nd q l ^^^ 2 ^ (l + 1) = nd (sbq q) l := by
  apply Nat.eq_of_testBit_eq
  intro i
  unfold nd
  have hl : 2 ^ l - 1 < 2 ^ (l + 1) := by rw [pow1]; have := Nat.one_le_two_pow (n := l); omega
  rw [Nat.testBit_xor, Nat.mul_comm q, Nat.mul_comm (sbq q), Nat.testBit_two_pow_mul_add _ hl, Nat.testBit_two_pow_mul_add _ hl, Nat.testBit_two_pow]
  by_cases hi : i < l + 1
  · rw [if_pos hi, if_pos hi, decide_eq_false (by omega), Bool.xor_false]
  · rw [if_neg hi, if_neg hi]
    obtain ⟨j, rfl⟩ : ∃ j, i = l + 1 + j := ⟨i - (l + 1), by omega⟩
    rw [Nat.add_sub_cancel_left]
    cases j with
    | zero =>
      rw [Nat.testBit_zero, Nat.testBit_zero, decide_eq_true (by omega : l + 1 = l + 1 + 0)]
      unfold sbq
      split
      · rw [show q % 2 = 0 by assumption, show (q + 1) % 2 = 1 by omega]; rfl
      · rw [show q % 2 = 1 by omega, show (q - 1) % 2 = 0 by omega]; rfl
    | succ j =>
      rw [Nat.testBit_succ, Nat.testBit_succ, sbq_div, decide_eq_false (by omega), Bool.xor_false]
theorem sbq_nd (q l : Nat) : nd q l + nd (sbq q) l = 2 * nd (q / 2) (l + 1) := by
  have h1 := nd_left (q / 2) l
  have h2 := nd_right (q / 2) l
  unfold sbq
  split
  · rw [show q + 1 = 2 * (q / 2) + 1 by omega]
    have h3 : nd q l = nd (2 * (q / 2)) l := by congr 1; omega
    omega
  · rw [show q - 1 = 2 * (q / 2) by omega]
    have h3 : nd q l = nd (2 * (q / 2) + 1) l := by congr 1; omega
    omega
theorem nd_lt {q l k : Nat} (hq : q < 2 ^ k) (hk : l + k ≤ 16) : nd q l ≤ 131070 := by
  have h1 := hi_bound (l := l) hq
  have h2 := le_hi q l
  have h3 := pow_le16 hk
  omega
theorem inT_b {x : Int} : inT x 65536 ↔ 0 ≤ x ∧ x ≤ 131070 := by
  constructor
  · intro h
    obtain ⟨-, h1, h2⟩ := inT_fit h
    exact ⟨h1, by omega⟩
  · rintro ⟨h1, h2⟩
    exact inT_of (by decide) h1 (by omega)
set_option maxHeartbeats 1000000 in
theorem lev_any (x : Nat) (W : World) (hx : x ≤ 1000000) : Calls Try.prog 36 #[.int .i64 (x : Int)] W fun e w' => e = .returned (.int .i64 (lv x : Int)) ∧ w' = W := by
  go_enter Try.func36, Try.ntmps36
  go_wp2
  refine wp_scope_at 0 (fun a' w' => ∃ (y i : Nat) (u1 u4 u5 u6 u7 u8 u9 u10 u11 : Value), a' = { tmps := #[.int .i64 (y : Int), u1, .int .i64 0, .int .i64 (i : Int), u4, u5, u6, u7, u8, u9, u10, u11], defers := [] } ∧ w' = W ∧ y ≤ 1000000 ∧ i + y ≤ 1000000 ∧ i + lv y = lv x) (fun a' _ => match a'.tmps.getD 0 undef with | .int _ z => z.toNat | _ => 0) rfl ?_ ?_
  · intro Qj hQr hJ
    go_wp2
    refine wp_label ?_
    rename_i K hK
    refine hK _ _ (hJ _ _ ⟨x, 0, _, _, _, _, _, _, _, _, _, rfl, rfl, hx, by omega, by omega⟩)
  · rintro a' w' ⟨y, i, u1, u4, u5, u6, u7, u8, u9, u10, u11, rfl, rfl, hy, hi, hl⟩
    have HL := hid hl; have HX := hid hx
    have hm : Int.tmod (y : Int) 2 = ((y % 2 : Nat) : Int) := by rw [Int.tmod_eq_emod_of_nonneg (by omega)]; omega
    by_cases he : y % 2 = 0
    · rw [he] at hm
      have hlv : (i : Int) = (lv x : Int) := by rw [lv_even he] at hl; omega
      have HLV := hid hlv
      clear hl hx hlv
      go_wp2
      simp only [Exit.jump]
      go_ret
      exact ⟨by first | rfl | (rw [HLV.out]; rfl), rfl⟩
    · rw [show y % 2 = 1 by omega] at hm
      have hw1 : wrap64 ((y : Int) / 2) = (y : Int) / 2 := wrap64_in (by omega) (by omega)
      have hw2 : wrap64 ((i : Int) + 1) = (i : Int) + 1 := wrap64_in (by omega) (by omega)
      have hy1 : 0 < y := by omega
      have hlv : i + 1 + lv (y / 2) = lv x := by rw [lv_odd (by omega)] at hl; omega
      have HLV := hid hlv
      clear hl hx hlv
      go_wp2
      go_step3
      exact ⟨rfl, ⟨y / 2, i + 1, _, _, _, _, _, _, _, _, _, rfl, rfl, by omega, by omega, HLV.out⟩, by simp; omega⟩
theorem isNode_yes (x : Int) (W : World) (h : inT x 65536) : Calls Try.prog 33 #[.int .i64 x] W fun e w' => e = .returned (.bool true) ∧ w' = W := by
  obtain ⟨h1, h2⟩ := inT_b.1 h
  clear h
  go_enter Try.func33, Try.ntmps33
  go_wp2
  go_ret
  exact ⟨rfl, rfl⟩
theorem isNode_no (x : Int) (W : World) (h : ¬ inT x 65536) : Calls Try.prog 33 #[.int .i64 x] W fun e w' => e = .returned (.bool false) ∧ w' = W := by
  by_cases h1 : 0 ≤ x
  · have h2 : ¬ x ≤ 131070 := fun h2 => h (inT_b.2 ⟨h1, h2⟩)
    clear h
    go_enter Try.func33, Try.ntmps33
    go_wp2
    go_ret
    exact ⟨rfl, rfl⟩
  · clear h
    go_enter Try.func33, Try.ntmps33
    go_wp2
    go_ret
    exact ⟨rfl, rfl⟩
theorem shl_q (a l : Nat) (z : Int) (hz : z = (l : Int)) (hl : l ≤ 17) (ha : a ≤ 2) : Op.shift .shl .i64 (a : Int) .i64 z = pure (.int .i64 ((a * 2 ^ l : Nat) : Int)) := by
  subst hz
  have h1 : a * 2 ^ l ≤ 2 * 2 ^ 17 := Nat.mul_le_mul ha (Nat.pow_le_pow_right (by decide) hl)
  rw [shift_shl .i64 .i64 (a : Int) (l : Int) (by omega) (by simp only [IntKind.bits]; omega), Int.toNat_natCast]
  have h2 : ((a : Int) * 2 ^ l) = ((a * 2 ^ l : Nat) : Int) := by push_cast; rfl
  rw [h2]
  congr 2
  exact IntWalk.i64_in _ (by omega)
theorem xor_q (a b : Nat) (ha : a ≤ 1000000) (hb : b ≤ 1000000) : bits .xor .i64 (a : Int) (b : Int) = ((a ^^^ b : Nat) : Int) := by
  have hx : a ^^^ b < 2 ^ 63 := Nat.xor_lt_two_pow (by omega) (by omega)
  show IntKind.i64.wrap ((BitVec.ofInt 64 (a : Int) ^^^ BitVec.ofInt 64 (b : Int)).toNat : Int) = _
  rw [BitVec.toNat_xor, ofInt_q64 a (by omega), ofInt_q64 b (by omega)]
  exact IntWalk.i64_in _ (by omega)
theorem beside_any (q l k : Nat) (W : World) (hq : q < 2 ^ k) (hk : l + k ≤ 16) : Calls Try.prog 41 #[.int .i64 (nd q l : Int)] W fun e w' => e = .returned (.int .i64 (nd (sbq q) l : Int)) ∧ w' = W := by
  have HL := hid (lev_any (nd q l) W (by have := nd_lt hq hk; omega))
  rw [lv_nd] at HL
  have hS : Op.shift .shl .i64 2 .i64 (l : Int) = pure (.int .i64 ((2 * 2 ^ l : Nat) : Int)) := shl_q 2 l l rfl (by omega) (by decide)
  have hX := xor_q (nd q l) (2 * 2 ^ l) (by have := nd_lt hq hk; omega) (by rw [← pow1]; have := Nat.pow_le_pow_right (n := 2) (by decide) (by omega : l + 1 ≤ 17); omega)
  rw [← pow1] at hX hS
  rw [nd_xor] at hX
  obtain ⟨y, hy⟩ : ∃ y : Int, y = (nd (sbq q) l : Int) := ⟨_, rfl⟩
  obtain ⟨x, hx⟩ : ∃ x : Int, x = (nd q l : Int) := ⟨_, rfl⟩
  obtain ⟨z, hz⟩ : ∃ z : Int, z = (l : Int) := ⟨_, rfl⟩
  obtain ⟨p, hp⟩ : ∃ p : Int, p = ((2 ^ (l + 1) : Nat) : Int) := ⟨_, rfl⟩
  rw [← hx, ← hz] at HL
  rw [← hx, ← hy, ← hp] at hX
  rw [← hz, ← hp] at hS
  rw [← hx, ← hy]
  clear hx hy hz hp
  go_enter Try.func41, Try.ntmps41
  go_wp2_with fail
  refine HL.out.mono ?_
  rintro e w1 ⟨rfl, rfl⟩
  clear HL
  go_wp2
  go_ret
  exact ⟨rfl, rfl⟩
theorem above_any (q l k : Nat) (W : World) (hq : q < 2 ^ k) (hk : l + k ≤ 16) : Calls Try.prog 40 #[.int .i64 (nd q l : Int)] W fun e w' => e = .returned (.int .i64 (nd (q / 2) (l + 1) : Int)) ∧ w' = W := by
  have HB := hid (beside_any q l k W hq hk)
  have h1 := nd_lt hq hk
  have h2 := sbq_nd q l
  obtain ⟨x, hx⟩ : ∃ x, x = nd q l := ⟨_, rfl⟩
  obtain ⟨y, hy⟩ : ∃ x, x = nd (sbq q) l := ⟨_, rfl⟩
  obtain ⟨z, hz⟩ : ∃ x, x = nd (q / 2) (l + 1) := ⟨_, rfl⟩
  have h3 : y ≤ 1000000 := by
    rw [hy]
    cases k with
    | zero => have hq0 : q = 0 := by simpa using hq
              subst hq0
              have h5 : nd (sbq 0) l ≤ 3 * 2 ^ l := by unfold nd sbq; rw [if_pos (by decide), pow1]; omega
              have h6 := pow_le16 (h := l) (by omega)
              omega
    | succ k => have := nd_lt (sbq_lt hq) hk; omega
  rw [← hx, ← hy] at HB h2
  rw [← hz] at h2
  rw [← hx] at h1
  rw [← hx, ← hz]
  have hw1 : wrap64 ((x : Int) + (y : Int)) = (x : Int) + (y : Int) := wrap64_in (by omega) (by omega)
  have hw2 : ((x : Int) + (y : Int)) / 2 = (z : Int) := by omega
  have hw3 : Int.tdiv ((x : Int) + (y : Int)) 2 = (z : Int) := by rw [Int.tdiv_eq_ediv_of_nonneg (by omega)]; exact hw2
  have hw4 : wrap64 (z : Int) = (z : Int) := wrap64_in (by omega) (by omega)
  clear hx hy hz h1 h2 h3 hq hk hw2
  go_enter Try.func40, Try.ntmps40
  go_wp2_with fail
  refine HB.out.mono ?_
  rintro e w1 ⟨rfl, rfl⟩
  clear HB
  go_wp2
  go_ret
  exact ⟨by show Ending.returned (.int .i64 (wrap64 (z : Int))) = _; rw [hw4], rfl⟩
theorem and_q (a b : Nat) (ha : a ≤ 1000000) (hb : b ≤ 1000000) : bits .and .i64 (a : Int) (b : Int) = ((a &&& b : Nat) : Int) := by
  have hx : a &&& b < 2 ^ 63 := Nat.and_lt_two_pow _ (by omega)
  show IntKind.i64.wrap ((BitVec.ofInt 64 (a : Int) &&& BitVec.ofInt 64 (b : Int)).toNat : Int) = _
  rw [BitVec.toNat_and, ofInt_q64 a (by omega), ofInt_q64 b (by omega)]
  exact IntWalk.i64_in _ (by omega)
theorem fit_and {m : Nat} (h1 : 1 ≤ m) (h2 : m ≤ 65536) : fitB (m : Int) = true ↔ m &&& (m - 1) = 0 := by
  rw [Nat.and_sub_one_eq_zero_iff_isPowerOfTwo (by omega), fitB_iff]
  constructor
  · rintro ⟨h, -, he⟩
    exact ⟨h, by omega⟩
  · rintro ⟨h, rfl⟩
    refine ⟨h, ?_, rfl⟩
    rcases Nat.lt_or_ge 16 h with hlt | hge
    · have := Nat.pow_le_pow_right (n := 2) (by decide) (show 17 ≤ h from hlt)
      omega
    · exact hge
theorem Fits_e (n : Int) (W : World) (hn : I64 n) : Calls Try.prog 18 #[.int .i64 n] W fun e w' => e = .returned (.bool (fitB n)) ∧ w' = W := by
  obtain ⟨f, hf⟩ : ∃ f, f = fitB n := ⟨_, rfl⟩
  rw [← hf]
  have hno : ¬ (1 ≤ n ∧ n ≤ 65536) → f = false := by
    rw [hf]
    intro h
    rw [Bool.eq_false_iff]
    intro h2
    obtain ⟨j, hj, rfl⟩ := (fitB_iff n).1 h2
    have h3 := pow_le16 hj
    have h4 := Nat.one_le_two_pow (n := j)
    exact h ⟨by omega, by omega⟩
  by_cases h1 : 1 ≤ n
  · by_cases h2 : n ≤ 65536
    · obtain ⟨m, rfl⟩ := Int.eq_ofNat_of_zero_le (show 0 ≤ n by omega)
      have ha := and_q m (m - 1) (by omega) (by omega)
      have hfa := fit_and (m := m) (by omega) (by omega)
      have hw : wrap64 ((m : Int) - 1) = (m : Int) - 1 := wrap64_in (by omega) (by omega)
      rw [show ((m - 1 : Nat) : Int) = (m : Int) - 1 by omega] at ha
      obtain ⟨t, ht⟩ : ∃ t : Nat, t = m &&& (m - 1) := ⟨_, rfl⟩
      rw [← ht] at ha hfa
      rw [← hf] at hfa
      have HA := hid ha
      clear hn hno hf ht ha
      by_cases h0 : t = 0
      · obtain rfl := hfa.2 h0
        subst h0
        clear hfa
        go_enter Try.func18, Try.ntmps18
        go_wp2
        go_ret
        refine ⟨?_, rfl⟩
        show Ending.returned (.bool (bits .and .i64 (m : Int) ((m : Int) - 1) == 0)) = _
        rw [HA.out]
        first | rfl | (congr 2; exact beq_false_of_ne h0')
      · have hff : f = false := by
          rw [Bool.eq_false_iff]
          exact fun h => h0 (hfa.1 h)
        subst hff
        have h0' : ¬ (t : Int) = 0 := by omega
        clear hfa
        go_enter Try.func18, Try.ntmps18
        go_wp2
        go_ret
        refine ⟨?_, rfl⟩
        show Ending.returned (.bool (bits .and .i64 (m : Int) ((m : Int) - 1) == 0)) = _
        rw [HA.out]
        first | rfl | (congr 2; exact beq_false_of_ne h0')
    · obtain rfl := hno (fun h => h2 h.2)
      clear hn hno hf
      go_enter Try.func18, Try.ntmps18
      go_wp2
      go_ret
      exact ⟨rfl, rfl⟩
  · obtain rfl := hno (fun h => h1 h.1)
    clear hn hno hf
    go_enter Try.func18, Try.ntmps18
    go_wp2
    go_ret
    exact ⟨rfl, rfl⟩
theorem isOf_e (x n : Int) (W : World) (hn : I64 n) : Calls Try.prog 42 #[.int .i64 x, .int .i64 n] W fun e w' => e = .returned (.bool (inB x n)) ∧ w' = W := by
  have HF := hid (Fits_e n W hn)
  by_cases hf : fitB n = true
  · have hb : 1 ≤ n ∧ n ≤ 65536 := by
      obtain ⟨j, h1, rfl⟩ := (fitB_iff n).1 hf
      have := pow_le16 h1
      have := Nat.one_le_two_pow (n := j)
      omega
    have hw1 : wrap64 (n - 1) = n - 1 := wrap64_in (by omega) (by omega)
    have hw2 : wrap64 (2 * (n - 1)) = 2 * (n - 1) := wrap64_in (by omega) (by omega)
    obtain ⟨f, hff⟩ : ∃ f, f = inB x n := ⟨_, rfl⟩
    rw [← hff]
    have hff2 : f = (decide (0 ≤ x) && decide (x ≤ 2 * (n - 1))) := by
      rw [hff]; unfold inB; rw [hf, Bool.true_and, show 2 * (n - 1) = 2 * n - 2 by omega]
    rw [hf] at HF
    clear hff hf hn hb
    by_cases h0 : 0 ≤ x
    · by_cases h1 : x ≤ 2 * (n - 1)
      · rw [decide_eq_true h0, decide_eq_true h1] at hff2
        subst hff2
        go_enter Try.func42, Try.ntmps42
        go_wp2_with fail
        refine HF.out.mono ?_
        rintro e w1 ⟨rfl, rfl⟩
        clear HF
        go_wp2
        go_ret
        exact ⟨rfl, rfl⟩
      · rw [decide_eq_true h0, decide_eq_false h1] at hff2
        subst hff2
        go_enter Try.func42, Try.ntmps42
        go_wp2_with fail
        refine HF.out.mono ?_
        rintro e w1 ⟨rfl, rfl⟩
        clear HF
        go_wp2
        go_ret
        exact ⟨by first | rfl | (show Ending.returned (.bool (decide (x ≤ 2 * (n - 1)))) = _; rw [decide_eq_false (Int.not_le.2 h1)]; rfl), rfl⟩
    · rw [decide_eq_false h0, Bool.false_and] at hff2
      subst hff2
      go_enter Try.func42, Try.ntmps42
      go_wp2_with fail
      refine HF.out.mono ?_
      rintro e w1 ⟨rfl, rfl⟩
      clear HF
      go_wp2
      go_ret
      exact ⟨rfl, rfl⟩
  · have hff : fitB n = false := by simpa using hf
    have hi : inB x n = false := by unfold inB; rw [hff]; rfl
    rw [hff] at HF
    rw [hi]
    clear hn hff hi hf
    go_enter Try.func42, Try.ntmps42
    go_wp2_with fail
    refine HF.out.mono ?_
    rintro e w1 ⟨rfl, rfl⟩
    clear HF
    go_wp2
    go_ret
    exact ⟨rfl, rfl⟩
theorem Root_e (n : Int) (W : World) (hn : I64 n) : Calls Try.prog 19 #[.int .i64 n] W fun e w' => e = .returned (.int .i64 (rootZ n)) ∧ w' = W := by
  have HF := hid (Fits_e n W hn)
  unfold rootZ
  by_cases hf : fitB n = true
  · have hb : 1 ≤ n ∧ n ≤ 65536 := by
      obtain ⟨j, h1, rfl⟩ := (fitB_iff n).1 hf
      have := pow_le16 h1
      have := Nat.one_le_two_pow (n := j)
      omega
    have hw1 : wrap64 (n - 1) = n - 1 := wrap64_in (by omega) (by omega)
    rw [if_pos hf]
    rw [hf] at HF
    clear hf hn hb
    go_enter Try.func19, Try.ntmps19
    go_wp2_with fail
    refine HF.out.mono ?_
    rintro e w1 ⟨rfl, rfl⟩
    clear HF
    go_wp2
    go_ret
    exact ⟨by first | rfl | (show Ending.returned (.int .i64 (wrap64 (n - 1))) = _; rw [hw1]), rfl⟩
  · have hff : fitB n = false := by simpa using hf
    rw [if_neg hf]
    rw [hff] at HF
    clear hn hff hf
    go_enter Try.func19, Try.ntmps19
    go_wp2_with fail
    refine HF.out.mono ?_
    rintro e w1 ⟨rfl, rfl⟩
    clear HF
    go_wp2
    go_ret
    exact ⟨rfl, rfl⟩
/-- What lies beneath, by numbers. -/
theorem und_iff {q l Q L : Nat} : undB q l Q L = true ↔ l ≤ L ∧ q / 2 ^ (L - l) = Q := by
  unfold undB
  rw [Bool.and_eq_true, decide_eq_true_eq, decide_eq_true_eq]
  constructor
  · rintro ⟨h1, h2⟩
    have hd : nd q l / 2 ^ (L + 1) = Q := by
      unfold loN at h1
      unfold hiN at h2
      have hp := Nat.one_le_two_pow (n := L)
      have hp1 := pow1 L
      apply Nat.div_eq_of_lt_le
      · exact h1
      · rw [Nat.add_mul, Nat.one_mul]; omega
    have hm : nd q l % 2 ^ (L + 1) ≤ 2 ^ (L + 1) - 2 := by
      have h3 := Nat.div_add_mod (nd q l) (2 ^ (L + 1))
      rw [hd, Nat.mul_comm] at h3
      unfold hiN at h2
      omega
    have hl : l ≤ L := by
      rcases Nat.lt_or_ge L l with hlt | hge
      · exfalso
        obtain ⟨t, rfl⟩ : ∃ t, l = L + 1 + t := ⟨l - (L + 1), by omega⟩
        have e1 : nd q (L + 1 + t) + 1 = 2 ^ (L + 1) * (q * 2 ^ (t + 1) + 2 ^ t) := by
          unfold nd
          have := Nat.one_le_two_pow (n := L + 1 + t)
          rw [Nat.mul_add, ← Nat.pow_add, ← Nat.mul_assoc, Nat.mul_comm (2 ^ (L + 1)) q, Nat.mul_assoc, ← Nat.pow_add, show L + 1 + (t + 1) = L + 1 + t + 1 by omega]
          omega
        have h3 := Nat.div_add_mod (nd q (L + 1 + t)) (2 ^ (L + 1))
        have h4 : (nd q (L + 1 + t) + 1) % 2 ^ (L + 1) = 0 := by rw [e1]; exact Nat.mul_mod_right _ _
        have hp := Nat.one_le_two_pow (n := L)
        have hp1 := pow1 L
        rw [Nat.add_mod, Nat.mod_eq_of_lt (a := 1) (by omega), Nat.mod_eq_of_lt (by omega)] at h4
        omega
      · exact hge
    refine ⟨hl, ?_⟩
    rw [← hd, show L + 1 = l + 1 + (L - l) by omega, Nat.pow_add, ← Nat.div_div_eq_div_mul, nd_div]
  · rintro ⟨hl, rfl⟩
    have h := up_in q l (L - l)
    rw [show l + (L - l) = L by omega] at h
    exact ⟨Nat.le_trans h.1 (lo_le q l), Nat.le_trans (le_hi q l) h.2⟩
/-- The lowest that has both beneath, found on the way up. -/
theorem com_of {q l k q' l' k' j : Nat} (he : l' + k' = l + k) (hj : j ≤ k) (h1 : undB q' l' (q / 2 ^ j) (l + j) = true) (h2 : ∀ i, i < j → undB q' l' (q / 2 ^ i) (l + i) = false) :
    comO q l k q' k' (min k k' + 1) = (nd (q / 2 ^ j) (l + j) : Int) := by
  obtain ⟨hl, hq⟩ := und_iff.1 h1
  have hk : k - j ≤ k' := by omega
  obtain ⟨d, hd⟩ : ∃ d, min k k' = k - j + d := ⟨min k k' - (k - j), by omega⟩
  have hgen : ∀ d, k - j + d ≤ min k k' → comO q l k q' k' (k - j + d + 1) = (nd (q / 2 ^ j) (l + j) : Int) := by
    intro d
    induction d with
    | zero =>
      intro _
      rw [Nat.add_zero, comO, show k - (k - j) = j by omega, if_pos]
      rw [← hq, show l + j - l' = k' - (k - j) by omega]
    | succ d ih =>
      intro hm
      rw [comO, if_neg, ← ih (by omega)]
      · rfl
      · intro heq
        have h3 := h2 (k - (k - j + (d + 1))) (by omega)
        rw [Bool.eq_false_iff] at h3
        apply h3
        rw [und_iff]
        exact ⟨by omega, by rw [heq]; congr 2; omega⟩
  rw [hd]
  exact hgen d (by omega)
theorem root_nd (h : Nat) : nd 0 h = 2 ^ h - 1 := by unfold nd; omega
theorem i64_pow {h : Nat} (hh : h ≤ 16) : I64 ((2 ^ h : Nat) : Int) := by
  have h1 := pow_le16 hh
  obtain ⟨P, hP⟩ : ∃ P, P = 2 ^ h := ⟨_, rfl⟩
  rw [← hP] at h1 ⊢
  exact ⟨by omega, by omega⟩
theorem rootZ_pow {h : Nat} (hh : h ≤ 16) : rootZ ((2 ^ h : Nat) : Int) = (nd 0 h : Int) := by
  have := Nat.one_le_two_pow (n := h)
  unfold rootZ; rw [fitB_pow hh, if_pos rfl, root_nd]; omega
theorem hasParent_no (x n : Int) (W : World) (hn : I64 n) (h : ¬ inT x n) : Calls Try.prog 39 #[.int .i64 x, .int .i64 n] W fun e w' => e = .returned (.bool false) ∧ w' = W := by
  have HF := hid (isOf_e x n W hn)
  rw [inB_no h] at HF
  clear hn h
  go_enter Try.func39, Try.ntmps39
  go_wp2_with fail
  refine HF.out.mono ?_
  rintro e w1 ⟨rfl, rfl⟩
  clear HF
  go_wp2
  go_ret
  exact ⟨rfl, rfl⟩
theorem hasParent_yes (q l k : Nat) (W : World) (hq : q < 2 ^ (k + 1)) (hk : l + (k + 1) ≤ 16) : Calls Try.prog 39 #[.int .i64 (nd q l : Int), .int .i64 ((2 ^ (l + (k + 1)) : Nat) : Int)] W fun e w' => e = .returned (.bool true) ∧ w' = W := by
  have HF := hid (isOf_e (nd q l) ((2 ^ (l + (k + 1)) : Nat) : Int) W (i64_pow hk))
  rw [inB_nd hq hk] at HF
  have HR := hid (Root_e ((2 ^ (l + (k + 1)) : Nat) : Int) W (i64_pow hk))
  rw [rootZ_pow hk] at HR
  have hne : ¬ (nd q l : Int) = (nd 0 (l + (k + 1)) : Int) := fun h => by have := (nd_inj (show nd q l = nd 0 (l + (k + 1)) by omega)).2; omega
  obtain ⟨x, hx⟩ : ∃ x : Int, x = (nd q l : Int) := ⟨_, rfl⟩
  obtain ⟨y, hy⟩ : ∃ x : Int, x = (nd 0 (l + (k + 1)) : Int) := ⟨_, rfl⟩
  obtain ⟨n, hn⟩ : ∃ x : Int, x = ((2 ^ (l + (k + 1)) : Nat) : Int) := ⟨_, rfl⟩
  rw [← hx, ← hn] at HF
  rw [← hn, ← hy] at HR
  rw [← hx, ← hy] at hne
  rw [← hx, ← hn]
  clear hx hy hn hq hk
  go_enter Try.func39, Try.ntmps39
  go_wp2_with fail
  refine HF.out.mono ?_
  rintro e w1 ⟨rfl, rfl⟩
  clear HF
  go_wp2_with fail
  refine HR.out.mono ?_
  rintro e w1 ⟨rfl, rfl⟩
  clear HR
  go_wp2
  go_ret
  exact ⟨by first | rfl | (simp [hne]), rfl⟩
theorem hasParent_root (l : Nat) (W : World) (hk : l ≤ 16) : Calls Try.prog 39 #[.int .i64 (nd 0 l : Int), .int .i64 ((2 ^ l : Nat) : Int)] W fun e w' => e = .returned (.bool false) ∧ w' = W := by
  have HF := hid (isOf_e (nd 0 l) ((2 ^ l : Nat) : Int) W (i64_pow hk))
  have h1 := inB_nd (q := 0) (l := l) (k := 0) (by decide) hk
  rw [Nat.add_zero] at h1
  rw [h1] at HF
  have HR := hid (Root_e ((2 ^ l : Nat) : Int) W (i64_pow hk))
  rw [rootZ_pow hk] at HR
  obtain ⟨x, hx⟩ : ∃ x : Int, x = (nd 0 l : Int) := ⟨_, rfl⟩
  obtain ⟨n, hn⟩ : ∃ x : Int, x = ((2 ^ l : Nat) : Int) := ⟨_, rfl⟩
  rw [← hx, ← hn] at HF HR
  rw [← hx, ← hn]
  clear hx hn hk h1
  go_enter Try.func39, Try.ntmps39
  go_wp2_with fail
  refine HF.out.mono ?_
  rintro e w1 ⟨rfl, rfl⟩
  clear HF
  go_wp2_with fail
  refine HR.out.mono ?_
  rintro e w1 ⟨rfl, rfl⟩
  clear HR
  go_wp2
  go_ret
  exact ⟨by first | rfl | (simp), rfl⟩
theorem hasChildren_no (x : Int) (W : World) (h : ¬ inT x 65536) : Calls Try.prog 37 #[.int .i64 x] W fun e w' => e = .returned (.bool false) ∧ w' = W := by
  have HF := hid (isNode_no x W h)
  clear h
  go_enter Try.func37, Try.ntmps37
  go_wp2_with fail
  refine HF.out.mono ?_
  rintro e w1 ⟨rfl, rfl⟩
  clear HF
  go_wp2
  go_ret
  exact ⟨rfl, rfl⟩
theorem hasChildren_e (x : Nat) (W : World) (h : inT x 65536) : Calls Try.prog 37 #[.int .i64 (x : Int)] W fun e w' => e = .returned (.bool (decide (x % 2 = 1))) ∧ w' = W := by
  have HF := hid (isNode_yes x W h)
  have hm : Int.tmod (x : Int) 2 = ((x % 2 : Nat) : Int) := by rw [Int.tmod_eq_emod_of_nonneg (by omega)]; omega
  clear h
  by_cases he : x % 2 = 1
  · rw [he] at hm ⊢
    go_enter Try.func37, Try.ntmps37
    go_wp2_with fail
    refine HF.out.mono ?_
    rintro e w1 ⟨rfl, rfl⟩
    clear HF
    go_wp2
    go_ret
    exact ⟨rfl, rfl⟩
  · rw [show x % 2 = 0 by omega] at hm ⊢
    go_enter Try.func37, Try.ntmps37
    go_wp2_with fail
    refine HF.out.mono ?_
    rintro e w1 ⟨rfl, rfl⟩
    clear HF
    go_wp2
    go_ret
    exact ⟨rfl, rfl⟩
theorem reach_e (q l k : Nat) (W : World) (hq : q < 2 ^ k) (hk : l + 1 + k ≤ 16) : Calls Try.prog 38 #[.int .i64 (nd q (l + 1) : Int)] W fun e w' => e = .returned (.int .i64 ((2 ^ l : Nat) : Int)) ∧ w' = W := by
  have HL := hid (lev_any (nd q (l + 1)) W (by have := nd_lt hq hk; omega))
  rw [lv_nd] at HL
  have hw : wrap64 (((l + 1 : Nat) : Int) - 1) = (l : Int) := (wrap64_in (by omega) (by omega)).trans (by omega)
  have hS : Op.shift .shl .i64 1 .i64 (l : Int) = pure (.int .i64 ((1 * 2 ^ l : Nat) : Int)) := shl_q 1 l l rfl (by omega) (by decide)
  rw [Nat.one_mul] at hS
  obtain ⟨x, hx⟩ : ∃ x : Int, x = (nd q (l + 1) : Int) := ⟨_, rfl⟩
  obtain ⟨z, hz⟩ : ∃ z : Int, z = ((l + 1 : Nat) : Int) := ⟨_, rfl⟩
  obtain ⟨z1, hz1⟩ : ∃ z : Int, z = (l : Int) := ⟨_, rfl⟩
  obtain ⟨y, hy⟩ : ∃ z : Int, z = ((2 ^ l : Nat) : Int) := ⟨_, rfl⟩
  rw [← hx, ← hz] at HL
  rw [← hz, ← hz1] at hw
  rw [← hx, ← hy]
  rw [← hz1, ← hy] at hS
  clear hx hy hq hk hz hz1
  go_enter Try.func38, Try.ntmps38
  go_wp2_with fail
  refine HL.out.mono ?_
  rintro e w1 ⟨rfl, rfl⟩
  clear HL
  go_wp2
  go_ret
  exact ⟨rfl, rfl⟩
theorem ends_e (q l k : Nat) (W : World) (hq : q < 2 ^ k) (hk : l + k ≤ 16) : Calls Try.prog 34 #[.int .i64 (nd q l : Int)] W fun e w' => e = .returned (.tuple #[.int .i64 (loN q l : Int), .int .i64 (hiN q l : Int)]) ∧ w' = W := by
  have h0 := nd_lt hq hk
  have HL := hid (lev_any (nd q l) W (by omega))
  rw [lv_nd] at HL
  have hS : Op.shift .shl .i64 1 .i64 (l : Int) = pure (.int .i64 ((1 * 2 ^ l : Nat) : Int)) := shl_q 1 l l rfl (by omega) (by decide)
  rw [Nat.one_mul] at hS
  have h1 := lo_nd q l
  have h2 := nd_hi q l
  have hp := Nat.one_le_two_pow (n := l)
  have hp2 := pow_le16 (h := l) (by omega)
  obtain ⟨P, hP⟩ : ∃ x, x = 2 ^ l := ⟨_, rfl⟩
  rw [← hP] at hS h1 h2 hp hp2
  obtain ⟨x, hx⟩ : ∃ x, x = nd q l := ⟨_, rfl⟩
  obtain ⟨a, ha⟩ : ∃ x, x = loN q l := ⟨_, rfl⟩
  obtain ⟨b, hb⟩ : ∃ x, x = hiN q l := ⟨_, rfl⟩
  obtain ⟨z, hz⟩ : ∃ z : Int, z = (l : Int) := ⟨_, rfl⟩
  rw [← hx] at HL h0 h1 h2
  rw [← hz] at HL hS
  rw [← hb] at h2
  rw [← ha] at h1
  rw [← hx, ← ha, ← hb]
  have hw1 : wrap64 ((P : Int) - 1) = (P : Int) - 1 := wrap64_in (by omega) (by omega)
  have hw2 : wrap64 ((x : Int) - ((P : Int) - 1)) = (a : Int) := (wrap64_in (by omega) (by omega)).trans (by omega)
  have hw3 : wrap64 ((x : Int) + ((P : Int) - 1)) = (b : Int) := (wrap64_in (by omega) (by omega)).trans (by omega)
  clear hx ha hb hz h0 h1 h2 hp hp2 hP hq hk
  go_enter Try.func34, Try.ntmps34
  go_wp2_with fail
  refine HL.out.mono ?_
  rintro e w1 ⟨rfl, rfl⟩
  clear HL
  go_wp2
  refine bodyPost_ret (v := .tuple #[.int .i64 (wrap64 ((x : Int) - ((P : Int) - 1))), .int .i64 (wrap64 ((x : Int) + ((P : Int) - 1)))]) (by simp [results, Try.results34, go_sem]) rfl ⟨?_, rfl⟩
  rw [hw2, hw3]
end Go.Proofs.Ytaoddlcoedodcaa
