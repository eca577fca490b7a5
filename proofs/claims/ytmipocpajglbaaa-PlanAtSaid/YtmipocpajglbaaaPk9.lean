/-
  Texts of this claim in one file: WlA, WlB.
-/
import Derived.Test.YtmipocpajglbaaaPk3
import Derived.Test.YtmipocpajglbaaaPk16
section
namespace Go.Proofs.Ytmipocpajglbaaa
open Go Go.RowKit
set_option linter.unusedVariables false
set_option linter.unusedSimpArgs false
theorem ofInt_q64 (a : Nat) (ha : a < 9223372036854775808) : (BitVec.ofInt 64 (a : Int)).toNat = a := by
  rw [BitVec.ofInt_natCast, BitVec.toNat_ofNat]; exact Nat.mod_eq_of_lt (by omega)
theorem nd_lt {q l k : Nat} (hq : q < 2 ^ k) (hk : l + k ≤ 16) : nd q l ≤ 131070 := by
  have h1 := hi_bound (l := l) hq
  have h2 := le_hi q l
  have h3 := pow_le16 hk
  omega
theorem inT_b {x : Int} : inT x 65536 ↔ 0 ≤ x ∧ x ≤ 131070 := by
  constructor
  · intro h
    obtain ⟨-, h1, h2⟩ := inT_fit h
    exact ⟨h1, by omega⟩
  · rintro ⟨h1, h2⟩
    exact inT_of (by decide) h1 (by omega)
set_option maxHeartbeats 1000000 in
theorem lev_any (x : Nat) (W : World) (hx : x ≤ 1000000) : Calls Try.prog 39 #[.int .i64 (x : Int)] W fun e w' => e = .returned (.int .i64 (lv x : Int)) ∧ w' = W := by
  go_enter Try.func39, Try.ntmps39
  go_wp2
  refine wp_scope_at 0 (fun a' w' => ∃ (y i : Nat) (u1 u4 u5 u6 u7 u8 u9 u10 u11 : Value), a' = { tmps := #[.int .i64 (y : Int), u1, .int .i64 0, .int .i64 (i : Int), u4, u5, u6, u7, u8, u9, u10, u11], defers := [] } ∧ w' = W ∧ y ≤ 1000000 ∧ i + y ≤ 1000000 ∧ i + lv y = lv x) (fun a' _ => match a'.tmps.getD 0 undef with | .int _ z => z.toNat | _ => 0) rfl ?_ ?_
  · intro Qj hQr hJ
    go_wp2
    refine wp_label ?_
    rename_i K hK
    refine hK _ _ (hJ _ _ ⟨x, 0, _, _, _, _, _, _, _, _, _, rfl, rfl, hx, by omega, by omega⟩)
  · rintro a' w' ⟨y, i, u1, u4, u5, u6, u7, u8, u9, u10, u11, rfl, rfl, hy, hi, hl⟩
    have HL := hid hl; have HX := hid hx
    have hm : Int.tmod (y : Int) 2 = ((y % 2 : Nat) : Int) := by rw [Int.tmod_eq_emod_of_nonneg (by omega)]; omega
    by_cases he : y % 2 = 0
    · rw [he] at hm
      have hlv : (i : Int) = (lv x : Int) := by rw [lv_even he] at hl; omega
      have HLV := hid hlv
      clear hl hx hlv
      go_wp2
      simp only [Exit.jump]
      go_ret
      exact ⟨by first | rfl | (rw [HLV.out]; rfl), rfl⟩
    · rw [show y % 2 = 1 by omega] at hm
      have hw1 : wrap64 ((y : Int) / 2) = (y : Int) / 2 := wrap64_in (by omega) (by omega)
      have hw2 : wrap64 ((i : Int) + 1) = (i : Int) + 1 := wrap64_in (by omega) (by omega)
      have hy1 : 0 < y := by omega
      have hlv : i + 1 + lv (y / 2) = lv x := by rw [lv_odd (by omega)] at hl; omega
      have HLV := hid hlv
      clear hl hx hlv
      go_wp2
      go_step3
      exact ⟨rfl, ⟨y / 2, i + 1, _, _, _, _, _, _, _, _, _, rfl, rfl, by omega, by omega, HLV.out⟩, by simp; omega⟩
theorem isNode_yes (x : Int) (W : World) (h : inT x 65536) : Calls Try.prog 33 #[.int .i64 x] W fun e w' => e = .returned (.bool true) ∧ w' = W := by
  obtain ⟨h1, h2⟩ := inT_b.1 h
  clear h
  go_enter Try.func33, Try.ntmps33
  go_wp2
  go_ret
  exact ⟨rfl, rfl⟩
theorem isNode_no (x : Int) (W : World) (h : ¬ inT x 65536) : Calls Try.prog 33 #[.int .i64 x] W fun e w' => e = .returned (.bool false) ∧ w' = W := by
  by_cases h1 : 0 ≤ x
  · have h2 : ¬ x ≤ 131070 := fun h2 => h (inT_b.2 ⟨h1, h2⟩)
    clear h
    go_enter Try.func33, Try.ntmps33
    go_wp2
    go_ret
    exact ⟨rfl, rfl⟩
  · clear h
    go_enter Try.func33, Try.ntmps33
    go_wp2
    go_ret
    exact ⟨rfl, rfl⟩
theorem shl_q (a l : Nat) (z : Int) (hz : z = (l : Int)) (hl : l ≤ 17) (ha : a ≤ 2) : Op.shift .shl .i64 (a : Int) .i64 z = pure (.int .i64 ((a * 2 ^ l : Nat) : Int)) := by
  subst hz
  have h1 : a * 2 ^ l ≤ 2 * 2 ^ 17 := Nat.mul_le_mul ha (Nat.pow_le_pow_right (by decide) hl)
  rw [shift_shl .i64 .i64 (a : Int) (l : Int) (by omega) (by simp only [IntKind.bits]; omega), Int.toNat_natCast]
  have h2 : ((a : Int) * 2 ^ l) = ((a * 2 ^ l : Nat) : Int) := by push_cast; rfl
  rw [h2]
  congr 2
  exact IntWalk.i64_in _ (by omega)
theorem and_q (a b : Nat) (ha : a ≤ 1000000) (hb : b ≤ 1000000) : bits .and .i64 (a : Int) (b : Int) = ((a &&& b : Nat) : Int) := by
  have hx : a &&& b < 2 ^ 63 := Nat.and_lt_two_pow _ (by omega)
  show IntKind.i64.wrap ((BitVec.ofInt 64 (a : Int) &&& BitVec.ofInt 64 (b : Int)).toNat : Int) = _
  rw [BitVec.toNat_and, ofInt_q64 a (by omega), ofInt_q64 b (by omega)]
  exact IntWalk.i64_in _ (by omega)
theorem fit_and {m : Nat} (h1 : 1 ≤ m) (h2 : m ≤ 65536) : fitB (m : Int) = true ↔ m &&& (m - 1) = 0 := by
  rw [Nat.and_sub_one_eq_zero_iff_isPowerOfTwo (by omega), fitB_iff]
  constructor
  · rintro ⟨h, -, he⟩
    exact ⟨h, by omega⟩
  · rintro ⟨h, rfl⟩
    refine ⟨h, ?_, rfl⟩
    rcases Nat.lt_or_ge 16 h with hlt | hge
    · have := Nat.pow_le_pow_right (n := 2) (by decide) (show 17 ≤ h from hlt)
      omega
    · exact hge
theorem Fits_e (n : Int) (W : World) (hn : I64 n) : Calls Try.prog 38 #[.int .i64 n] W fun e w' => e = .returned (.bool (fitB n)) ∧ w' = W := by
  obtain ⟨f, hf⟩ : ∃ f, f = fitB n := ⟨_, rfl⟩
  rw [← hf]
  have hno : ¬ (1 ≤ n ∧ n ≤ 65536) → f = false := by
    rw [hf]
    intro h
    rw [Bool.eq_false_iff]
    intro h2
    obtain ⟨j, hj, rfl⟩ := (fitB_iff n).1 h2
    have h3 := pow_le16 hj
    have h4 := Nat.one_le_two_pow (n := j)
    exact h ⟨by omega, by omega⟩
  by_cases h1 : 1 ≤ n
  · by_cases h2 : n ≤ 65536
    · obtain ⟨m, rfl⟩ := Int.eq_ofNat_of_zero_le (show 0 ≤ n by omega)
      have ha := and_q m (m - 1) (by omega) (by omega)
      have hfa := fit_and (m := m) (by omega) (by omega)
      have hw : wrap64 ((m : Int) - 1) = (m : Int) - 1 := wrap64_in (by omega) (by omega)
      rw [show ((m - 1 : Nat) : Int) = (m : Int) - 1 by omega] at ha
      obtain ⟨t, ht⟩ : ∃ t : Nat, t = m &&& (m - 1) := ⟨_, rfl⟩
      rw [← ht] at ha hfa
      rw [← hf] at hfa
      have HA := hid ha
      clear hn hno hf ht ha
      by_cases h0 : t = 0
      · obtain rfl := hfa.2 h0
        subst h0
        clear hfa
        go_enter Try.func38, Try.ntmps38
        go_wp2
        go_ret
        refine ⟨?_, rfl⟩
        show Ending.returned (.bool (bits .and .i64 (m : Int) ((m : Int) - 1) == 0)) = _
        rw [HA.out]
        first | rfl | (congr 2; exact beq_false_of_ne h0')
      · have hff : f = false := by
          rw [Bool.eq_false_iff]
          exact fun h => h0 (hfa.1 h)
        subst hff
        have h0' : ¬ (t : Int) = 0 := by omega
        clear hfa
        go_enter Try.func38, Try.ntmps38
        go_wp2
        go_ret
        refine ⟨?_, rfl⟩
        show Ending.returned (.bool (bits .and .i64 (m : Int) ((m : Int) - 1) == 0)) = _
        rw [HA.out]
        first | rfl | (congr 2; exact beq_false_of_ne h0')
    · obtain rfl := hno (fun h => h2 h.2)
      clear hn hno hf
      go_enter Try.func38, Try.ntmps38
      go_wp2
      go_ret
      exact ⟨rfl, rfl⟩
  · obtain rfl := hno (fun h => h1 h.1)
    clear hn hno hf
    go_enter Try.func38, Try.ntmps38
    go_wp2
    go_ret
    exact ⟨rfl, rfl⟩
theorem Root_e (n : Int) (W : World) (hn : I64 n) : Calls Try.prog 32 #[.int .i64 n] W fun e w' => e = .returned (.int .i64 (rootZ n)) ∧ w' = W := by
  have HF := hid (Fits_e n W hn)
  unfold rootZ
  by_cases hf : fitB n = true
  · have hb : 1 ≤ n ∧ n ≤ 65536 := by
      obtain ⟨j, h1, rfl⟩ := (fitB_iff n).1 hf
      have := pow_le16 h1
      have := Nat.one_le_two_pow (n := j)
      omega
    have hw1 : wrap64 (n - 1) = n - 1 := wrap64_in (by omega) (by omega)
    rw [if_pos hf]
    rw [hf] at HF
    clear hf hn hb
    go_enter Try.func32, Try.ntmps32
    go_wp2_with fail
    refine HF.out.mono ?_
    rintro e w1 ⟨rfl, rfl⟩
    clear HF
    go_wp2
    go_ret
    exact ⟨by first | rfl | (show Ending.returned (.int .i64 (wrap64 (n - 1))) = _; rw [hw1]), rfl⟩
  · have hff : fitB n = false := by simpa using hf
    rw [if_neg hf]
    rw [hff] at HF
    clear hn hff hf
    go_enter Try.func32, Try.ntmps32
    go_wp2_with fail
    refine HF.out.mono ?_
    rintro e w1 ⟨rfl, rfl⟩
    clear HF
    go_wp2
    go_ret
    exact ⟨rfl, rfl⟩
theorem hasChildren_no (x : Int) (W : World) (h : ¬ inT x 65536) : Calls Try.prog 40 #[.int .i64 x] W fun e w' => e = .returned (.bool false) ∧ w' = W := by
  have HF := hid (isNode_no x W h)
  clear h
  go_enter Try.func40, Try.ntmps40
  go_wp2_with fail
  refine HF.out.mono ?_
  rintro e w1 ⟨rfl, rfl⟩
  clear HF
  go_wp2
  go_ret
  exact ⟨rfl, rfl⟩
theorem hasChildren_e (x : Nat) (W : World) (h : inT x 65536) : Calls Try.prog 40 #[.int .i64 (x : Int)] W fun e w' => e = .returned (.bool (decide (x % 2 = 1))) ∧ w' = W := by
  have HF := hid (isNode_yes x W h)
  have hm : Int.tmod (x : Int) 2 = ((x % 2 : Nat) : Int) := by rw [Int.tmod_eq_emod_of_nonneg (by omega)]; omega
  clear h
  by_cases he : x % 2 = 1
  · rw [he] at hm ⊢
    go_enter Try.func40, Try.ntmps40
    go_wp2_with fail
    refine HF.out.mono ?_
    rintro e w1 ⟨rfl, rfl⟩
    clear HF
    go_wp2
    go_ret
    exact ⟨rfl, rfl⟩
  · rw [show x % 2 = 0 by omega] at hm ⊢
    go_enter Try.func40, Try.ntmps40
    go_wp2_with fail
    refine HF.out.mono ?_
    rintro e w1 ⟨rfl, rfl⟩
    clear HF
    go_wp2
    go_ret
    exact ⟨rfl, rfl⟩
theorem reach_e (q l k : Nat) (W : World) (hq : q < 2 ^ k) (hk : l + 1 + k ≤ 16) : Calls Try.prog 41 #[.int .i64 (nd q (l + 1) : Int)] W fun e w' => e = .returned (.int .i64 ((2 ^ l : Nat) : Int)) ∧ w' = W := by
  have HL := hid (lev_any (nd q (l + 1)) W (by have := nd_lt hq hk; omega))
  rw [lv_nd] at HL
  have hw : wrap64 (((l + 1 : Nat) : Int) - 1) = (l : Int) := (wrap64_in (by omega) (by omega)).trans (by omega)
  have hS : Op.shift .shl .i64 1 .i64 (l : Int) = pure (.int .i64 ((1 * 2 ^ l : Nat) : Int)) := shl_q 1 l l rfl (by omega) (by decide)
  rw [Nat.one_mul] at hS
  obtain ⟨x, hx⟩ : ∃ x : Int, x = (nd q (l + 1) : Int) := ⟨_, rfl⟩
  obtain ⟨z, hz⟩ : ∃ z : Int, z = ((l + 1 : Nat) : Int) := ⟨_, rfl⟩
  obtain ⟨z1, hz1⟩ : ∃ z : Int, z = (l : Int) := ⟨_, rfl⟩
  obtain ⟨y, hy⟩ : ∃ z : Int, z = ((2 ^ l : Nat) : Int) := ⟨_, rfl⟩
  rw [← hx, ← hz] at HL
  rw [← hz, ← hz1] at hw
  rw [← hx, ← hy]
  rw [← hz1, ← hy] at hS
  clear hx hy hq hk hz hz1
  go_enter Try.func41, Try.ntmps41
  go_wp2_with fail
  refine HL.out.mono ?_
  rintro e w1 ⟨rfl, rfl⟩
  clear HL
  go_wp2
  go_ret
  exact ⟨rfl, rfl⟩
theorem ends_e (q l k : Nat) (W : World) (hq : q < 2 ^ k) (hk : l + k ≤ 16) : Calls Try.prog 34 #[.int .i64 (nd q l : Int)] W fun e w' => e = .returned (.tuple #[.int .i64 (loN q l : Int), .int .i64 (hiN q l : Int)]) ∧ w' = W := by
  have h0 := nd_lt hq hk
  have HL := hid (lev_any (nd q l) W (by omega))
  rw [lv_nd] at HL
  have hS : Op.shift .shl .i64 1 .i64 (l : Int) = pure (.int .i64 ((1 * 2 ^ l : Nat) : Int)) := shl_q 1 l l rfl (by omega) (by decide)
  rw [Nat.one_mul] at hS
  have h1 := lo_nd q l
  have h2 := nd_hi q l
  have hp := Nat.one_le_two_pow (n := l)
  have hp2 := pow_le16 (h := l) (by omega)
  obtain ⟨P, hP⟩ : ∃ x, x = 2 ^ l := ⟨_, rfl⟩
  rw [← hP] at hS h1 h2 hp hp2
  obtain ⟨x, hx⟩ : ∃ x, x = nd q l := ⟨_, rfl⟩
  obtain ⟨a, ha⟩ : ∃ x, x = loN q l := ⟨_, rfl⟩
  obtain ⟨b, hb⟩ : ∃ x, x = hiN q l := ⟨_, rfl⟩
  obtain ⟨z, hz⟩ : ∃ z : Int, z = (l : Int) := ⟨_, rfl⟩
  rw [← hx] at HL h0 h1 h2
  rw [← hz] at HL hS
  rw [← hb] at h2
  rw [← ha] at h1
  rw [← hx, ← ha, ← hb]
  have hw1 : wrap64 ((P : Int) - 1) = (P : Int) - 1 := wrap64_in (by omega) (by omega)
  have hw2 : wrap64 ((x : Int) - ((P : Int) - 1)) = (a : Int) := (wrap64_in (by omega) (by omega)).trans (by omega)
  have hw3 : wrap64 ((x : Int) + ((P : Int) - 1)) = (b : Int) := (wrap64_in (by omega) (by omega)).trans (by omega)
  clear hx ha hb hz h0 h1 h2 hp hp2 hP hq hk
  go_enter Try.func34, Try.ntmps34
  go_wp2_with fail
  refine HL.out.mono ?_
  rintro e w1 ⟨rfl, rfl⟩
  clear HL
  go_wp2
  refine bodyPost_ret (v := .tuple #[.int .i64 (wrap64 ((x : Int) - ((P : Int) - 1))), .int .i64 (wrap64 ((x : Int) + ((P : Int) - 1)))]) (by simp [results, Try.results34, go_sem]) rfl ⟨?_, rfl⟩
  rw [hw2, hw3]
end Go.Proofs.Ytmipocpajglbaaa
end
section
namespace Go.Proofs.Ytmipocpajglbaaa
open Go Go.RowKit
set_option linter.unusedVariables false
set_option linter.unusedSimpArgs false
theorem root_ok : WRoot := fun x W hx => (Root_e x W hx).mono fun e w' ⟨h1, h2⟩ => ⟨h1, by rw [h2]; exact Below.refl _ _⟩
theorem level_ok : WLevel := fun x W _ => by
  by_cases h : inT x 65536
  · have HI := hid (isNode_yes x W h)
    obtain ⟨q, l, k, hq, hk, rfl⟩ := inT_16' h
    rw [levelZ_nd hq hk]
    have HL := hid (lev_any (nd q l) W (by have := nd_lt (l := l) hq (by omega); omega))
    rw [lv_nd] at HL
    obtain ⟨x, hx⟩ : ∃ x : Int, x = (nd q l : Int) := ⟨_, rfl⟩
    rw [← hx] at HI HL ⊢
    clear hx h hq hk
    go_enter Try.func42, Try.ntmps42
    go_wp2_with fail
    refine HI.out.mono ?_
    rintro e w1 ⟨rfl, rfl⟩
    go_wp2_with fail
    refine HL.out.mono ?_
    rintro e w1 ⟨rfl, rfl⟩
    go_wp2
    go_ret
    exact ⟨rfl, Below.refl _ _⟩
  · have HI := hid (isNode_no x W h)
    rw [levelZ_no h]
    clear h
    go_enter Try.func42, Try.ntmps42
    go_wp2_with fail
    refine HI.out.mono ?_
    rintro e w1 ⟨rfl, rfl⟩
    go_wp2
    go_ret
    exact ⟨rfl, Below.refl _ _⟩
theorem left_ok : WLeft := fun x W _ => by
  by_cases h : inT x 65536
  · obtain ⟨q, l, k, hq, hk, rfl⟩ := inT_16' h
    have HC := hid (hasChildren_e (nd q l) W h)
    cases l with
    | zero =>
      rw [leftZ_leaf]
      rw [decide_eq_false (by rw [nd_zero]; omega)] at HC
      obtain ⟨x, hx⟩ : ∃ x : Int, x = (nd q 0 : Int) := ⟨_, rfl⟩
      rw [← hx] at HC ⊢
      clear hx h hq hk
      go_enter Try.func35, Try.ntmps35
      go_wp2_with fail
      refine HC.out.mono ?_
      rintro e w1 ⟨rfl, rfl⟩
      go_wp2
      go_ret
      exact ⟨rfl, Below.refl _ _⟩
    | succ l =>
      rw [leftZ_nd hq hk]
      rw [decide_eq_true (by rw [nd_succ]; omega)] at HC
      have HR := hid (reach_e q l k W hq (by omega))
      have h1 := nd_left q l
      have h2 := nd_lt (l := l + 1) hq (by omega)
      obtain ⟨x, hx⟩ : ∃ x, x = nd q (l + 1) := ⟨_, rfl⟩
      obtain ⟨y, hy⟩ : ∃ x, x = 2 ^ l := ⟨_, rfl⟩
      obtain ⟨z, hz⟩ : ∃ x, x = nd (2 * q) l := ⟨_, rfl⟩
      rw [← hx] at HC HR h1 h2 ⊢
      rw [← hy] at HR h1
      rw [← hz] at h1 ⊢
      have hw : wrap64 ((x : Int) - (y : Int)) = (z : Int) := (wrap64_in (by omega) (by omega)).trans (by omega)
      clear hx hy hz h hq hk h1 h2
      go_enter Try.func35, Try.ntmps35
      go_wp2_with fail
      refine HC.out.mono ?_
      rintro e w1 ⟨rfl, rfl⟩
      go_wp2_with fail
      refine HR.out.mono ?_
      rintro e w1 ⟨rfl, rfl⟩
      go_wp2
      go_ret
      exact ⟨by first | rfl | (show Ending.returned (.int .i64 (wrap64 ((x : Int) - (y : Int)))) = _; rw [hw]), Below.refl _ _⟩
  · have HC := hid (hasChildren_no x W h)
    rw [leftZ_no h]
    clear h
    go_enter Try.func35, Try.ntmps35
    go_wp2_with fail
    refine HC.out.mono ?_
    rintro e w1 ⟨rfl, rfl⟩
    go_wp2
    go_ret
    exact ⟨rfl, Below.refl _ _⟩
theorem right_ok : WRight := fun x W _ => by
  by_cases h : inT x 65536
  · obtain ⟨q, l, k, hq, hk, rfl⟩ := inT_16' h
    have HC := hid (hasChildren_e (nd q l) W h)
    cases l with
    | zero =>
      rw [rightZ_leaf]
      rw [decide_eq_false (by rw [nd_zero]; omega)] at HC
      obtain ⟨x, hx⟩ : ∃ x : Int, x = (nd q 0 : Int) := ⟨_, rfl⟩
      rw [← hx] at HC ⊢
      clear hx h hq hk
      go_enter Try.func37, Try.ntmps37
      go_wp2_with fail
      refine HC.out.mono ?_
      rintro e w1 ⟨rfl, rfl⟩
      go_wp2
      go_ret
      exact ⟨rfl, Below.refl _ _⟩
    | succ l =>
      rw [rightZ_nd hq hk]
      rw [decide_eq_true (by rw [nd_succ]; omega)] at HC
      have HR := hid (reach_e q l k W hq (by omega))
      have h1 := nd_right q l
      have h2 := nd_lt (l := l + 1) hq (by omega)
      have h3 := pow_le16 (h := l) (by omega)
      obtain ⟨x, hx⟩ : ∃ x, x = nd q (l + 1) := ⟨_, rfl⟩
      obtain ⟨y, hy⟩ : ∃ x, x = 2 ^ l := ⟨_, rfl⟩
      obtain ⟨z, hz⟩ : ∃ x, x = nd (2 * q + 1) l := ⟨_, rfl⟩
      rw [← hx] at HC HR h1 h2 ⊢
      rw [← hy] at HR h1 h3
      rw [← hz] at h1 ⊢
      have hw : wrap64 ((x : Int) + (y : Int)) = (z : Int) := (wrap64_in (by omega) (by omega)).trans (by omega)
      clear hx hy hz h hq hk h1 h2 h3
      go_enter Try.func37, Try.ntmps37
      go_wp2_with fail
      refine HC.out.mono ?_
      rintro e w1 ⟨rfl, rfl⟩
      go_wp2_with fail
      refine HR.out.mono ?_
      rintro e w1 ⟨rfl, rfl⟩
      go_wp2
      go_ret
      exact ⟨by first | rfl | (show Ending.returned (.int .i64 (wrap64 ((x : Int) + (y : Int)))) = _; rw [hw]), Below.refl _ _⟩
  · have HC := hid (hasChildren_no x W h)
    rw [rightZ_no h]
    clear h
    go_enter Try.func37, Try.ntmps37
    go_wp2_with fail
    refine HC.out.mono ?_
    rintro e w1 ⟨rfl, rfl⟩
    go_wp2
    go_ret
    exact ⟨rfl, Below.refl _ _⟩
theorem under_e (q l k r m k' : Nat) (W : World) (hq : q < 2 ^ k) (hk : l + k = 16) (hr : r < 2 ^ k') (hk' : m + k' = 16) : Calls Try.prog 26 #[.int .i64 (nd q l : Int), .int .i64 (nd r m : Int)] W fun e w' => e = .returned (.bool (undB q l r m)) ∧ w' = W := by
  have HI := hid (isNode_yes (nd q l) W (inB_iff.1 (inB_16 hq hk)))
  have HJ := hid (isNode_yes (nd r m) W (inB_iff.1 (inB_16 hr hk')))
  have HE := hid (ends_e r m k' W hr (by omega))
  have hU : undB q l r m = (decide ((loN r m : Int) ≤ (nd q l : Int)) && decide ((nd q l : Int) ≤ (hiN r m : Int))) := by unfold undB; simp
  rw [hU]
  obtain ⟨x, hx⟩ : ∃ x : Int, x = (nd q l : Int) := ⟨_, rfl⟩
  obtain ⟨y, hy⟩ : ∃ x : Int, x = (nd r m : Int) := ⟨_, rfl⟩
  obtain ⟨a, ha⟩ : ∃ x : Int, x = (loN r m : Int) := ⟨_, rfl⟩
  obtain ⟨b, hb⟩ : ∃ x : Int, x = (hiN r m : Int) := ⟨_, rfl⟩
  rw [← hx] at HI ⊢
  rw [← hy] at HJ HE ⊢
  rw [← ha, ← hb] at HE ⊢
  clear hx hy ha hb hU hq hk hr hk'
  by_cases h : a ≤ x
  · rw [decide_eq_true h, Bool.true_and]
    go_enter Try.func26, Try.ntmps26
    go_wp2_with fail
    refine HI.out.mono ?_
    rintro e w1 ⟨rfl, rfl⟩
    go_wp2_with fail
    refine HJ.out.mono ?_
    rintro e w1 ⟨rfl, rfl⟩
    go_wp2_with fail
    refine HE.out.mono ?_
    rintro e w1 ⟨rfl, rfl⟩
    go_wp2
    go_ret
    exact ⟨rfl, rfl⟩
  · rw [decide_eq_false h, Bool.false_and]
    go_enter Try.func26, Try.ntmps26
    go_wp2_with fail
    refine HI.out.mono ?_
    rintro e w1 ⟨rfl, rfl⟩
    go_wp2_with fail
    refine HJ.out.mono ?_
    rintro e w1 ⟨rfl, rfl⟩
    go_wp2_with fail
    refine HE.out.mono ?_
    rintro e w1 ⟨rfl, rfl⟩
    go_wp2
    go_ret
    exact ⟨rfl, rfl⟩
theorem under_ok : WUnder := fun x y W _ _ => by
  by_cases h : inT x 65536
  · by_cases h' : inT y 65536
    · obtain ⟨q, l, k, hq, hk, rfl⟩ := inT_16' h
      obtain ⟨r, m, k', hr, hk', rfl⟩ := inT_16' h'
      rw [underZ_nd hq hk hr hk']
      exact (under_e q l k r m k' W hq hk hr hk').mono fun e w' ⟨h1, h2⟩ => ⟨h1, by rw [h2]; exact Below.refl _ _⟩
    · rw [underZ_no (.inr h')]
      have HI := hid (isNode_yes x W h)
      have HJ := hid (isNode_no y W h')
      clear h h'
      go_enter Try.func26, Try.ntmps26
      go_wp2_with fail
      refine HI.out.mono ?_
      rintro e w1 ⟨rfl, rfl⟩
      go_wp2_with fail
      refine HJ.out.mono ?_
      rintro e w1 ⟨rfl, rfl⟩
      go_wp2
      go_ret
      exact ⟨rfl, Below.refl _ _⟩
  · rw [underZ_no (.inl h)]
    have HI := hid (isNode_no x W h)
    clear h
    go_enter Try.func26, Try.ntmps26
    go_wp2_with fail
    refine HI.out.mono ?_
    rintro e w1 ⟨rfl, rfl⟩
    go_wp2
    go_ret
    exact ⟨rfl, Below.refl _ _⟩
end Go.Proofs.Ytmipocpajglbaaa
end
