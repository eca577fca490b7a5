/-
  Package walk as it landed: what each exported function answers, for any numbers.
-/
import Derived.Test.YtaoddlcoedodcaaWlA
namespace Go.Proofs.Ytaoddlcoedodcaa
open Go Go.RowKit
set_option linter.unusedVariables false
set_option linter.unusedSimpArgs false
theorem fits_ok : WFits := fun x W hx => (Fits_e x W hx).mono fun e w' ⟨h1, h2⟩ => ⟨h1, by rw [h2]; exact Below.refl _ _⟩
theorem root_ok : WRoot := fun x W hx => (Root_e x W hx).mono fun e w' ⟨h1, h2⟩ => ⟨h1, by rw [h2]; exact Below.refl _ _⟩
theorem level_ok : WLevel := fun x W _ => by
  by_cases h : inT x 65536
  · have HI := hid (isNode_yes x W h)
    obtain ⟨q, l, k, hq, hk, rfl⟩ := inT_16' h
    rw [levelZ_nd hq hk]
    have HL := hid (lev_any (nd q l) W (by have := nd_lt (l := l) hq (by omega); omega))
    rw [lv_nd] at HL
    obtain ⟨x, hx⟩ : ∃ x : Int, x = (nd q l : Int) := ⟨_, rfl⟩
    rw [← hx] at HI HL ⊢
    clear hx h hq hk
    go_enter Try.func14, Try.ntmps14
    go_wp2_with fail
    refine HI.out.mono ?_
    rintro e w1 ⟨rfl, rfl⟩
    go_wp2_with fail
    refine HL.out.mono ?_
    rintro e w1 ⟨rfl, rfl⟩
    go_wp2
    go_ret
    exact ⟨rfl, Below.refl _ _⟩
  · have HI := hid (isNode_no x W h)
    rw [levelZ_no h]
    clear h
    go_enter Try.func14, Try.ntmps14
    go_wp2_with fail
    refine HI.out.mono ?_
    rintro e w1 ⟨rfl, rfl⟩
    go_wp2
    go_ret
    exact ⟨rfl, Below.refl _ _⟩
theorem left_ok : WLeft := fun x W _ => by
  by_cases h : inT x 65536
  · obtain ⟨q, l, k, hq, hk, rfl⟩ := inT_16' h
    have HC := hid (hasChildren_e (nd q l) W h)
    cases l with
    | zero =>
      rw [leftZ_leaf]
      rw [decide_eq_false (by rw [nd_zero]; omega)] at HC
      obtain ⟨x, hx⟩ : ∃ x : Int, x = (nd q 0 : Int) := ⟨_, rfl⟩
      rw [← hx] at HC ⊢
      clear hx h hq hk
      go_enter Try.func16, Try.ntmps16
      go_wp2_with fail
      refine HC.out.mono ?_
      rintro e w1 ⟨rfl, rfl⟩
      go_wp2
      go_ret
      exact ⟨rfl, Below.refl _ _⟩
    | succ l =>
      rw [leftZ_nd hq hk]
      rw [decide_eq_true (by rw [nd_succ]; omega)] at HC
      have HR := hid (reach_e q l k W hq (by omega))
      have h1 := nd_left q l
      have h2 := nd_lt (l := l + 1) hq (by omega)
      obtain ⟨x, hx⟩ : ∃ x, x = nd q (l + 1) := ⟨_, rfl⟩
      obtain ⟨y, hy⟩ : ∃ x, x = 2 ^ l := ⟨_, rfl⟩
      obtain ⟨z, hz⟩ : ∃ x, x = nd (2 * q) l := ⟨_, rfl⟩
      rw [← hx] at HC HR h1 h2 ⊢
      rw [← hy] at HR h1
      rw [← hz] at h1 ⊢
      have hw : wrap64 ((x : Int) - (y : Int)) = (z : Int) := (wrap64_in (by omega) (by omega)).trans (by omega)
      clear hx hy hz h hq hk h1 h2
      go_enter Try.func16, Try.ntmps16
      go_wp2_with fail
      refine HC.out.mono ?_
      rintro e w1 ⟨rfl, rfl⟩
      go_wp2_with fail
      refine HR.out.mono ?_
      rintro e w1 ⟨rfl, rfl⟩
      go_wp2
      go_ret
      exact ⟨by first | rfl | (show Ending.returned (.int .i64 (wrap64 ((x : Int) - (y : Int)))) = _; rw [hw]), Below.refl _ _⟩
  · have HC := hid (hasChildren_no x W h)
    rw [leftZ_no h]
    clear h
    go_enter Try.func16, Try.ntmps16
    go_wp2_with fail
    refine HC.out.mono ?_
    rintro e w1 ⟨rfl, rfl⟩
    go_wp2
    go_ret
    exact ⟨rfl, Below.refl _ _⟩
theorem right_ok : WRight := fun x W _ => by
  by_cases h : inT x 65536
  · obtain ⟨q, l, k, hq, hk, rfl⟩ := inT_16' h
    have HC := hid (hasChildren_e (nd q l) W h)
    cases l with
    | zero =>
      rw [rightZ_leaf]
      rw [decide_eq_false (by rw [nd_zero]; omega)] at HC
      obtain ⟨x, hx⟩ : ∃ x : Int, x = (nd q 0 : Int) := ⟨_, rfl⟩
      rw [← hx] at HC ⊢
      clear hx h hq hk
      go_enter Try.func17, Try.ntmps17
      go_wp2_with fail
      refine HC.out.mono ?_
      rintro e w1 ⟨rfl, rfl⟩
      go_wp2
      go_ret
      exact ⟨rfl, Below.refl _ _⟩
    | succ l =>
      rw [rightZ_nd hq hk]
      rw [decide_eq_true (by rw [nd_succ]; omega)] at HC
      have HR := hid (reach_e q l k W hq (by omega))
      have h1 := nd_right q l
      have h2 := nd_lt (l := l + 1) hq (by omega)
      have h3 := pow_le16 (h := l) (by omega)
      obtain ⟨x, hx⟩ : ∃ x, x = nd q (l + 1) := ⟨_, rfl⟩
      obtain ⟨y, hy⟩ : ∃ x, x = 2 ^ l := ⟨_, rfl⟩
      obtain ⟨z, hz⟩ : ∃ x, x = nd (2 * q + 1) l := ⟨_, rfl⟩
      rw [← hx] at HC HR h1 h2 ⊢
      rw [← hy] at HR h1 h3
      rw [← hz] at h1 ⊢
      have hw : wrap64 ((x : Int) + (y : Int)) = (z : Int) := (wrap64_in (by omega) (by omega)).trans (by omega)
      clear hx hy hz h hq hk h1 h2 h3
      go_enter Try.func17, Try.ntmps17
      go_wp2_with fail
      refine HC.out.mono ?_
      rintro e w1 ⟨rfl, rfl⟩
      go_wp2_with fail
      refine HR.out.mono ?_
      rintro e w1 ⟨rfl, rfl⟩
      go_wp2
      go_ret
      exact ⟨by first | rfl | (show Ending.returned (.int .i64 (wrap64 ((x : Int) + (y : Int)))) = _; rw [hw]), Below.refl _ _⟩
  · have HC := hid (hasChildren_no x W h)
    rw [rightZ_no h]
    clear h
    go_enter Try.func17, Try.ntmps17
    go_wp2_with fail
    refine HC.out.mono ?_
    rintro e w1 ⟨rfl, rfl⟩
    go_wp2
    go_ret
    exact ⟨rfl, Below.refl _ _⟩
theorem span_ok : WSpan := fun x W _ => by
  by_cases h : inT x 65536
  · have HI := hid (isNode_yes x W h)
    obtain ⟨q, l, k, hq, hk, rfl⟩ := inT_16' h
    rw [firstZ_nd hq hk, lastZ_nd hq hk]
    have HE := hid (ends_e q l k W hq (by omega))
    have h1 : loN q l = 2 * (q * 2 ^ l) := by unfold loN; rw [pow1, ← Nat.mul_assoc, Nat.mul_comm q 2, Nat.mul_assoc]
    have h2 : hiN q l = 2 * ((q + 1) * 2 ^ l - 1) := by
      have e1 : hiN q l = loN q l + (2 ^ (l + 1) - 2) := rfl
      have := Nat.one_le_two_pow (n := l)
      rw [e1, h1, pow1, Nat.add_mul, Nat.one_mul]; omega
    have h3 := hi_bound (l := l) hq
    have h4 := pow_le16 (show l + k ≤ 16 by omega)
    have h5 : loN q l ≤ hiN q l := Nat.le_trans (lo_le q l) (le_hi q l)
    obtain ⟨x, hx⟩ : ∃ x : Int, x = (nd q l : Int) := ⟨_, rfl⟩
    obtain ⟨a, ha⟩ : ∃ x, x = loN q l := ⟨_, rfl⟩
    obtain ⟨b, hb⟩ : ∃ x, x = hiN q l := ⟨_, rfl⟩
    obtain ⟨a', ha'⟩ : ∃ x, x = q * 2 ^ l := ⟨_, rfl⟩
    obtain ⟨b', hb'⟩ : ∃ x, x = (q + 1) * 2 ^ l - 1 := ⟨_, rfl⟩
    rw [← hx] at HI HE ⊢
    rw [← ha, ← hb] at HE h5
    rw [← ha, ← ha'] at h1
    rw [← hb, ← hb'] at h2
    rw [← hb] at h3
    rw [← ha', ← hb']
    have hw1 : Int.tdiv (a : Int) 2 = (a' : Int) := by rw [Int.tdiv_eq_ediv_of_nonneg (by omega)]; omega
    have hw2 : Int.tdiv (b : Int) 2 = (b' : Int) := by rw [Int.tdiv_eq_ediv_of_nonneg (by omega)]; omega
    have hw3 : wrap64 (a' : Int) = (a' : Int) := wrap64_in (by omega) (by omega)
    have hw4 : wrap64 (b' : Int) = (b' : Int) := wrap64_in (by omega) (by omega)
    clear hx ha hb ha' hb' h1 h2 h3 h4 h5 h hq hk
    go_enter Try.func11, Try.ntmps11
    go_wp2_with fail
    refine HI.out.mono ?_
    rintro e w1 ⟨rfl, rfl⟩
    go_wp2_with fail
    refine HE.out.mono ?_
    rintro e w1 ⟨rfl, rfl⟩
    go_wp2
    go_ret2
    exact ⟨by first | rfl | (show Ending.returned (.tuple #[.int .i64 (wrap64 (a' : Int)), .int .i64 (wrap64 (b' : Int))]) = _; rw [hw3, hw4]), Below.refl _ _⟩
  · have HI := hid (isNode_no x W h)
    rw [firstZ_no h, lastZ_no h]
    clear h
    go_enter Try.func11, Try.ntmps11
    go_wp2_with fail
    refine HI.out.mono ?_
    rintro e w1 ⟨rfl, rfl⟩
    go_wp2
    go_ret2
    exact ⟨rfl, Below.refl _ _⟩
theorem under_e (q l k r m k' : Nat) (W : World) (hq : q < 2 ^ k) (hk : l + k = 16) (hr : r < 2 ^ k') (hk' : m + k' = 16) : Calls Try.prog 31 #[.int .i64 (nd q l : Int), .int .i64 (nd r m : Int)] W fun e w' => e = .returned (.bool (undB q l r m)) ∧ w' = W := by
  have HI := hid (isNode_yes (nd q l) W (inB_iff.1 (inB_16 hq hk)))
  have HJ := hid (isNode_yes (nd r m) W (inB_iff.1 (inB_16 hr hk')))
  have HE := hid (ends_e r m k' W hr (by omega))
  have hU : undB q l r m = (decide ((loN r m : Int) ≤ (nd q l : Int)) && decide ((nd q l : Int) ≤ (hiN r m : Int))) := by unfold undB; simp
  rw [hU]
  obtain ⟨x, hx⟩ : ∃ x : Int, x = (nd q l : Int) := ⟨_, rfl⟩
  obtain ⟨y, hy⟩ : ∃ x : Int, x = (nd r m : Int) := ⟨_, rfl⟩
  obtain ⟨a, ha⟩ : ∃ x : Int, x = (loN r m : Int) := ⟨_, rfl⟩
  obtain ⟨b, hb⟩ : ∃ x : Int, x = (hiN r m : Int) := ⟨_, rfl⟩
  rw [← hx] at HI ⊢
  rw [← hy] at HJ HE ⊢
  rw [← ha, ← hb] at HE ⊢
  clear hx hy ha hb hU hq hk hr hk'
  by_cases h : a ≤ x
  · rw [decide_eq_true h, Bool.true_and]
    go_enter Try.func31, Try.ntmps31
    go_wp2_with fail
    refine HI.out.mono ?_
    rintro e w1 ⟨rfl, rfl⟩
    go_wp2_with fail
    refine HJ.out.mono ?_
    rintro e w1 ⟨rfl, rfl⟩
    go_wp2_with fail
    refine HE.out.mono ?_
    rintro e w1 ⟨rfl, rfl⟩
    go_wp2
    go_ret
    exact ⟨rfl, rfl⟩
  · rw [decide_eq_false h, Bool.false_and]
    go_enter Try.func31, Try.ntmps31
    go_wp2_with fail
    refine HI.out.mono ?_
    rintro e w1 ⟨rfl, rfl⟩
    go_wp2_with fail
    refine HJ.out.mono ?_
    rintro e w1 ⟨rfl, rfl⟩
    go_wp2_with fail
    refine HE.out.mono ?_
    rintro e w1 ⟨rfl, rfl⟩
    go_wp2
    go_ret
    exact ⟨rfl, rfl⟩
theorem under_ok : WUnder := fun x y W _ _ => by
  by_cases h : inT x 65536
  · by_cases h' : inT y 65536
    · obtain ⟨q, l, k, hq, hk, rfl⟩ := inT_16' h
      obtain ⟨r, m, k', hr, hk', rfl⟩ := inT_16' h'
      rw [underZ_nd hq hk hr hk']
      exact (under_e q l k r m k' W hq hk hr hk').mono fun e w' ⟨h1, h2⟩ => ⟨h1, by rw [h2]; exact Below.refl _ _⟩
    · rw [underZ_no (.inr h')]
      have HI := hid (isNode_yes x W h)
      have HJ := hid (isNode_no y W h')
      clear h h'
      go_enter Try.func31, Try.ntmps31
      go_wp2_with fail
      refine HI.out.mono ?_
      rintro e w1 ⟨rfl, rfl⟩
      go_wp2_with fail
      refine HJ.out.mono ?_
      rintro e w1 ⟨rfl, rfl⟩
      go_wp2
      go_ret
      exact ⟨rfl, Below.refl _ _⟩
  · rw [underZ_no (.inl h)]
    have HI := hid (isNode_no x W h)
    clear h
    go_enter Try.func31, Try.ntmps31
    go_wp2_with fail
    refine HI.out.mono ?_
    rintro e w1 ⟨rfl, rfl⟩
    go_wp2
    go_ret
    exact ⟨rfl, Below.refl _ _⟩
theorem parent_ok : WParent := fun x n W _ hn => by
  by_cases h : inT x n
  · obtain ⟨q, l, k, hq, hk, rfl, rfl⟩ := h
    cases k with
    | zero =>
      obtain rfl : q = 0 := by simpa using hq
      rw [Nat.add_zero] at hk ⊢
      rw [parentZ_root]
      have HP := hid (hasParent_root l W hk)
      obtain ⟨x, hx⟩ : ∃ x : Int, x = (nd 0 l : Int) := ⟨_, rfl⟩
      obtain ⟨n, hn⟩ : ∃ x : Int, x = ((2 ^ l : Nat) : Int) := ⟨_, rfl⟩
      rw [← hx, ← hn] at HP ⊢
      clear hx hn hk hq
      go_enter Try.func20, Try.ntmps20
      go_wp2_with fail
      refine HP.out.mono ?_
      rintro e w1 ⟨rfl, rfl⟩
      go_wp2
      go_ret
      exact ⟨rfl, Below.refl _ _⟩
    | succ k =>
      rw [parentZ_nd hq hk]
      have HP := hid (hasParent_yes q l k W hq hk)
      have HA := hid (above_any q l (k + 1) W hq hk)
      obtain ⟨x, hx⟩ : ∃ x : Int, x = (nd q l : Int) := ⟨_, rfl⟩
      obtain ⟨n, hn⟩ : ∃ x : Int, x = ((2 ^ (l + (k + 1)) : Nat) : Int) := ⟨_, rfl⟩
      rw [← hx, ← hn] at HP ⊢
      rw [← hx] at HA
      clear hx hn hk hq
      go_enter Try.func20, Try.ntmps20
      go_wp2_with fail
      refine HP.out.mono ?_
      rintro e w1 ⟨rfl, rfl⟩
      go_wp2_with fail
      refine HA.out.mono ?_
      rintro e w1 ⟨rfl, rfl⟩
      go_wp2
      go_ret
      exact ⟨rfl, Below.refl _ _⟩
  · rw [parentZ_no h]
    have HP := hid (hasParent_no x n W hn h)
    clear hn h
    go_enter Try.func20, Try.ntmps20
    go_wp2_with fail
    refine HP.out.mono ?_
    rintro e w1 ⟨rfl, rfl⟩
    go_wp2
    go_ret
    exact ⟨rfl, Below.refl _ _⟩
theorem sibling_ok : WSibling := fun x n W _ hn => by
  by_cases h : inT x n
  · obtain ⟨q, l, k, hq, hk, rfl, rfl⟩ := h
    cases k with
    | zero =>
      obtain rfl : q = 0 := by simpa using hq
      rw [Nat.add_zero] at hk ⊢
      rw [sibZ_root]
      have HP := hid (hasParent_root l W hk)
      obtain ⟨x, hx⟩ : ∃ x : Int, x = (nd 0 l : Int) := ⟨_, rfl⟩
      obtain ⟨n, hn⟩ : ∃ x : Int, x = ((2 ^ l : Nat) : Int) := ⟨_, rfl⟩
      rw [← hx, ← hn] at HP ⊢
      clear hx hn hk hq
      go_enter Try.func22, Try.ntmps22
      go_wp2_with fail
      refine HP.out.mono ?_
      rintro e w1 ⟨rfl, rfl⟩
      go_wp2
      go_ret
      exact ⟨rfl, Below.refl _ _⟩
    | succ k =>
      rw [sibZ_nd hq hk]
      have HP := hid (hasParent_yes q l k W hq hk)
      have HA := hid (beside_any q l (k + 1) W hq hk)
      obtain ⟨x, hx⟩ : ∃ x : Int, x = (nd q l : Int) := ⟨_, rfl⟩
      obtain ⟨n, hn⟩ : ∃ x : Int, x = ((2 ^ (l + (k + 1)) : Nat) : Int) := ⟨_, rfl⟩
      rw [← hx, ← hn] at HP ⊢
      rw [← hx] at HA
      clear hx hn hk hq
      go_enter Try.func22, Try.ntmps22
      go_wp2_with fail
      refine HP.out.mono ?_
      rintro e w1 ⟨rfl, rfl⟩
      go_wp2_with fail
      refine HA.out.mono ?_
      rintro e w1 ⟨rfl, rfl⟩
      go_wp2
      go_ret
      exact ⟨rfl, Below.refl _ _⟩
  · rw [sibZ_no h]
    have HP := hid (hasParent_no x n W hn h)
    clear hn h
    go_enter Try.func22, Try.ntmps22
    go_wp2_with fail
    refine HP.out.mono ?_
    rintro e w1 ⟨rfl, rfl⟩
    go_wp2
    go_ret
    exact ⟨rfl, Below.refl _ _⟩
end Go.Proofs.Ytaoddlcoedodcaa
