/-
  The document's layer 14: levels, children, parents.
-/
import Derived.Test.YtaoddlcoedodcaaRef14a
namespace Go.Proofs.Ytaoddlcoedodcaa
open Go Go.RowKit
set_option linter.unusedVariables false
set_option linter.unusedSimpArgs false
set_option maxHeartbeats 1000000 in
theorem Level14_ok (q l k : Nat) (w : World) (hq : q < 2 ^ k) (hk : l + k = 16) : Calls Try.prog 15 #[.int .i64 (nd q l : Int)] w fun e w' => e = .returned (.int .i64 (l : Int)) ∧ Below w.heap.size w w' := by
  have HK := hid (fun W => Last14_ok q l k W hq (by omega))
  rw [hk, show ((2 ^ 16 : Nat) : Int) = 65536 by decide] at HK
  have hl16 : l ≤ 16 := by omega
  have hd : wrap64 (wrap64 ((hiN q l : Int) - (loN q l : Int)) + 1) = ((2 ^ (l + 1) - 1 : Nat) : Int) := by
    have h1 : hiN q l = loN q l + (2 ^ (l + 1) - 2) := rfl
    have h2 := pow_le16 hl16
    have h3 := pow1 l
    have h4 := Nat.one_le_two_pow (n := l)
    rw [wrap64_in (x := (hiN q l : Int) - (loN q l : Int)) (by omega) (by omega), wrap64_in (by omega) (by omega)]
    omega
  obtain ⟨x, hx⟩ : ∃ x : Int, x = (nd q l : Int) := ⟨_, rfl⟩
  have HB := box_cells
  rw [← hx] at HK
  rw [← hx]
  have HD := hid hd
  have HL := hid hl16
  clear hx hq hk hd hl16
  go_enter Try.func15, Try.ntmps15
  go_wp2_with fail
  refine (HK.out _).mono ?_
  rintro e w1 ⟨rfl, hb⟩
  have hZ := hid (heap_alloc_new w1 (.cells z3 TN))
  obtain ⟨h0, h1, h2⟩ := HB w1 q l
  have hd := HD.out
  have HB2 := hid (hb.trans ((box_below w1 (ndA q l)).mono hb.size))
  clear HB hb HK h0
  go_wp2_with (first | (with_reducible refine wpList_store_row rfl TN (.tmp 3) _ rfl w1.heap.size (ndA q l) rfl rfl TN z3 hZ.out infoNd ndA_size ndA_one ?_))
  obtain ⟨w2, hw2⟩ : ∃ w2, w2 = (w1.alloc (.cells z3 TN)).setRow w1.heap.size (ndA q l) := ⟨_, rfl⟩
  rw [← hw2] at HB2
  go_loopg [5, 6] l (fun r n v wr => r ≤ l ∧ n = .int .i64 ((l - r : Nat) : Int) ∧ v = .int .i64 ((2 ^ (r + 1) - 1 : Nat) : Int) ∧ wr = w2)
  case atStart => exact ⟨Nat.le_refl _, by rw [Nat.sub_self]; rfl, by rw [hd], hw2.symm⟩
  case round =>
    obtain ⟨hr, rfl, rfl, rfl⟩ := hrel
    clear hd h1 h2 hZ hw2
    cases gk with
    | zero =>
      simp only [Nat.zero_add, Nat.pow_one, Nat.sub_zero]
      go_wp2
      go_ret
      exact ⟨rfl, HB2.out⟩
    | succ r =>
      obtain ⟨P, hP⟩ : ∃ P, P = 2 ^ (r + 1) - 1 := ⟨_, rfl⟩
      have h2 : 2 ^ (r + 1 + 1) - 1 = 2 * P + 1 := by have := pow1 (r + 1); have := Nat.one_le_two_pow (n := r + 1); omega
      have hp := pow_le16 (h := r + 1) (by have := HL.out; omega)
      have hp1 := Nat.one_le_two_pow (n := r)
      have hp2 := pow1 r
      rw [h2]
      have hV : ((2 * P + 1 : Nat) : Int) / 2 = (P : Int) := by omega
      have hV2 : Int.tdiv ((2 * P + 1 : Nat) : Int) 2 = (P : Int) := by rw [Int.tdiv_eq_ediv_of_nonneg (by omega)]; exact hV
      have hgt : ((2 * P + 1 : Nat) : Int) > 1 := by omega
      obtain ⟨V, hVV⟩ : ∃ V : Int, V = ((2 * P + 1 : Nat) : Int) := ⟨_, rfl⟩
      rw [← hVV] at hV hV2 hgt ⊢
      have hwP : wrap64 (P : Int) = (P : Int) := wrap64_in (by omega) (by omega)
      obtain ⟨m, hm⟩ : ∃ m, m = l - (r + 1) := ⟨_, rfl⟩
      have hwm : wrap64 ((m : Int) + 1) = ((m + 1 : Nat) : Int) := (wrap64_in (by have := HL.out; omega) (by have := HL.out; omega)).trans (by omega)
      rw [← hm]
      have HM := hid hm; have HP := hid hP; have HR := hid hr
      clear hm hP hp hp1 hp2 h2 hVV hr
      go_wp2
      go_roundg r
      case measure => omega
      case rel =>
        have := HM.out; have := HR.out
        exact ⟨by omega, by rw [show l - r = m + 1 by omega]; try rw [hwm], by rw [← HP.out, hwP], rfl⟩
theorem Level14_no (x : Int) (w : World) (h : ¬ inT x 65536) : Calls Try.prog 15 #[.int .i64 x] w fun e w' => e = .returned (.int .i64 (-1)) ∧ Below w.heap.size w w' := by
  have HK := hid (fun W => Last14_no x 65536 W h)
  clear h
  go_enter Try.func15, Try.ntmps15
  go_wp2_with fail
  refine (HK.out _).mono ?_
  rintro e w1 ⟨rfl, hb⟩
  have hZ := hid (heap_alloc_new w1 (.cells z3 TN))
  have HB2 := hid (hb.trans ((box_below w1 z3).mono hb.size))
  clear hb HK
  go_wp2_with (first | (with_reducible refine wpList_store_row rfl TN (.tmp 3) _ rfl w1.heap.size z3 rfl rfl TN z3 hZ.out infoZ3 rfl z3_one ?_))
  go_ret
  exact ⟨rfl, HB2.out⟩
/-- The children's numbers. -/
theorem kids (q l : Nat) : ((loN q (l + 1) : Int) + (nd q (l + 1) : Int) - 1) / 2 = (nd (2 * q) l : Int) ∧ ((nd q (l + 1) : Int) + 1 + (hiN q (l + 1) : Int)) / 2 = (nd (2 * q + 1) l : Int) := by
  have h1 := lo_left q l
  have h2 := hi_right q l
  have h3 := lo_hi (2 * q) l
  have h4 := lo_hi (2 * q + 1) l
  have h5 := nd_left q l
  have h6 := nd_right q l
  have h7 := lo_nd (2 * q) l
  have h8 := nd_hi (2 * q + 1) l
  have := Nat.one_le_two_pow (n := l)
  constructor <;> omega
theorem kid_nums {lo x hi a b : Nat} (h0 : 1 ≤ x) (h1 : lo ≤ x) (h2 : x ≤ hi) (h3 : hi ≤ 131072) (k1 : ((lo : Int) + (x : Int) - 1) / 2 = (a : Int)) (k2 : ((x : Int) + 1 + (hi : Int)) / 2 = (b : Int)) :
    wrap64 ((lo : Int) + (x : Int)) = (lo : Int) + (x : Int) ∧ wrap64 ((lo : Int) + (x : Int) - 1) = (lo : Int) + (x : Int) - 1 ∧ wrap64 ((x : Int) + 1) = (x : Int) + 1 ∧ wrap64 ((x : Int) + 1 + (hi : Int)) = (x : Int) + 1 + (hi : Int) ∧ wrap64 (a : Int) = (a : Int) ∧ wrap64 (b : Int) = (b : Int) ∧
    Int.tdiv ((lo : Int) + (x : Int) - 1) 2 = (a : Int) ∧ Int.tdiv ((x : Int) + 1 + (hi : Int)) 2 = (b : Int) := by
  have ha : a ≤ 131072 := by omega
  have hb : b ≤ 131073 := by omega
  refine ⟨?_, ?_, ?_, ?_, ?_, ?_, ?_, ?_⟩
  · clear k1 k2; exact wrap64_in (by omega) (by omega)
  · clear k1 k2; exact wrap64_in (by omega) (by omega)
  · clear k1 k2; exact wrap64_in (by omega) (by omega)
  · clear k1 k2; exact wrap64_in (by omega) (by omega)
  · clear k1 k2; exact wrap64_in (by omega) (by omega)
  · clear k1 k2; exact wrap64_in (by omega) (by omega)
  · rw [Int.tdiv_eq_ediv_of_nonneg (by clear k1 k2; omega)]; exact k1
  · rw [Int.tdiv_eq_ediv_of_nonneg (by clear k1 k2; omega)]; exact k2
set_option maxHeartbeats 1000000 in
theorem Children14_ok (q l k : Nat) (w : World) (hq : q < 2 ^ k) (hk : l + 1 + k = 16) : Calls Try.prog 10 #[.int .i64 (nd q (l + 1) : Int)] w fun e w' => e = .returned (.tuple #[.int .i64 (nd (2 * q) l : Int), .int .i64 (nd (2 * q + 1) l : Int)]) ∧ Below w.heap.size w w' := by
  have HK := hid (fun W => Last14_ok q (l + 1) k W hq (by omega))
  rw [hk, show ((2 ^ 16 : Nat) : Int) = 65536 by decide] at HK
  obtain ⟨k1, k2⟩ := kids q l
  have b1 := hi_bound (l := l + 1) hq
  rw [hk] at b1
  have b2 := lo_le q (l + 1)
  have b3 := le_hi q (l + 1)
  have b4 : loN q (l + 1) < hiN q (l + 1) := by
    have h1 := lo_nd q (l + 1); have := Nat.one_le_two_pow (n := l); have h3 := pow1 l; omega
  have HB := box_cells
  obtain ⟨x, hx⟩ : ∃ x : Nat, x = nd q (l + 1) := ⟨_, rfl⟩
  obtain ⟨lo, hlo⟩ : ∃ x : Nat, x = loN q (l + 1) := ⟨_, rfl⟩
  obtain ⟨hi, hhi⟩ : ∃ x : Nat, x = hiN q (l + 1) := ⟨_, rfl⟩
  obtain ⟨a, ha⟩ : ∃ x : Nat, x = nd (2 * q) l := ⟨_, rfl⟩
  obtain ⟨b, hbb⟩ : ∃ x : Nat, x = nd (2 * q + 1) l := ⟨_, rfl⟩
  rw [← hx, ← hlo, ← ha] at k1
  rw [← hx, ← hhi, ← hbb] at k2
  rw [← hx] at HK b2 b3
  rw [← hlo] at b2 b4
  rw [← hhi] at b1 b3 b4
  rw [← hx, ← ha, ← hbb]
  have HX := hid hx; have HLO := hid hlo; have HHI := hid hhi
  have hne : ¬ lo = hi := by clear k1 k2; omega
  have hne2 : ¬ (lo : Int) = (hi : Int) := by clear k1 k2; omega
  obtain ⟨w1, w2, w3, w4, w5, w6, t1, t2⟩ := kid_nums (lo := lo) (x := x) (hi := hi) (a := a) (b := b) (by have := lo_nd q (l + 1); have := Nat.one_le_two_pow (n := l); have := pow1 l; clear k1 k2; omega) b2 b3 (by clear k1 k2; omega) k1 k2
  clear k1 k2
  clear hx hlo hhi ha hbb b1 b2 b3 b4 hq hk
  go_enter Try.func10, Try.ntmps10
  go_wp2_with fail
  refine (HK.out _).mono ?_
  rintro e w7 ⟨rfl, hb⟩
  have hZ := hid (heap_alloc_new w7 (.cells z3 TN))
  obtain ⟨h0, h1, h2⟩ := HB w7 q (l + 1)
  rw [← HLO.out] at h1
  rw [← HHI.out] at h2
  have HB2 := hid (hb.trans ((box_below w7 (ndA q (l + 1))).mono hb.size))
  clear HB hb HK h0
  go_wp2_with (first | (with_reducible refine wpList_store_row rfl TN (.tmp 4) _ rfl w7.heap.size (ndA q (l + 1)) rfl rfl TN z3 hZ.out infoNd ndA_size ndA_one ?_))
  go_quiet (fail)
  go_wp2
  go_ret2
  exact ⟨by rw [w5, w6]; rfl, belowB_drewN HB2.out _⟩
theorem Children14_leaf (q k : Nat) (w : World) (hq : q < 2 ^ k) (hk : k = 16) : Calls Try.prog 10 #[.int .i64 (nd q 0 : Int)] w fun e w' => e = .returned (.tuple #[.int .i64 (-1), .int .i64 (-1)]) ∧ Below w.heap.size w w' := by
  have HK := hid (fun W => Last14_ok q 0 k W hq (by omega))
  rw [Nat.zero_add, hk, show ((2 ^ 16 : Nat) : Int) = 65536 by decide] at HK
  have HB := box_cells
  have hlh : hiN q 0 = loN q 0 := by unfold hiN loN; simp
  obtain ⟨x, hx⟩ : ∃ x : Nat, x = nd q 0 := ⟨_, rfl⟩
  obtain ⟨lo, hlo⟩ : ∃ x : Nat, x = loN q 0 := ⟨_, rfl⟩
  rw [← hx] at HK
  rw [← hlo] at hlh
  rw [← hx]
  have HLO := hid hlo; have HHI := hid hlh
  clear hx hlo hlh hq hk
  go_enter Try.func10, Try.ntmps10
  go_wp2_with fail
  refine (HK.out _).mono ?_
  rintro e w7 ⟨rfl, hb⟩
  have hZ := hid (heap_alloc_new w7 (.cells z3 TN))
  obtain ⟨h0, h1, h2⟩ := HB w7 q 0
  rw [← HLO.out] at h1
  rw [HHI.out] at h2
  have HB2 := hid (hb.trans ((box_below w7 (ndA q 0)).mono hb.size))
  clear HB hb HK h0
  go_wp2_with (first | (with_reducible refine wpList_store_row rfl TN (.tmp 4) _ rfl w7.heap.size (ndA q 0) rfl rfl TN z3 hZ.out infoNd ndA_size ndA_one ?_))
  go_ret2
  exact ⟨rfl, HB2.out⟩
theorem Children14_no (x : Int) (w : World) (h : ¬ inT x 65536) : Calls Try.prog 10 #[.int .i64 x] w fun e w' => e = .returned (.tuple #[.int .i64 (-1), .int .i64 (-1)]) ∧ Below w.heap.size w w' := by
  have HK := hid (fun W => Last14_no x 65536 W h)
  clear h
  go_enter Try.func10, Try.ntmps10
  go_wp2_with fail
  refine (HK.out _).mono ?_
  rintro e w7 ⟨rfl, hb⟩
  have hZ := hid (heap_alloc_new w7 (.cells z3 TN))
  have HB2 := hid (hb.trans ((box_below w7 z3).mono hb.size))
  clear hb HK
  go_wp2_with (first | (with_reducible refine wpList_store_row rfl TN (.tmp 4) _ rfl w7.heap.size z3 rfl rfl TN z3 hZ.out infoZ3 rfl z3_one ?_))
  go_ret2
  exact ⟨rfl, HB2.out⟩
set_option maxHeartbeats 1000000 in
theorem Parent14_ok (q l k : Nat) (w : World) (hq : q < 2 ^ (k + 1)) (hk : l + (k + 1) ≤ 16) : Calls Try.prog 21 #[.int .i64 (nd q l : Int), .int .i64 ((2 ^ (l + (k + 1)) : Nat) : Int)] w fun e w' => e = .returned (.int .i64 (nd (q / 2) (l + 1) : Int)) ∧ Below w.heap.size w w' := by
  have HD := hid (fun W => Down14_ok q l (k + 1) W hq hk)
  have hk16 : k ≤ 15 := by omega
  have HCG : Hid ((chain q l (k + 1))[k]? = some (q / 2, l + 1)) := hid (by have h := chain_get q l (k + 1) 1 (by omega); rw [show k + 1 - 1 = k by omega, Nat.pow_one] at h; exact h)
  obtain ⟨x, hx⟩ : ∃ x : Int, x = (nd q l : Int) := ⟨_, rfl⟩
  obtain ⟨n, hn⟩ : ∃ n : Int, n = ((2 ^ (l + (k + 1)) : Nat) : Int) := ⟨_, rfl⟩
  rw [← hx, ← hn] at HD
  rw [← hx, ← hn]
  clear hx hn hq hk
  go_enter Try.func21, Try.ntmps21
  go_wp2_with fail
  refine (HD.out _).mono ?_
  rintro e w1 ⟨b, c, rfl, hL, hb⟩
  obtain ⟨h1, h2, h3⟩ := hL.cells HCG.out
  have hkc : k < c := by have := hL.2.1; rw [chain_length] at this; omega
  have hb1 : b < w1.heap.size := hL.1
  obtain ⟨m, hm⟩ : ∃ m : Nat, m = k + 1 + 1 := ⟨_, rfl⟩
  have hwk : wrap64 ((m : Int) - 2) = (k : Int) := (wrap64_in (by omega) (by omega)).trans (by omega)
  have hm2 : ¬ (m : Int) < 2 := by omega
  have hkm : (k : Int) < (m : Int) := by omega
  have hkm2 : k < m := by omega
  have hm3 : ¬ m < 2 := by omega
  rw [← hm]
  have HB := hid hb
  clear hm hL hb HD HCG h2 h3
  go_wp2
  go_ret
  exact ⟨rfl, HB.out⟩
theorem Parent14_root (q l : Nat) (w : World) (hq : q < 2 ^ 0) (hk : l ≤ 16) : Calls Try.prog 21 #[.int .i64 (nd q l : Int), .int .i64 ((2 ^ l : Nat) : Int)] w fun e w' => e = .returned (.int .i64 (-1)) ∧ Below w.heap.size w w' := by
  have HD := hid (fun W => Down14_ok q l 0 W hq hk)
  rw [Nat.add_zero] at HD
  obtain ⟨x, hx⟩ : ∃ x : Int, x = (nd q l : Int) := ⟨_, rfl⟩
  obtain ⟨n, hn⟩ : ∃ n : Int, n = ((2 ^ l : Nat) : Int) := ⟨_, rfl⟩
  rw [← hx, ← hn] at HD
  rw [← hx, ← hn]
  clear hx hn hq hk
  go_enter Try.func21, Try.ntmps21
  go_wp2_with fail
  refine (HD.out _).mono ?_
  rintro e w1 ⟨b, c, rfl, hL, hb⟩
  have HB := hid hb
  clear hL hb HD
  go_wp2
  go_ret
  exact ⟨rfl, HB.out⟩
theorem Parent14_no (x n : Int) (w : World) (h : ¬ inT x n) : Calls Try.prog 21 #[.int .i64 x, .int .i64 n] w fun e w' => e = .returned (.int .i64 (-1)) ∧ Below w.heap.size w w' := by
  have HD := hid (fun W => Down14_no x n W h)
  clear h
  go_enter Try.func21, Try.ntmps21
  go_wp2_with fail
  refine (HD.out _).mono ?_
  rintro e w1 ⟨rfl, rfl⟩
  go_wp2
  go_ret
  exact ⟨rfl, Below.refl _ _⟩
set_option maxHeartbeats 1000000 in
theorem Sibling14_ok (q l k : Nat) (w : World) (hq : q < 2 ^ (k + 1)) (hk : l + (k + 1) ≤ 16) : Calls Try.prog 23 #[.int .i64 (nd q l : Int), .int .i64 ((2 ^ (l + (k + 1)) : Nat) : Int)] w fun e w' => e = .returned (.int .i64 (nd (sbq q) l : Int)) ∧ Below w.heap.size w w' := by
  have HP := hid (fun W => Parent14_ok q l k W hq hk)
  have HC := hid (fun W => Children14_ok (q / 2) l (15 - l) W (by
    have h1 : 2 ^ (k + 1) ≤ 2 ^ (15 - l + 1) := Nat.pow_le_pow_right (by decide) (by omega)
    rw [pow1 (15 - l)] at h1
    omega) (by omega))
  have hpar : q % 2 = 0 ∨ q % 2 = 1 := by omega
  have hs0 : q % 2 = 0 → 2 * (q / 2) = q ∧ 2 * (q / 2) + 1 = sbq q := fun h => by unfold sbq; rw [if_pos h]; omega
  have hs1 : q % 2 = 1 → 2 * (q / 2) + 1 = q ∧ 2 * (q / 2) = sbq q := fun h => by unfold sbq; rw [if_neg (by omega)]; omega
  have hne : nd (sbq q) l ≠ nd q l := fun h => sbq_ne q (nd_inj h).1
  obtain ⟨x, hx⟩ : ∃ x : Nat, x = nd q l := ⟨_, rfl⟩
  obtain ⟨y, hy⟩ : ∃ x : Nat, x = nd (sbq q) l := ⟨_, rfl⟩
  obtain ⟨p, hp⟩ : ∃ x : Nat, x = nd (q / 2) (l + 1) := ⟨_, rfl⟩
  obtain ⟨n, hn⟩ : ∃ n : Int, n = ((2 ^ (l + (k + 1)) : Nat) : Int) := ⟨_, rfl⟩
  rw [← hx, ← hy] at hne
  rw [← hx, ← hn, ← hp] at HP
  rw [← hp] at HC
  rw [← hx, ← hn, ← hy]
  have hp0 : ¬ (p : Int) < 0 := by omega
  rcases hpar with h | h
  · obtain ⟨e1, e2⟩ := hs0 h
    rw [e2, e1, ← hx, ← hy] at HC
    clear hs0 hs1 h e1 e2 hx hy hp hn hq hk
    go_enter Try.func23, Try.ntmps23
    go_wp2_with fail
    refine (HP.out _).mono ?_
    rintro e w1 ⟨rfl, hb⟩
    have HB := hid hb
    clear hb
    go_wp2_with fail
    refine (HC.out _).mono ?_
    rintro e w2 ⟨rfl, hb⟩
    have HB2 := hid (HB.out.trans (hb.mono HB.out.size))
    clear hb HB
    go_wp2
    go_ret
    exact ⟨rfl, HB2.out⟩
  · obtain ⟨e1, e2⟩ := hs1 h
    rw [e1, e2, ← hx, ← hy] at HC
    have hni : ¬ (y : Int) = (x : Int) := by omega
    clear hs0 hs1 h e1 e2 hx hy hp hn hq hk
    go_enter Try.func23, Try.ntmps23
    go_wp2_with fail
    refine (HP.out _).mono ?_
    rintro e w1 ⟨rfl, hb⟩
    have HB := hid hb
    clear hb
    go_wp2_with fail
    refine (HC.out _).mono ?_
    rintro e w2 ⟨rfl, hb⟩
    have HB2 := hid (HB.out.trans (hb.mono HB.out.size))
    clear hb HB
    go_wp2
    go_ret
    exact ⟨rfl, HB2.out⟩
theorem Sibling14_none (x n : Int) (w : World) (HP : Hid (∀ W : World, Calls Try.prog 21 #[.int .i64 x, .int .i64 n] W fun e w' => e = .returned (.int .i64 (-1)) ∧ Below W.heap.size W w')) : Calls Try.prog 23 #[.int .i64 x, .int .i64 n] w fun e w' => e = .returned (.int .i64 (-1)) ∧ Below w.heap.size w w' := by
  go_enter Try.func23, Try.ntmps23
  go_wp2_with fail
  refine (HP.out _).mono ?_
  rintro e w1 ⟨rfl, hb⟩
  have HB := hid hb
  clear hb
  go_wp2
  go_ret
  exact ⟨rfl, HB.out⟩
end Go.Proofs.Ytaoddlcoedodcaa
