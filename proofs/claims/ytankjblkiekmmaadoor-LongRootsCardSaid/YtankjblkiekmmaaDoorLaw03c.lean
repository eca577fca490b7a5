/-
  The statement LongRoots: the walk.
-/
import Derived.Test.YtankjblkiekmmaaDoorLaw03a
import Derived.Test.YtankjblkiekmmaaDoorBig3
namespace Go.Proofs.YtankjblkiekmmaaDoor
open Go.RowKit
set_option linter.unusedVariables false
set_option linter.unusedSimpArgs false

theorem Sq.on {w w' : World} {A : Option Addr} {c : Nat} {xs : List Value} (h : Sq w w.heap.size A c xs) (hb : Below w.heap.size w w') : Sq w' w'.heap.size A c xs := (h.below hb).more hb.size
theorem dgl (N : Nat) (h : N < 32768 ^ 30) : (dg N).length ≤ 1073741824 := Nat.le_trans ((dg_length_le N 30).2 h) (by omega)
/-- The whole part of a root, and what is behind the point. -/
theorem root_parts (n k r t : Nat) (hk : k ≠ 0) (h1 : r ^ k ≤ n * 18446744073709551616 ^ k) (h2 : n * 18446744073709551616 ^ k < (r + 1) ^ k) (ht1 : t ^ k ≤ n) (ht2 : n < (t + 1) ^ k) : t * 18446744073709551616 + r % 18446744073709551616 = r := by
  have hB : 0 < 18446744073709551616 ^ k := Nat.pow_pos (by omega)
  have e1 : (r / 18446744073709551616) ^ k ≤ n := by
    have h3 : (r / 18446744073709551616 * 18446744073709551616) ^ k ≤ r ^ k := Nat.pow_le_pow_left (Nat.div_mul_le_self _ _) k
    rw [Nat.mul_pow] at h3
    exact Nat.le_of_mul_le_mul_right (Nat.le_trans h3 h1) hB
  have e2 : n < (r / 18446744073709551616 + 1) ^ k := by
    have h3 : (r + 1) ^ k ≤ ((r / 18446744073709551616 + 1) * 18446744073709551616) ^ k := Nat.pow_le_pow_left (by omega) k
    rw [Nat.mul_pow] at h3
    exact Nat.lt_of_mul_lt_mul_right (Nat.lt_of_lt_of_le h2 h3)
  have e3 : t = r / 18446744073709551616 := root_only n k t _ hk ht1 ht2 e1 e2
  rw [e3]
  omega
theorem start_fits (n k : Nat) (hn : n ≤ 1048576) (hk : k = 2 ∨ k = 3) : n * 18446744073709551616 ^ k < (0 + 2 ^ 75) ^ k := by
  rcases hk with rfl | rfl <;> omega
theorem root_small (n k t : Nat) (hn : n ≤ 1048576) (hk : k = 2 ∨ k = 3) (h : t ^ k ≤ n) : t ≤ 1048576 := by
  rcases hk with rfl | rfl
  · rcases Nat.lt_or_ge 1048576 t with h1 | h1
    · have : 1048577 ^ 2 ≤ t ^ 2 := Nat.pow_le_pow_left h1 2
      omega
    · exact h1
  · rcases Nat.lt_or_ge 1048576 t with h1 | h1
    · have : 1048577 ^ 3 ≤ t ^ 3 := Nat.pow_le_pow_left h1 3
      omega
    · exact h1

set_option maxRecDepth 100000 in
set_option maxHeartbeats 800000 in
theorem roots_bad (n : Nat) (k : Int) (w : World) (hn : n < 18446744073709551616) (hG : GlobL w) (h : k < 2 ∨ 3 < k ∨ 1048576 < n) :
    Calls Tryd.prog 8 #[.int .u64 (n : Int), .int .i64 k] w fun e w' => e = .returned (.bool true) ∧ Below w.heap.size w w' := by
  have HR := hid (fun W => Root_bad n k W hn (by omega))
  by_cases h1 : k < 2
  · go_enter Tryd.func8, Tryd.ntmps8
    go_wp2_with fail
    refine (aliveL_any _ hG).mono ?_
    rintro e w1 ⟨rfl, hb1⟩
    go_wp2_with fail
    refine (HR.out _).mono ?_
    rintro e w2 ⟨rfl, hw2⟩
    rw [hw2]
    clear hw2
    go_wp2
    go_ret
    exact ⟨rfl, hb1⟩
  · by_cases h2 : 3 < k
    · go_enter Tryd.func8, Tryd.ntmps8
      go_wp2_with fail
      refine (aliveL_any _ hG).mono ?_
      rintro e w1 ⟨rfl, hb1⟩
      go_wp2_with fail
      refine (HR.out _).mono ?_
      rintro e w2 ⟨rfl, hw2⟩
      rw [hw2]
      clear hw2
      go_wp2
      go_ret
      exact ⟨rfl, hb1⟩
    · have h3 : (1048576 : Int) < (n : Int) := by omega
      have h2d : decide (3 < k) = false := decide_eq_false h2
      have h1d : decide (k < 2) = false := decide_eq_false h1
      go_enter Tryd.func8, Tryd.ntmps8
      go_wp2_with fail
      refine (aliveL_any _ hG).mono ?_
      rintro e w1 ⟨rfl, hb1⟩
      go_wp2_with fail
      refine (HR.out _).mono ?_
      rintro e w2 ⟨rfl, hw2⟩
      rw [hw2]
      clear hw2
      go_wp2
      go_ret
      exact ⟨rfl, hb1⟩

set_option maxRecDepth 100000 in
set_option maxHeartbeats 1600000 in
theorem roots_good2 (n : Nat) (w : World) (hn : n ≤ 1048576) (hG : GlobL w) :
    Calls Tryd.prog 8 #[.int .u64 (n : Int), .int .i64 2] w fun e w' => e = .returned (.bool true) ∧ Below w.heap.size w w' := by
  obtain ⟨r, hr⟩ : ∃ r, r = rbits (n * 18446744073709551616 ^ 2) 2 0 75 := ⟨_, rfl⟩
  have hsp := rbits_spec (n * 18446744073709551616 ^ 2) 2 0 75 (by simp) (start_fits n 2 hn (by simp))
  have hr75 := rbits_lt (n * 18446744073709551616 ^ 2) 2 0 75
  rw [← hr] at hsp hr75
  have HRT := hid (fun W => Root_good2 n W hn)
  rw [← hr] at HRT
  obtain ⟨x, hx⟩ : ∃ x, x = r % 18446744073709551616 := ⟨_, rfl⟩
  rw [← hx] at HRT
  have hxl : x < 18446744073709551616 := by rw [hx]; exact Nat.mod_lt _ (by omega)
  have hn1 : ¬ (1048576 : Int) < (n : Int) := by omega
  obtain ⟨P, hP⟩ : ∃ P, P = 18446744073709551616 ^ 2 := ⟨_, rfl⟩
  obtain ⟨Q, hQ⟩ : ∃ Q, Q = 18446744073709551616 := ⟨_, rfl⟩
  have HPOW := hid (fun W => Pow_any (64 * 2) W (by omega))
  rw [show (2 : Nat) ^ (64 * 2) = P by rw [hP, Nat.pow_mul], show ((64 * 2 : Nat) : Int) = 128 from rfl] at HPOW
  have HPOW2 := hid (fun W => Pow_any 64 W (by omega))
  rw [show (2 : Nat) ^ 64 = Q by rw [hQ], show ((64 : Nat) : Int) = 64 from rfl] at HPOW2
  obtain ⟨T, hT⟩ : ∃ T, T = n * P := ⟨_, rfl⟩
  have hTl : T < 32768 ^ 30 := by rw [hT, hP]; omega
  have hPl : (dg P).length ≤ 1073741824 := dgl P (by rw [hP]; decide)
  have hQl : (dg Q).length ≤ 1073741824 := dgl Q (by rw [hQ]; decide)
  have hnl : (dg n).length ≤ 1073741824 := dgl n (by omega)
  have hTl2 : (dg T).length ≤ 1073741824 := dgl T hTl
  have HPL := hid hPl; have HQL := hid hQl; have HNL := hid hnl; have HTL := hid hTl2
  rw [← hP, ← hT] at hsp
  have HTE := hid hT; have HQ := hid hQ; have HP := hid hP
  have h1e : ∀ W : World, Calls Tryd.prog 26 #[.int .u64 1] W (BigR W 1) := fun W => Num_any 1 W (by omega)
  have HN1 := hid h1e
  clear hT hQ hP hTl hPl hQl hnl hTl2 h1e
  have HSP := hid hsp; have HX := hid hx; have HG := hid hG; have HR75 := hid hr75
  clear hr hsp hx hG hr75
  go_enter Tryd.func8, Tryd.ntmps8
  go_wp2_with fail
  refine (aliveL_any _ HG.out).mono ?_
  rintro e w1 ⟨rfl, hb1⟩
  have HB1 := hid hb1
  clear hb1
  go_wp2_with fail
  refine (HRT.out _).mono ?_
  rintro e w2 ⟨rfl, hb2⟩
  have HB2 := hid (HB1.out.trans (hb2.mono HB1.out.size))
  clear hb2 HB1
  go_wp2_with fail
  refine (Num_any n _ (by omega)).mono ?_
  rintro e w3 ⟨A3, c3, rfl, hS3, hb3⟩
  have HB3 := hid (HB2.out.trans (hb3.mono HB2.out.size)); have HS3 := hid hS3
  clear hb3 hS3 HB2
  go_wp2_with fail
  refine (HPOW.out _).mono ?_
  rintro e w4 ⟨A4, c4, rfl, hS4, hb4⟩
  have HB4 := hid (HB3.out.trans (hb4.mono HB3.out.size)); have HS34 := hid (HS3.out.on hb4); have HS4 := hid hS4
  clear hb4 hS4 HB3 HS3
  go_wp2_with fail
  refine (Mul_any n P A3 A4 c3 c4 _ HS34.out HS4.out HNL.out HPL.out).mono ?_
  rw [← HTE.out]
  rintro e w5 ⟨A5, c5, rfl, hS5, hb5⟩
  have HB5 := hid (HB4.out.trans (hb5.mono HB4.out.size)); have HS5 := hid hS5
  clear hb5 hS5 HB4 HS34 HS4
  go_wp2
  go_loopg [7] (n + 1) (fun g v wr => ∃ t : Nat, v = .int .u64 (t : Int) ∧ t ^ 2 ≤ n ∧ g = n + 1 - t ∧ wr = w5)
  case atStart => exact ⟨0, rfl, by simp, rfl, rfl⟩
  case round =>
    obtain ⟨t, rfl, ht, hg, rfl⟩ := hrel
    have htl := root_small n 2 t hn (by simp) ht
    have HT := hid ht; have HGG := hid hg
    have hsq : ((t : Int) + 1) * ((t : Int) + 1) = (((t + 1) * (t + 1) : Nat) : Int) := by simp
    have hsl : (t + 1) * (t + 1) ≤ 1048577 * 1048577 := Nat.mul_le_mul (by omega) (by omega)
    obtain ⟨s, hs⟩ : ∃ s, s = (t + 1) * (t + 1) := ⟨_, rfl⟩
    rw [← hs] at hsq hsl
    have htw : IntKind.u64.wrap ((t : Int) + 1) = (t : Int) + 1 := by rw [IntKind.wrap_u64]; omega
    have hsw : IntKind.u64.wrap (s : Int) = (s : Int) := by rw [IntKind.wrap_u64]; omega
    have HS := hid hs
    clear ht hg hs
    by_cases hle : s ≤ n
    · have hlei : (s : Int) ≤ (n : Int) := by omega
      have hnew : (t + 1) ^ 2 ≤ n := by rw [Nat.pow_two, ← HS.out]; exact hle
      have htn : t < n := by have h1 := HS.out; rw [Nat.add_mul, Nat.mul_add] at h1; omega
      have HNEW := hid hnew
      clear hle hnew
      go_wp2
      have hg := HGG.out
      go_roundg (n + 1 - (t + 1))
      case measure => omega
      case rel => exact ⟨t + 1, by go_num, HNEW.out, rfl, rfl⟩
    · have hlei : ¬ (s : Int) ≤ (n : Int) := by omega
      have hnew : n < (t + 1) ^ 2 := by rw [Nat.pow_two, ← HS.out]; omega
      have hsp2 := HSP.out
      rw [HTE.out, HP.out] at hsp2
      have hwhole := root_parts n 2 r t (by omega) hsp2.1 hsp2.2 HT.out hnew
      rw [← HX.out, ← HQ.out] at hwhole
      have HTL1 := hid (dgl t (by omega)); have HXL := hid (dgl x (by omega))
      have HTQ := hid (dgl (t * Q) (by rw [HQ.out]; omega))
      clear hsp2
      have HW := hid hwhole
      clear hle hnew hwhole
      go_wp2_with fail
      refine (Num_any t _ (by omega)).mono ?_
      rintro e w6 ⟨A6, c6, rfl, hS6, hb6⟩
      have HB6 := hid (HB5.out.trans (hb6.mono HB5.out.size)); have HS56 := hid (HS5.out.on hb6); have HS6 := hid hS6
      clear hb6 hS6 HB5 HS5
      go_wp2_with fail
      refine (HPOW2.out _).mono ?_
      rintro e w7 ⟨A7, c7, rfl, hS7, hb7⟩
      have HB7 := hid (HB6.out.trans (hb7.mono HB6.out.size)); have HS57 := hid (HS56.out.on hb7); have HS67 := hid (HS6.out.on hb7); have HS7 := hid hS7
      clear hb7 hS7 HB6 HS56 HS6
      go_wp2_with fail
      refine (Mul_any t Q A6 A7 c6 c7 _ HS67.out HS7.out HTL1.out HQL.out).mono ?_
      rintro e w8 ⟨A8, c8, rfl, hS8, hb8⟩
      have HB8 := hid (HB7.out.trans (hb8.mono HB7.out.size)); have HS58 := hid (HS57.out.on hb8); have HS8 := hid hS8
      clear hb8 hS8 HB7 HS57 HS67 HS7
      go_wp2_with fail
      refine (Num_any x _ hxl).mono ?_
      rintro e w9 ⟨A9, c9, rfl, hS9, hb9⟩
      have HB9 := hid (HB8.out.trans (hb9.mono HB8.out.size)); have HS59 := hid (HS58.out.on hb9); have HS89 := hid (HS8.out.on hb9); have HS9 := hid hS9
      clear hb9 hS9 HB8 HS58 HS8
      go_wp2_with fail
      refine (Add_any (t * Q) x A8 A9 c8 c9 _ HS89.out HS9.out HTQ.out HXL.out).mono ?_
      rw [HW.out]
      rintro e w10 ⟨Ay, cy, rfl, hSy, hb10⟩
      have HB10 := hid (HB9.out.trans (hb10.mono HB9.out.size)); have HS510 := hid (HS59.out.on hb10); have HSy := hid hSy
      clear hb10 hSy HB9 HS59 HS89 HS9
      have hry : r < 32768 ^ 30 := Nat.lt_trans HR75.out (by decide)
      have hrz : r + 1 < 32768 ^ 30 := Nat.lt_of_le_of_lt HR75.out (by decide)
      have HLY := hid (dgl r hry); have HLZ := hid (dgl (r + 1) hrz)
      have hrr : r * r < 32768 ^ 30 := by
        have := Nat.mul_lt_mul'' HR75.out HR75.out
        exact Nat.lt_trans this (by decide)
      have hzz : (r + 1) * (r + 1) < 32768 ^ 30 := by
        have := Nat.mul_le_mul (Nat.succ_le_of_lt HR75.out) (Nat.succ_le_of_lt HR75.out)
        exact Nat.lt_of_le_of_lt this (by decide)
      have HLP := hid (dgl _ hrr); have HLQ := hid (dgl _ hzz)
      clear hry hrz hrr hzz
      go_wp2_with fail
      refine (HN1.out _).mono ?_
      rintro e w11 ⟨A11, c11, rfl, hS11, hb11⟩
      have HB11 := hid (HB10.out.trans (hb11.mono HB10.out.size)); have HS511 := hid (HS510.out.on hb11); have HSy11 := hid (HSy.out.on hb11); have HS11 := hid hS11
      clear hb11 hS11 HB10 HS510 HSy
      go_wp2_with fail
      refine (Add_any r 1 Ay A11 cy c11 _ HSy11.out HS11.out HLY.out (dgl _ (by decide))).mono ?_
      rintro e w12 ⟨Az, cz, rfl, hSz, hb12⟩
      have HB12 := hid (HB11.out.trans (hb12.mono HB11.out.size)); have HS512 := hid (HS511.out.on hb12); have HSy12 := hid (HSy11.out.on hb12); have HSz := hid hSz
      clear hb12 hSz HB11 HS511 HSy11 HS11
      go_wp2_with fail
      refine (Mul_any r r Ay Ay cy cy _ HSy12.out HSy12.out HLY.out HLY.out).mono ?_
      rintro e w13 ⟨Ap, cp, rfl, hSp, hb13⟩
      have HB13 := hid (HB12.out.trans (hb13.mono HB12.out.size)); have HS513 := hid (HS512.out.on hb13); have HSy13 := hid (HSy12.out.on hb13); have HSz13 := hid (HSz.out.on hb13); have HSp := hid hSp
      clear hb13 hSp HB12 HS512 HSy12 HSz
      go_wp2_with fail
      refine (Mul_any (r + 1) (r + 1) Az Az cz cz _ HSz13.out HSz13.out HLZ.out HLZ.out).mono ?_
      rintro e w14 ⟨Aq, cq, rfl, hSq, hb14⟩
      have HB14 := hid (HB13.out.trans (hb14.mono HB13.out.size)); have HS514 := hid (HS513.out.on hb14); have HSy14 := hid (HSy13.out.on hb14); have HSz14 := hid (HSz13.out.on hb14); have HSp14 := hid (HSp.out.on hb14); have HSq := hid hSq
      clear hb14 hSq HB13 HS513 HSy13 HSz13 HSp
      have e1 : decide (T < r * r) = false := decide_eq_false (by have := HSP.out.1; rw [Nat.pow_two] at this; omega)
      have e2 : decide (T < (r + 1) * (r + 1)) = true := decide_eq_true (by have := HSP.out.2; rw [Nat.pow_two (r + 1)] at this; omega)
      have HE1 := hid e1; have HE2 := hid e2
      have hdt : (dg T).length ≤ 1099511627776 := Nat.le_trans HTL.out (by omega)
      have HDT := hid hdt
      clear e1 e2 hdt
      go_wp2_with fail
      refine (Less_any T (r * r) A5 Ap c5 cp w14.heap.size w14.heap.size _ HS514.out HSp14.out HDT.out).mono ?_
      rw [HE1.out]
      rintro e w15 ⟨rfl, n15, rfl⟩
      go_wp2_with fail
      refine (Less_any T ((r + 1) * (r + 1)) A5 Aq c5 cq w14.heap.size w14.heap.size (w14.drewN n15) HS514.out HSq.out HDT.out).mono ?_
      rw [HE2.out]
      rintro e w16 ⟨rfl, n16, rfl⟩
      go_wp2
      go_ret
      exact ⟨rfl, belowB_drewN HB14.out _⟩

set_option maxRecDepth 100000 in
set_option maxHeartbeats 1600000 in
theorem roots_good3 (n : Nat) (w : World) (hn : n ≤ 1048576) (hG : GlobL w) :
    Calls Tryd.prog 8 #[.int .u64 (n : Int), .int .i64 3] w fun e w' => e = .returned (.bool true) ∧ Below w.heap.size w w' := by
  obtain ⟨r, hr⟩ : ∃ r, r = rbits (n * 18446744073709551616 ^ 3) 3 0 75 := ⟨_, rfl⟩
  have hsp := rbits_spec (n * 18446744073709551616 ^ 3) 3 0 75 (by simp) (start_fits n 3 hn (by simp))
  have hr75 := rbits_lt (n * 18446744073709551616 ^ 3) 3 0 75
  rw [← hr] at hsp hr75
  have HRT := hid (fun W => Root_good3 n W hn)
  rw [← hr] at HRT
  obtain ⟨x, hx⟩ : ∃ x, x = r % 18446744073709551616 := ⟨_, rfl⟩
  rw [← hx] at HRT
  have hxl : x < 18446744073709551616 := by rw [hx]; exact Nat.mod_lt _ (by omega)
  have hn1 : ¬ (1048576 : Int) < (n : Int) := by omega
  obtain ⟨P, hP⟩ : ∃ P, P = 18446744073709551616 ^ 3 := ⟨_, rfl⟩
  obtain ⟨Q, hQ⟩ : ∃ Q, Q = 18446744073709551616 := ⟨_, rfl⟩
  have HPOW := hid (fun W => Pow_any (64 * 3) W (by omega))
  rw [show (2 : Nat) ^ (64 * 3) = P by rw [hP, Nat.pow_mul], show ((64 * 3 : Nat) : Int) = 192 from rfl] at HPOW
  have HPOW2 := hid (fun W => Pow_any 64 W (by omega))
  rw [show (2 : Nat) ^ 64 = Q by rw [hQ], show ((64 : Nat) : Int) = 64 from rfl] at HPOW2
  obtain ⟨T, hT⟩ : ∃ T, T = n * P := ⟨_, rfl⟩
  have hTl : T < 32768 ^ 30 := by rw [hT, hP]; omega
  have hPl : (dg P).length ≤ 1073741824 := dgl P (by rw [hP]; decide)
  have hQl : (dg Q).length ≤ 1073741824 := dgl Q (by rw [hQ]; decide)
  have hnl : (dg n).length ≤ 1073741824 := dgl n (by omega)
  have hTl2 : (dg T).length ≤ 1073741824 := dgl T hTl
  have HPL := hid hPl; have HQL := hid hQl; have HNL := hid hnl; have HTL := hid hTl2
  rw [← hP, ← hT] at hsp
  have HTE := hid hT; have HQ := hid hQ; have HP := hid hP
  have h1e : ∀ W : World, Calls Tryd.prog 26 #[.int .u64 1] W (BigR W 1) := fun W => Num_any 1 W (by omega)
  have HN1 := hid h1e
  clear hT hQ hP hTl hPl hQl hnl hTl2 h1e
  have HSP := hid hsp; have HX := hid hx; have HG := hid hG; have HR75 := hid hr75
  clear hr hsp hx hG hr75
  go_enter Tryd.func8, Tryd.ntmps8
  go_wp2_with fail
  refine (aliveL_any _ HG.out).mono ?_
  rintro e w1 ⟨rfl, hb1⟩
  have HB1 := hid hb1
  clear hb1
  go_wp2_with fail
  refine (HRT.out _).mono ?_
  rintro e w2 ⟨rfl, hb2⟩
  have HB2 := hid (HB1.out.trans (hb2.mono HB1.out.size))
  clear hb2 HB1
  go_wp2_with fail
  refine (Num_any n _ (by omega)).mono ?_
  rintro e w3 ⟨A3, c3, rfl, hS3, hb3⟩
  have HB3 := hid (HB2.out.trans (hb3.mono HB2.out.size)); have HS3 := hid hS3
  clear hb3 hS3 HB2
  go_wp2_with fail
  refine (HPOW.out _).mono ?_
  rintro e w4 ⟨A4, c4, rfl, hS4, hb4⟩
  have HB4 := hid (HB3.out.trans (hb4.mono HB3.out.size)); have HS34 := hid (HS3.out.on hb4); have HS4 := hid hS4
  clear hb4 hS4 HB3 HS3
  go_wp2_with fail
  refine (Mul_any n P A3 A4 c3 c4 _ HS34.out HS4.out HNL.out HPL.out).mono ?_
  rw [← HTE.out]
  rintro e w5 ⟨A5, c5, rfl, hS5, hb5⟩
  have HB5 := hid (HB4.out.trans (hb5.mono HB4.out.size)); have HS5 := hid hS5
  clear hb5 hS5 HB4 HS34 HS4
  go_wp2
  go_loopg [7] (n + 1) (fun g v wr => ∃ t : Nat, v = .int .u64 (t : Int) ∧ t ^ 3 ≤ n ∧ g = n + 1 - t ∧ wr = w5)
  case atStart => exact ⟨0, rfl, by simp, rfl, rfl⟩
  case round =>
    obtain ⟨t, rfl, ht, hg, rfl⟩ := hrel
    have htl := root_small n 3 t hn (by simp) ht
    have HT := hid ht; have HGG := hid hg
    have hsq : ((t : Int) + 1) * ((t : Int) + 1) = (((t + 1) * (t + 1) : Nat) : Int) := by simp
    have hsl : (t + 1) * (t + 1) ≤ 1048577 * 1048577 := Nat.mul_le_mul (by omega) (by omega)
    obtain ⟨s, hs⟩ : ∃ s, s = (t + 1) * (t + 1) := ⟨_, rfl⟩
    rw [← hs] at hsq hsl
    have htw : IntKind.u64.wrap ((t : Int) + 1) = (t : Int) + 1 := by rw [IntKind.wrap_u64]; omega
    have hsw : IntKind.u64.wrap (s : Int) = (s : Int) := by rw [IntKind.wrap_u64]; omega
    have hcu : (s : Int) * ((t : Int) + 1) = ((s * (t + 1) : Nat) : Int) := by simp
    have hul : s * (t + 1) ≤ 1048577 * 1048577 * 1048577 := Nat.mul_le_mul hsl (by omega)
    obtain ⟨u, hu⟩ : ∃ u, u = s * (t + 1) := ⟨_, rfl⟩
    rw [← hu] at hcu hul
    have huw : IntKind.u64.wrap (u : Int) = (u : Int) := by rw [IntKind.wrap_u64]; omega
    have HU := hid hu
    clear hu
    have HS := hid hs
    clear ht hg hs
    by_cases hle : u ≤ n
    · have hlei : (u : Int) ≤ (n : Int) := by omega
      have hnew : (t + 1) ^ 3 ≤ n := by rw [Nat.pow_succ, Nat.pow_two, ← HS.out, ← HU.out]; exact hle
      have htn : t < n := by have h1 := HU.out; have h2 := HS.out; rw [Nat.add_mul, Nat.mul_add] at h2; rw [Nat.mul_add] at h1; omega
      have HNEW := hid hnew
      have hsn : (s : Int) ≤ (n : Int) := by
        have h1 : s * 1 ≤ s * (t + 1) := Nat.mul_le_mul_left _ (by omega)
        rw [← HU.out] at h1
        omega
      clear hle hnew
      go_wp2
      have hg := HGG.out
      go_roundg (n + 1 - (t + 1))
      case measure => omega
      case rel => exact ⟨t + 1, by go_num, HNEW.out, rfl, rfl⟩
    · have hlei : ¬ (u : Int) ≤ (n : Int) := by omega
      have hnew : n < (t + 1) ^ 3 := by rw [Nat.pow_succ, Nat.pow_two, ← HS.out, ← HU.out]; omega
      have hsp2 := HSP.out
      rw [HTE.out, HP.out] at hsp2
      have hwhole := root_parts n 3 r t (by omega) hsp2.1 hsp2.2 HT.out hnew
      rw [← HX.out, ← HQ.out] at hwhole
      have HTL1 := hid (dgl t (by omega)); have HXL := hid (dgl x (by omega))
      have HTQ := hid (dgl (t * Q) (by rw [HQ.out]; omega))
      clear hsp2
      have HW := hid hwhole
      clear hle hnew hwhole
      by_cases hs2 : s ≤ n
      · have hs2i : (s : Int) ≤ (n : Int) := by omega
        clear hs2
        go_wp2_with fail
        refine (Num_any t _ (by omega)).mono ?_
        rintro e w6 ⟨A6, c6, rfl, hS6, hb6⟩
        have HB6 := hid (HB5.out.trans (hb6.mono HB5.out.size)); have HS56 := hid (HS5.out.on hb6); have HS6 := hid hS6
        clear hb6 hS6 HB5 HS5
        go_wp2_with fail
        refine (HPOW2.out _).mono ?_
        rintro e w7 ⟨A7, c7, rfl, hS7, hb7⟩
        have HB7 := hid (HB6.out.trans (hb7.mono HB6.out.size)); have HS57 := hid (HS56.out.on hb7); have HS67 := hid (HS6.out.on hb7); have HS7 := hid hS7
        clear hb7 hS7 HB6 HS56 HS6
        go_wp2_with fail
        refine (Mul_any t Q A6 A7 c6 c7 _ HS67.out HS7.out HTL1.out HQL.out).mono ?_
        rintro e w8 ⟨A8, c8, rfl, hS8, hb8⟩
        have HB8 := hid (HB7.out.trans (hb8.mono HB7.out.size)); have HS58 := hid (HS57.out.on hb8); have HS8 := hid hS8
        clear hb8 hS8 HB7 HS57 HS67 HS7
        go_wp2_with fail
        refine (Num_any x _ hxl).mono ?_
        rintro e w9 ⟨A9, c9, rfl, hS9, hb9⟩
        have HB9 := hid (HB8.out.trans (hb9.mono HB8.out.size)); have HS59 := hid (HS58.out.on hb9); have HS89 := hid (HS8.out.on hb9); have HS9 := hid hS9
        clear hb9 hS9 HB8 HS58 HS8
        go_wp2_with fail
        refine (Add_any (t * Q) x A8 A9 c8 c9 _ HS89.out HS9.out HTQ.out HXL.out).mono ?_
        rw [HW.out]
        rintro e w10 ⟨Ay, cy, rfl, hSy, hb10⟩
        have HB10 := hid (HB9.out.trans (hb10.mono HB9.out.size)); have HS510 := hid (HS59.out.on hb10); have HSy := hid hSy
        clear hb10 hSy HB9 HS59 HS89 HS9
        have hry : r < 32768 ^ 30 := Nat.lt_trans HR75.out (by decide)
        have hrz : r + 1 < 32768 ^ 30 := Nat.lt_of_le_of_lt HR75.out (by decide)
        have HLY := hid (dgl r hry); have HLZ := hid (dgl (r + 1) hrz)
        have hrr : r * r < 32768 ^ 30 := by
          have := Nat.mul_lt_mul'' HR75.out HR75.out
          exact Nat.lt_trans this (by decide)
        have hzz : (r + 1) * (r + 1) < 32768 ^ 30 := by
          have := Nat.mul_le_mul (Nat.succ_le_of_lt HR75.out) (Nat.succ_le_of_lt HR75.out)
          exact Nat.lt_of_le_of_lt this (by decide)
        have HLP := hid (dgl _ hrr); have HLQ := hid (dgl _ hzz)
        clear hry hrz hrr hzz
        go_wp2_with fail
        refine (HN1.out _).mono ?_
        rintro e w11 ⟨A11, c11, rfl, hS11, hb11⟩
        have HB11 := hid (HB10.out.trans (hb11.mono HB10.out.size)); have HS511 := hid (HS510.out.on hb11); have HSy11 := hid (HSy.out.on hb11); have HS11 := hid hS11
        clear hb11 hS11 HB10 HS510 HSy
        go_wp2_with fail
        refine (Add_any r 1 Ay A11 cy c11 _ HSy11.out HS11.out HLY.out (dgl _ (by decide))).mono ?_
        rintro e w12 ⟨Az, cz, rfl, hSz, hb12⟩
        have HB12 := hid (HB11.out.trans (hb12.mono HB11.out.size)); have HS512 := hid (HS511.out.on hb12); have HSy12 := hid (HSy11.out.on hb12); have HSz := hid hSz
        clear hb12 hSz HB11 HS511 HSy11 HS11
        go_wp2_with fail
        refine (Mul_any r r Ay Ay cy cy _ HSy12.out HSy12.out HLY.out HLY.out).mono ?_
        rintro e w13 ⟨Ap, cp, rfl, hSp, hb13⟩
        have HB13 := hid (HB12.out.trans (hb13.mono HB12.out.size)); have HS513 := hid (HS512.out.on hb13); have HSy13 := hid (HSy12.out.on hb13); have HSz13 := hid (HSz.out.on hb13); have HSp := hid hSp
        clear hb13 hSp HB12 HS512 HSy12 HSz
        go_wp2_with fail
        refine (Mul_any (r + 1) (r + 1) Az Az cz cz _ HSz13.out HSz13.out HLZ.out HLZ.out).mono ?_
        rintro e w14 ⟨Aq, cq, rfl, hSq, hb14⟩
        have HB14 := hid (HB13.out.trans (hb14.mono HB13.out.size)); have HS514 := hid (HS513.out.on hb14); have HSy14 := hid (HSy13.out.on hb14); have HSz14 := hid (HSz13.out.on hb14); have HSp14 := hid (HSp.out.on hb14); have HSq := hid hSq
        clear hb14 hSq HB13 HS513 HSy13 HSz13 HSp
        go_wp2_with fail
        refine (Mul_any (r * r) r Ap Ay cp cy _ HSp14.out HSy14.out HLP.out HLY.out).mono ?_
        rintro e w17 ⟨Ap3, cp3, rfl, hSp3, hb17⟩
        have HB17 := hid (HB14.out.trans (hb17.mono HB14.out.size)); have HS517 := hid (HS514.out.on hb17); have HSz17 := hid (HSz14.out.on hb17); have HSq17 := hid (HSq.out.on hb17); have HSp3 := hid hSp3
        clear hb17 hSp3 HB14 HS514 HSz14 HSq HSp14
        go_wp2_with fail
        refine (Mul_any ((r + 1) * (r + 1)) (r + 1) Aq Az cq cz _ HSq17.out HSz17.out HLQ.out HLZ.out).mono ?_
        rintro e w18 ⟨Aq3, cq3, rfl, hSq3, hb18⟩
        have HB18 := hid (HB17.out.trans (hb18.mono HB17.out.size)); have HS518 := hid (HS517.out.on hb18); have HSp18 := hid (HSp3.out.on hb18); have HSq3 := hid hSq3
        clear hb18 hSq3 HB17 HS517 HSp3
        have e3 : ∀ z : Nat, z ^ 3 = z * z * z := fun z => by rw [Nat.pow_succ, Nat.pow_two]
        have e1 : decide (T < r * r * r) = false := decide_eq_false (by have := HSP.out.1; rw [e3 r] at this; omega)
        have e2 : decide (T < (r + 1) * (r + 1) * (r + 1)) = true := decide_eq_true (by have := HSP.out.2; rw [e3 (r + 1)] at this; omega)
        have HE1 := hid e1; have HE2 := hid e2
        have hdt : (dg T).length ≤ 1099511627776 := Nat.le_trans HTL.out (by omega)
        have HDT := hid hdt
        clear e1 e2 e3 hdt
        go_wp2_with fail
        refine (Less_any T (r * r * r) A5 Ap3 c5 cp3 w18.heap.size w18.heap.size _ HS518.out HSp18.out HDT.out).mono ?_
        rw [HE1.out]
        rintro e w15 ⟨rfl, n15, rfl⟩
        go_wp2_with fail
        refine (Less_any T ((r + 1) * (r + 1) * (r + 1)) A5 Aq3 c5 cq3 w18.heap.size w18.heap.size (w18.drewN n15) HS518.out HSq3.out HDT.out).mono ?_
        rw [HE2.out]
        rintro e w16 ⟨rfl, n16, rfl⟩
        go_wp2
        go_ret
        exact ⟨rfl, belowB_drewN HB18.out _⟩
      · have hs2i : ¬ (s : Int) ≤ (n : Int) := by omega
        clear hs2
        go_wp2_with fail
        refine (Num_any t _ (by omega)).mono ?_
        rintro e w6 ⟨A6, c6, rfl, hS6, hb6⟩
        have HB6 := hid (HB5.out.trans (hb6.mono HB5.out.size)); have HS56 := hid (HS5.out.on hb6); have HS6 := hid hS6
        clear hb6 hS6 HB5 HS5
        go_wp2_with fail
        refine (HPOW2.out _).mono ?_
        rintro e w7 ⟨A7, c7, rfl, hS7, hb7⟩
        have HB7 := hid (HB6.out.trans (hb7.mono HB6.out.size)); have HS57 := hid (HS56.out.on hb7); have HS67 := hid (HS6.out.on hb7); have HS7 := hid hS7
        clear hb7 hS7 HB6 HS56 HS6
        go_wp2_with fail
        refine (Mul_any t Q A6 A7 c6 c7 _ HS67.out HS7.out HTL1.out HQL.out).mono ?_
        rintro e w8 ⟨A8, c8, rfl, hS8, hb8⟩
        have HB8 := hid (HB7.out.trans (hb8.mono HB7.out.size)); have HS58 := hid (HS57.out.on hb8); have HS8 := hid hS8
        clear hb8 hS8 HB7 HS57 HS67 HS7
        go_wp2_with fail
        refine (Num_any x _ hxl).mono ?_
        rintro e w9 ⟨A9, c9, rfl, hS9, hb9⟩
        have HB9 := hid (HB8.out.trans (hb9.mono HB8.out.size)); have HS59 := hid (HS58.out.on hb9); have HS89 := hid (HS8.out.on hb9); have HS9 := hid hS9
        clear hb9 hS9 HB8 HS58 HS8
        go_wp2_with fail
        refine (Add_any (t * Q) x A8 A9 c8 c9 _ HS89.out HS9.out HTQ.out HXL.out).mono ?_
        rw [HW.out]
        rintro e w10 ⟨Ay, cy, rfl, hSy, hb10⟩
        have HB10 := hid (HB9.out.trans (hb10.mono HB9.out.size)); have HS510 := hid (HS59.out.on hb10); have HSy := hid hSy
        clear hb10 hSy HB9 HS59 HS89 HS9
        have hry : r < 32768 ^ 30 := Nat.lt_trans HR75.out (by decide)
        have hrz : r + 1 < 32768 ^ 30 := Nat.lt_of_le_of_lt HR75.out (by decide)
        have HLY := hid (dgl r hry); have HLZ := hid (dgl (r + 1) hrz)
        have hrr : r * r < 32768 ^ 30 := by
          have := Nat.mul_lt_mul'' HR75.out HR75.out
          exact Nat.lt_trans this (by decide)
        have hzz : (r + 1) * (r + 1) < 32768 ^ 30 := by
          have := Nat.mul_le_mul (Nat.succ_le_of_lt HR75.out) (Nat.succ_le_of_lt HR75.out)
          exact Nat.lt_of_le_of_lt this (by decide)
        have HLP := hid (dgl _ hrr); have HLQ := hid (dgl _ hzz)
        clear hry hrz hrr hzz
        go_wp2_with fail
        refine (HN1.out _).mono ?_
        rintro e w11 ⟨A11, c11, rfl, hS11, hb11⟩
        have HB11 := hid (HB10.out.trans (hb11.mono HB10.out.size)); have HS511 := hid (HS510.out.on hb11); have HSy11 := hid (HSy.out.on hb11); have HS11 := hid hS11
        clear hb11 hS11 HB10 HS510 HSy
        go_wp2_with fail
        refine (Add_any r 1 Ay A11 cy c11 _ HSy11.out HS11.out HLY.out (dgl _ (by decide))).mono ?_
        rintro e w12 ⟨Az, cz, rfl, hSz, hb12⟩
        have HB12 := hid (HB11.out.trans (hb12.mono HB11.out.size)); have HS512 := hid (HS511.out.on hb12); have HSy12 := hid (HSy11.out.on hb12); have HSz := hid hSz
        clear hb12 hSz HB11 HS511 HSy11 HS11
        go_wp2_with fail
        refine (Mul_any r r Ay Ay cy cy _ HSy12.out HSy12.out HLY.out HLY.out).mono ?_
        rintro e w13 ⟨Ap, cp, rfl, hSp, hb13⟩
        have HB13 := hid (HB12.out.trans (hb13.mono HB12.out.size)); have HS513 := hid (HS512.out.on hb13); have HSy13 := hid (HSy12.out.on hb13); have HSz13 := hid (HSz.out.on hb13); have HSp := hid hSp
        clear hb13 hSp HB12 HS512 HSy12 HSz
        go_wp2_with fail
        refine (Mul_any (r + 1) (r + 1) Az Az cz cz _ HSz13.out HSz13.out HLZ.out HLZ.out).mono ?_
        rintro e w14 ⟨Aq, cq, rfl, hSq, hb14⟩
        have HB14 := hid (HB13.out.trans (hb14.mono HB13.out.size)); have HS514 := hid (HS513.out.on hb14); have HSy14 := hid (HSy13.out.on hb14); have HSz14 := hid (HSz13.out.on hb14); have HSp14 := hid (HSp.out.on hb14); have HSq := hid hSq
        clear hb14 hSq HB13 HS513 HSy13 HSz13 HSp
        go_wp2_with fail
        refine (Mul_any (r * r) r Ap Ay cp cy _ HSp14.out HSy14.out HLP.out HLY.out).mono ?_
        rintro e w17 ⟨Ap3, cp3, rfl, hSp3, hb17⟩
        have HB17 := hid (HB14.out.trans (hb17.mono HB14.out.size)); have HS517 := hid (HS514.out.on hb17); have HSz17 := hid (HSz14.out.on hb17); have HSq17 := hid (HSq.out.on hb17); have HSp3 := hid hSp3
        clear hb17 hSp3 HB14 HS514 HSz14 HSq HSp14
        go_wp2_with fail
        refine (Mul_any ((r + 1) * (r + 1)) (r + 1) Aq Az cq cz _ HSq17.out HSz17.out HLQ.out HLZ.out).mono ?_
        rintro e w18 ⟨Aq3, cq3, rfl, hSq3, hb18⟩
        have HB18 := hid (HB17.out.trans (hb18.mono HB17.out.size)); have HS518 := hid (HS517.out.on hb18); have HSp18 := hid (HSp3.out.on hb18); have HSq3 := hid hSq3
        clear hb18 hSq3 HB17 HS517 HSp3
        have e3 : ∀ z : Nat, z ^ 3 = z * z * z := fun z => by rw [Nat.pow_succ, Nat.pow_two]
        have e1 : decide (T < r * r * r) = false := decide_eq_false (by have := HSP.out.1; rw [e3 r] at this; omega)
        have e2 : decide (T < (r + 1) * (r + 1) * (r + 1)) = true := decide_eq_true (by have := HSP.out.2; rw [e3 (r + 1)] at this; omega)
        have HE1 := hid e1; have HE2 := hid e2
        have hdt : (dg T).length ≤ 1099511627776 := Nat.le_trans HTL.out (by omega)
        have HDT := hid hdt
        clear e1 e2 e3 hdt
        go_wp2_with fail
        refine (Less_any T (r * r * r) A5 Ap3 c5 cp3 w18.heap.size w18.heap.size _ HS518.out HSp18.out HDT.out).mono ?_
        rw [HE1.out]
        rintro e w15 ⟨rfl, n15, rfl⟩
        go_wp2_with fail
        refine (Less_any T ((r + 1) * (r + 1) * (r + 1)) A5 Aq3 c5 cq3 w18.heap.size w18.heap.size (w18.drewN n15) HS518.out HSq3.out HDT.out).mono ?_
        rw [HE2.out]
        rintro e w16 ⟨rfl, n16, rfl⟩
        go_wp2
        go_ret
        exact ⟨rfl, belowB_drewN HB18.out _⟩

theorem roots_any (n : Nat) (k : Int) (w : World) (hn : n < 18446744073709551616) (hG : GlobL w) :
    Calls Tryd.prog 8 #[.int .u64 (n : Int), .int .i64 k] w fun e w' => e = .returned (.bool true) ∧ Below w.heap.size w w' := by
  by_cases h : k < 2 ∨ 3 < k ∨ 1048576 < n
  · exact roots_bad n k w hn hG h
  · by_cases h2 : k = 2
    · subst h2; exact roots_good2 n w (by omega) hG
    · obtain rfl : k = 3 := by omega
      exact roots_good3 n w (by omega) hG
end Go.Proofs.YtankjblkiekmmaaDoor
