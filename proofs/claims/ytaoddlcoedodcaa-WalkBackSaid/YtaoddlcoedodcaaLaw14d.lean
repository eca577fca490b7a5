/-
  The statements of layer 14: any node.
-/
import Derived.Test.YtaoddlcoedodcaaLaw14b
namespace Go.Proofs.Ytaoddlcoedodcaa
open Go Go.RowKit
set_option linter.unusedVariables false
set_option linter.unusedSimpArgs false
theorem fit_small {x : Int} (h : fitB x = true) : 1 ≤ x ∧ x ≤ 65536 := by
  obtain ⟨j, h1, rfl⟩ := (fitB_iff x).1 h
  have := pow_le16 h1
  have := Nat.one_le_two_pow (n := j)
  omega
theorem FitsB (x : Int) (W : World) {b : Bool} (h : fitB x = b) : Calls Try.prog 13 #[.int .i64 x] W (RetB W b) := by rw [← h]; exact FitsR x W
/-- The answers of package walk on a node's number. -/
structure NodeOk (x : Int) : Prop where
  span : ∀ W, Calls Try.prog 11 #[.int .i64 x] W (RetII W (firstZ x) (lastZ x))
  level : ∀ W, Calls Try.prog 14 #[.int .i64 x] W (RetI W (levelZ x))
  left : ∀ W, Calls Try.prog 16 #[.int .i64 x] W (RetI W (leftZ x))
  right : ∀ W, Calls Try.prog 17 #[.int .i64 x] W (RetI W (rightZ x))
  fits : ∀ W, Calls Try.prog 18 #[.int .i64 x] W (RetB W (fitB x))
  root : ∀ W, Calls Try.prog 19 #[.int .i64 x] W (RetI W (rootZ x))
theorem span_nums {q l k a b lo hi : Nat} (hq : q < 2 ^ k) (hk : l + k = 16) (ha : a = q * 2 ^ l) (hb : b = (q + 1) * 2 ^ l - 1) (hlo : lo = loN q l) (hhi : hi = hiN q l) :
    (lo : Int) / 2 = (a : Int) ∧ (hi : Int) / 2 = (b : Int) ∧ Int.tdiv (lo : Int) 2 = (a : Int) ∧ Int.tdiv (hi : Int) 2 = (b : Int) ∧ wrap64 (a : Int) = (a : Int) ∧ wrap64 (b : Int) = (b : Int) := by
  have h1 := hi_bound (l := l) hq
  have h2 := lo_le q l
  have h3 := le_hi q l
  rw [hk, ← hhi] at h1
  rw [← hlo] at h2
  rw [← hhi] at h3
  have h4 : lo = 2 * a := by rw [hlo, ha]; unfold loN; rw [pow1, Nat.mul_left_comm]
  have h5 : hi = 2 * b := by
    rw [hhi, hb]; unfold hiN
    rw [pow1, Nat.mul_left_comm, Nat.add_mul, Nat.one_mul]
    have := Nat.one_le_two_pow (n := l)
    omega
  have h6 : lo ≤ 131072 := by omega
  have h7 : hi ≤ 131072 := by omega
  subst h4; subst h5
  clear h1 h2 h3 hlo hhi ha hb hq hk
  refine ⟨by omega, by omega, ?_, ?_, wrap64_in (by omega) (by omega), wrap64_in (by omega) (by omega)⟩
  · rw [Int.tdiv_eq_ediv_of_nonneg (by omega)]; omega
  · rw [Int.tdiv_eq_ediv_of_nonneg (by omega)]; omega
set_option maxHeartbeats 2000000 in
theorem nodes_in_fit (hA : AliveOk) (q l k : Nat) (hq : q < 2 ^ k) (hk : l + k = 16) (x : Int) (hx : x = (nd q l : Int)) (hO : NodeOk x) (hf : fitB x = true) (w : World) : Calls Try.prog 3 #[.int .i64 x] w (RetB w true) := by
  have HA := hid hA; have HO := hid hO; have HFB := hid hf
  have HK := hid (fun W => Last14_ok q l k W hq (by omega))
  rw [hk, show ((2 ^ 16 : Nat) : Int) = 65536 by decide, ← hx] at HK
  have HBX := hid box_cells
  have hfz := firstZ_nd hq hk
  have hlz := lastZ_nd hq hk
  rw [← hx] at hfz hlz
  obtain ⟨a, ha⟩ : ∃ a, a = q * 2 ^ l := ⟨_, rfl⟩
  obtain ⟨b, hb⟩ : ∃ a, a = (q + 1) * 2 ^ l - 1 := ⟨_, rfl⟩
  obtain ⟨lo, hlo⟩ : ∃ a, a = loN q l := ⟨_, rfl⟩
  obtain ⟨hi, hhi⟩ : ∃ a, a = hiN q l := ⟨_, rfl⟩
  rw [← ha] at hfz
  rw [← hb] at hlz
  obtain ⟨n1, n2, n3, n4, n5, n6⟩ := span_nums hq hk ha hb hlo hhi
  have HLO := hid hlo; have HHI := hid hhi
  have HFZ := hid hfz; have HLZ := hid hlz
  clear hq hk hx hfz hlz ha hb hlo hhi
  have hro : rootZ x = x - 1 := if_pos hf
  have hwx : wrap64 (x - 1) = x - 1 := wrap64_in (by have := fit_small hf; omega) (by have := fit_small hf; omega)
  clear hA hO hf
  have hfz := HFZ.out; have hlz := HLZ.out
  have HB0 : Hid (Below w.heap.size w w) := hid (Below.refl _ _)
  go_enter Try.func3, Try.ntmps3
  go_wp2_with fail
  refine (HA.out w).mono ?_
  rintro e w1 ⟨rfl, hb⟩
  have HB1 : Hid (Below w.heap.size w w1) := hid (HB0.out.trans (hb.mono HB0.out.size))
  clear hb HB0
  go_wp2_with fail
  refine (ChildrenR x w1).mono ?_
  rintro e w2 ⟨rfl, hb⟩
  have HB2 : Hid (Below w.heap.size w w2) := hid (HB1.out.trans (hb.mono HB1.out.size))
  clear hb HB1
  go_wp2_with fail
  refine (HO.out.span w2).mono ?_
  rintro e w3 ⟨rfl, hb⟩
  have HB3 : Hid (Below w.heap.size w w3) := hid (HB2.out.trans (hb.mono HB2.out.size))
  clear hb HB2
  go_wp2_with fail
  refine (HK.out w3).mono ?_
  rintro e w4 ⟨rfl, hb⟩
  have hZ := hid (heap_alloc_new w4 (.cells z3 TN))
  obtain ⟨h0, h1, h2⟩ := HBX.out w4 q l
  rw [← HLO.out] at h1
  rw [← HHI.out] at h2
  have HB4 := hid (HB3.out.trans ((hb.trans ((box_below w4 (ndA q l)).mono hb.size)).mono HB3.out.size))
  clear hb HK HB3
  go_wp2_with (first | (with_reducible refine wpList_store_row rfl TN (.tmp 9) _ rfl w4.heap.size (ndA q l) rfl rfl TN z3 hZ.out infoNd ndA_size ndA_one ?_))
  go_quiet (fail)
  have HBq := hid (belowB_drewN HB4.out nq)
  clear HB4 h0 h1 h2 hZ
  generalize World.drewN _ nq = wq at HBq ⊢
  go_wp2_with fail
  refine (FitsB x wq HFB.out).mono ?_
  rintro e v0 ⟨rfl, hb⟩
  have HC0 := hid (HBq.out.trans (hb.mono HBq.out.size))
  clear hb HBq
  go_wp2_with fail
  refine (HO.out.level v0).mono ?_
  rintro e v1 ⟨rfl, hb⟩
  have HC1 := hid (HC0.out.trans (hb.mono HC0.out.size))
  clear hb HC0
  go_wp2_with fail
  refine (LevelR x v1).mono ?_
  rintro e v2 ⟨rfl, hb⟩
  have HC2 := hid (HC1.out.trans (hb.mono HC1.out.size))
  clear hb HC1
  go_wp2_with fail
  refine (HO.out.left v2).mono ?_
  rintro e v3 ⟨rfl, hb⟩
  have HC3 := hid (HC2.out.trans (hb.mono HC2.out.size))
  clear hb HC2
  go_wp2_with fail
  refine (HO.out.right v3).mono ?_
  rintro e v4 ⟨rfl, hb⟩
  have HC4 := hid (HC3.out.trans (hb.mono HC3.out.size))
  clear hb HC3
  go_wp2_with fail
  refine (HO.out.fits v4).mono ?_
  rintro e v5 ⟨rfl, hb⟩
  have HC5 := hid (HC4.out.trans (hb.mono HC4.out.size))
  clear hb HC4
  go_wp2_with fail
  refine (FitsR x v5).mono ?_
  rintro e v6 ⟨rfl, hb⟩
  have HC6 := hid (HC5.out.trans (hb.mono HC5.out.size))
  clear hb HC5
  go_wp2_with fail
  refine (HO.out.root v6).mono ?_
  rintro e v7 ⟨rfl, hb⟩
  have HC7 := hid (HC6.out.trans (hb.mono HC6.out.size))
  clear hb HC6
  go_wp2
  go_ret
  exact ⟨rfl, HC7.out⟩
set_option maxHeartbeats 2000000 in
theorem nodes_in_no (hA : AliveOk) (q l k : Nat) (hq : q < 2 ^ k) (hk : l + k = 16) (x : Int) (hx : x = (nd q l : Int)) (hO : NodeOk x) (hf : fitB x = false) (w : World) : Calls Try.prog 3 #[.int .i64 x] w (RetB w true) := by
  have HA := hid hA; have HO := hid hO; have HFB := hid hf
  have HK := hid (fun W => Last14_ok q l k W hq (by omega))
  rw [hk, show ((2 ^ 16 : Nat) : Int) = 65536 by decide, ← hx] at HK
  have HBX := hid box_cells
  have hfz := firstZ_nd hq hk
  have hlz := lastZ_nd hq hk
  rw [← hx] at hfz hlz
  obtain ⟨a, ha⟩ : ∃ a, a = q * 2 ^ l := ⟨_, rfl⟩
  obtain ⟨b, hb⟩ : ∃ a, a = (q + 1) * 2 ^ l - 1 := ⟨_, rfl⟩
  obtain ⟨lo, hlo⟩ : ∃ a, a = loN q l := ⟨_, rfl⟩
  obtain ⟨hi, hhi⟩ : ∃ a, a = hiN q l := ⟨_, rfl⟩
  rw [← ha] at hfz
  rw [← hb] at hlz
  obtain ⟨n1, n2, n3, n4, n5, n6⟩ := span_nums hq hk ha hb hlo hhi
  have HLO := hid hlo; have HHI := hid hhi
  have HFZ := hid hfz; have HLZ := hid hlz
  clear hq hk hx hfz hlz ha hb hlo hhi
  have hro : rootZ x = -1 := if_neg (by rw [hf]; decide)
  clear hA hO hf
  have hfz := HFZ.out; have hlz := HLZ.out
  have HB0 : Hid (Below w.heap.size w w) := hid (Below.refl _ _)
  go_enter Try.func3, Try.ntmps3
  go_wp2_with fail
  refine (HA.out w).mono ?_
  rintro e w1 ⟨rfl, hb⟩
  have HB1 : Hid (Below w.heap.size w w1) := hid (HB0.out.trans (hb.mono HB0.out.size))
  clear hb HB0
  go_wp2_with fail
  refine (ChildrenR x w1).mono ?_
  rintro e w2 ⟨rfl, hb⟩
  have HB2 : Hid (Below w.heap.size w w2) := hid (HB1.out.trans (hb.mono HB1.out.size))
  clear hb HB1
  go_wp2_with fail
  refine (HO.out.span w2).mono ?_
  rintro e w3 ⟨rfl, hb⟩
  have HB3 : Hid (Below w.heap.size w w3) := hid (HB2.out.trans (hb.mono HB2.out.size))
  clear hb HB2
  go_wp2_with fail
  refine (HK.out w3).mono ?_
  rintro e w4 ⟨rfl, hb⟩
  have hZ := hid (heap_alloc_new w4 (.cells z3 TN))
  obtain ⟨h0, h1, h2⟩ := HBX.out w4 q l
  rw [← HLO.out] at h1
  rw [← HHI.out] at h2
  have HB4 := hid (HB3.out.trans ((hb.trans ((box_below w4 (ndA q l)).mono hb.size)).mono HB3.out.size))
  clear hb HK HB3
  go_wp2_with (first | (with_reducible refine wpList_store_row rfl TN (.tmp 9) _ rfl w4.heap.size (ndA q l) rfl rfl TN z3 hZ.out infoNd ndA_size ndA_one ?_))
  go_quiet (fail)
  have HBq := hid (belowB_drewN HB4.out nq)
  clear HB4 h0 h1 h2 hZ
  generalize World.drewN _ nq = wq at HBq ⊢
  go_wp2_with fail
  refine (FitsB x wq HFB.out).mono ?_
  rintro e v0 ⟨rfl, hb⟩
  have HC0 := hid (HBq.out.trans (hb.mono HBq.out.size))
  clear hb HBq
  go_wp2_with fail
  refine (HO.out.level v0).mono ?_
  rintro e v1 ⟨rfl, hb⟩
  have HC1 := hid (HC0.out.trans (hb.mono HC0.out.size))
  clear hb HC0
  go_wp2_with fail
  refine (LevelR x v1).mono ?_
  rintro e v2 ⟨rfl, hb⟩
  have HC2 := hid (HC1.out.trans (hb.mono HC1.out.size))
  clear hb HC1
  go_wp2_with fail
  refine (HO.out.left v2).mono ?_
  rintro e v3 ⟨rfl, hb⟩
  have HC3 := hid (HC2.out.trans (hb.mono HC2.out.size))
  clear hb HC2
  go_wp2_with fail
  refine (HO.out.right v3).mono ?_
  rintro e v4 ⟨rfl, hb⟩
  have HC4 := hid (HC3.out.trans (hb.mono HC3.out.size))
  clear hb HC3
  go_wp2_with fail
  refine (HO.out.fits v4).mono ?_
  rintro e v5 ⟨rfl, hb⟩
  have HC5 := hid (HC4.out.trans (hb.mono HC4.out.size))
  clear hb HC4
  go_wp2_with fail
  refine (FitsR x v5).mono ?_
  rintro e v6 ⟨rfl, hb⟩
  have HC6 := hid (HC5.out.trans (hb.mono HC5.out.size))
  clear hb HC5
  go_wp2_with fail
  refine (HO.out.root v6).mono ?_
  rintro e v7 ⟨rfl, hb⟩
  have HC7 := hid (HC6.out.trans (hb.mono HC6.out.size))
  clear hb HC6
  go_wp2
  go_ret
  exact ⟨rfl, HC7.out⟩
set_option maxHeartbeats 2000000 in
theorem nodes_out_fit (hA : AliveOk) (x : Int) (hno : ¬ inT x 65536) (hO : NodeOk x) (hf : fitB x = true) (w : World) : Calls Try.prog 3 #[.int .i64 x] w (RetB w true) := by
  have HA := hid hA; have HO := hid hO; have HFB := hid hf
  have HK := hid (fun W => Last14_no x 65536 W hno)
  have hfz := firstZ_no hno
  have hlz := lastZ_no hno
  have HFZ := hid hfz; have HLZ := hid hlz
  clear hno hfz hlz
  have hro : rootZ x = x - 1 := if_pos hf
  have hwx : wrap64 (x - 1) = x - 1 := wrap64_in (by have := fit_small hf; omega) (by have := fit_small hf; omega)
  clear hA hO hf
  have hfz := HFZ.out; have hlz := HLZ.out
  have HB0 : Hid (Below w.heap.size w w) := hid (Below.refl _ _)
  go_enter Try.func3, Try.ntmps3
  go_wp2_with fail
  refine (HA.out w).mono ?_
  rintro e w1 ⟨rfl, hb⟩
  have HB1 : Hid (Below w.heap.size w w1) := hid (HB0.out.trans (hb.mono HB0.out.size))
  clear hb HB0
  go_wp2_with fail
  refine (ChildrenR x w1).mono ?_
  rintro e w2 ⟨rfl, hb⟩
  have HB2 : Hid (Below w.heap.size w w2) := hid (HB1.out.trans (hb.mono HB1.out.size))
  clear hb HB1
  go_wp2_with fail
  refine (HO.out.span w2).mono ?_
  rintro e w3 ⟨rfl, hb⟩
  have HB3 : Hid (Below w.heap.size w w3) := hid (HB2.out.trans (hb.mono HB2.out.size))
  clear hb HB2
  go_wp2_with fail
  refine (HK.out w3).mono ?_
  rintro e w4 ⟨rfl, hb⟩
  have hZ := hid (heap_alloc_new w4 (.cells z3 TN))
  have HB4 := hid (HB3.out.trans ((hb.trans ((box_below w4 z3).mono hb.size)).mono HB3.out.size))
  clear hb HK HB3
  go_wp2_with (first | (with_reducible refine wpList_store_row rfl TN (.tmp 9) _ rfl w4.heap.size z3 rfl rfl TN z3 hZ.out infoZ3 rfl z3_one ?_))
  refine (FitsB x ((w4.alloc (.cells z3 TN)).setRow w4.heap.size z3) HFB.out).mono ?_
  rintro e v0 ⟨rfl, hb⟩
  have HC0 := hid (HB4.out.trans (hb.mono HB4.out.size))
  clear hb HB4
  go_wp2_with fail
  refine (HO.out.level v0).mono ?_
  rintro e v1 ⟨rfl, hb⟩
  have HC1 := hid (HC0.out.trans (hb.mono HC0.out.size))
  clear hb HC0
  go_wp2_with fail
  refine (LevelR x v1).mono ?_
  rintro e v2 ⟨rfl, hb⟩
  have HC2 := hid (HC1.out.trans (hb.mono HC1.out.size))
  clear hb HC1
  go_wp2_with fail
  refine (HO.out.left v2).mono ?_
  rintro e v3 ⟨rfl, hb⟩
  have HC3 := hid (HC2.out.trans (hb.mono HC2.out.size))
  clear hb HC2
  go_wp2_with fail
  refine (HO.out.right v3).mono ?_
  rintro e v4 ⟨rfl, hb⟩
  have HC4 := hid (HC3.out.trans (hb.mono HC3.out.size))
  clear hb HC3
  go_wp2_with fail
  refine (HO.out.fits v4).mono ?_
  rintro e v5 ⟨rfl, hb⟩
  have HC5 := hid (HC4.out.trans (hb.mono HC4.out.size))
  clear hb HC4
  go_wp2_with fail
  refine (FitsR x v5).mono ?_
  rintro e v6 ⟨rfl, hb⟩
  have HC6 := hid (HC5.out.trans (hb.mono HC5.out.size))
  clear hb HC5
  go_wp2_with fail
  refine (HO.out.root v6).mono ?_
  rintro e v7 ⟨rfl, hb⟩
  have HC7 := hid (HC6.out.trans (hb.mono HC6.out.size))
  clear hb HC6
  go_wp2
  go_ret
  exact ⟨rfl, HC7.out⟩
set_option maxHeartbeats 2000000 in
theorem nodes_out_no (hA : AliveOk) (x : Int) (hno : ¬ inT x 65536) (hO : NodeOk x) (hf : fitB x = false) (w : World) : Calls Try.prog 3 #[.int .i64 x] w (RetB w true) := by
  have HA := hid hA; have HO := hid hO; have HFB := hid hf
  have HK := hid (fun W => Last14_no x 65536 W hno)
  have hfz := firstZ_no hno
  have hlz := lastZ_no hno
  have HFZ := hid hfz; have HLZ := hid hlz
  clear hno hfz hlz
  have hro : rootZ x = -1 := if_neg (by rw [hf]; decide)
  clear hA hO hf
  have hfz := HFZ.out; have hlz := HLZ.out
  have HB0 : Hid (Below w.heap.size w w) := hid (Below.refl _ _)
  go_enter Try.func3, Try.ntmps3
  go_wp2_with fail
  refine (HA.out w).mono ?_
  rintro e w1 ⟨rfl, hb⟩
  have HB1 : Hid (Below w.heap.size w w1) := hid (HB0.out.trans (hb.mono HB0.out.size))
  clear hb HB0
  go_wp2_with fail
  refine (ChildrenR x w1).mono ?_
  rintro e w2 ⟨rfl, hb⟩
  have HB2 : Hid (Below w.heap.size w w2) := hid (HB1.out.trans (hb.mono HB1.out.size))
  clear hb HB1
  go_wp2_with fail
  refine (HO.out.span w2).mono ?_
  rintro e w3 ⟨rfl, hb⟩
  have HB3 : Hid (Below w.heap.size w w3) := hid (HB2.out.trans (hb.mono HB2.out.size))
  clear hb HB2
  go_wp2_with fail
  refine (HK.out w3).mono ?_
  rintro e w4 ⟨rfl, hb⟩
  have hZ := hid (heap_alloc_new w4 (.cells z3 TN))
  have HB4 := hid (HB3.out.trans ((hb.trans ((box_below w4 z3).mono hb.size)).mono HB3.out.size))
  clear hb HK HB3
  go_wp2_with (first | (with_reducible refine wpList_store_row rfl TN (.tmp 9) _ rfl w4.heap.size z3 rfl rfl TN z3 hZ.out infoZ3 rfl z3_one ?_))
  refine (FitsB x ((w4.alloc (.cells z3 TN)).setRow w4.heap.size z3) HFB.out).mono ?_
  rintro e v0 ⟨rfl, hb⟩
  have HC0 := hid (HB4.out.trans (hb.mono HB4.out.size))
  clear hb HB4
  go_wp2_with fail
  refine (HO.out.level v0).mono ?_
  rintro e v1 ⟨rfl, hb⟩
  have HC1 := hid (HC0.out.trans (hb.mono HC0.out.size))
  clear hb HC0
  go_wp2_with fail
  refine (LevelR x v1).mono ?_
  rintro e v2 ⟨rfl, hb⟩
  have HC2 := hid (HC1.out.trans (hb.mono HC1.out.size))
  clear hb HC1
  go_wp2_with fail
  refine (HO.out.left v2).mono ?_
  rintro e v3 ⟨rfl, hb⟩
  have HC3 := hid (HC2.out.trans (hb.mono HC2.out.size))
  clear hb HC2
  go_wp2_with fail
  refine (HO.out.right v3).mono ?_
  rintro e v4 ⟨rfl, hb⟩
  have HC4 := hid (HC3.out.trans (hb.mono HC3.out.size))
  clear hb HC3
  go_wp2_with fail
  refine (HO.out.fits v4).mono ?_
  rintro e v5 ⟨rfl, hb⟩
  have HC5 := hid (HC4.out.trans (hb.mono HC4.out.size))
  clear hb HC4
  go_wp2_with fail
  refine (FitsR x v5).mono ?_
  rintro e v6 ⟨rfl, hb⟩
  have HC6 := hid (HC5.out.trans (hb.mono HC5.out.size))
  clear hb HC5
  go_wp2_with fail
  refine (HO.out.root v6).mono ?_
  rintro e v7 ⟨rfl, hb⟩
  have HC7 := hid (HC6.out.trans (hb.mono HC6.out.size))
  clear hb HC6
  go_wp2
  go_ret
  exact ⟨rfl, HC7.out⟩
theorem walkNodes_any (hA : AliveOk) (hN : WSpan) (hL : WLevel) (hLe : WLeft) (hRi : WRight) (hF : WFits) (hRo : WRoot) (x : Int) (w : World) (hx : I64 x) : Calls Try.prog 3 #[.int .i64 x] w (RetB w true) := by
  have hO : NodeOk x := ⟨fun W => hN x W hx, fun W => hL x W hx, fun W => hLe x W hx, fun W => hRi x W hx, fun W => hF x W hx, fun W => hRo x W hx⟩
  by_cases hf : fitB x = true
  · by_cases h : inT x 65536
    · obtain ⟨q, l, k, hq, hk, he⟩ := inT_16' h
      exact nodes_in_fit hA q l k hq hk x he hO hf w
    · exact nodes_out_fit hA x h hO hf w
  · have hf0 : fitB x = false := by simpa using hf
    by_cases h : inT x 65536
    · obtain ⟨q, l, k, hq, hk, he⟩ := inT_16' h
      exact nodes_in_no hA q l k hq hk x he hO hf0 w
    · exact nodes_out_no hA x h hO hf0 w
end Go.Proofs.Ytaoddlcoedodcaa
