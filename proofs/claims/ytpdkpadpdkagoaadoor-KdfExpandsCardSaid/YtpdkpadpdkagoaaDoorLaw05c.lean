/-
  The statement KdfExpands: the walk.
-/
import Derived.Test.YtpdkpadpdkagoaaDoorLaw05a
import Derived.Test.YtpdkpadpdkagoaaDoorRef05
namespace Go.Proofs.YtpdkpadpdkagoaaDoor
open Go.RowKit
set_option linter.unusedVariables false
set_option linter.unusedSimpArgs false

set_option maxRecDepth 100000 in
set_option maxHeartbeats 1600000 in
theorem kdfExpands_any (A0 : Option Addr) (salt : List UInt8) (c0 : Nat) (A : Option Addr) (key : List UInt8) (c : Nat) (A' : Option Addr) (info : List UInt8) (c' : Nat) (n : Int) (w : World) (hA0 : Sq w w.heap.size A0 c0 (bvs salt)) (hA : Sq w w.heap.size A c (bvs key)) (hA' : Sq w w.heap.size A' c' (bvs info)) (hn0 : -9223372036854775808 ≤ n) (hn1 : n ≤ 9223372036854775807) (hG : Glob w) :
    Calls Tryd.prog 3 #[.slice A0 salt.length c0, .slice A key.length c, .slice A' info.length c', .int .i64 n] w fun e w' => e = .returned (.bool true) ∧ Below w.heap.size w w' := by
  have HA0 := hid hA0; have HA := hid hA; have HA' := hid hA'; have HG := hid hG
  clear hA0 hA hA' hG
  by_cases h1 : 100 < salt.length
  · have hx : (100 : Int) < (salt.length : Int) := by omega
    go_enter Tryd.func3, Tryd.ntmps3
    go_wp2_with fail
    refine (alive5_any _ HG.out).mono ?_
    rintro e w1 ⟨rfl, hb1⟩
    go_wp2
    go_ret
    exact ⟨rfl, hb1⟩
  have hx1 : ¬ (100 : Int) < (salt.length : Int) := by omega
  have hx1' : decide ((100 : Int) < (salt.length : Int)) = false := by simpa using hx1
  by_cases h2 : 100 < key.length
  · have hx : (100 : Int) < (key.length : Int) := by omega
    go_enter Tryd.func3, Tryd.ntmps3
    go_wp2_with fail
    refine (alive5_any _ HG.out).mono ?_
    rintro e w1 ⟨rfl, hb1⟩
    go_wp2
    go_ret
    exact ⟨rfl, hb1⟩
  have hx2 : ¬ (100 : Int) < (key.length : Int) := by omega
  have hx2' : decide ((100 : Int) < (key.length : Int)) = false := by simpa using hx2
  by_cases h3 : 100 < info.length
  · have hx : (100 : Int) < (info.length : Int) := by omega
    go_enter Tryd.func3, Tryd.ntmps3
    go_wp2_with fail
    refine (alive5_any _ HG.out).mono ?_
    rintro e w1 ⟨rfl, hb1⟩
    go_wp2
    go_ret
    exact ⟨rfl, hb1⟩
  have hx3 : ¬ (100 : Int) < (info.length : Int) := by omega
  have hx3' : decide ((100 : Int) < (info.length : Int)) = false := by simpa using hx3
  by_cases hm : 100 < n
  · have hm1 : decide ((100 : Int) < n) = true := by simpa using hm
    by_cases hm2 : n ≤ 8160
    · have hm3 : decide (n ≤ (8160 : Int)) = true := by simpa using hm2
      go_enter Tryd.func3, Tryd.ntmps3
      go_wp2_with fail
      refine (alive5_any _ HG.out).mono ?_
      rintro e w1 ⟨rfl, hb1⟩
      have HX1 := hid (Extract_any A0 salt c0 A key c w1 ((HA0.out.below hb1).more hb1.size) ((HA.out.below hb1).more hb1.size) (HG.out.below hb1 (Nat.le_refl _)) (by omega) (by omega))
      have HB1 := hid hb1
      clear hb1
      go_wp2_with fail
      refine HX1.out.mono ?_
      rintro e w2 ⟨bt, rfl, hbt, hbz, hb2⟩
      have hB2 : Below w.heap.size w w2 := HB1.out.trans (hb2.mono HB1.out.size)
      have HX2 := hid (ref4_tag A0 salt c0 A key c w2 ((HA0.out.below hB2).more hB2.size) ((HA.out.below hB2).more hB2.size) (by omega) (by omega))
      have HB2 := hid hB2; have HL2 := hid (lie_block hbt)
      clear hb2 hB2 hbt hbz HX1
      go_wp2_with fail
      refine HX2.out.mono ?_
      rintro e w3 ⟨v3, rfl, ho3, hb3⟩
      obtain ⟨A3, c3, rfl, hS3⟩ := own_sl ho3
      rw [macB_length]
      have HS := hid (Same_32 (some ⟨bt, 0, none⟩) (macB salt key) 32 A3 (macB salt key) c3 w3 w3.heap.size w3.heap.size 32 ((HL2.out.below hb3).more hb3.size) hS3.lie (macB_length _ _) (macB_length _ _) (by omega))
      rw [show (macB salt key == macB salt key) = true from beq_self_eq_true _] at HS
      have HB3 := hid (HB2.out.trans (hb3.mono HB2.out.size))
      clear ho3 hb3 hS3 HX2 HL2 HB2
      go_wp2_with fail
      refine HS.out.mono ?_
      rintro e wx ⟨rfl, nx, rfl⟩
      have HB4 := hid (below_drewN HB3.out nx)
      obtain ⟨w4, hw4⟩ : ∃ w4, w4 = w3.drewN nx := ⟨_, rfl⟩
      rw [← hw4] at HB4
      rw [← hw4]
      clear hw4 HS HB3

      go_wp2
      go_ret
      exact ⟨rfl, HB4.out⟩
    · have hm3 : decide (n ≤ (8160 : Int)) = false := by simpa using hm2
      have hm4 : ¬ n < 0 := by omega
      have hm4' : decide (n < 0) = false := by simpa using hm4
      have hm5 : decide ((8160 : Int) < n) = true := by simp; omega
      have hm6 : (8160 : Int) < n := by omega
      go_enter Tryd.func3, Tryd.ntmps3
      go_wp2_with fail
      refine (alive5_any _ HG.out).mono ?_
      rintro e w1 ⟨rfl, hb1⟩
      have HX1 := hid (Extract_any A0 salt c0 A key c w1 ((HA0.out.below hb1).more hb1.size) ((HA.out.below hb1).more hb1.size) (HG.out.below hb1 (Nat.le_refl _)) (by omega) (by omega))
      have HB1 := hid hb1
      clear hb1
      go_wp2_with fail
      refine HX1.out.mono ?_
      rintro e w2 ⟨bt, rfl, hbt, hbz, hb2⟩
      have hB2 : Below w.heap.size w w2 := HB1.out.trans (hb2.mono HB1.out.size)
      have HX2 := hid (ref4_tag A0 salt c0 A key c w2 ((HA0.out.below hB2).more hB2.size) ((HA.out.below hB2).more hB2.size) (by omega) (by omega))
      have HB2 := hid hB2; have HL2 := hid (lie_block hbt)
      clear hb2 hB2 hbt hbz HX1
      go_wp2_with fail
      refine HX2.out.mono ?_
      rintro e w3 ⟨v3, rfl, ho3, hb3⟩
      obtain ⟨A3, c3, rfl, hS3⟩ := own_sl ho3
      rw [macB_length]
      have HS := hid (Same_32 (some ⟨bt, 0, none⟩) (macB salt key) 32 A3 (macB salt key) c3 w3 w3.heap.size w3.heap.size 32 ((HL2.out.below hb3).more hb3.size) hS3.lie (macB_length _ _) (macB_length _ _) (by omega))
      rw [show (macB salt key == macB salt key) = true from beq_self_eq_true _] at HS
      have HB3 := hid (HB2.out.trans (hb3.mono HB2.out.size))
      clear ho3 hb3 hS3 HX2 HL2 HB2
      go_wp2_with fail
      refine HS.out.mono ?_
      rintro e wx ⟨rfl, nx, rfl⟩
      have HB4 := hid (below_drewN HB3.out nx)
      obtain ⟨w4, hw4⟩ : ∃ w4, w4 = w3.drewN nx := ⟨_, rfl⟩
      rw [← hw4] at HB4
      rw [← hw4]
      clear hw4 HS HB3

      go_wp2_with fail
      refine (Expand_bad _ _ n w4 (by unfold canB; rw [hm3, Bool.and_false])).mono ?_
      rintro e w5 ⟨rfl, rfl⟩
      go_wp2
      go_ret
      exact ⟨rfl, HB4.out⟩
  · have hm1 : decide ((100 : Int) < n) = false := by simpa using hm
    by_cases hneg : n < 0
    · have hm4' : decide (n < 0) = true := by simpa using hneg
      go_enter Tryd.func3, Tryd.ntmps3
      go_wp2_with fail
      refine (alive5_any _ HG.out).mono ?_
      rintro e w1 ⟨rfl, hb1⟩
      have HX1 := hid (Extract_any A0 salt c0 A key c w1 ((HA0.out.below hb1).more hb1.size) ((HA.out.below hb1).more hb1.size) (HG.out.below hb1 (Nat.le_refl _)) (by omega) (by omega))
      have HB1 := hid hb1
      clear hb1
      go_wp2_with fail
      refine HX1.out.mono ?_
      rintro e w2 ⟨bt, rfl, hbt, hbz, hb2⟩
      have hB2 : Below w.heap.size w w2 := HB1.out.trans (hb2.mono HB1.out.size)
      have HX2 := hid (ref4_tag A0 salt c0 A key c w2 ((HA0.out.below hB2).more hB2.size) ((HA.out.below hB2).more hB2.size) (by omega) (by omega))
      have HB2 := hid hB2; have HL2 := hid (lie_block hbt)
      clear hb2 hB2 hbt hbz HX1
      go_wp2_with fail
      refine HX2.out.mono ?_
      rintro e w3 ⟨v3, rfl, ho3, hb3⟩
      obtain ⟨A3, c3, rfl, hS3⟩ := own_sl ho3
      rw [macB_length]
      have HS := hid (Same_32 (some ⟨bt, 0, none⟩) (macB salt key) 32 A3 (macB salt key) c3 w3 w3.heap.size w3.heap.size 32 ((HL2.out.below hb3).more hb3.size) hS3.lie (macB_length _ _) (macB_length _ _) (by omega))
      rw [show (macB salt key == macB salt key) = true from beq_self_eq_true _] at HS
      have HB3 := hid (HB2.out.trans (hb3.mono HB2.out.size))
      clear ho3 hb3 hS3 HX2 HL2 HB2
      go_wp2_with fail
      refine HS.out.mono ?_
      rintro e wx ⟨rfl, nx, rfl⟩
      have HB4 := hid (below_drewN HB3.out nx)
      obtain ⟨w4, hw4⟩ : ∃ w4, w4 = w3.drewN nx := ⟨_, rfl⟩
      rw [← hw4] at HB4
      rw [← hw4]
      clear hw4 HS HB3

      go_wp2_with fail
      refine (Expand_bad _ _ n w4 (by unfold canB; rw [show decide (0 ≤ n) = false by simp; omega, Bool.false_and])).mono ?_
      rintro e w5 ⟨rfl, rfl⟩
      go_wp2
      go_ret
      exact ⟨rfl, HB4.out⟩
    · have hm4' : decide (n < 0) = false := by simpa using hneg
      have hm5 : decide ((8160 : Int) < n) = false := by simp; omega
      have hm6 : ¬ (8160 : Int) < n := by omega
      obtain ⟨k, rfl⟩ : ∃ k : Nat, n = (k : Int) := ⟨n.toNat, by omega⟩
      have hk1 : k ≤ 100 := by omega
      go_enter Tryd.func3, Tryd.ntmps3
      go_wp2_with fail
      refine (alive5_any _ HG.out).mono ?_
      rintro e w1 ⟨rfl, hb1⟩
      have HX1 := hid (Extract_any A0 salt c0 A key c w1 ((HA0.out.below hb1).more hb1.size) ((HA.out.below hb1).more hb1.size) (HG.out.below hb1 (Nat.le_refl _)) (by omega) (by omega))
      have HB1 := hid hb1
      clear hb1
      go_wp2_with fail
      refine HX1.out.mono ?_
      rintro e w2 ⟨bt, rfl, hbt, hbz, hb2⟩
      have hB2 : Below w.heap.size w w2 := HB1.out.trans (hb2.mono HB1.out.size)
      have HX2 := hid (ref4_tag A0 salt c0 A key c w2 ((HA0.out.below hB2).more hB2.size) ((HA.out.below hB2).more hB2.size) (by omega) (by omega))
      have HB2 := hid hB2; have HL2 := hid (lie_block hbt)
      clear hb2 hB2 hbt hbz HX1
      go_wp2_with fail
      refine HX2.out.mono ?_
      rintro e w3 ⟨v3, rfl, ho3, hb3⟩
      obtain ⟨A3, c3, rfl, hS3⟩ := own_sl ho3
      rw [macB_length]
      have HS := hid (Same_32 (some ⟨bt, 0, none⟩) (macB salt key) 32 A3 (macB salt key) c3 w3 w3.heap.size w3.heap.size 32 ((HL2.out.below hb3).more hb3.size) hS3.lie (macB_length _ _) (macB_length _ _) (by omega))
      rw [show (macB salt key == macB salt key) = true from beq_self_eq_true _] at HS
      have HB3 := hid (HB2.out.trans (hb3.mono HB2.out.size))
      clear ho3 hb3 hS3 HX2 HL2 HB2
      go_wp2_with fail
      refine HS.out.mono ?_
      rintro e wx ⟨rfl, nx, rfl⟩
      have HB4 := hid (below_drewN HB3.out nx)
      obtain ⟨w4, hw4⟩ : ∃ w4, w4 = w3.drewN nx := ⟨_, rfl⟩
      rw [← hw4] at HB4
      rw [← hw4]
      clear hw4 HS HB3

      have HX4 := hid (Expand_ok A key c A' info c' k w4 ((HA.out.below HB4.out).more HB4.out.size) ((HA'.out.below HB4.out).more HB4.out.size) (HG.out.below HB4.out (Nat.le_refl _)) (by omega) (by omega) (by omega))
      go_wp2_with fail
      refine HX4.out.mono ?_
      rintro e w5 ⟨v5, rfl, ho5, hb5⟩
      obtain ⟨A5, c5, rfl, hS5⟩ := own_sl ho5
      rw [kdfB_length]
      have hB5 : Below w.heap.size w w5 := HB4.out.trans (hb5.mono HB4.out.size)
      have HX5 := hid (ref5_expand A key c A' info c' k w5 ((HA.out.below hB5).more hB5.size) ((HA'.out.below hB5).more hB5.size) (by omega) (by omega) (by omega))
      have HB5 := hid hB5; have HL5 := hid hS5.lie
      clear ho5 hb5 hS5 hB5 HX4 HB4
      go_wp2_with fail
      refine HX5.out.mono ?_
      rintro e w6 ⟨A6, c6, rfl, hl6, hb6⟩
      have HS6 := hid (Same_32 A5 (kdfB key info k) c5 A6 (kdfB key info k) c6 w6 w6.heap.size w6.heap.size k ((HL5.out.below hb6).more hb6.size) hl6 (kdfB_length _ _ _) (kdfB_length _ _ _) (by omega))
      rw [show (kdfB key info k == kdfB key info k) = true from beq_self_eq_true _] at HS6
      have HB6 := hid (HB5.out.trans (hb6.mono HB5.out.size))
      clear hl6 hb6 HX5 HL5 HB5
      go_wp2_with fail
      refine HS6.out.mono ?_
      rintro e wx ⟨rfl, nz, rfl⟩
      have HEND := hid (below_drewN HB6.out nz)
      clear HS6 HB6
      go_wp2
      go_ret
      exact ⟨rfl, HEND.out⟩
end Go.Proofs.YtpdkpadpdkagoaaDoor
